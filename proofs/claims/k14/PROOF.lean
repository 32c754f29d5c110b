import PyProof.Rows.All
import Wide.All
import OpenK.AllK
import Wide.FinOn
import Lean
import PyProof.EqAt
import PyProof.EqKinds
import PyProof.TupleCall
import PySem.Challenge.RW_allelse_k14_what_is_reached
set_option Elab.async false
set_option linter.all false
set_option maxRecDepth 100000
set_option maxHeartbeats 4000000
section
local macro_rules | `(tactic| show $e)=>`(tactic|refine $e)
local macro_rules | `(tactic| ext)=>`(tactic|decide)
local macro_rules | `(tactic| right)=>`(tactic|simp_all)
local macro_rules | `(tactic| walk_at "v") => `(tactic| (first | exact Or.inl rfl | exact Or.inr (Or.inl rfl) | exact Or.inr (Or.inr rfl)))
local macro_rules | `(tactic| walk_at "l") => `(tactic| (first | exact Or.inl rfl | exact Or.inr rfl | assumption))
local macro_rules | `(tactic| walk_at "f") => `(tactic| (exact ⟨rfl, rfl, rfl, by decide +kernel, rfl, by decide +kernel, by decide +kernel⟩))
local macro_rules | `(tactic| walk_at "c") => `(tactic| (exact ⟨rfl, by decide +kernel, rfl⟩))
open PySem PySem.Spec
abbrev AA:=Value->Shared->Prop
abbrev AB:=List (Addr×Obj)
abbrev AE:=List (List Int×Addr)
abbrev AF:=List (List Int)
abbrev AG:=List Int
abbrev AH:=PySem.W.Frag
abbrev AI:=Str->Option Value
abbrev AJ:=Option Value
abbrev AK:=Array Value
abbrev AL:=Addr->Prop
abbrev AM:=List Str
abbrev AN:=List Value
abbrev AO:=List Expr
abbrev AQ:=Option Int
abbrev AR:=List Nat
abbrev AY:=List Addr
abbrev AZ:=Shared
abbrev Aa:=Program
abbrev Ab:=World
abbrev Ac:=FuncData
abbrev Ae:=Around
abbrev Ag(p:Program)(w:World)(A:Around){α:Type}:=@wpAny α (model p w) A
abbrev Ah(x:Str):Prop:=(x==("__debug__":Str))=false
abbrev Ai:Str:="self"
abbrev Aj:Str:="room"
abbrev Ak:Str:="book"
abbrev Am:Str:="held"
abbrev An:Str:="standing"
abbrev Ao:Str:="_law_pen_here"
abbrev Ap:Str:="_law_room_here"
abbrev Aq:Str:="_law_most"
abbrev Ar:Str:="_law_way"
abbrev As:Str:="_law_book_here"
abbrev At:Str:="_law_standing_here"
abbrev Au:Str:="_law_held_here"
abbrev Av:Str:="_law_one"
abbrev Aw:Str:="_law_box"
abbrev Ax:Str:="_law_at"
abbrev Ay:Str:="_law_worth"
abbrev Az:Str:="_law_k"
abbrev A1:Str:="_law_given_here"
abbrev A5:Str:="_law_some"
abbrev A6:Str:="_law_other"
abbrev A7:Str:="_law_found"
abbrev A8:Str:="_law_worths"
namespace L2
open PyProof.Rows
abbrev aa:=@wpAny_bind
abbrev ab:=@List.length_map
abbrev ae:=@wpAny_pure
abbrev af:=@Heap.get?_push_of_some
abbrev ah:=@List.getElem?_eq_some_iff
abbrev ai:=@Nat.le_refl
abbrev aj:=@List.mem_cons_self
abbrev ak:=@List.length_append
abbrev am:=@List.mem_cons_of_mem
abbrev ao:=@List.mem_singleton
abbrev aq:=@Heap.get?_push_size
abbrev ar:=@Heap.lt_size
abbrev au:=@List.mem_append
abbrev av:=@Bool.false_ne_true
abbrev aw:=@List.getElem?_eq_getElem
abbrev ax:=@List.getElem?_set_ne
abbrev ay:=@List.mem_cons
abbrev az:=@List.append_assoc
abbrev aA:=@Nat.le_trans
abbrev aB:=@List.length_range
abbrev aC:=@List.map_cons
abbrev aD:=@List.map_append
abbrev aE:=@List.mem_append_right
abbrev aF:=@List.mem_map
abbrev aG:=@List.mem_of_getElem?
abbrev aH:=@Array.length_toList
abbrev aI:=@Option.map_eq_some_iff
abbrev aJ:=@List.map_map
abbrev aK:=@Nat.zero_le
abbrev aL:=@List.getElem?_map
abbrev aM:=@List.length_cons
abbrev aN:=@List.mem_range
abbrev aO:=@Int.toNat_natCast
abbrev aP:=@Array.getElem?_eq_getElem
abbrev aQ:=@List.mem_append_left
abbrev aR:=@List.getElem?_set_self
abbrev aS:=@Nat.ne_of_lt
abbrev aT:=@Bool.false_eq_true
abbrev aU:=@List.size_toArray
abbrev aV:=@List.take_append_drop
abbrev aW:=@wpAny_call_entry
abbrev aX:=@Nat.lt_of_le_of_lt
abbrev aY:=@Nat.lt_of_lt_of_le
abbrev aZ:=@decide_eq_false
abbrev a6:=@List.pairwise_cons
abbrev a8:=@List.eq_nil_of_length_eq_zero
abbrev a9:=@decide_eq_true
abbrev bf:=@PySem.boot_len
abbrev bg:=@List.length_take
abbrev bh:=@Array.toList_append
abbrev bi:=@List.getElem?_append_right
abbrev bj:=@List.getD_eq_getElem?_getD
abbrev bm:=@List.pairwise_append
abbrev bn:=@PassesOwn.never
abbrev bp:=@List.dropLast_concat_getLast
abbrev bq:=@PyProof.Rows.boot_tuple
abbrev br:=@Heap.SameBut.update
abbrev bt:=@List.take_of_length_le
abbrev bu:=@wpAny_newObj_type
abbrev bv:=@Heap.get?_update_self
abbrev bw:=@List.getElem?_append_left
abbrev bz:=@List.pairwise_iff_getElem
abbrev bB:=@List.mem_of_mem_take
abbrev bC:=@Bool.and_eq_true
abbrev bD:=@of_decide_eq_true
abbrev bE:=@wpAny_mono
abbrev bF:=@List.not_mem_nil
abbrev bG:=@List.take_length
abbrev bH:=@wpAny_setState_of
abbrev bI:=@Heap.get?_update_other
abbrev bJ:=@wpAny_holding
abbrev bK:=@List.map_congr_left
abbrev bL:=@wpS_forRange
abbrev bM:=@List.length_set
abbrev bN:=@wpAny_setField
abbrev bO:=@List.getElem_mem
abbrev bP:=@decide_eq_false_iff_not
abbrev bQ:=@Array.toList_push
abbrev bR:=@Array.mem_toList_iff
abbrev bS:=@List.mem_iff_getElem
abbrev bT:=@PySem.W.kia_one
abbrev bU:=@Classical.byContradiction
abbrev bV:=@wpAny_askSetting
abbrev bW:=@List.getElem?_take_of_lt
abbrev bX:=@List.reverse_cons
abbrev bY:=@Array.getElem?_toList
abbrev bZ:=@List.pairwise_map
abbrev b5:=@PySem.F.slot_dict_keyiterator_next
abbrev b6:=@sizeLine_eq
abbrev b7:=@wpAny_field
abbrev b8:=@Obj.data_mapFields
abbrev b9:=@List.getElem_map
abbrev cb:=@eq_of_beq
abbrev ce:=@List.filterMap_cons
abbrev cg:=@List.take_sublist
abbrev cj:=@decide_eq_true_eq
abbrev ck:=@List.drop_eq_getElem_cons
abbrev cm:=@List.mem_filter
abbrev cq:=@List.find?_cons
abbrev cr:=@Int.emod_lt_of_pos
abbrev cw:=@PyProof.Rows.boot_sorted
abbrev cx:=@beq_self_eq_true
abbrev cy:=@List.mem_reverse
abbrev cz:=@wpAny_typeNameOfWhole_keyiter
abbrev cA:=@List.mem_of_mem_drop
abbrev cB:=@Nat.lt_irrefl
abbrev cC:=@PySem.F.plainAttrs_list
abbrev cD:=@Nat.le_of_lt
abbrev cE:=@wpAny_seqItems
abbrev cF:=@Nat.lt_trichotomy
abbrev cG:=@Option.some.inj
abbrev cH:=@PyProof.Rows.callWith_type1
abbrev cI:=@List.append_nil
abbrev cJ:=@F.slot_zip_next
abbrev cK:=@PyProof.Rows.boot_list
abbrev cL:=@F.slot_tuple_iterator_next
abbrev cN:=@Array.getElem?_eq_some_iff
abbrev cO:=@List.length_singleton
abbrev cP:=@wpAny_attempt
abbrev cQ:=@List.getElem_range
abbrev cR:=@Heap.size_push
abbrev cS:=@wpAny_rule
abbrev cT:=@wpAny_passesOwn
abbrev cU:=@List.nodup_cons
abbrev cV:=@Int.emod_nonneg
abbrev cW:=@Nat.lt_succ_of_lt
abbrev cY:=@Nat.not_lt_zero
abbrev cZ:=@Nat.le_of_lt_succ
abbrev c7:=@wpAny_standAt
abbrev c8:=@PySem.mem_of_lookup
abbrev c9:=@List.any_cons
abbrev da:=@Int.le_refl
abbrev db:=@List.getElem?_cons_succ
abbrev de:=@List.getElem_inj
abbrev dg:=@wpAny_isInstance
abbrev dh:=@List.take_append_of_le_length
abbrev di:=@List.mem_filterMap
abbrev dj:=@Bool.eq_iff_iff
abbrev dl:=@Obj.isFreed_of_fields
abbrev dn:=@Array.getElem_mem
abbrev dq:=@wpS_modify
abbrev du:=@List.reverse_perm
abbrev dw:=@List.nodup_append
abbrev dz:=@Nat.pow_le_pow_right
abbrev dB:=@Array.getElem_toList
abbrev dC:=@PySem.F.args_dict_keyiterator_next_1
abbrev dD:=@List.all_eq_true
abbrev dE:=@Nat.succ_le_succ
abbrev dF:=@List.nodup_range
abbrev dG:=@List.ext_getElem
abbrev dH:=@Heap.get?_update_ne
abbrev dJ:=@PySem.F.entry_dict_keyiterator_next
abbrev dL:=@PySem.F.args_tuple_add_2
abbrev dM:=@wpAny_typeOf
abbrev dN:=@wpAny_Call_Name_kw
abbrev dO:=@PySem.F.entry_tuple_add
abbrev dP:=@List.all_cons
abbrev dQ:=@List.forIn_cons
abbrev dR:=@List.pairwise_singleton
abbrev dS:=@Nat.min_eq_left
abbrev dU:=@Int.natCast_mul
abbrev dW:=@Option.bind_eq_some_iff
abbrev dX:=@PySem.F.slot_tuple_add
abbrev dY:=@Obj.cls_mapFields
abbrev dZ:=@Bool.not_eq_true'
abbrev ee:=@List.drop_sublist
abbrev ef:=@Heap.get?_push_ne
abbrev eh:=@F.args_zip_next_1
abbrev ek:=@List.drop_zero
abbrev em:=@List.drop_drop
abbrev en:=@List.Perm.refl
abbrev et:=@isSubtype_stop
abbrev eu:=@Nat.ne_of_gt
abbrev ez:=@List.map_nil
abbrev eA:=@List.Perm.append_left
abbrev eC:=@List.pairwise_reverse
abbrev eD:=@List.eq_nil_or_concat
abbrev eE:=@PyProof.Rows.boot_abs
abbrev eF:=@Nat.lt_succ_self
abbrev eG:=@List.length_drop
abbrev eI:=@Array.toList_inj
abbrev eJ:=@F.entry_zip_next
abbrev eK:=@wpAny_pyIter_zip
abbrev eL:=@Heap.get?_none_of_le
abbrev eM:=@List.drop_eq_nil_iff
abbrev eO:=@F.args_tuple_iterator_next_1
abbrev eP:=@Bool.and_true
abbrev eQ:=@wpAny_execs_nil
abbrev eR:=@PySem.W.plainGet_of
abbrev eS:=@List.of_mem_zip
abbrev eU:=@F.entry_tuple_iterator_next
abbrev eV:=@List.take_left'
abbrev eW:=@entry_list_sort
abbrev eX:=@wpAny_setEntries_of
abbrev eY:=@Int.toNat_of_nonneg
abbrev eZ:=@List.map_eq_nil_iff
abbrev ff:=@assignInOrder_cons
abbrev fg:=@wpAny_pyIter_tuple
abbrev fj:=@PySem.W.callWith_K
abbrev fm:=@tupleKind_room_in1
abbrev fq:=@List.filterMap_map
abbrev fw:=@List.getElem?_drop
abbrev fB:=@Bool.not_eq_false'
abbrev fD:=@Array.append_empty
abbrev fE:=@Nat.succ_pos
abbrev fF:=@slot_list_sort
abbrev fG:=@args_list_sort
abbrev fH:=@wpAny_fieldsOf
abbrev fJ:=@wpAny_truthy_bool
abbrev fK:=@Option.isSome_map
abbrev fL:=@List.ext_getElem?
abbrev fM:=@List.getElem_take
abbrev fN:=@bne_self_eq_false
abbrev fO:=@Nat.mod_lt
abbrev fP:=@Nat.lt_succ_of_le
abbrev fQ:=@wpAny_pyIter_slot
abbrev fR:=@wpAny_dictEntries
abbrev fS:=@List.Pairwise.imp
abbrev fT:=@Paired.length
abbrev fU:=@wpAny_handled
abbrev fV:=@listUpdate_at
abbrev fW:=@wpAny_newList
abbrev fX:=@Int.lt_irrefl
abbrev fY:=@Bool.not_true
abbrev fZ:=@noFill_tuple_add
abbrev gb:=@Nat.div_eq_of_lt
abbrev gc:=@Array.toList_map
abbrev gd:=@wpAny_forIn_list
abbrev ge:=@codeAny_mono
abbrev gf:=@Nat.succ_mul
abbrev gg:=@Nat.add_zero
abbrev gh:=@Nat.zero_add
abbrev gk:=@call_meets
abbrev Key:=Sum Int Str
def zfz:Key->Value->Bool
 | .inl k,v=>Value.isInt k v
 | .inr x,v=>Value.isStrOf x v
def keyH (w:Ab):Key->Int
 | .inl k=>hashInt k
 | .inr x=>hashStr w x
def zP:∀ {k:Key} {v:Value},zfz k v=true->(∃i t,k=Sum.inl i/\v=Value.int i t)\/(∃x t,k=Sum.inr x/\v=Value.str x t)
 | .inl i,v,h=>by obtain⟨t,e⟩:=Value.isInt_shape (k:=i) (v:=v) h;exact .inl ⟨i,t,rfl,e⟩
 | .inr x,v,h=>by obtain⟨t,e⟩:=Value.isStrOf_shape (x:=x) (v:=v) h;exact .inr ⟨x,t,rfl,e⟩
def zeB (i:Int)(t:Tok):zfz (.inl i) (.int i t)=true:=by simp[zfz,Value.isInt]
def ziX (x:Str)(t:Tok):zfz (.inr x) (.str x t)=true:=by simp[zfz,Value.isStrOf]
def zqw (a b:Int):decide ((Sum.inl a:Key)=Sum.inl b)=(a==b):=by grind
def zqz (a b:Str):decide ((Sum.inr a:Key)=Sum.inr b)=decide (a=b):=by grind
def zqx (a:Int)(b:Str):decide ((Sum.inl a:Key)=Sum.inr b)=false:=rfl
def zqy (a:Str)(b:Int):decide ((Sum.inr a:Key)=Sum.inl b)=false:=rfl
def zQ (prog:Aa)(w:Ab):PySem.KeyKind prog w Key where
 is:=zfz
 hash:=keyH w
 inj:=λv a b I F=>by
  rcases zP I with ⟨i,t,rfl,rfl⟩ | ⟨x,t,rfl,rfl⟩;rcases zP F with ⟨j,u,rfl,e⟩ | ⟨y,u,rfl,e⟩;injection e with q _;rw[q];exact nomatch e;rcases zP F with ⟨j,u,rfl,e⟩ | ⟨y,u,rfl,e⟩;exact nomatch e;injection e with q _;rw[q]
 byValue:=λk v h=>by rcases zP h with ⟨i,t,rfl,rfl⟩ | ⟨x,t,rfl,rfl⟩ <;> rfl
 pyHash:=λB h=>by
  rcases zP B with ⟨i,t,rfl,rfl⟩ | ⟨x,t,rfl,rfl⟩;exact wpAny_pyHash_int h;exact wpAny_pyHash_str h
 eqBool:=λJ B h=>by
  rcases zP J with ⟨i,t,rfl,rfl⟩ | ⟨x,t,rfl,rfl⟩;rcases zP B with ⟨j,u,rfl,rfl⟩ | ⟨y,u,rfl,rfl⟩;rw[zqw] at h;exact wpAny_eqBool_int h;rw[zqx] at h;exact SeqAt.EqAt.int_str i t y u _ _ _ _ h;rcases zP B with ⟨j,u,rfl,rfl⟩ | ⟨y,u,rfl,rfl⟩;rw[zqy] at h;exact SeqAt.EqAt.str_int x t j u _ _ _ _ h;rw[zqz] at h;exact wpAny_eqBool_str h
 «strs»:=λk x t v h=>by
  rcases zP h with ⟨i,u,rfl,e⟩ | ⟨y,u,rfl,e⟩;exact nomatch e
  ·injection e with q _;subst q;cases v <;> rfl
def zfC (prog:Aa)(w:Ab)(i:Int)(t:Tok):(zQ prog w).is (.inl i) (.int i t)=true:=zeB i t
def zfD (prog:Aa)(w:Ab)(x:Str)(t:Tok):(zQ prog w).is (.inr x) (.str x t)=true:=ziX x t
inductive V where
 | non | bl (b:Bool) | int (i:Int) | str (x:Str) | byt (b:Array UInt8) | flt (b:UInt64) | ref (a:Addr) | ty (n:String)
 deriving DecidableEq
abbrev AT:=List V
def yc:V->Value->Prop
 | .non,u=>u=Value.none
 | .bl b,u=>u=Value.bool b
 | .int i,u=>∃t,u=Value.int i t
 | .str x,u=>∃t,u=Value.str x t
 | .byt b,u=>∃t,u=Value.bytes b t
 | .flt b,u=>∃t,u=Value.float b t
 | .ref a,u=>u=Value.ref a
 | .ty n,u=>u=Value.type n
abbrev zM:AT->AN->Prop:=Paired yc
def zM.length(r:zM xs us):xs.length=us.length:=fT r
def zM.get:∀ {xs:AT} {us:AN} {i:Nat} {x:V},zM xs us->xs[i]?=some x->∃u,us[i]?=some u/\yc x u
 | _,_,_,_,.nil,e=>by simp at e
 | _,_,0,_,.cons r _,e=>by right
 | _,_,i+1,x,.cons _ t,e=>by
  obtain⟨u,h1,h2⟩:=zM.get (i:=i) (x:=x) t (by simpa using e);right
def zM.set(r:yc x u):∀ {xs:AT} {us:AN} (i:Nat),zM xs us->zM (xs.set i x) (us.set i u)
 | _,_,_,.nil=>.nil
 | _,_,0,.cons _ t=>.cons r t
 | _,_,i+1,.cons q t=>.cons q (zM.set r i t)
def zM.append:∀ {xs ys:AT} {us q:AN},zM xs us->zM ys q->zM (xs++ys) (us++q)
 | _,_,_,_,.nil,s=>s
 | _,_,_,_,.cons r t,s=>.cons r (zM.append t s)
def zM.take:∀ {xs:AT} {us:AN} (n:Nat),zM xs us->zM (xs.take n) (us.take n)
 | _,_,0,_=>.nil
 | _,_,_+1,.nil=>.nil
 | _,_,n+1,.cons r t=>.cons r (zM.take n t)
def zM.drop:∀ {xs:AT} {us:AN} (n:Nat),zM xs us->zM (xs.drop n) (us.drop n)
 | _,_,0,r=>r
 | _,_,_+1,.nil=>.nil
 | _,_,n+1,.cons _ t=>zM.drop n t
def ze8:Option V->AJ->Prop
 | some v,some u=>yc v u
 | none,none=>True
 | _,_=>False
def KV {κ:Type}:List (κ×V)->List (κ×Value)->Prop:=Paired λ(p:κ×V) (q:κ×Value)=>p.1=q.1/\yc p.2 q.2
def kV:Key->V
 | .inl i=>.int i
 | .inr x=>.str x
inductive HO where
  | lst (xs:AT)
  | tup (xs:AT)
  | dK (kvs:List (Key×V)) | dT (kvs:List (List Key×V))
  | set (S:Int->Bool) (n:Nat)
  | ins (C dx:Addr) (fs:List (Str×V))
  | own (x:Addr)
  | xd (fs:List (Str×V))
  | met (f x:Addr)
  | rng (lo hi:Int)
  | frz (o:Obj) (u:HO)
  | tbl (ps:AK)
  | ext (φ:Heap->Prop)
abbrev Hp:=Addr->Option HO
def upd (H:Hp)(a:Addr)(o:HO):Hp:=λb=>if b=a then some o else H b
def zg:upd H a o a=some o:=by unfold upd;rw[if_pos rfl]
def ze(h:b≠a):upd H a o b=H b:=by unfold upd;rw[if_neg h]
def zd1:upd (upd H a o) a u=upd H a u:=by funext b;unfold upd;split <;> rfl
def zls {H:Hp}{a b:Addr}{o u:HO}(h:H a=some o)(h':H b=some u)(d:o≠u):a≠b:=by grind
def zb {H:Hp}{a b:Addr}{o:HO}(h:H a=some o)(h':H b=none):a≠b:=by grind
def uV (h:Heap)(a:Addr)(items:AK):Prop:=∃o,h.get? a=some o/\o.cls = .type "tuple" /\ (∃n,o.data = .seq items n)/\o.dict=none
def uV.tup(x:uV h a items):IsTup h a items:=let ⟨o,h1,h2,h3,_⟩:=x;⟨o,h1,h2,h3⟩
def uV.lt(x:uV h a items):a<h.objs.size:=x.tup.lt
def uV.new (h:Heap)(items:AK):uV (h.push { cls:=.type "tuple",data:=.seq items }) h.objs.size items:=⟨_,aq _ rfl,rfl,⟨_,rfl⟩,rfl⟩
section
variable (P:Aa)(w:Ab)
def ya (H:Hp)(h:Heap)(a:Addr):HO->Prop
 | .lst xs=>xs.length<=sizeLine/\∃ (B:AN) (n:Nat),zM xs B/\h.get? a=some { cls:=.type "list",data:=.seq B.toArray n }
 | .tup xs=>xs.length<=sizeLine/\∃B:AN,zM xs B/\uV h a B.toArray
 | .dK kvs=>kvs.length<=sizeLine/\(a==sysModules)=false/\∃vs,KV kvs vs/\h.DictOf (zQ P w) a vs
 | .dT kvs=>kvs.length<=sizeLine/\(a==sysModules)=false/\∃xs:List (List Key×Addr×Value),
   Paired (λ(p:List Key×V) (q:List Key×Addr×Value)=>p.1=q.1/\H q.2.1=some (.tup (p.1.map kV))/\yc p.2 q.2.2) kvs xs/\
   ∃o es I,h.get? a=some o/\o.ExactDict/\o.data = .dict es I/\es.toList=xs.map (entryOfKey (tupleKind (zQ P w)))/\(xs.map (·.1)).Nodup
 | .set S n=>h.SetOf (intKind P w) a S n
 | .ins C dx fs=>H dx=some (.own a)/\fs.length<=1000/\dx≠a/\h.get? a=some (PySem.W.instObj C dx)/\
   ∃mA,h.Ns1 dx mA/\(∀f,ze8 (fs.lookup f) (mA f))/\PySem.Within mA (fs.map (·.1))
 | .own _=>∃o,h.get? a=some o
 | .xd fs=>∃mA,h.Ns1 a mA/\∀f,ze8 (fs.lookup f) (mA f)
 | .rng lo hi=>∃t u v,h.get? a=some { cls:=.type "range",data:=.fields #[.int lo t,.int hi u,.int 1 v] }
 | .frz o u=>h.get? a=some o/\ya H h a u
 | .tbl ps=>h.get? a=some { cls:=.none,data:=.fields ps }
 | .met f x=>h.get? a=some (PySem.W.methodObj (.ref f) (.ref x))
 | .ext F=>F h/\(∃o,h.get? a=some o)/\∀h1 h2:Heap,F h1->(∀o,h1.get? a=some o->h2.get? a=some o)->F h2
def HOk (H:Hp)(h:Heap):Prop:=∀a o,H a=some o->ya P w H h a o
end
section
variable {P:Aa}{w:Ab}{H H':Hp}{h h':Heap}{a:Addr}{o:HO}
def ya.lt (x:ya P w H h a o):a<h.objs.size:=by
 cases o with
 | lst xs=>obtain⟨_,_,_,_,e⟩:=x;exact ar e
 | tup xs=>obtain⟨_,_,_,p⟩:=x;exact p.lt
 | dK kvs=>obtain⟨_,_,_,_,o,_,_,e,_⟩:=x;exact ar e
 | dT kvs=>obtain⟨_,_,_,_,o,_,_,e,_⟩:=x;exact ar e
 | set S n=>obtain⟨o,_,_,_,e,_⟩:=x;exact ar e
 | ins C dx fs=>obtain⟨_,_,_,e,_⟩:=x;exact ar e
 | own y=>obtain⟨_,e⟩:=x;exact ar e
 | xd fs=>obtain⟨_,⟨_,_,_,e,_⟩,_⟩:=x;exact ar e
 | rng lo hi=>obtain⟨_,_,_,e⟩:=x;exact ar e
 | frz ob u=>obtain⟨e,_⟩:=x;exact ar e
 | tbl ps=>exact ar (show h.get? a=some _ from x)
 | met f y=>exact ar (show h.get? a=some _ from x)
 | ext q=>obtain⟨_,⟨_,e⟩,_⟩:=x;exact ar e
def Paired.mapP {α B:Type}{F G:α->B->Prop}:∀ {l₁:List α} {q:List B},Paired F l₁ q->(∀a b,F a b->G a b)->Paired G l₁ q
 | _,_,.nil,_=>.nil
 | _,_,.cons r t,f=>.cons (f _ _ r) (Paired.mapP t f)
def Paired.imp' {α B:Type}{F G:α->B->Prop}(f:∀a b,F a b->G a b){l₁:List α}{q:List B}(r:Paired F l₁ q):Paired G l₁ q:=Paired.mapP r f
def ya.stay (x:ya P w H h a o)(k:∀b u,(b=a\/H b=some (.own a))->h.get? b=some u->h'.get? b=some u)
  (J:∀b,H b=some (.own a)->H' b=some (.own a)) (O:∀b xs,H b=some (.tup xs)->H' b=some (.tup xs)):ya P w H' h' a o:=by
 induction o with
 | lst xs=>obtain⟨z,F,n,r,e⟩:=x;exact⟨z,F,n,r,k _ _ (.inl rfl) e⟩
 | tup xs=>obtain⟨z,F,r,ob,e,c⟩:=x;exact⟨z,F,r,ob,k _ _ (.inl rfl) e,c⟩
 | dK kvs=>obtain⟨z,y,vs,r,ob,es,B,e,c⟩:=x;exact⟨z,y,vs,r,ob,es,B,k _ _ (.inl rfl) e,c⟩
 | dT kvs=>
  obtain⟨z,y,xs,r,ob,es,B,e,c⟩:=x;exact⟨z,y,xs,Paired.mapP r λp q z=>⟨z.1,O _ _ z.2.1,z.2.2⟩,ob,es,B,k _ _ (.inl rfl) e,c⟩
 | set S n=>obtain⟨ob,es,B,t,e,c⟩:=x;exact⟨ob,es,B,t,k _ _ (.inl rfl) e,c⟩
 | ins C dx fs=>
  obtain⟨d,z,U,e,mA,⟨I,es,B,Y,c⟩,r⟩:=x;exact⟨J _ d,z,U,k _ _ (.inl rfl) e,mA,⟨I,es,B,k _ _ (.inr d) Y,c⟩,r⟩
 | own y=>obtain⟨ob,e⟩:=x;exact⟨ob,k _ _ (.inl rfl) e⟩
 | xd fs=>obtain⟨mA,⟨I,es,B,e,c⟩,r⟩:=x;exact⟨mA,⟨I,es,B,k _ _ (.inl rfl) e,c⟩,r⟩
 | rng lo hi=>obtain⟨t,u,v,e⟩:=x;exact⟨t,u,v,k _ _ (.inl rfl) e⟩
 | frz ob u Z=>obtain⟨e,q⟩:=x;exact⟨k _ _ (.inl rfl) e,Z q⟩
 | tbl ps=>
  have e:h.get? a=some { cls:=.none,data:=.fields ps }:=x;change h'.get? a=some { cls:=.none,data:=.fields ps };exact k a _ (.inl rfl) e
 | met f y=>
  have e:h.get? a=some (PySem.W.methodObj (.ref f) (.ref y)):=x;change h'.get? a=some (PySem.W.methodObj (.ref f) (.ref y));exact k a _ (.inl rfl) e
 | ext φ=>obtain⟨p,⟨o,e⟩,st⟩:=x;exact⟨st _ _ p λo q=>k _ _ (.inl rfl) q,⟨o,k _ _ (.inl rfl) e⟩,st⟩
def HOk.lt (x:HOk P w H h)(e:H a=some o):a<h.objs.size:=(x a o e).lt
def HOk.fresh (x:HOk P w H h)(e:h.objs.size<=a):H a=none:=by
 cases q:H a with
 | none=>rfl
 | some u=>exact absurd (aY (x.lt q) e) (cB _)
def HOk.kept (x:HOk P w H h)(k:∀b u,h.get? b=some u->h'.get? b=some u):HOk P w H h':=λa o e=>
 (x a o e).stay (λb u _ q=>k b u q) (λ_ q=>q) λ_ _ q=>q
def HOk.laid (x:HOk P w H h)(k:∀b u,h.get? b=some u->h'.get? b=some u)(I:h.objs.size<=a)(B:ya P w (upd H a o) h' a o):HOk P w (upd H a o) h':=λb u e=>by
 have hn:=x.fresh I;by_cases F:b=a;subst F;rw[zg] at e;cases e;exact B;rw[ze F] at e;exact (x b u e).stay (λc v _ q=>k c v q) (λc q=>by rw[ze (zb q hn)];exact q) λc xs q=>by rw[ze (zb q hn)];exact q
end
def Rd (H:Hp)(a:Addr)(u:HO):Prop:=H a=some u\/∃o,H a=some (.frz o u)
def Rd.ok(r:Rd H a u)(x:HOk P w H h):ya P w H h a u:=by
 rcases r with r | ⟨o,r⟩;exact x a u r;obtain⟨_,q⟩:=x a _ r;exact q
def Mut:Option HO->Prop
 | some (.lst _)=>True
 | some (.dK _)=>True
 | some (.dT _)=>True
 | some (.set _ _)=>True
 | some (.ins _ _ _)=>True
 | some (.ext _)=>True
 | _=>False
section
variable {P:Aa}{w:Ab}{H:Hp}{h h':Heap}{x e:Addr}{o':HO}
def HOk.write (ok:HOk P w H h)(I:Mut (H x))(he:e=x\/H e=some (.own x))(k:∀b u,b≠e->h.get? b=some u->h'.get? b=some u)(J:∃u,h'.get? e=some u)
  (O:ya P w (upd H x o') h' x o'):HOk P w (upd H x o') h':=λb u q=>by
 have B:∀c y,H c=some (.own y)->c≠x:=λc y r z=>by subst z;rw[r] at I;exact I
 have F:∀c xs,H c=some (.tup xs)->c≠x:=λc xs r z=>by subst z;rw[r] at I;exact I
 by_cases Y:b=x;subst Y;rw[zg] at q;cases q;exact O;rw[ze Y] at q;by_cases U:b=e
 have Z:H b=some (.own x):=by
  grind
 rw[q] at Z;cases Z;obtain⟨v,hv⟩:=J;exact⟨v,by rw[U];exact hv⟩;show (ok b u q).stay (λc v hc r=>k c v ?_ r) (λc r=>by rw[ze (B c b r)];exact r) λc xs r=>by rw[ze (F c xs r)];exact r
 grind
end
structure Un (fs ex:AY)(H H':Hp)(h h':Heap):Prop where
 keep:∀b o,h.get? b=some o->H b=none->b∉fs->b∉ex->h'.get? b=some o
 slot:∀b o,h.get? b=some o->H b=none->b∈fs->b∉ex->∃sl,h'.get? b=some { o with slots:=sl }
 free:∀b o,h.get? b=some o->H b=none->b∉ex->H' b=none
 there:∀b o,h.get? b=some o->b∉ex->∃o',h'.get? b=some o'
 tups:∀b xs,H b=some (.tup xs)->H' b=some (.tup xs)
 frzs:∀b o u,H b=some (.frz o u)->H' b=some (.frz o u)
 tbls:∀b ps,H b=some (.tbl ps)->∃more,H' b=some (.tbl (ps++more))
section
variable {fs fs' ex ex':AY}{H H1 H2:Hp}{h h1 h2 h':Heap}{a x e:Addr}{o:HO}
def Un.any(u:Un fs ex H H1 h h1)(q:h.get? b=some ob)(n:H b=none)(B:b∉ex):∃I,h1.get? b=some { ob with slots:=I }:=by
 by_cases F:b∈fs;exact u.slot b ob q n F B;exact⟨ob.slots,u.keep b ob q n F B⟩
def Un.kept (k:∀b u,h.get? b=some u->h'.get? b=some u):Un fs ex H H h h':=
 ⟨λb ob q _ _ _=>k b ob q,λb ob q _ _ _=>⟨ob.slots,k b ob q⟩,λ_ _ _ n _=>n,λb ob q _=>⟨ob,k b ob q⟩,λ_ _ q=>q,λ_ _ _ q=>q,λ_ ps q=>⟨#[],by rw[q];simp⟩⟩
def Un.refl:Un fs ex H H h h:=Un.kept λ_ _ q=>q
def Un.laid (k:∀b u,h.get? b=some u->h'.get? b=some u)(B:h.objs.size<=a)(hn:H a=none):Un fs ex H (upd H a o) h h' where
 keep:=λb u q _ _ _=>k b u q
 slot:=λb u q _ _ _=>⟨u.slots,k b u q⟩
 free:=λb u q n _=>by rw[ze (aS (aY (ar q) B))];exact n
 there:=λb u q _=>⟨u,k b u q⟩
 tups:=λb xs q=>by rw[ze (zb q hn)];exact q
 frzs:=λb u xs q=>by rw[ze (zb q hn)];exact q
 tbls:=λb ps q=>⟨#[],by rw[ze (zb q hn),q];simp⟩
def Un.write (B:Mut (H x))(U:e=x\/H e=some (.own x))(k:∀b u,b≠e->h.get? b=some u->h'.get? b=some u)(J:∃u,h'.get? e=some u):Un fs ex H (upd H x o) h h':=by
 have O:∀b,H b=none->b≠x:=λb n z=>by subst z;rw[n] at B;exact B
 have I:∀b,H b=none->b≠e:=λb n z=>by grind
 have F:∀b u,H b=some u->¬ Mut (some u)->b≠x:=λb u q nm z=>by subst z;rw[q] at B;exact nm B
 show⟨λb u q n _ _=>k b u (I b n) q,λb u q n _ _=>⟨u.slots,k b u (I b n) q⟩,λb u q n _=>by rw[ze (O b n)];exact n,λb u q _=>?_,
  λb xs q=>by rw[ze (F b _ q λz=>z)];exact q,λb u xs q=>by rw[ze (F b _ q λz=>z)];exact q,λb ps q=>⟨#[],by rw[ze (F b _ q λz=>z),q];simp⟩⟩
 grind
end
def trk (h:Heap)(H:Hp):AY:=(List.range h.objs.size).filter λa=>(H a).isSome
def zk5 (h:Heap)(H:Hp):Heap:=PySem.W.hideAll h (trk h H)
def ziF (h:Heap)(H:Hp):(zk5 h H).objs.size=h.objs.size:=PySem.W.hideAll_size _ _
def zk6(e:h.get? b=some o)(n:H b=none):(zk5 h H).get? b=some o:=
 PySem.W.hideAll_get _ e λB=>by
  have q:(H b).isSome=true:=(cm.mp B).2;right
def zob(e:(zk5 h H).get? b=some o):h.get? b=some o/\H b=none:=by
 have B:h.get? b=some o:=PySem.W.of_hideAll (trk h H) e;show⟨B,?_⟩
 cases q:H b with
 | none=>rfl
 | some x=>
  have F:b∈trk h H:=cm.mpr ⟨aN.mpr (ar B),by simp[q]⟩;have z:(zk5 h H).get? b=none:=PySem.W.hideAll_none (trk h H) F;grind
def znb (g h:Heap)(L:Addr):AB:=(List.range h.objs.size).filterMap λa=>if a=L\/(g.get? a).isSome=true then none else (h.get? a).map λo=>(a,o)
def zC (g h:Heap)(L d:Addr):AB:=(znb g h L).filter λp=>decide (p.1≠d)
structure Mod (K:AH)(mg:AI)(base:Heap):Prop where
 kin:K.In base
 glob:base.Ns mainGlobals mg
 blt:∃mb,base.Ns builtinsNs mb/\∀x:Str,x ≠ "__name__" -> mb x=bootBuiltins x
 nolimit:base.NoLimit
structure Cx where
 prog:Aa
 w:Ab
 K:AH
 mg:AI
 base:Heap
 A:Ae
 N:AM
 s₀:AZ
 H₀:Hp
 env:Env
 outer:List Env
 stack:List Env
 ex:AY
 fn:Str->Bool
 calm:Bool
 pn:AB
 xe:AA
abbrev Af (X:Cx){α:Type}:=@wpAny α (model X.prog X.w) X.A
def frs (l:List Env):AY:=l.filterMap (·.frame)
abbrev Cx.fs (X:Cx):AY:=frs X.outer
def Vis (q:Scope)(x:Str):Prop:=q.names.lookup x=some .local\/q.names.lookup x=some .cell\/q.names.lookup x=some .free
def Loc (q:Scope)(x:Str):Prop:=q.names.lookup x=some .local\/q.names.lookup x=some .cell
def Look (env:Env)(h:Heap)(m:AI)(x:Str)(u:Value):Prop:=
 (env.kindOf x=some .local/\m x=some u)\/((env.kindOf x=some .cell\/env.kindOf x=some .free)/\∃c,env.cells.lookup x=some c/\h.IsCell c (some u))
structure Cx.Ok (X:Cx):Prop where
 mod:Mod X.K X.mg X.base
 kind:X.env.scope.kind = .function
 glob:X.env.globals=mainGlobals
 blt:X.env.builtins=builtinsNs
 above:X.s₀.heap.objs.size<=X.env.locals
 inj:∀x y c,X.env.cells.lookup x=some c->X.env.cells.lookup y=some c->x=y
 has:∀x,(X.env.kindOf x=some .cell\/X.env.kindOf x=some .free)->∃c,X.env.cells.lookup x=some c
 cab:∀x c,X.fn x=true->X.env.cells.lookup x=some c->X.s₀.heap.objs.size<=c
 hd:X.calm=true->X.A.handled=none
 frames:X.A.frames=some X.stack
 stk:X.stack=X.outer\/(X.stack=X.env::X.outer/\X.env.frame=some X.env.locals)
 exf:∀b∈X.ex,b≠X.env.locals/\∀x c,X.env.cells.lookup x=some c->c≠b
 bs:∀b o,X.base.get? b=some o->X.s₀.heap.get? b=some o/\X.H₀ b=none
 bsz:X.base.objs.size<=X.s₀.heap.objs.size
 noex:∀b o,X.base.get? b=some o->b∉X.ex
 exfs:∀b∈X.ex,b∉X.fs
 funs:X.s₀.heap.FunFrames X.base X.outer
 frf:∀b∈X.fs,X.H₀ b=none
structure Inv (X:Cx)(pins:AB)(σ:List (Option V))(H:Hp)(s:AZ):Prop where
 ok:X.Ok
 os:s.os=X.s₀.os
 bare:AllBare s.gens
 base:Un X.fs X.ex X.H₀ H X.s₀.heap s.heap
 loc:∃m,s.heap.Ns X.env.locals m/\∀ (i:Nat) (x:Str) (v:V),X.N[i]?=some x->σ[i]?=some (some v)->Vis X.env.scope x->∃u,yc v u/\Look X.env s.heap m x u
 cell:∀x c,X.env.cells.lookup x=some c->∃v,s.heap.IsCell c v
 free:H X.env.locals=none
 freeC:∀x c,X.env.cells.lookup x=some c->H c=none
 pin:∀p∈X.pn++pins,s.heap.get? p.1=some p.2/\H p.1=none/\p.1≠X.env.locals/\p.1∉X.fs/\∀v,p.2.data≠.cell v
 hok:HOk X.prog X.w H s.heap
 len:σ.length=X.N.length
section
variable {X:Cx}{pins:AB}{σ:List (Option V)}{H H':Hp}{s:AZ}{h':Heap}
def Cx.Ok.nofr(q:X.Ok)(e:X.base.get? b=some o):b∉X.fs:=λB=>by
 have:=(q.funs.mem B).1;grind
def Inv.bs (I:Inv X pins σ H s):∀b o,X.base.get? b=some o->s.heap.get? b=some o/\H b=none:=λb o e=>
 ⟨I.base.keep b o (I.ok.bs b o e).1 (I.ok.bs b o e).2 (I.ok.nofr e) (I.ok.noex b o e),I.base.free b o (I.ok.bs b o e).1 (I.ok.bs b o e).2 (I.ok.noex b o e)⟩
def Inv.bk (I:Inv X pins σ H s):∀b o,X.base.get? b=some o->s.heap.get? b=some o:=λb o e=>(I.bs b o e).1
def Inv.mod (I:Inv X pins σ H s):Mod X.K X.mg X.base:=I.ok.mod
def Inv.kIn (I:Inv X pins σ H s):X.K.In s.heap:=I.ok.mod.kin.keeps I.bk
def Inv.lt (I:Inv X pins σ H s):X.env.locals<s.heap.objs.size:=let ⟨_,hn,_⟩:=I.loc;hn.lt
def Inv.sz (I:Inv X pins σ H s):X.s₀.heap.objs.size<=s.heap.objs.size:=aA I.ok.above (cD I.lt)
def Inv.nofs (I:Inv X pins σ H s){a:Addr}(h:s.heap.objs.size<=a):a∉X.fs:=λq=>by obtain⟨_,o,B,_⟩:=I.ok.funs.mem q;exact absurd (aY (ar B) (aA I.sz h)) (cB _)
def Inv.cne (I:Inv X pins σ H s):∀x c,X.env.cells.lookup x=some c->c≠X.env.locals:=λx c e z=>by
 obtain⟨v,o,F,J⟩:=I.cell x c e;obtain⟨m,⟨o',es,O,q,B,_⟩,_⟩:=I.loc;grind
def Inv.funs (I:Inv X pins σ H s):s.heap.FunFrames X.base X.outer:=by
 have all:∀ (l:List Env),(∀b∈frs l,b∈X.fs)->X.s₀.heap.FunFrames X.base l->s.heap.FunFrames X.base l:=by
  intro l
  induction l with
  | nil=>intro _ _;trivial
  | cons env r J=>
   intro hs O;obtain⟨U,⟨L,o,q,hn,Y,Z⟩,hr⟩:=O;have B:L∈X.fs:=hs L (by unfold frs;rw[ce,q];exact aj);obtain⟨sl,e⟩:=I.base.slot L o Y (I.ok.frf L B) B λz=>I.ok.exfs L z B;exact⟨U,⟨L,_,q,hn,e,Z⟩,J (λb F=>hs b (by unfold frs;rw[ce,q];exact am _ F)) hr⟩
 exact all X.outer (λ_ F=>F) I.ok.funs
def Inv.stack (I:Inv X pins σ H s):s.heap.FunFrames X.base X.stack:=by
 rcases I.ok.stk with e | ⟨e,hf⟩;rw[e];exact I.funs;rw[e];obtain⟨m,hn,_⟩:=I.loc;show .cons (by rw[I.ok.kind];decide) hf hn ?_ I.funs;exact eL (aA I.ok.bsz I.ok.above)
def Inv.stkSub (I:Inv X pins σ H s):∀b∈frs X.stack,b∈X.env.locals::X.fs:=λb q=>by
 rcases I.ok.stk with e | ⟨e,hf⟩;grind;rw[e] at q;unfold frs at q;rw[ce,hf] at q;exact q
def Inv.stkFree (I:Inv X pins σ H s):∀b∈frs X.stack,H b=none:=λb q=>by
 rcases ay.mp (I.stkSub b q) with e | q;rw[e];exact I.free;obtain⟨_,o,B,_⟩:=I.ok.funs.mem q;exact I.base.free b o B (I.ok.frf b q) λz=>I.ok.exfs b z q
def Inv.step {g':Array GenState}{t':Nat}{d':Drawn}{ch:AY}(I:Inv X pins σ H s)
  (F:∀b∈ch,(b∈X.ex\/X.s₀.heap.objs.size<=b)/\b≠X.env.locals/\(∀x c,X.env.cells.lookup x=some c->c≠b)/\∀p∈X.pn++pins,p.1≠b)
  (U:∀b o,b≠X.env.locals->b∉X.fs->b∉ch->s.heap.get? b=some o->H b=none->h'.get? b=some o)
  (Y:∀b o,b≠X.env.locals->b∈X.fs->b∉ch->s.heap.get? b=some o->H b=none->∃sl,h'.get? b=some { o with slots:=sl }) (J:∀b o,b∉ch->s.heap.get? b=some o->H b=none->H' b=none)
  (an:∀b o,b∉ch->s.heap.get? b=some o->∃o',h'.get? b=some o')
  (ad:∀b xs,H b=some (.tup xs)->H' b=some (.tup xs)) (ag:∀b o u,H b=some (.frz o u)->H' b=some (.frz o u)) (a0:∀b ps,H b=some (.tbl ps)->∃more,H' b=some (.tbl (ps++more)))
  (ns:∀m,s.heap.Ns X.env.locals m->h'.Ns X.env.locals m) (ap:HOk X.prog X.w H' h') (hg:AllBare g') :
  Inv X pins σ H' { s with heap:=h',gens:=g',drawn:=d',toks:=t' }:=by
 have al:∀b o,X.s₀.heap.get? b=some o->b≠X.env.locals:=λb o e=>aS (aY (ar e) I.ok.above)
 have Z:∀b o,X.s₀.heap.get? b=some o->b∉X.ex->b∉ch:=λb o e B hb=>by
  rcases (F b hb).1 with z | z;exact B z;exact absurd (aY (ar e) z) (cB _)
 have O:∀x c,X.env.cells.lookup x=some c->∀v,s.heap.IsCell c v->h'.IsCell c v:=by
  rintro x c e v ⟨o,ho,hd⟩;have ac:c∉ch:=λz=>(F c z).2.2.1 x c e rfl;by_cases hc:c∈X.fs;obtain⟨sl,q⟩:=Y c o (I.cne x c e) hc ac ho (I.freeC x c e);exact⟨_,q,hd⟩;exact⟨o,U c o (I.cne x c e) hc ac ho (I.freeC x c e),hd⟩
 show⟨I.ok,I.os,hg,⟨λb o e n hb B=>?_,λb o e n hb B=>?_,λb o e n B=>?_,λb o e B=>?_,λb xs e=>ad b xs (I.base.tups b xs e),λb o xs e=>ag b o xs (I.base.frzs b o xs e),λb ps e=>?_⟩,?_,λx c e=>?_,?_,λx c e=>?_,λp hp=>?_,ap,I.len⟩;exact U b o (al b o e) hb (Z b o e B) (I.base.keep b o e n hb B) (I.base.free b o e n B);obtain⟨sl,e1⟩:=I.base.slot b o e n hb B;obtain⟨as,e2⟩:=Y b _ (al b o e) hb (Z b o e B) e1 (I.base.free b o e n B);exact⟨as,e2⟩;obtain⟨o',e1⟩:=I.base.there b o e B;exact J b o' (Z b o e B) e1 (I.base.free b o e n B);obtain⟨o',e1⟩:=I.base.there b o e B;right;obtain⟨m1,e1⟩:=I.base.tbls b ps e;grind;obtain⟨m,hn,hl⟩:=I.loc;show⟨m,ns m hn,λi x v e1 e2 e3=>?_⟩;obtain⟨u,r,l⟩:=hl i x v e1 e2 e3;show⟨u,r,?_⟩;rcases l with l | ⟨k,c,e,z⟩;exact .inl l;exact .inr ⟨k,c,e,O x c e _ z⟩;obtain⟨v,z⟩:=I.cell x c e;exact⟨v,O x c e v z⟩;obtain⟨m,⟨o,_,_,ho,_⟩,_⟩:=I.loc;exact J _ o (λz=>(F _ z).2.1 rfl) ho I.free;obtain⟨v,o,ho,hd⟩:=I.cell x c e;exact J c o (λz=>(F c z).2.2.1 x c e rfl) ho (I.freeC x c e);obtain⟨e,n,ne,nf,d⟩:=I.pin p hp;have ac:p.1∉ch:=λz=>(F p.1 z).2.2.2 p hp rfl;right
def Inv.un(I:Inv X pins σ H s)(u:Un X.fs [] H H' s.heap h')(B:HOk X.prog X.w H' h'):Inv X pins σ H' { s with heap:=h',toks:=t' }:=by
 obtain⟨m,⟨o,es,ep,O,r⟩,_⟩:=id I.loc;obtain⟨sl,U⟩:=u.any O I.free (by simp);exact I.step (g':=s.gens) (d':=s.drawn) (ch:=[]) (λ_ z=>nomatch z) (λb o _ F _ e n=>u.keep b o e n F (by simp)) (λb o _ F _ e n=>u.slot b o e n F (by simp)) (λb o _ e n=>u.free b o e n (by simp)) (λb o _ e=>u.there b o e (by simp)) u.tups u.frzs u.tbls (λm' Y=>by obtain⟨o',es',J,q,Z⟩:=Y;rw[O] at q;cases q;exact⟨_,es',J,U,Z⟩) B I.bare
def Inv.call(I:Inv X pins σ H s)(u:Un (frs X.stack) ch H H' s.heap h')(J:HOk X.prog X.w H' h')(Z:AllBare g')(B:∀b∈ch,(b∈X.ex\/X.s₀.heap.objs.size<=b)/\b≠X.env.locals/\(∀x c,X.env.cells.lookup x=some c->c≠b)/\∀p∈X.pn++pins,p.1≠b) :
  Inv X pins σ H' { s with heap:=h',gens:=g',drawn:=d',toks:=t' }:=by
 obtain⟨m,⟨o,es,ep,Y,r⟩,_⟩:=id I.loc;obtain⟨sl,O⟩:=u.any Y I.free λz=>(B _ z).2.1 rfl;exact I.step (ch:=ch) B (λb o O hb q e n=>u.keep b o e n (λz=>(ay.mp (I.stkSub b z)).elim O hb) q) (λb o _ _ q e n=>u.any e n q) (λb o q e n=>u.free b o e n q) (λb o q e=>u.there b o e q) u.tups u.frzs u.tbls (λm' hm=>by obtain⟨o',es',U,F,r'⟩:=hm;rw[Y] at F;cases F;exact⟨_,es',U,O,r'⟩) J Z
def Inv.turned(I:Inv X pins σ H s)(k:∀b o,b≠B->s.heap.get? b=some o->h'.get? b=some o)(hn:H B=none)(J:B≠X.env.locals)(h1:B∈X.ex\/X.s₀.heap.objs.size<=B)(h2:∀x c,X.env.cells.lookup x=some c->c≠B)(O:∀p∈X.pn++pins,p.1≠B):Inv X pins σ H { s with heap:=h',toks:=t' }:=by
 have U:∀b u,H b=some u->b≠B:=λb u e z=>by rw[z,hn] at e;cases e
 show I.step (g':=s.gens) (d':=s.drawn) (ch:=[B]) (λb Y=>?_) (λb o _ _ F e _=>k b o (λz=>F (by simp[z])) e) (λb o _ _ F e _=>⟨o.slots,k b o (λz=>F (by simp[z])) e⟩) (λ_ _ _ _ n=>n)
  (λb o F e=>⟨o,k b o (λz=>F (by simp[z])) e⟩) (λ_ _ e=>e) (λ_ _ _ e=>e) (λb ps e=>⟨#[],by rw[e];simp⟩) (λm Z=>?_) (λb u e=>?_) I.bare
 have e:b=B:=by simpa using Y
 subst e;exact⟨h1,J,h2,O⟩;obtain⟨o,es,ep,ho,r⟩:=Z;exact⟨o,es,ep,k _ o (Ne.symm J) ho,r⟩;show (I.hok b u e).stay (λc v F q=>k c v ?_ q) (λ_ q=>q) λ_ _ q=>q;grind
def Inv.tok (I:Inv X pins σ H s)(t:Nat):Inv X pins σ H { s with toks:=t }:=I.un (h':=s.heap) (t':=t) Un.refl I.hok
def Inv.kept(I:Inv X pins σ H s)(k:∀b u,s.heap.get? b=some u->h'.get? b=some u):Inv X pins σ H { s with heap:=h',toks:=t' }:=I.un (Un.kept k) (I.hok.kept k)
def Inv.laid{a:Addr}(I:Inv X pins σ H s)(k:∀b u,s.heap.get? b=some u->h'.get? b=some u)(q:s.heap.objs.size<=a)(B:ya X.prog X.w (upd H a o) h' a o) :
  Inv X pins σ (upd H a o) { s with heap:=h',toks:=t' }:=I.un (Un.laid k q (I.hok.fresh q)) (I.hok.laid k q B)
def Inv.write(I:Inv X pins σ H s)(F:Mut (H x))(J:e=x\/H e=some (.own x))(k:∀b u,b≠e->s.heap.get? b=some u->h'.get? b=some u)(q:∃u,h'.get? e=some u)(B:ya X.prog X.w (upd H x o) h' x o):Inv X pins σ (upd H x o) { s with heap:=h',toks:=t' }:=I.un (Un.write F J k q) (I.hok.write F J k q B)
def Inv.pins_of(I:Inv X pins σ H s)(h:∀p∈q,s.heap.get? p.1=some p.2/\H p.1=none/\p.1≠X.env.locals/\p.1∉X.fs/\∀v,p.2.data≠.cell v):Inv X q σ H s:=
 ⟨I.ok,I.os,I.bare,I.base,I.loc,I.cell,I.free,I.freeC,λp B=>(au.mp B).elim (λz=>I.pin p (aQ _ z)) (h p),I.hok,I.len⟩
def zgE {N:AM}(q:N.Nodup){i j:Nat}{x:Str}(a:N[i]?=some x)(b:N[j]?=some x):i=j:=by obtain⟨h1,B⟩:=ah.mp a;obtain⟨h2,F⟩:=ah.mp b;exact (de q).mp (B.trans F.symm)
def zeZ(I:Inv X pins σ H s)(hN:X.N.Nodup)(hi:X.N[i]?=some x)(J:Loc X.env.scope x)(r:yc v u)(h:∀s',Inv X pins (σ.set i (some v)) H s'->(∃a,Heap.SameBut a s.heap s'.heap/\(a=X.env.locals\/X.env.cells.lookup x=some a))->Q () s')(hf:X.fn x=true\/X.env.scope.names.lookup x=some .local:=by walk_at "l"):wpAny M A (storeName X.env x u) Q E s:=by
 obtain⟨m,hn,hl⟩:=id I.loc;have ad:(X.env.scope.kind==.class || (X.env.scope.kind==.module&&X.env.locals != X.env.globals))=false:=by rw[I.ok.kind];rfl
 have Y:i<σ.length:=by rw[I.len];exact (ah.mp hi).1
 have Z:=I.cne
 have B:∀ {a:Addr} {h':Heap},(∃o,s.heap.get? a=some o/\H a=none)->Heap.SameBut a s.heap h'->HOk X.prog X.w H h':=λ{a h'} ha hs b ob e=>by
  obtain⟨_,_,an⟩:=ha;show (I.hok b ob e).stay (λc w' O q=>(hs.2 c ?_).trans q) (λ_ q=>q) λ_ _ q=>q;grind
 rcases J with hk | hk;show wpAny_storeName_local hk hn (λh' ap hs=>?_) ad;obtain⟨oL,_,_,as,_⟩:=id hn;show h _ ⟨I.ok,I.os,I.bare,⟨λb o e n hb J=>?_,λb o e n hb J=>?_,I.base.free,λb o e J=>?_,I.base.tups,I.base.frzs,I.base.tbls⟩,⟨_,ap,λj y v' F U e3=>?_⟩,λy c e=>?_,I.free,I.freeC,λp hp=>?_,B ⟨oL,as,I.free⟩ hs,by simpa using I.len⟩ ⟨_,hs,.inl rfl⟩;exact (hs.2 b (aS (aY (ar e) I.ok.above))).trans (I.base.keep b o e n hb J);obtain⟨sl,F⟩:=I.base.slot b o e n hb J;exact⟨sl,(hs.2 b (aS (aY (ar e) I.ok.above))).trans F⟩;obtain⟨o',F⟩:=I.base.there b o e J;exact⟨o',(hs.2 b (aS (aY (ar e) I.ok.above))).trans F⟩;by_cases hj:j=i;subst hj;rw[hi] at F;cases F;rw[aR Y] at U;cases U;exact⟨u,r,.inl ⟨hk,by simp⟩⟩;rw[ax (Ne.symm hj)] at U;obtain⟨u',r',q⟩:=hl j y v' F U e3;show⟨u',r',?_⟩;rcases q with ⟨k,e⟩ | ⟨k,c,e,z⟩;show .inl ⟨k,?_⟩;have:y≠x:=λe=>hj (zgE hN F (e ▸ hi));simp[this,e];exact .inr ⟨k,c,e,z.sameBut hs (Z y c e)⟩;obtain⟨w',z⟩:=I.cell y c e;exact⟨w',z.sameBut hs (Z y c e)⟩;obtain⟨e,n,ne,nf,d⟩:=I.pin p hp;exact⟨(hs.2 p.1 ne).trans e,n,ne,nf,d⟩
 have ac:X.fn x=true:=by
  grind
 obtain⟨c,O⟩:=I.ok.has x (.inl hk);obtain⟨w',z⟩:=I.cell x c O;show wpAny_storeName_cell I.ok.kind hk O z (λh' ag hs=>?_);obtain⟨oc,a0,a1⟩:=id z;show h { s with heap:=h' } ⟨I.ok,I.os,I.bare,⟨λb o e n hb J=>?_,λb o e n hb J=>?_,I.base.free,λb o e J=>?_,I.base.tups,I.base.frzs,I.base.tbls⟩,⟨m,hn.sameBut hs (Ne.symm (Z x c O)),λj y v' F U e3=>?_⟩,λy c' e=>?_,I.free,I.freeC,λp hp=>?_,B ⟨oc,a0,I.freeC x c O⟩ hs,by simpa using I.len⟩ ⟨c,hs,.inr O⟩;exact (hs.2 b (aS (aY (ar e) (I.ok.cab x c ac O)))).trans (I.base.keep b o e n hb J);obtain⟨sl,F⟩:=I.base.slot b o e n hb J;exact⟨sl,(hs.2 b (aS (aY (ar e) (I.ok.cab x c ac O)))).trans F⟩;obtain⟨o',F⟩:=I.base.there b o e J;exact⟨o',(hs.2 b (aS (aY (ar e) (I.ok.cab x c ac O)))).trans F⟩;by_cases hj:j=i;subst hj;rw[hi] at F;cases F;rw[aR Y] at U;cases U;exact⟨u,r,.inr ⟨.inl hk,c,O,ag⟩⟩;rw[ax (Ne.symm hj)] at U;obtain⟨u',r',q⟩:=hl j y v' F U e3;show⟨u',r',?_⟩;rcases q with q | ⟨k,c',e,z'⟩;exact .inl q;show .inr ⟨k,c',e,z'.sameBut hs ?_⟩;rintro rfl;exact hj (zgE hN F (I.ok.inj _ _ _ e O ▸ hi));by_cases al:c'=c;subst al;exact⟨_,ag⟩;obtain⟨w2,z2⟩:=I.cell y c' e;exact⟨w2,z2.sameBut hs al⟩;obtain⟨e,n,ne,nf,d⟩:=I.pin p hp;show⟨(hs.2 p.1 ?_).trans e,n,ne,nf,d⟩;intro q;right
def zaG(I:Inv X pins σ H s)(q:X.N.Nodup)(hi:X.N[i]?=some x)(B:Loc X.env.scope x)(r:yc v u)(h:∀s',Inv X pins (σ.set i (some v)) H s'->Q () s')(F:X.fn x=true\/X.env.scope.names.lookup x=some .local:=by walk_at "l"):wpAny M A (storeName X.env x u) Q E s:=
 zeZ I q hi B r (λs' I' _=>h s' I') F
def Inv.call'(I:Inv X pins σ H s)(F:s'.os=s.os)(u:Un (frs X.stack) ch H H' s.heap s'.heap)(q:HOk X.prog X.w H' s'.heap)(J:AllBare s'.gens)(B:∀b∈ch,(b∈X.ex\/X.s₀.heap.objs.size<=b)/\b≠X.env.locals/\(∀x c,X.env.cells.lookup x=some c->c≠b)/\∀p∈X.pn++pins,p.1≠b):Inv X pins σ H' s':=by
 obtain⟨h',g',d',t',o'⟩:=s';have e:o'=s.os:=F;subst e;exact I.call (g':=g') (t':=t') (d':=d') u q J B
end
abbrev XK:=Value->Option Addr->Hp->Prop
abbrev St:=List (Option V)
abbrev VK:=V->Hp->Prop
abbrev TE:=St->Hp->VK->Prop
abbrev TT:=St->Hp->(Bool->Hp->Prop)->Prop
abbrev TA:=St->Hp->(AT->Hp->Prop)->Prop
structure Ends where
 nx:St->Hp->Prop
 rt:VK
 bk:St->Hp->Prop:=λ_ _=>False
 ct:St->Hp->Prop:=λ_ _=>False
abbrev TS:=Ends->St->Hp->Prop
def EP (X:Cx)(pins:AB)(σ:St)(Q:VK)(u:Value)(s':AZ):Prop:=∃v H',Inv X pins σ H' s'/\yc v u/\Q v H'
def TP (X:Cx)(pins:AB)(σ:St)(Q:Bool->Hp->Prop)(b:Bool)(s':AZ):Prop:=∃H',Inv X pins σ H' s'/\Q b H'
def AP (X:Cx)(pins:AB)(σ:St)(Q:AT->Hp->Prop)(us:AN)(s':AZ):Prop:=∃vs H',Inv X pins σ H' s'/\zM vs us/\Q vs H'
def SP (X:Cx)(pins:AB)(D:Ends)(f:Flow)(s':AZ):Prop:=
 match f with
 | .next=>∃ q H',Inv X pins q H' s'/\D.nx q H'
 | .brk=>∃ q H',Inv X pins q H' s'/\D.bk q H'
 | .cont=>∃ q H',Inv X pins q H' s'/\D.ct q H'
 | .ret u=>∃v q H',Inv X pins q H' s'/\yc v u/\D.rt v H'
def PE (X:Cx)(e:Expr)(t:TE):Prop:=
 ∀ (pins:AB) (s:AZ) (σ:St) (H:Hp) (Q:VK),Inv X pins σ H s->t σ H Q->Af X (eval e X.env) (EP X pins σ Q) X.xe s
def PT (X:Cx)(e:Expr)(t:TT):Prop:=
 ∀ (pins:AB) (s:AZ) (σ:St) (H:Hp) (Q:Bool->Hp->Prop),Inv X pins σ H s->t σ H Q->Af X (isTrue e X.env (eval e X.env)) (TP X pins σ Q) X.xe s
def PW (X:Cx)(e:Expr)(t:TT):Prop:=
 ∀ (q:Sem Value) (pins:AB) (s:AZ) (σ:St) (H:Hp) (Q:Bool->Hp->Prop),Inv X pins σ H s->t σ H Q->Af X (isTrue e X.env q) (TP X pins σ Q) X.xe s
def PW.pt(h:PW X e t):PT X e t:=h _
def PA (X:Cx)(es:AO)(t:TA):Prop:=
 ∀ (pos:Pos) (pins:AB) (s:AZ) (σ:St) (H:Hp) (Q:AT->Hp->Prop),Inv X pins σ H s->t σ H Q->Af X (spliced (backTo pos (starEach es X.env))) (AP X pins σ Q) X.xe s
def PS (X:Cx)(st:Stmt)(t:TS):Prop:=
 ∀ (pins:AB) (s:AZ) (σ:St) (H:Hp) (D:Ends),Inv X pins σ H s->t D σ H->Af X (exec st X.env) (SP X pins D) X.xe s
def PSs (X:Cx)(st:List Stmt)(t:TS):Prop:=
 ∀ (pins:AB) (s:AZ) (σ:St) (H:Hp) (D:Ends),Inv X pins σ H s->t D σ H->Af X (execs st X.env) (SP X pins D) X.xe s
def thn{α:Type}{t:Sem α}{Q Q':α->AZ->Prop}(h:wpAny M A t Q E s)(q:∀a s,Q a s->Q' a s):wpAny M A t Q' E s:=bE h q λ_ _ x=>x
section
variable {X:Cx}
def zaL (i:Nat):TE:=λσ H Q=>∃v,σ[i]?=some (some v)/\Q v H
def tC (v:V):TE:=λ_ H Q=>Q v H
def zmL {i:Nat}{x:Str}{pos:Pos}(J:X.N[i]?=some x)(O:Vis X.env.scope x)(B:Ah x:=by ext)(F:(x==("__classdict__" : Str))=false:=by ext):PE X (.Name x pos) (zaL i):=by
 intro pins s σ H Q I h;obtain⟨v,e,h⟩:=h;obtain⟨m,hn,U⟩:=I.loc;obtain⟨u,r,l⟩:=U i x v J e O;have fin:EP X pins σ Q u s:=⟨v,H,I,r,h⟩;rcases l with ⟨q,hm⟩ | ⟨q,c,hc,hcell⟩;exact wpAny_Name (wpAny_loadName_local I.ok.kind q hn hm fin) B;rcases q with q | q;exact wpAny_Name (wpAny_loadName_cell I.ok.kind q hc hcell fin) B;exact wpAny_Name (wpAny_loadName_free I.ok.kind q hc hcell fin F) B
def zmK {i j pos}:PE X (.Constant (.int i) j pos) (tC (.int i)):=λ_ _ _ H _ I h=>wpAny_Constant_int ⟨.int i,H,I.tok _,⟨_,rfl⟩,h⟩
def zt2 {b j pos}:PE X (.Constant (.bool b) j pos) (tC (.bl b)):=λ_ _ _ H _ I h=>Constant_bool ⟨.bl b,H,I,rfl,h⟩
def zq5 {j pos}:PE X (.Constant .none j pos) (tC .non):=λ_ _ _ H _ I h=>Constant_none ⟨.non,H,I,rfl,h⟩
def zq6 {x j pos}:PE X (.Constant (.str x) j pos) (tC (.str x)):=λ_ _ _ H _ I h=>Calls.Constant_str ⟨.str x,H,I.tok _,⟨_,rfl⟩,h⟩
def Gl (X:Cx)(x:Str):Prop:=X.env.kindOf x=some .globalImplicit
def zi0{E:AA}{pins:AB}{s:AZ}{σ:St}{H:Hp}{x:Str}{u:Value}{Q:AA}(I:Inv X pins σ H s)(q:Gl X x)(B:X.mg x=some u)(h:Q u s)(F:Ah x:=by ext):Af X (eval (.Name x pos) X.env) Q E s:=
 Calls.Name_function_global I.ok.kind q (Calls.loadGlobal_global (by rw[I.ok.glob];exact I.mod.glob.keeps I.bk) B h) F
def zcL {E:AA}{pins:AB}{s:AZ}{σ:St}{H:Hp}{x:Str}{u:Value}{pos:Pos}{Q:AA}(I:Inv X pins σ H s)(q:Gl X x)(B:X.mg x=none)(F:bootBuiltins x=some u)(h:Q u s)
  (hn:x ≠ "__name__" := by ext) (J:Ah x:=by ext):Af X (eval (.Name x pos) X.env) Q E s:=by
 obtain⟨O,h1,h2⟩:=I.mod.blt;exact Calls.Name_function_global I.ok.kind q (Calls.loadGlobal_builtin (by rw[I.ok.glob];exact I.mod.glob.keeps I.bk) B (by rw[I.ok.blt];exact h1.keeps I.bk) ((h2 x hn).trans F) h) J
def zoi {x:Str}{v:V}{u:Value}{pos:Pos}(q:Gl X x)(B:X.mg x=none)(F:bootBuiltins x=some u)(r:yc v u)(hn:x ≠ "__name__" := by ext)(J:Ah x:=by ext):PE X (.Name x pos) (tC v):=
 λ_ _ _ H _ I h=>zcL I q B F ⟨v,H,I,r,h⟩ hn J
variable {a b:Expr}{ta tb:TE}{pos:Pos}
def PC (X:Cx)(F:CmpOp)(a b:Expr)(t:TE):Prop:=
 ∀ (pins:AB) (s:AZ) (σ:St) (H:Hp) (Q:VK),Inv X pins σ H s->t σ H Q->
  Af X (eval a X.env) (λv q=>Af X (eval b X.env) (λu B=>Af X (compareOp F v u) (EP X pins σ Q) X.xe B) X.xe q) X.xe s
def zdv(b:Expr)(h:q≠.In)(h2:q≠.NotIn):behindInMarks q b=false:=by
 have B:(q==CmpOp.In)=false:=by cases q <;> first | rfl | exact absurd rfl h
 have F:(q==CmpOp.NotIn)=false:=by cases q <;> first | rfl | exact absurd rfl h2
 cases b <;> simp[behindInMarks,B,F]
def zun (ta:TE):TE:=λσ H Q=>ta σ H λx H1=>Q (.bl (decide (x = .non))) H1
def yc.none_iff(r:yc x v):(v==Value.none)=decide (x = .non):=by
 cases x with
 | non=>cases r;rfl
 | bl _=>cases r;rfl
 | int _=>obtain⟨t,rfl⟩:=r;rfl
 | str _=>obtain⟨t,rfl⟩:=r;rfl
 | byt _=>obtain⟨t,rfl⟩:=r;rfl
 | flt _=>obtain⟨t,rfl⟩:=r;rfl
 | ref _=>cases r;rfl
 | ty _=>cases r;rfl
def zq2 {j pos'}(q:PE X a ta):PC X .Is a (.Constant .none j pos') (zun ta):=by intro pins s σ H Q I h;show thn (q pins s σ H _ I h)  ?_;rintro v J ⟨x,H1,I1,B,F⟩;exact Constant_none (is_none_gen ⟨.bl _,H1,I1,by rw[B.none_iff];rfl,F⟩)
def tB (t:TE):TT:=λσ H Q=>t σ H λx H1=>∃c,x = .bl c/\Q c H1
def zmO(h:PC X B a b t)(h1:behindInMarks B b=false:=by first | exact zdv _ (by ext) (by ext) | rfl):PT X (.Compare a [B] [b] pos) (tB t):=by intro pins s σ H Q I F;show wpAny_isTrue_Compare1 (thn (h pins s σ H _ I F) λv U h1=>thn h1 λu Y h2=>thn h2 λc Z ⟨x,H1,I1,J,O⟩=>?_) h1;obtain⟨d,rfl,q⟩:=O;cases J;exact fJ ⟨H1,I1,q⟩
def zrm(h:PE X e t)(he:∀whole,isTrue e X.env whole=(do let v <- whole;standAt e.pos;holding [v] (truthy v)):=by intro _;rfl):PT X e (tB t):=by intro pins s σ H Q I hw;show isTrue_plain (thn (h pins s σ H _ I hw) λv s1 ⟨x,H1,I1,r1,q1⟩=>?_) (he _);obtain⟨d,rfl,q⟩:=q1;cases r1;exact fJ ⟨H1,I1,q⟩
variable {tA tB':TT}{zC:AO}
def zui (t u:TT):TT:=λσ H Q=>t σ H λc H1=>if c=true then u σ H1 Q else Q false H1
def tOr (t u:TT):TT:=λσ H Q=>t σ H λc H1=>if c=true then Q true H1 else u σ H1 Q
def tNot (t:TT):TT:=λσ H Q=>t σ H λc H1=>Q (!c) H1
def zoH (q:PT X a tA):PW X (.BoolOp .And [a] pos) tA:=by
 intro B pins s σ H Q I h;show isTrue_and (thn (q pins s σ H Q I h) λc F e=>?_)
 cases c with
 | true=>exact isTrue_and_nil e
 | false=>exact e
def zro (q:PT X a tA):PW X (.BoolOp .Or [a] pos) tA:=by
 intro B pins s σ H Q I h;show isTrue_or (thn (q pins s σ H Q I h) λc F e=>?_)
 cases c with
 | false=>exact isTrue_or_nil e
 | true=>exact e
def zrn (B:PT X a tA)(F:PW X (.BoolOp .And (b::zC) pos) tB'):PW X (.BoolOp .And (a::b::zC) pos) (zui tA tB'):=by
 intro J pins s σ H Q I h;show isTrue_and (thn (B pins s σ H _ I h)  ?_);rintro c O ⟨H1,I1,q⟩
 cases c with
 | true=>exact F J pins O σ H1 Q I1 q
 | false=>exact⟨H1,I1,q⟩
def zt8 (B:PT X a tA)(F:PW X (.BoolOp .Or (b::zC) pos) tB'):PW X (.BoolOp .Or (a::b::zC) pos) (tOr tA tB'):=by
 intro J pins s σ H Q I h;show isTrue_or (thn (B pins s σ H _ I h)  ?_);rintro c O ⟨H1,I1,q⟩
 cases c with
 | true=>exact⟨H1,I1,q⟩
 | false=>exact F J pins O σ H1 Q I1 q
def zrl (q:PT X a tA):PT X (.UnaryOp .Not a pos) (tNot tA):=by intro pins s σ H Q I h;exact isTrue_not (q pins s σ H (λc H1=>Q (!c) H1) I h)
def tIf (t:TT)(ta tb:TE):TE:=λσ H Q=>t σ H λc H1=>if c=true then ta σ H1 Q else tb σ H1 Q
def zlB(F:PT X c tA)(J:PE X a ta)(O:PE X b tb):PE X (.IfExp c a b pos) (tIf tA ta tb):=by
 intro pins s σ H Q I h;show wpAny_IfExp (thn (F pins s σ H _ I h)  ?_);rintro d q ⟨H1,I1,B⟩
 cases d with
 | true=>exact J pins q σ H1 Q I1 B
 | false=>exact O pins q σ H1 Q I1 B
end
def SqL (K:AH)(H:Hp)(a:Addr)(xs:AT):Prop:=
 Rd H a (.lst xs)\/
  ∃ (o:Obj) (q:AK) (n:Nat),K.lookup a=some o/\o.cls = .type "list" /\ o.dict=none/\o.data = .seq q n/\q.size<=sizeLine/\zM xs q.toList
def SqT (K:AH)(H:Hp)(a:Addr)(xs:AT):Prop:=
 Rd H a (.tup xs)\/
  ∃ (o:Obj) (q:AK) (n:Nat),K.lookup a=some o/\o.cls = .type "tuple" /\ o.data = .seq q n/\q.size<=sizeLine/\zM xs q.toList
def absV:Value->Option V
 | .none=>some .non
 | .bool b=>some (.bl b)
 | .int i _=>some (.int i)
 | .str x _=>some (.str x)
 | .bytes b _=>some (.byt b)
 | .float b _=>some (.flt b)
 | .ref a=>some (.ref a)
 | .type n=>some (.ty n)
 | _=>none
def yc.abs(r:yc x u):absV u=some x:=by
 cases x with
 | non=>cases r;rfl
 | bl _=>cases r;rfl
 | int _=>obtain⟨t,rfl⟩:=r;rfl
 | str _=>obtain⟨t,rfl⟩:=r;rfl
 | byt _=>obtain⟨t,rfl⟩:=r;rfl
 | flt _=>obtain⟨t,rfl⟩:=r;rfl
 | ref _=>cases r;rfl
 | ty _=>cases r;rfl
def yc.inj(r:yc x u)(q:yc y u):x=y:=cG (r.abs.symm.trans q.abs)
def zM.inj:∀ {xs ys:AT} {us:AN},zM xs us->zM ys us->xs=ys
 | _,_,_,.nil,.nil=>rfl
 | _,_,_,.cons r t,.cons q t'=>by rw[r.inj q,zM.inj t t']
section
variable {X:Cx}{pins:AB}{σ:St}{H:Hp}{s:AZ}{a:Addr}{xs ys:AT}
def SqL.of {K:AH}(h:H a=some (.lst xs)):SqL K H a xs:=.inl (.inl h)
def SqT.of {K:AH}(h:H a=some (.tup xs)):SqT K H a xs:=.inl (.inl h)
def Inv.list (I:Inv X pins σ H s)(h:SqL X.K H a xs):∃q:AN,zM xs q/\PlainL s.heap a q.toArray/\xs.length<=sizeLine:=by
 rcases h with h | ⟨o,q,n,hk,hc,hd,hs,hz,r⟩;obtain⟨z,q,n,r,e⟩:=h.ok I.hok;exact⟨q,r,⟨_,n,e,rfl,rfl,rfl⟩,z⟩;show⟨q.toList,r,⟨o,n,I.kIn a o hk,hc,hd,by simpa using hs⟩,?_⟩;have e:=r.length;grind
def Inv.tuple (I:Inv X pins σ H s)(h:SqT X.K H a xs):∃q:AN,zM xs q/\IsTup s.heap a q.toArray/\xs.length<=sizeLine:=by
 rcases h with h | ⟨o,q,n,hk,hc,hs,hz,r⟩;obtain⟨z,q,r,p⟩:=h.ok I.hok;exact⟨q,r,p.tup,z⟩;show⟨q.toList,r,⟨o,I.kIn a o hk,hc,n,by simpa using hs⟩,?_⟩;have e:=r.length;grind
def Inv.list_inj (I:Inv X pins σ H s)(h:SqL X.K H a xs)(h':SqL X.K H a ys):xs=ys:=by
 obtain⟨q,r,⟨o,n,e,_,_,d⟩,_⟩:=I.list h;obtain⟨its',F,⟨o',O,B,_,_,d'⟩,_⟩:=I.list h';rw[e] at B;cases B;rw[d] at d';injection d' with J _;have:q=its':=by simpa using congrArg Array.toList J
 subst this;exact r.inj F
def Inv.tuple_inj (I:Inv X pins σ H s)(h:SqT X.K H a xs)(h':SqT X.K H a ys):xs=ys:=by
 obtain⟨q,r,⟨o,e,_,n,d⟩,_⟩:=I.tuple h;obtain⟨its',F,⟨o',B,_,O,d'⟩,_⟩:=I.tuple h';rw[e] at B;cases B;rw[d] at d';injection d' with J _;have:q=its':=by simpa using congrArg Array.toList J
 subst this;exact r.inj F
end
abbrev Cx.wish (X:Cx)(E:AA):Cx:={ X with xe:=E }
abbrev Cx.nox (X:Cx):Cx:=X.wish λ_ _=>False
def Cx.Ok.wish {X:Cx}(q:X.Ok)(E:AA):(X.wish E).Ok:=
 ⟨q.mod,q.kind,q.glob,q.blt,q.above,q.inj,q.has,q.cab,q.hd,q.frames,q.stk,q.exf,q.bs,q.bsz,q.noex,q.exfs,q.funs,q.frf⟩
def Cx.Ok.unwish{X:Cx}(q:(X.wish E).Ok):X.Ok:=
 ⟨q.mod,q.kind,q.glob,q.blt,q.above,q.inj,q.has,q.cab,q.hd,q.frames,q.stk,q.exf,q.bs,q.bsz,q.noex,q.exfs,q.funs,q.frf⟩
section
variable {X:Cx}{pins:AB}{σ:St}{H:Hp}{s:AZ}{E:AA}
def Inv.wish (I:Inv X pins σ H s)(E:AA):Inv (X.wish E) pins σ H s:=⟨I.ok.wish E,I.os,I.bare,I.base,I.loc,I.cell,I.free,I.freeC,I.pin,I.hok,I.len⟩
def Inv.unwish (I:Inv (X.wish E) pins σ H s):Inv X pins σ H s:=⟨I.ok.unwish,I.os,I.bare,I.base,I.loc,I.cell,I.free,I.freeC,I.pin,I.hok,I.len⟩
def SP.unwish(h:SP (X.wish E) pins D f s'):SP X pins D f s':=by
 cases f with
 | next=>obtain⟨B,H',I,q⟩:=h;exact⟨B,H',I.unwish,q⟩
 | brk=>obtain⟨B,H',I,q⟩:=h;exact⟨B,H',I.unwish,q⟩
 | cont=>obtain⟨B,H',I,q⟩:=h;exact⟨B,H',I.unwish,q⟩
 | ret u=>obtain⟨v,B,H',I,r,q⟩:=h;exact⟨v,B,H',I.unwish,r,q⟩
def PSs.nox{st:List Stmt}(h:PSs X.nox st t):PSs X st t:=λpins s σ H D I B=>
 bE (h pins s σ H D (I.wish _) B) (λ_ _ q=>q.unwish) λ_ _ z=>False.elim z
end
section
variable {X:Cx}{st:Stmt}{zC:List Stmt}{t u:TS}{e:Expr}{te:TE}{pos:Pos}
def zpn:TS:=λD σ H=>D.nx σ H
def zpp (t u:TS):TS:=λD σ H=>t { D with nx:=u D } σ H
def zjJ:PSs X [] zpn:=λ_ _ σ H _ I h=>eQ ⟨σ,H,I,h⟩
def zax (h1:PS X st t)(h2:PSs X zC u):PSs X (st::zC) (zpp t u):=by
 intro pins s σ H D I h;show wpAny_execs_cons (thn (h1 pins s σ H { D with nx:=u D } I h) λf F q=>?_)
 cases f with
 | next=>
  obtain⟨B,H',I',q⟩:=q;exact h2 pins F B H' D I' q
 | ret v=>exact q
 | brk=>exact q
 | cont=>exact q
def zdJ (h1:PS X st t):PSs X [st] t:=by
 intro pins s σ H D I h;show wpAny_execs_cons (thn (h1 pins s σ H D I h) λf B q=>?_)
 cases f with
 | next=>exact eQ q
 | ret v=>exact q
 | brk=>exact q
 | cont=>exact q
def Inv.quiet{pins:AB}{σ:St}{H:Hp}(I:Inv X pins σ H s):interactive X.env=false:=by simp[interactive,I.ok.kind]
def zpl (te:TE):TS:=λD σ H=>te σ H λ_ H1=>D.nx σ H1
def zoB (q:PE X e te)(hs:swapsWith e none pos.line X.env=pure false:=by rfl):PS X (.Expr e pos) (zpl te):=by intro pins s σ H D I h;exact wpAny_Expr_any (thn (q pins s σ H _ I h) <| by rintro v F ⟨x,H1,I1,J,B⟩;exact⟨σ,H1,I1,B⟩) I.quiet hs
def zr2 (te:TE):TS:=λD σ H=>te σ H D.rt
def zmN (q:PE X e te):PS X (.Return (some e) pos) (zr2 te):=by intro pins s σ H D I h;exact wpAny_Return_some (thn (q pins s σ H _ I h) <| by rintro v J ⟨x,H1,I1,B,F⟩;exact⟨x,σ,H1,I1,B,F⟩)
def zum (c:TT)(t u:TS):TS:=λD σ H=>c σ H λb H1=>if b=true then t D σ H1 else u D σ H1
def zri(F:PT X c tc)(J:PSs X a t)(O:PSs X b u):PS X (.If c a b pos) (zum tc t u):=by
 intro pins s σ H D I h;show wpAny_If (thn (F pins s σ H _ I h)  ?_);rintro d q ⟨H1,I1,B⟩
 cases d with
 | true=>exact J pins q σ H1 D I1 B
 | false=>exact O pins q σ H1 D I1 B
end
abbrev TG:=V->St->Hp->(St->Hp->Prop)->Prop
abbrev TGs:=AT->St->Hp->(St->Hp->Prop)->Prop
def PG (X:Cx)(q:Expr)(t:TG):Prop:=
 ∀ (pins:AB) (s:AZ) (σ:St) (H:Hp) (v:V) (u:Value) (Q:St->Hp->Prop),Inv X pins σ H s->yc v u->t v σ H Q->
  Af X (assign q X.env u) (λ_ s'=>∃ B H',Inv X pins B H' s'/\Q B H') X.xe s
def PGs (X:Cx)(B:AO)(t:TGs):Prop:=
 ∀ (pins:AB) (s:AZ) (σ:St) (H:Hp) (vs:AT) (us:AN) (Q:St->Hp->Prop),Inv X pins σ H s->zM vs us->t vs σ H Q->
  Af X (assignInOrder ((assignEach B X.env).map (·.2)) us) (λ_ s'=>∃ q H',Inv X pins q H' s'/\Q q H') X.xe s
abbrev zsR:=V->V->V->Hp->(Hp->Prop)->Prop
def PSet (X:Cx)(t:zsR):Prop:=
 ∀ (pins:AB) (s:AZ) (σ:St) (H:Hp) (o i v:V) (q B u:Value) (Q:Hp->Prop),Inv X pins σ H s->yc o q->yc i B->yc v u->t o i v H Q->
  Af X (setItem q B u) (λ_ s'=>∃H',Inv X pins σ H' s'/\Q H') X.xe s
abbrev TIp:=V->V->Hp->VK->Prop
def PIp (X:Cx)(q:Operator)(t:TIp):Prop:=
 ∀ (pins:AB) (s:AZ) (σ:St) (H:Hp) (x y:V) (v u:Value) (Q:VK),Inv X pins σ H s->yc x v->yc y u->t x y H Q->
  Af X (inplaceOp q v u) (EP X pins σ Q) X.xe s
section
variable {X:Cx}{pos:Pos}
def zbg (i:Nat):TG:=λv σ H Q=>Q (σ.set i (some v)) H
def zou(q:X.N.Nodup)(hi:X.N[i]?=some x)(B:Loc X.env.scope x)(F:X.fn x=true\/X.env.scope.names.lookup x=some .local:=by walk_at "l"):PG X (.Name x pos) (zbg i):=by intro pins s σ H v u Q I r h;exact wpAny_assign_Name (zaG I q hi B r (λs' I'=>⟨_,H,I',h⟩) F)
def gNil:TGs:=λvs σ H Q=>vs=[]/\Q σ H
def zqi (t:TG)(u:TGs):TGs:=λvs σ H Q=>∃v r,vs=v::r/\t v σ H λq H'=>u r q H' Q
def zov:PGs X [] gNil:=by intro pins s σ H vs us Q I r h;obtain⟨e,h⟩:=h;subst e;cases r;exact assignInOrder_nil ⟨σ,H,I,h⟩
def zlD(h1:PG X e t)(h2:PGs X es u)(hs:(assignEach (e::es) X.env).map (·.2)=assign e X.env::(assignEach es X.env).map (·.2):=by rfl):PGs X (e::es) (zqi t u):=by
 intro pins s σ H vs us Q I r h;obtain⟨v,O,B,h⟩:=h;subst B
 cases r with
 | cons r rr=>
  rw[hs];show ff (thn (h1 pins s σ H _ _ _ I r h)  ?_);rintro _ F ⟨q,H1,I1,J⟩;exact h2 pins F q H1 _ _ Q I1 rr J
def zth (K:AH)(n:Nat)(t:TGs):TG:=λv σ H Q=>∃a xs,v = .ref a/\SqT K H a xs/\xs.length=n/\t xs σ H Q
def zrd {es:AO}{k:Nat}{t:TGs}{n:Nat}(J:X.calm=true)(h:PGs X es t)
  (hn:(assignEach es X.env).length=n:=by rfl) (q:(assignEach es X.env).findIdx? (·.1)=none:=by rfl):PG X (.Tuple es k pos) (zth X.K n t):=by
 intro pins s σ H v u Q I r B;obtain⟨a,xs,O,U,Y,B⟩:=B;subst O;cases r;obtain⟨Z,F,ht,hz⟩:=I.tuple U;show assign_Tuple_tuple (I.ok.hd J) ht (by simp[hn,<- Y,F.length]) q λh' hx=>?_;have I1:Inv X pins σ H { s with heap:=h' }:=I.kept (t':=s.toks) λb o e=>hx b o (aS (ar e)) e;exact h pins _ σ H xs _ Q I1 (by simpa using F) B
def gSub (to ti:TE)(t:zsR):TG:=λv σ H Q=>to σ H λo H1=>ti σ H1 λi H2=>t o i v H2 λH3=>Q σ H3
def zrc(ho:PE X o to)(hi:PE X i ti)(hs:PSet X t)(ha:∀v,assign (.Subscript o i pos) X.env v=(do
   let ov <- holding [v] (eval o X.env)
   let iv <- holding [v,ov] (eval i X.env)
   standAt pos
   holding [v,ov,iv] (setItem ov iv v)
   release [v,ov,iv] []):=by intro _;rfl):PG X (.Subscript o i pos) (gSub to ti t):=by
 intro pins s σ H v u Q I r h;rw[ha];show aa (bJ (thn (ho pins s σ H _ I h)  ?_));rintro ov s1 ⟨x,H1,I1,r1,q1⟩;show aa (bJ (thn (hi pins s1 σ H1 _ I1 q1)  ?_));rintro iv s2 ⟨y,H2,I2,r2,q2⟩;show aa (c7 (aa (bJ (thn (hs pins s2 σ H2 x y v ov iv u _ I2 r1 r2 r q2)  ?_))));rintro _ s3 ⟨H3,I3,q3⟩;exact wpAny_release ⟨σ,H3,I3,q3⟩
def zhR (te:TE)(g:TG):TS:=λD σ H=>te σ H λx H1=>g x σ H1 D.nx
def zrf(B:PE X e te)(F:PG X tg g)(hs:swapsWithSole [tg] e pos.line X.env=pure false:=by rfl)(J:swappedStores [tg] e X.env=pure none:=by rfl)(h1:(assignEach [tg] X.env).map (·.2)=[assign tg X.env]:=by rfl):PS X (.Assign [tg] e pos) (zhR te g):=by
 intro pins s σ H D I h;show wpAny_Assign_stores (thn (B pins s σ H _ I h) λv O ⟨x,H1,I1,U,Y⟩=>?_) hs J;rw[h1];exact thn (F pins O σ H1 x v _ I1 U Y) λ_ Z q=>q
def zrk(q:X.N.Nodup)(hi:X.N[i]?=some x)(B:Loc X.env.scope x)(F:PE X e te)(hs:swapsWith e (some (.Name x pos')) pos.line X.env=pure false:=by rfl)(J:X.fn x=true\/X.env.scope.names.lookup x=some .local:=by walk_at "l") :
  PS X (.Assign [.Name x pos'] e pos) (zhR te (zbg i)):=by
 intro pins s σ H D I h;show wpAny_Assign_Name (thn (F pins s σ H _ I h) λv Y ⟨y,H1,I1,O,U⟩=>?_) hs;exact zaG I1 q hi B O (λZ I2=>⟨_,H1,I2,U⟩) J
def tPar (i j:Nat)(ta:TA):TS:=λD σ H=>ta σ H λvs H1=>∃v w,vs=[v,w]/\D.nx ((σ.set i (some v)).set j (some w)) H1
def zrj{kt k2 pt2}(hc:X.calm=true)(hN:X.N.Nodup)(hi:X.N[i]?=some x)(hj:X.N[j]?=some y)(hij:i≠j)(hx:X.env.scope.names.lookup x=some .local)(hy:X.env.scope.names.lookup y=some .local)(ha:PA X [a,b] ta)(hw:swappedStores [.Tuple [.Name x px,.Name y py] kt pt] (.Tuple [a,b] k2 pt2) X.env=pure (some [x,y]))(hs:swapsWithSole [.Tuple [.Name x px,.Name y py] kt pt] (.Tuple [a,b] k2 pt2) pos.line X.env=pure false:=by rfl) :
  PS X (.Assign [.Tuple [.Name x px,.Name y py] kt pt] (.Tuple [a,b] k2 pt2) pos) (tPar i j ta):=by
 intro pins s σ H D I h;rw[exec_Assign_arm];show aa (c7 ?_);rw[hs];show aa (ae ?_);rw[if_neg (by ext)];show aa (Tuple_ (thn (ha _ pins s σ H _ I h)  ?_));rintro us s1 ⟨vs,H1,I1,r1,q1⟩;obtain⟨v,w,e1,q1⟩:=q1;subst e1
 obtain⟨u1,u2,rfl,rv,rw'⟩:∃u1 u2,us=[u1,u2]/\yc v u1/\yc w u2:=by
  cases r1 with
  | cons p q=>
   cases q with
   | cons p' q'=>
    cases q';exact⟨_,_,rfl,p,p'⟩
 show bu ?_ (by change 2<=sizeLine;decide);have I2:Inv X pins σ H1 { s1 with heap:=s1.heap.push { cls:=.type "tuple",data:=.seq [u1,u2].toArray } }:=I1.kept (t':=s1.toks) λb o e=>af _ e;rw[hw];show aa (ae ?_);change Af X (do rule "assign.swapped-stores";let items <- unpackItems (.ref s1.heap.objs.size) 2 none;assignInOrder [λv=>bindName X.env y v,λv=>bindName X.env x v] items.reverse;pure Flow.next) _ _ _;show aa (cS (aa (unpackItems_tuple (items:=#[u1,u2]) (I.ok.hd hc) (IsTup.new s1.heap _) λh' hx'=>?_)));have I3:=I2.kept (h':=h') (t':=s1.toks) λb o e=>hx' b o (aS (ar e)) e;change wpAny _ _ (assignInOrder [λv=>bindName X.env y v,λv=>bindName X.env x v] [u2,u1] >>= λ_=>pure Flow.next) _ _ _;show aa (ff (wpAny_bindName (zaG I3 hN hj (.inl hy) rw' (λs2 I4=>?_) (.inr hy))));show ff (wpAny_bindName (zaG I4 hN hi (.inl hx) rv (λs3 I5=>assignInOrder_nil (ae ?_)) (.inr hx)));rw[List.set_comm _ _ (Ne.symm hij)] at I5;exact⟨_,H1,I5,q1⟩
def tAug (i:Nat)(te:TE)(ti:TIp):TS:=λD σ H=>∃x,σ[i]?=some (some x)/\te σ H λy H1=>ti x y H1 λz H2=>D.nx (σ.set i (some z)) H2
def zrg(Z:X.N.Nodup)(hi:X.N[i]?=some x)(O:Loc X.env.scope x)(he:PE X e te)(ho:PIp X J ti)(hf:X.fn x=true\/X.env.scope.names.lookup x=some .local:=by walk_at "l") :
  PS X (.AugAssign (.Name x pos') J e pos) (tAug i te ti):=by
 intro pins s σ H D I h;obtain⟨v,e1,h⟩:=h;obtain⟨m,hn,hl⟩:=I.loc;have U:Vis X.env.scope x:=by rcases O with k | k;exact .inl k;exact .inr (.inl k)
 obtain⟨u,r,l⟩:=hl i x v hi e1 U;show wpAny_AugAssign_Name ?_;have Y:Af X (eval e X.env) (λw B=>Af X (inplaceOp J u w) (λr F=>Af X (storeName X.env x r) (λ_=>SP X pins D .next) X.xe F) X.xe B) X.xe s:=by show thn (he pins s σ H _ I h)  ?_;rintro w s1 ⟨y,H1,I1,r1,q1⟩;show thn (ho pins s1 σ H1 v y u w _ I1 r r1 q1)  ?_;rintro z s2 ⟨zv,H2,I2,r2,q2⟩;exact zaG I2 Z hi O r2 (λs3 I3=>⟨_,H2,I3,q2⟩) hf
 rcases l with ⟨q,hm⟩ | ⟨q,c,hc,hcell⟩;exact wpAny_loadName_local I.ok.kind q hn hm Y;rcases q with q | q;exact wpAny_loadName_cell I.ok.kind q hc hcell Y;rcases O with k | k;have:X.env.scope.names.lookup x=some .free:=q;right;have:X.env.scope.names.lookup x=some .free:=q;right
def ipI (f:Int->Int->Int):TIp:=λx y H Q=>∃i j,x = .int i/\y = .int j/\Q (.int (f i j)) H
def zqn:PIp X .Add (ipI λi j=>i+j):=by intro pins s σ H x y v u Q I B F h;obtain⟨i,j,J,O,q⟩:=h;subst J;subst O;obtain⟨t,rfl⟩:=B;obtain⟨t',rfl⟩:=F;exact iadd_int ⟨.int _,H,I.tok _,⟨_,rfl⟩,q⟩
def zr7 (c:TT)(tb:TS):TS:=λD σ H=>∃W:Nat->St->Hp->Prop,(∃m,W m σ H)/\∀m σ H,W m σ H->
 c σ H λb H1=>if b=true then ∃N:St->Hp->Prop,(∀ q H',N q H'->∃B,B<m/\W B q H')/\tb { D with nx:=N,ct:=N,bk:=D.nx } σ H1 else D.nx σ H1
def zlG(hp:PassesOwn (model X.prog X.w) X.A X.env X.xe)(hc:PT X c tc)(hb:PSs X body tb):PS X (.While c body [] pos) (zr7 tc tb):=by
 intro pins s σ H D I h;obtain⟨W,⟨m0,w0⟩,F⟩:=h;show wpAny_While (codeAny_whileLoop (λn s'=>∃ J H',Inv X pins J H' s'/\W n J H') ?_ m0 ⟨σ,H,I,w0⟩);rintro n s1 ⟨B,H1,I1,w1⟩;show cT hp (thn (hc pins s1 B H1 _ I1 (F n B H1 w1))  ?_);rintro b s2 ⟨H2,I2,O⟩
 cases b with
 | true=>
  obtain⟨N,hN,O⟩:=O;rw[if_pos rfl];show cT hp (thn (hb pins s2 B H2 _ I2 O) λf s3 U=>?_)
  cases f with
  | next=>
   obtain⟨q,H3,I3,Y⟩:=U;obtain⟨Z,hm,w3⟩:=hN q H3 Y;exact⟨Z,hm,q,H3,I3,w3⟩
  | cont=>
   obtain⟨q,H3,I3,Y⟩:=U;obtain⟨Z,hm,w3⟩:=hN q H3 Y;exact⟨Z,hm,q,H3,I3,w3⟩
  | brk=>exact U
  | ret v=>exact U
 | false=>
  rw[if_neg av];exact eQ ⟨B,H2,I2,O⟩
end
structure It where
 go:Nat->Hp->Prop
 yld:Nat->Hp->V->Hp->Prop
 stop:Nat->Hp->Prop
def zfa (X:Cx)(pins:AB)(H:Hp)(b:Addr):Prop:=
 H b=none/\b≠X.env.locals/\b∉X.fs/\(b∈X.ex\/X.s₀.heap.objs.size<=b)/\(∀x c,X.env.cells.lookup x=some c->c≠b)/\∀p∈X.pn++pins,p.1≠b
def Inv.fpOk {X:Cx}{pins:AB}{σ:St}{H H':Hp}{s:AZ}{b:Addr}(I:Inv X pins σ H s)(B:s.heap.objs.size<=b)(hn:H' b=none):zfa X pins H' b:=by
 show⟨hn,eu (aY I.lt B),I.nofs B,.inr (aA I.sz B),λx c e z=>?_,λp F z=>?_⟩;obtain⟨v,q⟩:=I.cell x c e;exact absurd (aY q.lt (by rw[z];exact B)) (cB _);exact absurd (aY (ar (I.pin p F).1) (by rw[z];exact B)) (cB _)
structure Turn (P:Aa)(w:Ab)(K:AH)(tg:Expr)(J:It)(fp:AY)(it:Addr)(tn:Nat->Heap->Prop):Prop where
 mem:it∈fp
 obj:∀i h,tn i h->∀b∈fp,∃o,h.get? b=some o/\∀v,o.data≠.cell v
 keep:∀i h h',tn i h->(∀b∈fp,∀o,h.get? b=some o->h'.get? b=some o)->tn i h'
 item:∀ (X:Cx),X.prog=P->X.w=w->X.K=K->X.calm=true->∀ (i:Nat) (pins:AB) (s:AZ) (σ:St) (H:Hp) (E:AA),Inv X pins σ H s->(∀b∈fp,zfa X pins H b)->tn i s.heap->J.go i H->
  wpAny (model P w) X.A (pyNext (.ref it)) (λr s1=>∃u,r=some u/\
   wpAny (model P w) X.A (letOwnedTupleGo tg (.ref it) u) (λ_ s2=>∃x H',Inv X pins σ H' s2/\yc x u/\J.yld i H x H'/\tn (i+1) s2.heap/\∀b∈fp,H' b=none) E s1) E s
 done:∀ (X:Cx),X.prog=P->X.w=w->X.K=K->X.calm=true->∀ (i:Nat) (pins:AB) (s:AZ) (σ:St) (H:Hp) (E:AA),Inv X pins σ H s->(∀b∈fp,zfa X pins H b)->tn i s.heap->J.stop i H->
  wpAny (model P w) X.A (pyNext (.ref it)) (λr s1=>r=none/\Inv X pins σ H s1) E s
 self:∀ (A:Ae) (i:Nat) (s:AZ) (Q:AA) (E:AA),tn i s.heap->Q (.ref it) s->wpAny (model P w) A (pyIter (.ref it)) Q E s
abbrev TI:=St->Hp->(It->Hp->Prop)->Prop
def PIE (X:Cx)(pins:AB)(σ:St)(tg:Expr)(R:It->Hp->Prop)(q:Value)(B:AZ):Prop:=
 ∃ (F:Addr) (I:AY) (O:Nat->Heap->Prop) (J:It) (H':Hp),q = .ref F/\Inv X pins σ H' B/\Turn X.prog X.w X.K tg J I F O/\O 0 B.heap/\(∀b∈I,zfa X pins H' b)/\R J H'
def PI (X:Cx)(tg iter:Expr)(wi:TI):Prop:=
 ∀ (pins:AB) (s:AZ) (σ:St) (H:Hp) (R:It->Hp->Prop),Inv X pins σ H s->wi σ H R->
  Af X (eval iter X.env) (λv q=>Af X (pyIter v) (PIE X pins σ tg R) X.xe q) X.xe s
def znC(F:s.heap.get? B=some o)(I:o.cls = .type n)(J:o.data = .fields vs)(hn:["enumerate","zip","dict_itemiterator","dict_reverseitemiterator","odict_iterator","itertools.zip_longest","itertools.pairwise"].contains n=false)(q:Q () s):wpAny M A (letOwnedTupleGo tg (.ref B) u) Q E s:=by
 unfold letOwnedTupleGo
 cases tg <;> first
  | exact ae q
  | (cases u <;> first
    | exact ae q
    | (show aa (wpAny_load F ?_)
       rw[I,J];change wpAny M A (if (["enumerate","zip","dict_itemiterator","dict_reverseitemiterator","odict_iterator","itertools.zip_longest","itertools.pairwise"].contains n&&vs[0]?==some (rawInt _))=true then _ else _) Q E s;rw[if_neg (by lia)];exact ae q))
def Itl (K:AH)(a:Addr):It:=
 ⟨λi H=>∃xs x,SqL K H a xs/\xs[i]?=some x,λi H x H'=>H'=H/\∀xs,SqL K H a xs->xs[i]?=some x,λi H=>∃xs,SqL K H a xs/\xs.length<=i⟩
def Itt (K:AH)(a:Addr):It:=
 ⟨λi H=>∃xs x,SqT K H a xs/\xs[i]?=some x,λi H x H'=>H'=H/\∀xs,SqT K H a xs->xs[i]?=some x,λi H=>∃xs,SqT K H a xs/\xs.length<=i⟩
def Itr (lo:Int)(n:Nat):It:=⟨λi _=>i<n,λi H x H'=>H'=H/\x = .int (lo+i),λi _=>n<=i⟩
def zki{P:Aa}{w:Ab}{K:AH}(a q:Addr):Turn P w K tg (Itl K a) [q] q (λi h=>h.IsListIter q a i) where
 mem:=by simp
 obj:=λi h st b B=>by
  have e:b=q:=by simpa using B
  subst e;obtain⟨o,e,c,d⟩:=st;right
 keep:=λi h h' st k=>st.at λo e=>k q (by simp) o e
 item:=by intro X U Y Z hc i pins s σ H E I J st hg;subst U Y Z;obtain⟨xs,x,O,hx⟩:=hg;obtain⟨ac,rv,p,hz⟩:=I.list O;obtain⟨u,hu,ru⟩:=rv.get hx;obtain⟨f0,f1,f2,f3,f4,f5⟩:=J q (by simp);show wpAny_pyNext_list_item st p.isList (x:=u) (by simpa using hu) λh' F sb=>?_;have I1:Inv X pins σ H { s with heap:=h' }:=I.turned (t':=s.toks) (λb o B e=>(sb.2 b B).trans e) f0 f1 f3 f4 f5;obtain⟨o,e,c,d⟩:=id F;exact⟨u,rfl,znC (s:={ s with heap:=h' }) e c d (by ext) ⟨x,H,I1,ru,⟨rfl,λys hy=>by rw[I.list_inj hy O];exact hx⟩,F,λb B=>(J b B).1⟩⟩
 done:=by intro X U Y Z hc i pins s σ H E I J st hg;subst U Y Z;obtain⟨xs,O,hx⟩:=hg;obtain⟨ac,rv,p,hz⟩:=I.list O;obtain⟨f0,f1,f2,f3,f4,f5⟩:=J q (by simp);have hl:=rv.length;exact wpAny_pyNext_list_end (I.ok.hd hc) st p.isList (by simp;lia) λh' eb=>⟨rfl,I.turned (t':=s.toks) (λb o B e=>eb b o B e) f0 f1 f3 f4 f5⟩
 self:=λ_ _ _ _ _ st h=>wpAny_pyIter_listiter st h
def zhM{P:Aa}{w:Ab}{K:AH}(a q:Addr):Turn P w K tg (Itt K a) [q] q (λi h=>h.IsTupleIter q a i) where
 mem:=by simp
 obj:=λi h st b B=>by
  have e:b=q:=by simpa using B
  subst e;obtain⟨o,e,c,d⟩:=st;right
 keep:=λi h h' st k=>st.at λo e=>k q (by simp) o e
 item:=by intro X Y Z hK hc i pins s σ H E I O st hg;subst Y Z hK;obtain⟨xs,x,U,hx⟩:=hg;obtain⟨F,rv,p,hz⟩:=I.tuple U;obtain⟨u,hu,ru⟩:=rv.get hx;obtain⟨f0,f1,f2,f3,f4,f5⟩:=O q (by simp);show wpAny_pyNext_tuple_item st (show s.heap.IsTuple a F.toArray from p) (x:=u) (by simpa using hu) λh' J sb=>?_;have I1:Inv X pins σ H { s with heap:=h' }:=I.turned (t':=s.toks) (λb o B e=>(sb.2 b B).trans e) f0 f1 f3 f4 f5;obtain⟨o,e,c,d⟩:=id J;exact⟨u,rfl,znC (s:={ s with heap:=h' }) e c d (by ext) ⟨x,H,I1,ru,⟨rfl,λys hy=>by rw[I.tuple_inj hy U];exact hx⟩,J,λb B=>(O b B).1⟩⟩
 done:=by intro X Y Z hK hc i pins s σ H E I O st hg;subst Y Z hK;obtain⟨xs,U,hx⟩:=hg;obtain⟨F,rv,p,hz⟩:=I.tuple U;obtain⟨f0,f1,f2,f3,f4,f5⟩:=O q (by simp);have hl:=rv.length;exact wpAny_pyNext_tuple_end (I.ok.hd hc) st (show s.heap.IsTuple a F.toArray from p) (by simp;lia) λh' eb=>⟨rfl,I.turned (t':=s.toks) (λb o B e=>eb b o B e) f0 f1 f3 f4 f5⟩
 self:=λ_ _ _ _ _ st h=>wpAny_pyIter_tupleiter st h
def zhL{P:Aa}{w:Ab}{K:AH}(q:Addr)(lo:Int)(n:Nat):Turn P w K tg (Itr lo n) [q] q (λi h=>IsRangeIter h q (lo+(i:Nat) * 1) ((n:Int) - (i:Nat)) 1) where
 mem:=by simp
 obj:=λi h st b B=>by right
 keep:=λi h h' st k=>k q (by simp) _ st
 item:=by intro X O U Y Z i pins s σ H E I J st hg;subst O U Y;obtain⟨f0,f1,f2,f3,f4,f5⟩:=J q (by simp);have W:=Walks.range (prog:=X.prog) (w:=X.w) (I.ok.hd Z) q lo 1 n;show W.item i s _ _ hg st λv h' tk hv F kk=>?_;obtain⟨t,rfl⟩:=hv;have I1:Inv X pins σ H { s with heap:=h',toks:=tk }:=I.turned (λb o B e=>kk b o (by simpa using B) e) f0 f1 f3 f4 f5;show⟨_,rfl,znC (s:={ s with heap:=h',toks:=tk }) (n := "range_iterator") F rfl rfl (by ext) ⟨.int (lo+i),H,I1,⟨t,?_⟩,⟨rfl,rfl⟩,F,λb B=>(J b B).1⟩⟩;rw[Int.mul_one]
 done:=by intro X O U Y Z i pins s σ H E I J st hg;subst O U Y;obtain⟨f0,f1,f2,f3,f4,f5⟩:=J q (by simp);exact wpAny_pyNext_range_end (I.ok.hd Z) st (by have:n<=i:=hg;lia) λh' eb=>⟨rfl,I.turned (t':=s.toks) (λb o B e=>eb b o B e) f0 f1 f3 f4 f5⟩
 self:=λ_ _ _ _ _ st h=>wpAny_pyIter_rangeiter st h
section
variable {X:Cx}{tg:Expr}
def znE (K:AH)(tl:TE):TI:=λσ H R=>tl σ H λx H1=>∃a,x = .ref a/\(∃xs,SqL K H1 a xs)/\R (Itl K a) H1
def ztj (K:AH)(tl:TE):TI:=λσ H R=>tl σ H λx H1=>∃a,x = .ref a/\(∃xs,SqT K H1 a xs)/\R (Itt K a) H1
def zow(F:PE X l tl):PI X tg l (znE X.K tl):=by
 intro pins s σ H R I h;show thn (F pins s σ H _ I h)  ?_;rintro v B ⟨x,H1,I1,J,O⟩;obtain⟨a,e,⟨xs,U⟩,q⟩:=O;subst e;cases J;obtain⟨Y,rv,p,hz⟩:=I1.list U;show wpAny_pyIter_list p.isList ?_;show⟨B.heap.objs.size,[B.heap.objs.size],_,_,H1,rfl,I1.kept (t':=B.toks) λb o e=>af _ e,zki a _,⟨_,aq _ rfl,rfl,rfl⟩,λb Z=>?_,q⟩;have e:b=B.heap.objs.size:=by simpa using Z
 subst e;exact I1.fpOk (ai _) (I1.hok.fresh (ai _))
def zre(J:PE X l tl):PI X tg l (ztj X.K tl):=by
 intro pins s σ H R I h;show thn (J pins s σ H _ I h)  ?_;rintro v B ⟨x,H1,I1,O,U⟩;obtain⟨a,e,⟨xs,Y⟩,q⟩:=U;subst e;cases O;obtain⟨F,rv,p,hz⟩:=I1.tuple Y;show fg (show B.heap.IsTuple a F.toArray from p) ?_;show⟨B.heap.objs.size,[B.heap.objs.size],_,_,H1,rfl,I1.kept (t':=B.toks) λb o e=>af _ e,zhM a _,⟨_,aq _ rfl,rfl,rfl⟩,λb Z=>?_,q⟩;have e:b=B.heap.objs.size:=by simpa using Z
 subst e;exact I1.fpOk (ai _) (I1.hok.fresh (ai _))
def zlP{pins:AB}{σ:St}{H:Hp}{s:AZ}{R:It->Hp->Prop}{E:AA}{lo hi:Int}{t u v:Tok}(I:Inv X pins σ H s)(h1:-(2 ^ 62)<=lo)(h2:lo<2 ^ 62)(B:-(2 ^ 62)<=hi)(F:hi<2 ^ 62)(q:R (Itr lo (hi - lo).toNat) H):Af X (pyIter (.ref s.heap.objs.size)) (PIE X pins σ tg R) E { s with heap:=s.heap.push { cls:=.type "range",data:=.fields #[.int lo t,.int hi u,.int 1 v] },toks:=tk }:=by
 show wpAny_pyIter_range (IsRange.new ..) (small_one h1 h2 B F) ?_;have I1:Inv X pins σ H { s with heap:=s.heap.push { cls:=.type "range",data:=.fields #[.int lo t,.int hi u,.int 1 v] },toks:=tk }:=I.kept λb o e=>af _ e
 show⟨(s.heap.push { cls:=.type "range",data:=.fields #[.int lo t,.int hi u,.int 1 v] }).objs.size,[(s.heap.push { cls:=.type "range",data:=.fields #[.int lo t,.int hi u,.int 1 v] }).objs.size],_,_,H,rfl,
  I1.kept (t':=tk) λb o e=>af _ e,zhL _ lo (hi - lo).toNat,?_,λb J=>?_,q⟩
 ·have O:lo+((0:Nat):Int) * 1=lo:=by simp
  have U:(((hi - lo).toNat:Nat):Int) - ((0:Nat):Int)=Builtin.Range.rangeSize lo hi 1:=by rw[rangeSize_one];split <;> lia
  change IsRangeIter _ _ (lo+((0:Nat):Int) * 1) ((((hi - lo).toNat:Nat):Int) - ((0:Nat):Int)) 1;rw[O,U];exact aq _ rfl
 have e:b=(s.heap.push { cls:=.type "range",data:=.fields #[.int lo t,.int hi u,.int 1 v] }).objs.size:=by simpa using J
 subst e;exact I1.fpOk (ai _) (I1.hok.fresh (ai _))
def zqk (ta:TA):TI:=λσ H R=>ta σ H λvs H1=>∃j:Int,vs=[.int j]/\-(2 ^ 62)<=j/\j<2 ^ 62/\R (Itr 0 j.toNat) H1
def zjD(F:Gl X "range")(J:X.mg "range" = none)(O:PA X [a] ta)(hs:starEach [a] X.env=[(false,eval a X.env)]:=by rfl):PI X tg (.Call (.Name "range" p) [a] [] pos) (zqk ta):=by
 intro pins s σ H R I h;show Call_ (zcL I F J boot_range (cH (thn (O pos pins s σ H _ I h) λus Z ⟨vs,H1,I1,U,B⟩=>?_) hs rfl));obtain⟨j,e,B,Y,q⟩:=B;subst e
 cases U with
 | cons r rr=>
  cases rr;obtain⟨t,rfl⟩:=r;exact call_range_1 (zlP I1 (by lia) (by lia) B Y (by simpa using q))
def zul (wi:TI)(g:TG)(tb:TS):TS:=λD σ H=>wi σ H λJ H1=>∃W:Nat->Nat->St->Hp->Prop,(∃m,W 0 m σ H1)/\∀i m σ H,W i m σ H->
 (J.stop i H/\D.nx σ H)\/(J.go i H/\∃N:St->Hp->Prop,(∀ q H',N q H'->∃F,F<m/\W (i+1) F q H')/\∀x H',J.yld i H x H'->g x σ H' λB H2=>tb { D with nx:=N,ct:=N,bk:=D.nx } B H2)
def zeP (q:AY)(h:Heap):AB:=q.filterMap λb=>(h.get? b).map λo=>(b,o)
def zaS(B:b∈q)(e:h.get? b=some o):(b,o)∈zeP q h:=di.mpr ⟨b,B,by rw[e];rfl⟩
def zjr(F:p∈zeP B h):p.1∈B/\h.get? p.1=some p.2:=by
 obtain⟨b,I,e⟩:=di.mp F
 cases q:h.get? b with
 | none=>rw[q] at e;cases e
 | some o=>
  grind
def Inv.pinned {pins:AB}{σ:St}{H:Hp}{s:AZ}{q:AY}(I:Inv X pins σ H s)(F:∀b∈q,zfa X pins H b)(J:∀b∈q,∃o,s.heap.get? b=some o/\∀v,o.data≠.cell v):Inv X (pins++zeP q s.heap) σ H s:=
 I.pins_of λp O=>(au.mp O).elim (λz=>I.pin p (aE _ z)) λz=>by
  obtain⟨B,e⟩:=zjr z;obtain⟨U,Y,Z,_⟩:=F p.1 B;obtain⟨o,e',d⟩:=J p.1 B;right
def Inv.unpinned{pins pl:AB}{σ:St}{H:Hp}(I:Inv X (pins++pl) σ H s):Inv X pins σ H s:=I.pins_of λp q=>I.pin p (aE _ (aQ _ q))
def zrh(hp:PassesOwn (model X.prog X.w) X.A X.env X.xe)(hc:X.calm=true)(hi:PI X tg iter wi)(hg:PG X tg g)(B:PSs X body tb)(hs:∀x,foldedSetIterable iter X.env x=pure x:=by intro _;rfl):PS X (.For tg iter body [] pos) (zul wi g tb):=by
 intro pins s σ H D I h;show wpAny_For (thn (hi pins s σ H _ I h) λv s1 h1=>thn h1 λa0 s2 h2=>?_) hs;obtain⟨it,fp,tn,J,H2,e,I2,T,an,f2,W,⟨m0,w0⟩,ad⟩:=h2;subst e;have F:∀ {H':Hp},(∀b∈fp,H' b=none)->∀b∈fp,zfa X pins H' b:=λhn b B=>⟨hn b B,(f2 b B).2⟩;show codeAny_forLoop_any (λn s'=>∃i O H',Inv X pins O H' s'/\tn i s'.heap/\(∀b∈fp,H' b=none)/\W i n O H') ?_ m0 ⟨0,σ,H2,I2,an,λb B=>(f2 b B).1,w0⟩;rintro n s3 ⟨i,U,H3,I3,ag,al,w3⟩;rcases ad i n U H3 w3 with ⟨stop,qn⟩ | ⟨go,N,hN,step⟩
 ·show cT hp (thn (T.done X rfl rfl rfl hc i pins s3 U H3 X.xe I3 (F al) ag stop)  ?_);rintro r s4 ⟨hr,I4⟩;subst hr;exact eQ ⟨U,H3,I4,qn⟩
 ·show cT hp (thn (T.item X rfl rfl rfl hc i pins s3 U H3 X.xe I3 (F al) ag go)  ?_);rintro r s4 ⟨u,hr,h4⟩;subst hr;show cT hp (thn h4  ?_);rintro _ s5 ⟨x,H5,I5,r5,y5,ac,ap⟩;have I5':=I5.pinned (F ap) (T.obj _ _ ac);show cT hp (thn (hg _ s5 U H5 x u _ I5' r5 (step x H5 y5))  ?_);rintro _ s6 ⟨as,H6,I6,q6⟩;show cT hp (thn (B _ s6 as H6 _ I6 q6) λf s7 Z=>?_);have Y:∀ {q:St} {H7:Hp},Inv X (pins++zeP fp s5.heap) q H7 s7->N q H7->∃m,m<n/\∃i O H',Inv X pins O H' s7/\tn i s7.heap/\(∀b∈fp,H' b=none)/\W i m O H':=λ{q H7} I7 n7=>by obtain⟨m',hm,w7⟩:=hN q H7 n7;show⟨m',hm,i+1,q,H7,I7.unpinned,T.keep _ _ _ ac λb B o e=>(I7.pin (b,o) (aE _ (aE _ (zaS B e)))).1,λb B=>?_,w7⟩;obtain⟨o,e,d⟩:=T.obj _ _ ac b B;exact (I7.pin (b,o) (aE _ (aE _ (zaS B e)))).2.1
  cases f with
  | next=>obtain⟨q,H7,I7,n7⟩:=Z;exact Y I7 n7
  | cont=>obtain⟨q,H7,I7,n7⟩:=Z;exact Y I7 n7
  | brk=>obtain⟨q,H7,I7,Z⟩:=Z;exact⟨q,H7,I7.unpinned,Z⟩
  | ret v=>obtain⟨x7,q,H7,I7,r7,Z⟩:=Z;exact⟨x7,q,H7,I7.unpinned,r7,Z⟩
end
def zny {K:AH}{a:Addr}{xs:AT}{g:TG}{tb:TS}{D:Ends}{σ:St}{H:Hp}(Pv:Nat->St->Hp->Prop)(O:Pv 0 σ H)(U:∀i σ H,i<=xs.length->Pv i σ H->SqT K H a xs)
  (hs:∀i x σ H,xs[i]?=some x->Pv i σ H->g x σ H λB H2=>tb { D with nx:=Pv (i+1),ct:=Pv (i+1),bk:=D.nx } B H2) (Y:∀ σ H,Pv xs.length σ H->D.nx σ H) :
  ∃W:Nat->Nat->St->Hp->Prop,(∃m,W 0 m σ H)/\∀i m σ H,W i m σ H->
   ((Itt K a).stop i H/\D.nx σ H)\/((Itt K a).go i H/\∃N:St->Hp->Prop,(∀ F H',N F H'->∃J,J<m/\W (i+1) J F H')/\∀x H',(Itt K a).yld i H x H'->g x σ H' λB H2=>tb { D with nx:=N,ct:=N,bk:=D.nx } B H2):=by
 show⟨λi m σ H=>m=xs.length - i/\i<=xs.length/\Pv i σ H,⟨xs.length,by simp,aK _,O⟩,?_⟩;rintro i m σ H ⟨rfl,hi,p⟩;have q:=U i σ H hi p;by_cases I:i<xs.length;show .inr ⟨⟨xs,xs[i],q,by simp[I]⟩,Pv (i+1),λF H' Z=>⟨xs.length - (i+1),by lia,rfl,I,Z⟩,λx H' y=>?_⟩;obtain⟨e,y⟩:=y;subst e;exact hs i x σ _ (y xs q) p;have e:i=xs.length:=by lia
 subst e;exact .inl ⟨⟨xs,q,ai _⟩,Y σ H p⟩
abbrev R2:=V->V->Hp->VK->Prop
def OpR (X:Cx)(f:Value->Value->Sem Value)(r:R2):Prop:=
 ∀ (pins:AB) (s:AZ) (σ:St) (H:Hp) (x y:V) (v u:Value) (Q:VK),Inv X pins σ H s->yc x v->yc y u->r x y H Q->
  Af X (f v u) (EP X pins σ Q) X.xe s
def UnR (X:Cx)(f:Value->Sem Value)(r:V->Hp->VK->Prop):Prop:=
 ∀ (pins:AB) (s:AZ) (σ:St) (H:Hp) (x:V) (v:Value) (Q:VK),Inv X pins σ H s->yc x v->r x H Q->
  Af X (f v) (EP X pins σ Q) X.xe s
def zc3 (X:Cx)(f:Value)(r:AT->Hp->VK->Prop):Prop:=
 ∀ (pins:AB) (s:AZ) (σ:St) (H:Hp) (xs:AT) (us:AN) (Q:VK),Inv X pins σ H s->zM xs us->r xs H Q->
  Af X (call f us) (EP X pins σ Q) X.xe s
def tOp (r:R2)(ta tb:TE):TE:=λσ H Q=>ta σ H λx H1=>tb σ H1 λy H2=>r x y H2 Q
def tUn (r:V->Hp->VK->Prop)(ta:TE):TE:=λσ H Q=>ta σ H λx H1=>r x H1 Q
def rI (C:Int->Int->Prop)(g:Int->Int->V):R2:=λx y H Q=>∃i j,x = .int i/\y = .int j/\C i j/\Q (g i j) H
def rI0 (g:Int->Int->V):R2:=λx y H Q=>∃i j,x = .int i/\y = .int j/\Q (g i j) H
def rU (g:Int->V):V->Hp->VK->Prop:=λx H Q=>∃i,x = .int i/\Q (g i) H
section
variable {X:Cx}{a b c:Expr}{ta tb tc:TE}{pos:Pos}
def zsV(J:PE X a ta)(O:PE X b tb){pins:AB}{σ:St}{H:Hp}{R:V->V->Hp->Prop}(I:Inv X pins σ H s)(h:ta σ H λx H1=>tb σ H1 λy H2=>R x y H2){Q:AA}{f:Value->Value->Sem Value}(U:∀v u F x y H2,Inv X pins σ H2 F->yc x v->yc y u->R x y H2->Af X (f v u) Q X.xe F) :
  Af X (eval a X.env) (λv q=>Af X (eval b X.env) (λu B=>Af X (f v u) Q X.xe B) X.xe q) X.xe s:=by
 show thn (J pins s σ H _ I h)  ?_;rintro v Y ⟨x,H1,I1,Z,q1⟩;show thn (O pins Y σ H1 _ I1 q1)  ?_;rintro u F ⟨y,H2,I2,r2,q2⟩;exact U v u F x y H2 I2 Z r2 q2
def zt4(F:OpR X (binaryOp B) r)(J:PE X a ta)(O:PE X b tb):PE X (.BinOp a B b pos) (tOp r ta tb):=by intro pins s σ H Q I h;exact wpAny_BinOp (zsV J O I h λv u U x y H2 I2 Y Z q=>F pins U σ H2 x y v u Q I2 Y Z q)
def zt5(B:UnR X (unaryOp q) r)(F:PE X a ta):PE X (.UnaryOp q a pos) (tUn r ta):=by intro pins s σ H Q I h;exact UnaryOp_ (thn (F pins s σ H _ I h) <| by rintro v J ⟨x,H1,I1,O,U⟩;exact B pins J σ H1 x v Q I1 O U)
def opI{C:Int->Int->Prop}{g:Int->Int->Int}(B:∀ (i j:Int) (t u:Tok) (s:AZ) (Q:AA) (E:AA),C i j->Q (.int (g i j) s.toks) { s with toks:=s.toks+1 }->Af X (f (.int i t) (.int j u)) Q E s) :
  OpR X f (rI C λi j=>.int (g i j)):=by
 intro pins s σ H x y v u Q I F J h;obtain⟨i,j,rfl,rfl,O,q⟩:=h;obtain⟨t,rfl⟩:=F;obtain⟨t',rfl⟩:=J;exact B i j t t' s _ _ O ⟨.int (g i j),H,I.tok _,⟨_,rfl⟩,q⟩
def opI0{g:Int->Int->Int}(B:∀ (i j:Int) (t u:Tok) (s:AZ) (Q:AA) (E:AA),Q (.int (g i j) s.toks) { s with toks:=s.toks+1 }->Af X (f (.int i t) (.int j u)) Q E s) :
  OpR X f (rI0 λi j=>.int (g i j)):=by
 intro pins s σ H x y v u Q I F J h;obtain⟨i,j,rfl,rfl,q⟩:=h;obtain⟨t,rfl⟩:=F;obtain⟨t',rfl⟩:=J;exact B i j t t' s _ _ ⟨.int (g i j),H,I.tok _,⟨_,rfl⟩,q⟩
def zsH{g:Int->Int->Bool}(B:∀ (i j:Int) (t u:Tok) (s:AZ) (Q:AA) (E:AA),Q (.bool (g i j)) s->Af X (f (.int i t) (.int j u)) Q E s) :
  OpR X f (rI0 λi j=>.bl (g i j)):=by
 intro pins s σ H x y v u Q I F J h;obtain⟨i,j,rfl,rfl,q⟩:=h;obtain⟨t,rfl⟩:=F;obtain⟨t',rfl⟩:=J;exact B i j t t' s _ _ ⟨.bl (g i j),H,I,rfl,q⟩
def zpI (i j:Int):Prop:=0<j/\j<1073741824
def CPow (i j:Int):Prop:=0<=j/\j<=1000000/\i.natAbs<2 ^ 64
def zmi (i j:Int):Prop:=(-(2 ^ 64)<i/\i<2 ^ 64)\/(-(2 ^ 64)<j/\j<2 ^ 64)
def zmi.ok {i j:Int}(h:zmi i j):IntMulOk i j:=by
 rcases h with ⟨h1,h2⟩ | ⟨h1,h2⟩;exact .of_left (intBits_le_64 h1 h2);exact .of_right (intBits_le_64 h1 h2)
def zqP:OpR X (binaryOp .Add) (rI0 λi j=>.int (i+j)):=opI0 λ_ _ _ _ _ _ _ q=>add_int q
def zqW:OpR X (binaryOp .Sub) (rI0 λi j=>.int (i - j)):=opI0 λ_ _ _ _ _ _ _ q=>sub_int q
def zqT:OpR X (binaryOp .Mult) (rI zmi λi j=>.int (i * j)):=opI λ_ _ _ _ _ _ _ B q=>mul_int q B.ok
def zof:OpR X (binaryOp .FloorDiv) (rI zpI λi j=>.int (i / j)):=opI λi j _ _ _ _ _ B q=>by have h1:(0:Int)<j:=B.1;have h2:j<1073741824:=B.2;exact floordiv_int (by lia) (by rw[Int.fdiv_eq_ediv_of_nonneg i (by lia)];exact q) (.inl (PyProof.noPylong_small (by lia)))
def zqS:OpR X (binaryOp .Mod) (rI (λ_ j=>0<j) λi j=>.int (i % j)):=opI λi j _ _ _ _ _ B q=>by have h1:(0:Int)<j:=B;exact mod_int' (by lia) (by rw[Int.fmod_eq_emod_of_nonneg i (by lia)];exact q)
def zqV:OpR X (binaryOp .Pow) (rI CPow λi j=>.int (i ^ j.toNat)):=opI λ_ _ _ _ _ _ _ B q=>pow_int_small B.1 B.2.1 B.2.2 q
def unI{g:Int->Int}(B:∀ (i:Int) (t:Tok) (s:AZ) (Q:AA) (E:AA),Q (.int (g i) s.toks) { s with toks:=s.toks+1 }->Af X (f (.int i t)) Q E s) :
  UnR X f (rU λi=>.int (g i)):=by
 intro pins s σ H x v Q I F h;obtain⟨i,rfl,q⟩:=h;obtain⟨t,rfl⟩:=F;exact B i t s _ _ ⟨.int (g i),H,I.tok _,⟨_,rfl⟩,q⟩
def zsf:UnR X (unaryOp .USub) (rU λi=>.int (-i)):=unI λ_ _ _ _ _ q=>neg_int q
end
def zuh:V->V->Bool
 | .non,.non=>true | .non,.int _=>true | .int _,.non=>true | .non,.bl _=>true | .bl _,.non=>true | .non,.str _=>true | .str _,.non=>true
 | .int _,.int _=>true | .bl _,.bl _=>true | .str _,.str _=>true | .byt _,.byt _=>true
 | .int _,.str _=>true | .str _,.int _=>true | .bl _,.str _=>true | .str _,.bl _=>true
 | _,_=>false
def rEq:R2:=λx y H Q=>zuh x y=true/\Q (.bl (decide (x=y))) H
def rNe:R2:=λx y H Q=>zuh x y=true/\Q (.bl (!decide (x=y))) H
def zik {i j:Int}:decide (V.int i=V.int j)=(i==j):=by rw[dj];simp
def zmq:decide (V.bl i=V.bl j)=(i==j):=by rw[dj];simp
def zil:decide (V.str i=V.str j)=(i==j):=by rw[dj];simp
def zij:decide (V.byt i=V.byt j)=(i.toList==j.toList):=by
 rw[dj];right
section
variable {X:Cx}{a b c:Expr}{ta tb tc:TE}{pos:Pos}
def zT{pins:AB}{σ:St}{H:Hp}{Q:VK}(I:Inv X pins σ H s)(q:Q (.bl k) H)(e:k=B):EP X pins σ Q (.bool B) s:=by subst e;exact⟨.bl k,H,I,rfl,q⟩
def ztV:OpR X (compareOp .Eq) rEq:=by
 intro pins s σ H x y v u Q I F B h;obtain⟨hs,q⟩:=h
 cases x with
 | non=>
  cases F
  cases y with
  | non=>cases B;exact PySem.EqNone.eq_none_none (zT I q (by simp))
  | bl j=>cases B;exact PySem.EqNone.eq_none_bool (zT I q (by simp))
  | int j=>obtain⟨t',rfl⟩:=B;exact PySem.EqNone.eq_none_int (zT I q (by simp))
  | str j=>obtain⟨t',rfl⟩:=B;exact PySem.EqNone.eq_none_str (zT I q (by simp))
  | _=>exact absurd (show false=true from hs) av
 | bl i=>
  cases F
  cases y with
  | non=>cases B;exact PySem.EqNone.eq_bool_none (zT I q (by simp))
  | bl j=>cases B;exact eq_bool (zT I q zmq)
  | str j=>obtain⟨t',rfl⟩:=B;exact PySem.EqMixed.eq_bool_str (zT I q (by simp))
  | _=>exact absurd (show false=true from hs) av
 | int i=>
  obtain⟨t,rfl⟩:=F
  cases y with
  | non=>cases B;exact PySem.EqNone.eq_int_none (zT I q (by simp))
  | int j=>obtain⟨t',rfl⟩:=B;exact eq_int (zT I q zik)
  | str j=>obtain⟨t',rfl⟩:=B;exact PySem.EqMixed.eq_int_str (zT I q (by simp))
  | _=>exact absurd (show false=true from hs) av
 | str i=>
  obtain⟨t,rfl⟩:=F
  cases y with
  | non=>cases B;exact PySem.EqNone.eq_str_none (zT I q (by simp))
  | bl j=>cases B;exact PySem.EqMixed.eq_str_bool (zT I q (by simp))
  | int j=>obtain⟨t',rfl⟩:=B;exact PySem.EqMixed.eq_str_int (zT I q (by simp))
  | str j=>obtain⟨t',rfl⟩:=B;exact eq_str (zT I q zil)
  | _=>exact absurd (show false=true from hs) av
 | byt i=>
  obtain⟨t,rfl⟩:=F
  cases y with
  | byt j=>obtain⟨t',rfl⟩:=B;exact PySem.W.eq_bytes (zT I q zij)
  | _=>exact absurd (show false=true from hs) av
 | _=>cases y <;> exact absurd (show false=true from hs) av
def zt0:OpR X (compareOp .NotEq) rNe:=by
 intro pins s σ H x y v u Q I F B h;obtain⟨hs,q⟩:=h
 cases x with
 | non=>
  cases F
  cases y with
  | non=>cases B;exact PySem.EqNone.ne_none_none (zT I q (by simp))
  | bl j=>cases B;exact PySem.EqNone.ne_none_bool (zT I q (by simp))
  | int j=>obtain⟨t',rfl⟩:=B;exact PySem.EqNone.ne_none_int (zT I q (by simp))
  | str j=>obtain⟨t',rfl⟩:=B;exact PySem.EqNone.ne_none_str (zT I q (by simp))
  | _=>exact absurd (show false=true from hs) av
 | bl i=>
  cases F
  cases y with
  | non=>cases B;exact PySem.EqNone.ne_bool_none (zT I q (by simp))
  | bl j=>cases B;exact ne_bool (zT I q (congrArg not zmq))
  | str j=>obtain⟨t',rfl⟩:=B;exact PySem.EqMixed.ne_bool_str (zT I q (by simp))
  | _=>exact absurd (show false=true from hs) av
 | int i=>
  obtain⟨t,rfl⟩:=F
  cases y with
  | non=>cases B;exact PySem.EqNone.ne_int_none (zT I q (by simp))
  | int j=>obtain⟨t',rfl⟩:=B;exact ne_int (zT I q (congrArg not zik))
  | str j=>obtain⟨t',rfl⟩:=B;exact PySem.EqMixed.ne_int_str (zT I q (by simp))
  | _=>exact absurd (show false=true from hs) av
 | str i=>
  obtain⟨t,rfl⟩:=F
  cases y with
  | non=>cases B;exact PySem.EqNone.ne_str_none (zT I q (by simp))
  | bl j=>cases B;exact PySem.EqMixed.ne_str_bool (zT I q (by simp))
  | int j=>obtain⟨t',rfl⟩:=B;exact PySem.EqMixed.ne_str_int (zT I q (by simp))
  | str j=>obtain⟨t',rfl⟩:=B;exact ne_str (zT I q (congrArg not zil))
  | _=>exact absurd (show false=true from hs) av
 | byt i=>
  obtain⟨t,rfl⟩:=F
  cases y with
  | byt j=>obtain⟨t',rfl⟩:=B;exact PySem.W.ne_bytes (zT I q (congrArg not zij))
  | _=>exact absurd (show false=true from hs) av
 | _=>cases y <;> exact absurd (show false=true from hs) av
def ztZ:OpR X (compareOp .Lt) (rI0 λi j=>.bl (decide (i<j))):=zsH λ_ _ _ _ _ _ _ q=>lt_int q
def ztY:OpR X (compareOp .LtE) (rI0 λi j=>.bl (decide (i<=j))):=zsH λ_ _ _ _ _ _ _ q=>le_int q
def ztX:OpR X (compareOp .Gt) (rI0 λi j=>.bl (decide (j<i))):=zsH λ_ _ _ _ _ _ _ q=>gt_int q
def ztW:OpR X (compareOp .GtE) (rI0 λi j=>.bl (decide (j<=i))):=zsH λ_ _ _ _ _ _ _ q=>ge_int q
def zx(b:Expr)(h:q≠.In:=by ext)(h2:q≠.NotIn:=by ext):behindInMarks q b=false:=by
 have B:(q==CmpOp.In)=false:=by cases q <;> first | rfl | exact absurd rfl h
 have F:(q==CmpOp.NotIn)=false:=by cases q <;> first | rfl | exact absurd rfl h2
 cases b <;> simp[behindInMarks,B,F]
def zoj(F:OpR X (compareOp B) r)(J:PE X a ta)(O:PE X b tb)(U:behindInMarks B b=false):PE X (.Compare a [B] [b] pos) (tOp r ta tb):=by intro pins s σ H Q I h;exact wpAny_Compare1 (zsV J O I h λv u Y x y H2 I2 Z ry q=>F pins Y σ H2 x y v u Q I2 Z ry q) U
def zpq (t:TE):TT:=λσ H Q=>t σ H λx H'=>∃k,x = .bl k/\Q k H'
def zoC(B:OpR X (compareOp q) r)(F:PE X a ta)(J:PE X b tb)(O:behindInMarks q b=false):PT X (.Compare a [q] [b] pos) (zpq (tOp r ta tb)):=by
 intro pins s σ H Q I h
 show wpAny_isTrue_Compare1 (thn (F pins s σ H _ I h) λv U ⟨x,H1,I1,Y,Z⟩=>thn (J pins U σ H1 _ I1 Z) λu s2 ⟨y,H2,I2,r2,q2⟩=>
  thn (B pins s2 σ H2 x y v u _ I2 Y r2 q2) λc s3 ⟨z,H3,I3,r3,k,e,q3⟩=>?_) O
 subst e;cases r3;exact fJ ⟨H3,I3,q3⟩
def zgx:(sizeLine:Nat)<2 ^ 63:=by rw[b6];decide
def zaJ(r:zM [x] us):∃u,us=[u]/\yc x u:=by
 cases r with
 | cons q B=>cases B;exact⟨_,rfl,q⟩
def zuD(r:zM [x,y] us):∃u w',us=[u,w']/\yc x u/\yc y w':=by
 cases r with
 | cons q B=>
  cases B with
  | cons F I=>cases I;exact⟨_,_,rfl,q,F⟩
def zkG:zc3 X (.builtin "abs") (λxs H Q=>∃i,xs=[.int i]/\Q (.int (if i<0 then -i else i)) H):=by intro pins s σ H xs us Q I r h;obtain⟨i,rfl,q⟩:=h;obtain⟨u,rfl,t,rfl⟩:=zaJ r;exact call_abs_int λu tk=>⟨.int (if i<0 then -i else i),H,I.tok _,⟨_,rfl⟩,q⟩
def zh0:zc3 X (.type "int") (λxs H Q=>(∃i,xs=[.int i]/\Q (.int i) H)\/∃k,xs=[.bl k]/\Q (.int (if k then 1 else 0)) H):=by
 intro pins s σ H xs us Q I r h;rcases h with ⟨i,rfl,q⟩ | ⟨k,rfl,q⟩;obtain⟨u,rfl,t,rfl⟩:=zaJ r;exact call_int_int ⟨.int i,H,I,⟨_,rfl⟩,q⟩;obtain⟨u,rfl,B⟩:=zaJ r;cases B;exact call_int_bool ⟨.int (if k then 1 else 0),H,I.tok _,⟨_,rfl⟩,q⟩
def zss (K:AH)(x:V)(H:Hp)(n:Nat):Prop:=
 match x with
 | .str y=>y.length<=sizeLine/\n=y.length
 | .byt y=>y.size<=sizeLine/\n=y.size
 | .ref p=>(∃xs,SqL K H p xs/\n=xs.length)\/∃xs,SqT K H p xs/\n=xs.length
 | _=>False
def zkH:zc3 X (.builtin "len") (λxs H Q=>∃x n,xs=[x]/\zss X.K x H n/\Q (.int n) H):=by
 intro pins s σ H xs us Q I r h;obtain⟨x,n,rfl,e,q⟩:=h;obtain⟨u,rfl,rx⟩:=zaJ r;have hl:=zgx;have hs:sizeLine=16777216:=b6
 cases x with
 | str y=>
  obtain⟨t,rfl⟩:=rx;obtain⟨hy,e'⟩:y.length<=sizeLine/\n=y.length:=e;subst e';exact len_str (by lia) ⟨.int _,H,I.tok _,⟨_,rfl⟩,q⟩
 | byt y=>
  obtain⟨t,rfl⟩:=rx;obtain⟨hy,e'⟩:y.size<=sizeLine/\n=y.size:=e;subst e';exact PySem.W.len_bytes (by lia) ⟨.int _,H,I.tok _,⟨_,rfl⟩,q⟩
 | ref p=>
  cases rx;have e':(∃xs,SqL X.K H p xs/\n=xs.length)\/∃xs,SqT X.K H p xs/\n=xs.length:=e;rcases e' with ⟨xs,hx,e'⟩ | ⟨xs,hx,e'⟩;subst e';obtain⟨its,r',pl,hz⟩:=I.list hx;have hlen:=r'.length;exact Calls.call_len_list pl.isList (by simp only[aU];lia) ⟨.int xs.length,H,I.tok _,⟨_,by simp only[aU];rw[hlen]⟩,q⟩;subst e';obtain⟨its,r',pl,hz⟩:=I.tuple hx;have hlen:=r'.length;exact len_tuple pl (by simp only[aU];lia) ⟨.int xs.length,H,I.tok _,⟨_,by simp only[aU];rw[hlen]⟩,q⟩
 | _=>exact (show False from e).elim
end
structure ObjM (h:Heap)(x dx C:Addr)(mA:AI):Prop where
 obj:h.get? x=some (PySem.W.instObj C dx)
 ns:h.Ns1 dx mA
 ne:dx≠x
def zi6 {h:Heap}{dx:Addr}{mA:AI}(n:h.Ns1 dx mA):∃F,h.get? dx=some F/\∀name,PySem.W.lookIn name F=some (mA name):=by
 obtain⟨o,es,Z,I,J,O,_,U⟩:=n;show⟨o,I,λname=>?_⟩;have e:=U name;unfold nsFind findBy at e;rw[<- Array.find?_toList] at e;unfold PySem.W.lookIn;rw[J];dsimp only;split;right
 ·rename_i q;rw[q] at e
  have a:es.toList.any (·.refKey)=false:=by rw[List.any_eq_false];intro y Y;obtain⟨z,t,B⟩:=O y (bR.mp Y);simp[DictEntry.refKey,B]
  grind
def ObjM.look(I:ObjM h x dx C mA):∃q,PySem.W.InstAt h x (PySem.W.instObj C dx) C (some q)/\∀name,PySem.W.lookIn name q=some (mA name):=
 let ⟨q,ho,hl⟩:=zi6 I.ns
 ⟨q,⟨I.obj,rfl,rfl,ho⟩,hl⟩
section
variable {prog:Aa}{w:Ab}{A:Ae}{E:AA}{s:AZ}{K:AH}{x dx C f:Addr}{mA:AI}{name:Str}{v:Value}
def znz(X:K.In s.heap)(I:ObjM s.heap x dx C mA)(F:PySem.W.plainGet K C name=true)(O:PySem.W.hasDictIn K C=true)(U:PySem.W.findIn K (.ref C) name=some none)(Y:mA name=some v)(B:PySem.W.handedIn v=true)(h:Q v { s with toks:=s.toks+1 }) :
  Ag prog w A (getAttr (.ref x) name q) Q E s:=by
 obtain⟨od,J,Z⟩:=I.look;exact PySem.W.get_value X J (eR F).1 (PySem.W.findObj_own O U rfl (by rw[Z,Y])) B h
def zk4(X:K.In s.heap)(I:ObjM s.heap x dx C mA)(q:PySem.W.plainGet K C name=true)(B:PySem.W.findIn K (.ref C) name=some (some (.ref f)))(F:PySem.W.isFn K (.ref f)=true)(O:mA name=none)(h:Q (.ref f,[.ref x]) s) :
  Ag prog w A (getMethod (.ref x) name pl) Q E s:=by
 obtain⟨U,J,Y⟩:=I.look;exact PySem.W.method_fn X J (eR q).1 (eR q).2 B (beq_iff_eq.mp F) (by change (PySem.W.lookIn name U).map (·.isSome)=some false;rw[Y,O];rfl) h
def zpb(X:K.In s.heap)(I:ObjM s.heap x dx C mA)(hs:PySem.W.findIn K (.ref C) "__setattr__" = some (some (.builtin "object.__setattr__")))(Z:PySem.W.plainOver K C=true)(ht:PySem.W.takerIn K C name=some none)(hh:PySem.W.hasDictIn K C=true)(hw:PySem.Within mA ns)(hsz:ns.length<=sizeLine)(h:∀h',ObjM h' x dx C (λy=>if y=name then some v else mA y)->Heap.SameBut dx s.heap h'->Q () { s with heap:=h',toks:=s.toks+2 }) :
  Ag prog w A (setAttr (.ref x) name v) Q E s:=by
 obtain⟨od,J,hl⟩:=I.look;show PySem.W.set_plain X J hs (PySem.W.osa_open (s:={ s with toks:=s.toks+1 }) (r:=none) X J Z ht λb=>?_);obtain⟨cd,hc,F⟩:=PySem.W.any_some hh;have hx:s.heap.get? x=some ⟨.ref C,some dx,.plain,#[]⟩:=I.obj;show aa (ae (aa (aa (wpAny_loadPart hx (aa (PySem.W.Looks.here (s:={ s with toks:=s.toks+1 }) (PySem.W.looks_clsIn X hc) ?_))))));rw[F];show ae (a:=some dx) (aa (ae (aa ?_)));show wpAny_nsSet1 (s:={ s with toks:=s.toks+1 }) I.ns λh' q B=>?_;obtain⟨oD,ac,ad,O,U,Y⟩:=q.count (PySem.Within.cons name v hw);show aa (wpAny_lookBehind O (by rw[U];exact pastItsLine_dict (aA Y (by right))) ?_);exact ae (h _ ⟨(B.2 _ (Ne.symm I.ne)).trans I.obj,q,I.ne⟩ B)
def zlo(X:K.In s.heap)(F:PySem.W.makesIn K C=true)(hi:PySem.W.findIn K (.ref C) "__init__" = some (some (.ref f)))(I:PySem.W.typeIn K (.ref f)=some (.type "function"))(h:codeAny (model prog w) (A.under (.builtin "type.__call__" ⟨.ref C::vs,B⟩)) (.call (.ref f) ⟨.ref (s.heap.objs.size+1)::vs,B⟩) (PySem.W.InitBack (s.heap.objs.size+1) R)
   { s with heap:=(s.heap.push PySem.W.emptyDict).push (PySem.W.instObj C s.heap.objs.size) }) :
  codeAny (model prog w) A (.call (.ref C) ⟨vs,B⟩) R s:=by
 obtain⟨J,g,d,t,O⟩:=s;exact PySem.W.make_core (PySem.W.makes_of X F) (PySem.W.looks_findIn X hi) (λq=>PySem.W.bind_fn X q I) (.inl rfl) h
end
def zbm (f:Str)(v:V):List (Str×V)->List (Str×V)
 | []=>[(f,v)]
 | (g,x)::r=>if g=f then (g,v)::r else (g,x)::zbm f v r
def zbP (f g:Str)(v:V):∀fs:List (Str×V),(zbm f v fs).lookup g=if g=f then some v else fs.lookup g
 | []=>by
  change List.lookup g [(f,v)]=_;grind
 | (k,x)::r=>by
  have q:=zbP f g v r;rw[show zbm f v ((k,x)::r)=(if k=f then (k,v)::r else (k,x)::zbm f v r) from rfl];grind
def zbM (f:Str)(v:V):∀fs:List (Str×V),f∈(zbm f v fs).map (·.1)/\∀g,g∈fs.map (·.1)->g∈(zbm f v fs).map (·.1)
 | []=>⟨by simp[zbm],λg h=>by simp at h⟩
 | (k,x)::r=>by
  obtain⟨q,B⟩:=zbM f v r;rw[show zbm f v ((k,x)::r)=(if k=f then (k,v)::r else (k,x)::zbm f v r) from rfl];grind
def zbN (f:Str)(v:V):∀fs:List (Str×V),(zbm f v fs).length<=fs.length+1
 | []=>by simp[zbm]
 | (k,x)::r=>by
  have q:=zbN f v r;rw[show zbm f v ((k,x)::r)=(if k=f then (k,v)::r else (k,x)::zbm f v r) from rfl];grind
def ze8.some_of(r:ze8 (some v) o):∃u,o=some u/\yc v u:=by
 cases o with
 | none=>exact (show False from r).elim
 | some u=>exact⟨u,rfl,r⟩
def ze8.none_of(r:ze8 none o):o=none:=by
 cases o with
 | none=>rfl
 | some u=>exact (show False from r).elim
def ziE(r:yc v u):PySem.W.handedIn u=true:=by
 cases v with
 | non=>cases (show u=Value.none from r);rfl
 | bl b=>cases (show u=Value.bool b from r);rfl
 | int i=>obtain⟨t,e⟩:=(show ∃t,u=Value.int i t from r);cases e;rfl
 | str x=>obtain⟨t,e⟩:=(show ∃t,u=Value.str x t from r);cases e;rfl
 | byt b=>obtain⟨t,e⟩:=(show ∃t,u=Value.bytes b t from r);cases e;rfl
 | flt b=>obtain⟨t,e⟩:=(show ∃t,u=Value.float b t from r);cases e;rfl
 | ref a=>cases (show u=Value.ref a from r);rfl
 | ty n=>cases (show u=Value.type n from r);rfl
section
variable {P:Aa}{w:Ab}{H H':Hp}{h h':Heap}{a C dx:Addr}{fs fs':List (Str×V)}
def zdh (B:HOk P w H h)(e:H a=some (.ins C dx fs)):∃mA,ObjM h a dx C mA/\(∀f,ze8 (fs.lookup f) (mA f))/\PySem.Within mA (fs.map (·.1))/\fs.length<=1000/\H dx=some (.own a):=by obtain⟨d,z,F,ob,mA,n,r,q⟩:=(show ya P w H h a (.ins C dx fs) from B a _ e);exact⟨mA,⟨ob,n,F⟩,r,q,z,d⟩
end
structure Cls (K:AH)(C:Addr):Prop where
 pg:PySem.W.plainGet K C Str.empty=true
 hd:PySem.W.hasDictIn K C=true
 po:PySem.W.plainOver K C=true
 sa:PySem.W.findIn K (.ref C) "__setattr__" = some (some (.builtin "object.__setattr__"))
def Cls.get {K:AH}{C:Addr}(c:Cls K C)(f:Str):PySem.W.plainGet K C f=true:=c.pg
def uW (K:AH)(C:Addr)(f:Str):Prop:=PySem.W.findIn K (.ref C) f=some none
def uW.taker{K:AH}{C:Addr}(n:uW K C f):PySem.W.takerIn K C f=some none:=by unfold PySem.W.takerIn;rw[show PySem.W.findIn K (.ref C) f=some none from n];rfl
structure Meth (K:AH)(C:Addr)(m:Str)(f:Addr):Prop where
 at_:PySem.W.findIn K (.ref C) m=some (some (.ref f))
 fn:PySem.W.isFn K (.ref f)=true
 kp:PySem.W.keepIn K (.ref f)=true
section
variable {X:Cx}{pins:AB}{σ:St}{H:Hp}{s:AZ}{a C dx:Addr}{fs:List (Str×V)}{f:Str}{v:V}{A:Ae}{E:AA}
def zhe(I:Inv X pins σ H s)(e:H a=some (.ins C dx fs))(c:Cls X.K C)(n:uW X.K C f)(l:fs.lookup f=some v)(h:∀u s',Inv X pins σ H s'->yc v u->Q u s'):wpAny (model X.prog X.w) A (getAttr (.ref a) f b) Q E s:=by
 obtain⟨mA,O,r,_,_,_⟩:=zdh I.hok e;obtain⟨u,B,q⟩:=ze8.some_of (v:=v) (o:=mA f) (by rw[<- l];exact r f);exact znz I.kIn O (c.get f) c.hd n B (ziE q) (h u _ (I.tok _) q)
def zhf(I:Inv X pins σ H s)(e:H a=some (.ins C dx fs))(c:Cls X.K C)(k:Meth X.K C m g)(l:fs.lookup m=none)(h:Q (.ref g,[.ref a]) s):wpAny (model X.prog X.w) A (getMethod (.ref a) m pl) Q E s:=by
 obtain⟨mA,O,r,_,_,_⟩:=zdh I.hok e;have hn:mA m=none:=ze8.none_of (by rw[<- l];exact r m);exact zk4 I.kIn O (c.get m) k.at_ k.fn hn h
def zhC(I:Inv X pins σ H s)(e:H a=some (.ins C dx fs))(c:Cls X.K C)(n:uW X.K C f)(hl:fs.length<1000)(F:yc y u)(h:∀s',Inv X pins σ (upd H a (.ins C dx (zbm f y fs))) s'->Q () s'):wpAny (model X.prog X.w) A (setAttr (.ref a) f u) Q E s:=by
 obtain⟨mA,O,r,wi,_,B⟩:=zdh I.hok e;have J:(fs.map (·.1)).length<=sizeLine:=by rw[ab,b6];lia
 show zpb I.kIn O c.sa c.po n.taker c.hd wi J λh' O' U=>h _ ?_;have Y:∃o,h'.get? dx=some o:=let ⟨o,_,_,e',_⟩:=O'.ns;⟨o,e'⟩;show I.write (x:=a) (e:=dx) (by rw[e];exact True.intro) (.inr B) (λb q Z z=>(U.2 b Z).trans z) Y ?_;show⟨by rw[ze O.ne];exact B,?_,O.ne,O'.obj,_,O'.ns,λg=>?_,λg hg=>?_⟩;have:=zbN f y fs;lia;change ze8 ((zbm f y fs).lookup g) (if g=f then some u else mA g);rw[zbP];by_cases q:g=f;rw[if_pos q,if_pos q];exact F;right;by_cases q:g=f;rw[q];exact (zbM f y fs).1;show (zbM f y fs).2 g (wi g λz=>hg ?_);grind
def Inv.made (I:Inv X pins σ H s):Inv X pins σ (upd (upd H s.heap.objs.size (.own (s.heap.objs.size+1))) (s.heap.objs.size+1) (.ins C s.heap.objs.size []))
  { s with heap:=(s.heap.push PySem.W.emptyDict).push (PySem.W.instObj C s.heap.objs.size) }:=by
 have B:(s.heap.push PySem.W.emptyDict).get? s.heap.objs.size=some PySem.W.emptyDict:=aq s.heap rfl
 have J:((s.heap.push PySem.W.emptyDict).push (PySem.W.instObj C s.heap.objs.size)).get? (s.heap.objs.size+1)=some (PySem.W.instObj C s.heap.objs.size):=by
  have:=aq (s.heap.push PySem.W.emptyDict) (o:=PySem.W.instObj C s.heap.objs.size) rfl;right
 have O:(s.heap.push PySem.W.emptyDict).Ns s.heap.objs.size (λ_=>none):=⟨PySem.W.emptyDict,#[],_,B,rfl,(λe U=>absurd U (by simp)),λ_=>rfl⟩;have I1:=I.laid (a:=s.heap.objs.size) (o:=.own (s.heap.objs.size+1)) (h':=s.heap.push PySem.W.emptyDict) (t':=s.toks) (λb u q=>af _ q) (ai _) ⟨_,B⟩;show I1.laid (a:=s.heap.objs.size+1) (o:=.ins C s.heap.objs.size []) (t':=s.toks) (λb u q=>af _ q) (Nat.le_of_eq (cR _ _)) ?_;have F:s.heap.objs.size≠s.heap.objs.size+1:=aS (eF _);show⟨by rw[ze F,zg],aK _,F,J,λ_=>none,(Heap.Ns1.of_empty O).at λo q=>af _ q,λ_=>True.intro,λy Y=>absurd rfl Y⟩
def znd(B:attributeBase e f env (eval e env)=eval e env)(h:Ag prog w A (eval e env) (λo q=>Ag prog w A (getAttr o f true) Q E q) E s):Ag prog w A (eval (.Attribute e f pos) env) Q E s:=
 Attribute_any_ h (by rw[arm_eval_Attribute,B])
end
def zpm (K:AH)(ta:TE)(f:Str):TE:=λσ H Q=>ta σ H λx H1=>∃a C dx fs v,x = .ref a/\H1 a=some (.ins C dx fs)/\Cls K C/\uW K C f/\fs.lookup f=some v/\Q v H1
def zrO (K:AH)(ta tv:TE)(f:Str):TS:=λD σ H=>tv σ H λy H1=>ta σ H1 λx H2=>∃a C dx fs,x = .ref a/\H2 a=some (.ins C dx fs)/\Cls K C/\uW K C f/\fs.length<1000/\
 D.nx σ (upd H2 a (.ins C dx (zbm f y fs)))
section
variable {X:Cx}{o e value:Expr}{f:Str}{pos pos' tpos:Pos}{ta tv:TE}
def zcU (B:PE X e ta)(F:attributeBase e f X.env (eval e X.env)=eval e X.env):PE X (.Attribute e f pos) (zpm X.K ta f):=by intro pins s σ H Q I h;show znd F (thn (B pins s σ H _ I h)  ?_);rintro u Y ⟨x,H1,I1,J,a,C,dx,fs,v,ex,O,c,n,l,q⟩;subst ex;obtain rfl:u=Value.ref a:=J;exact zhe I1 O c n l λZ s2 I2 U=>⟨v,H1,I2,U,q⟩
def zgN (B:PE X o ta)(F:PE X value tv)(hs:swapsWith value (some (.Attribute o f pos')) pos.line X.env=pure false):PS X (.Assign [.Attribute o f pos'] value pos) (zrO X.K ta tv f):=by intro pins s σ H D I h;show plainObj_wpAny_Assign_Attribute (thn (F pins s σ H _ I h) λu J ⟨y,H1,I1,O,q⟩=>thn (B pins J σ H1 _ I1 q) λU s2 ⟨x,H2,I2,Y,a,C,dx,fs,ex,Z,c,n,l,q2⟩=>?_) hs;subst ex;obtain rfl:U=Value.ref a:=Y;exact zhC I2 Z c n l O λs3 I3=>⟨σ,_,I3,q2⟩
variable {pins:AB}{σ:St}{H:Hp}{s:AZ}{A:Ae}{E:AA}{Q:AA}{c:Value}{b:Bool}
inductive TyOf (K:AH) (H:Hp):V->Value->Prop where
 | non:TyOf K H .non (.type "NoneType")
 | bl (x:Bool):TyOf K H (.bl x) (.type "bool")
 | int (i:Int):TyOf K H (.int i) (.type "int")
 | str (x:Str):TyOf K H (.str x) (.type "str")
 | flt (x:UInt64):TyOf K H (.flt x) (.type "float")
 | lst {a:Addr} {xs:AT} (e:H a=some (.lst xs)):TyOf K H (.ref a) (.type "list")
 | frz {a:Addr} {o:Obj} {xs:AT} (e:H a=some (.frz o (.lst xs))):TyOf K H (.ref a) (.type "list")
 | tup {a:Addr} {xs:AT} (e:H a=some (.tup xs)):TyOf K H (.ref a) (.type "tuple")
 | dK {a:Addr} {kvs:List (Key×V)} (e:H a=some (.dK kvs)):TyOf K H (.ref a) (.type "dict")
 | dT {a:Addr} {kvs:List (List Key×V)} (e:H a=some (.dT kvs)):TyOf K H (.ref a) (.type "dict")
 | ins {a C dx:Addr} {fs:List (Str×V)} (e:H a=some (.ins C dx fs)) (cl:Cls K C) (ha:PySem.W.findIn K (.ref C) "__class__" = some (some (.builtin "object.__class__")))
   (hn:PySem.W.specialIn K (.builtin "object.__class__") "__get__" = some (some (.builtin "getset_descriptor.__get__"))) (htk:PySem.W.takesIn K (.builtin "object.__class__")=some true)
   (hm:PySem.W.mroIn K C (.type "object")=some true):TyOf K H (.ref a) (.ref C)
def ziL(I:Inv X pins σ H s)(B:yc x u)(ty:TyOf X.K H x t)(e:PySem.W.kitOne X.K t c=some b)(h:∀tk,Q (.bool b) { s with toks:=tk }) :
  wpAny (model X.prog X.w) A (call (.builtin "isinstance") [u,c]) Q E s:=by
 cases ty with
 | non=>cases (show u=Value.none from B);exact bT PySem.W.kitx_none I.kIn True.intro e (λz=>nomatch z) h
 | bl y=>cases (show u=Value.bool y from B);exact bT PySem.W.kitx_bool I.kIn True.intro e (λz=>nomatch z) h
 | int i=>obtain⟨t,q⟩:=(show ∃t,u=Value.int i t from B);cases q;exact bT PySem.W.kitx_int I.kIn True.intro e (λz=>nomatch z) h
 | str y=>obtain⟨t,q⟩:=(show ∃t,u=Value.str y t from B);cases q;exact bT PySem.W.kitx_str I.kIn True.intro e (λz=>nomatch z) h
 | flt y=>obtain⟨t,q⟩:=(show ∃t,u=Value.float y t from B);cases q;exact bT PySem.W.kitx_float I.kIn True.intro e (λz=>nomatch z) h
 | @lst a xs F=>
  cases (show u=Value.ref a from B);obtain⟨_,_,n,_,h1⟩:=(show ya X.prog X.w H s.heap a (.lst xs) from I.hok a _ F);exact bT PySem.W.kitx_list I.kIn ⟨_,h1,rfl⟩ e (λz=>nomatch z) h
 | @frz a ob xs F=>
  cases (show u=Value.ref a from B);obtain⟨_,_,_,n,_,h1⟩:=(show ya X.prog X.w H s.heap a (.frz ob (.lst xs)) from I.hok a _ F);exact bT PySem.W.kitx_list I.kIn ⟨_,h1,rfl⟩ e (λz=>nomatch z) h
 | @tup a xs F=>
  cases (show u=Value.ref a from B);obtain⟨_,_,_,p⟩:=(show ya X.prog X.w H s.heap a (.tup xs) from I.hok a _ F);obtain⟨o,h1,h2,_⟩:=p;exact bT PySem.W.kitx_tuple I.kIn ⟨o,h1,h2⟩ e (λz=>nomatch z) h
 | @dK a kvs F=>
  cases (show u=Value.ref a from B);obtain⟨_,_,vs,_,p⟩:=(show ya X.prog X.w H s.heap a (.dK kvs) from I.hok a _ F);obtain⟨o,es,Z,h1,h2,_⟩:=p;exact bT PySem.W.kitx_dict I.kIn ⟨o,h1,h2.1⟩ e (λz=>nomatch z) h
 | @dT a kvs F=>
  cases (show u=Value.ref a from B);obtain⟨_,_,xs,_,o,es,Z,h1,h2,_⟩:=(show ya X.prog X.w H s.heap a (.dT kvs) from I.hok a _ F);exact bT PySem.W.kitx_dict I.kIn ⟨o,h1,h2.1⟩ e (λz=>nomatch z) h
 | @ins a C dx fs F Y ha hn U hm=>
  cases (show u=Value.ref a from B);obtain⟨mA,O,_⟩:=zdh I.hok F;obtain⟨od,J,_⟩:=O.look;exact bT (PySem.W.kitx_own (Y.get _) Y.hd ha hn U hm) I.kIn J e (λz=>nomatch z) h
end
structure Room (k:Nat)(A:Ae):Prop where
 hd:A.handled=none
 dp:A.depth+3 * k+5<recursionLimit
 un:A.units+16 * k+200<cLine
def Room.mono {j k:Nat}{A:Ae}(r:Room k A)(h:j<=k):Room j A:=⟨r.hd,by have:=r.dp;lia,by have:=r.un;lia⟩
def Room.deeper(r:Room (k+1) A)(env:Env):Room k (A.deeper env):=
 ⟨r.hd,by have:=r.dp;change A.depth+1+3 * k+5<_;lia,by have:=r.un;change A.units+3+16 * k+200<_;lia⟩
def zhl{A:Ae}:(A.under (.builtin "type.__call__" ⟨.ref C::us,q⟩)).depth=A.depth+1:=by first | rfl | simp[Around.under,Code.weight,Code.isCreation,Code.isGuard,Code.isCaller,Code.frames,Code.isFrame,guardIds]
def zhm{A:Ae}:(A.under (.builtin "type.__call__" ⟨.ref C::us,q⟩)).units=A.units+1:=by first | rfl | simp[Around.under,Code.cUnits,Code.frames,Code.isFrame]
def Room.make(r:Room (k+1) A)(C:Addr)(us:AN)(q:List (Str×Value)):Room k (A.under (.builtin "type.__call__" ⟨.ref C::us,q⟩)):=
 ⟨r.hd,by have:=r.dp;rw[zhl];lia,by have:=r.un;rw[zhm];lia⟩
def Room.depth(r:Room k A):A.depth<recursionLimit:=by have:=r.dp;lia
def Room.units(r:Room k A):A.units+64<cLine:=by have:=r.un;lia
def zpo:TA:=λ_ H Q=>Q [] H
def zbo (ta:TE)(q:TA):TA:=λσ H Q=>ta σ H λx H1=>q σ H1 λxs H2=>Q (x::xs) H2
section
variable {X:Cx}{e:Expr}{es:AO}{te:TE}{t:TA}{pos:Pos}
def zmI:PA X [] zpo:=λ_ _ _ _ H Q I h=>Calls.spliced_nil ⟨[],H,I,.nil,h⟩
def zaV (q:PE X e te)(B:PA X es t)(hs:starEach (e::es) X.env=(false,eval e X.env)::starEach es X.env:=by rfl):PA X (e::es) (zbo te t):=by intro pos pins s σ H Q I h;rw[hs];change wpAny _ _ (spliced ((false,eval e X.env)::backTo pos (starEach es X.env))) _ _ s;show Calls.spliced_cons (thn (q pins s σ H _ I h)  ?_);rintro u F ⟨x,H1,I1,J,O⟩;exact thn (B pos pins F σ H1 _ I1 O) <| by rintro us Z ⟨xs,H2,I2,U,Y⟩;exact⟨x::xs,H2,I2,.cons J U,Y⟩
end
abbrev Sp:=AT->Hp->VK->XK->Prop
abbrev CXT:=List Env->Hp->AZ->XK->AA
structure Env0 (P:Aa)(w:Ab)(K:AH)(mg:AI)(base:Heap)(A:Ae)(outer:List Env)(s:AZ)(H:Hp):Prop where
 frames:A.frames=some outer
 mod:Mod K mg base
 bs:∀b o,base.get? b=some o->s.heap.get? b=some o/\H b=none
 bsz:base.objs.size<=s.heap.objs.size
 funs:s.heap.FunFrames base outer
 frf:∀b∈frs outer,H b=none
 hok:HOk P w H s.heap
 bare:AllBare s.gens
def CE (q:List Env)(P:Aa)(w:Ab)(H:Hp)(s:AZ)(Q:VK)(u:Value)(s':AZ):Prop:=
 ∃v H',s'.os=s.os/\AllBare s'.gens/\Un (frs q) [] H H' s.heap s'.heap/\HOk P w H' s'.heap/\yc v u/\Q v H'
def CR (CX:CXT)(q:List Env)(P:Aa)(w:Ab)(H:Hp)(s:AZ)(Q:VK)(E:XK)(r:Result)(s':AZ):Prop:=
 match r with
 | .ok (.ret u)=>CE q P w H s Q u s'
 | .ok _=>False
 | .error e=>CX q H s E e s'
structure FnOk (P:Aa)(w:Ab)(K:AH)(mg:AI)(base:Heap)(CX:CXT)(k:Nat)(f:Addr)(fd:Ac)(ps:AM)(sp:Sp):Prop where
 len:∀vs H Q E,sp vs H Q E->vs.length=ps.length
 run:∀ (A:Ae) (outer:List Env) (s:AZ) (H:Hp) (args:Args) (us:AN) (vs:AT) (Q:VK) (E:XK),Room k A->Env0 P w K mg base A outer s H->BindsTo s fd args (ps.zip us)->zM vs us->sp vs H Q E->
  codeAny (model P w) A (.call (.ref f) args) (CR CX outer P w H s Q E) s
def FnOk.mono{P:Aa}{w:Ab}{K:AH}{mg:AI}{base:Heap}{CX:CXT}{f:Addr}{fd:Ac}{ps:AM}(F:FnOk P w K mg base CX j f fd ps sp)(h:j<=k) :
  FnOk P w K mg base CX k f fd ps sp:=⟨F.len,λA q s H args us vs Q E B=>F.run A q s H args us vs Q E (B.mono h)⟩
def FnOk.imp{P:Aa}{w:Ab}{K:AH}{mg:AI}{base:Heap}{CX:CXT}{f:Addr}{fd:Ac}{ps:AM}{sp I:Sp}(F:FnOk P w K mg base CX k f fd ps sp)(h:∀vs H Q E,I vs H Q E->sp vs H Q E):FnOk P w K mg base CX k f fd ps I:=
 ⟨λvs H Q E q=>F.len vs H Q E (h _ _ _ _ q),λA B s H args us vs Q E J O U Y hs=>F.run A B s H args us vs Q E J O U Y (h _ _ _ _ hs)⟩
def Env0.make{P:Aa}{w:Ab}{K:AH}{mg:AI}{base:Heap}{A:Ae}{q:List Env}{s:AZ}(e:Env0 P w K mg base A q s H)(C:Addr)(us:AN)(B:List (Str×Value)) :
  Env0 P w K mg base (A.under (.builtin "type.__call__" ⟨.ref C::us,B⟩)) q s H:=⟨by first | exact e.frames | (simpa [Around.under,Code.envs,Code.isFrame,pushEnvs] using e.frames),e.mod,e.bs,e.bsz,e.funs,e.frf,e.hok,e.bare⟩
section
variable {X:Cx}{pins:AB}{σ:St}{H:Hp}{s s':AZ}
def Inv.env0 (I:Inv X pins σ H s):Env0 X.prog X.w X.K X.mg X.base X.A X.stack s H:=
 ⟨I.ok.frames,I.ok.mod,I.bs,aA I.ok.bsz I.sz,I.stack,I.stkFree,I.hok,I.bare⟩
def Inv.after(I:Inv X pins σ H s)(h:CE X.stack X.prog X.w H s Q u s'):EP X pins σ Q u s':=by obtain⟨v,H',O,B,U,F,r,q⟩:=h;obtain⟨Y,g,d,t,J⟩:=s';obtain rfl:J=s.os:=O;exact⟨v,H',I.call (h':=Y) (g':=g) (d':=d) (t':=t) (ch:=[]) U F B (λb z=>absurd z (by simp)),r,q⟩
end
def zcf (sp:Sp)(dvs:AT)(E:XK)(t:TA):TE:=λσ H Q=>t σ H λvs H1=>sp (vs++dvs) H1 Q E
def zr0 (C:Addr)(m:Str)(sp:Sp)(dvs:AT)(E:XK)(ta:TE)(t:TA):TE:=λσ H Q=>ta σ H λx H1=>∃a dx fs,x = .ref a/\H1 a=some (.ins C dx fs)/\fs.lookup m=none/\
 t σ H1 λvs H2=>sp (x::(vs++dvs)) H2 Q E
def zrZ (C:Addr)(sp:Sp)(dvs:AT)(E:XK)(t:TA):TE:=λσ H Q=>t σ H λvs H1=>∀x dx,H1 x=none->H1 dx=none->dx≠x->
 sp (.ref x::(vs++dvs)) (upd (upd H1 dx (.own x)) x (.ins C dx [])) (λv H2=>v = .non/\Q (.ref x) H2) E
def uS (K:AH)(fd:Ac)(ps:AM)(ds:AN):Prop:=
 ∀ (s:AZ) (us:AN),K.In s.heap->(us++ds).length=ps.length->BindsTo s fd ⟨us,[]⟩ (ps.zip (us++ds))
def uS.all {K:AH}{fd:Ac}{ps:AM}(h:∀us:AN,us.length=ps.length->bindArgs fd ⟨us,[]⟩=pure (ps.zip us)):uS K fd ps []:=λs us _ q=>by rw[cI] at q ⊢;exact .of_eq (h us q)
def zcz (CX:CXT)(X:Cx)(E:XK):Prop:=∀ (pins:AB) (σ:St) (H:Hp) (s:AZ) (e:Value) (s':AZ),Inv X pins σ H s->CX X.stack H s E e s'->X.xe e s'
section
variable {X:Cx}{CX:CXT}{k:Nat}{f C:Addr}{fd:Ac}{ps:AM}{sp:Sp}{dvs:AT}{ds:AN}{E:XK}{x m:Str}{p pos apos:Pos}{e o:Expr}{es:AO}{ta:TE}{t:TA}
def zmY{pins:AB}{σ:St}{H:Hp}{s:AZ}{Q:VK}{vs:AT}(F:FnOk X.prog X.w X.K X.mg X.base CX k f fd ps sp)(J:Room k X.A)(O:uS X.K fd ps ds)(U:zM dvs ds)(Y:zcz CX X E)(I:Inv X pins σ H s)(r:zM vs us)(h:sp (vs++dvs) H Q E):Af X (call (.ref f) us) (EP X pins σ Q) X.xe s:=by
 have B:zM (vs++dvs) (us++ds):=r.append U;have Z:(us++ds).length=ps.length:=by rw[<- B.length];exact F.len _ _ _ _ h
 show wpAny_call (ge (F.run X.A X.stack s H ⟨us,[]⟩ (us++ds) (vs++dvs) Q E J I.env0 (O s us I.kIn Z) B h) λr s' q=>?_)
 cases r with
 | error e=>exact Y pins σ H s e s' I q
 | ok fl=>
  cases fl with
  | ret u=>exact I.after q
  | next=>exact False.elim q
  | brk=>exact False.elim q
  | cont=>exact False.elim q
def zfG (F:FnOk X.prog X.w X.K X.mg X.base CX k f fd ps sp)(O:Room k X.A)(U:Gl X x)(Y:X.mg x=some (.ref f))(Z:PySem.W.keepIn X.K (.ref f)=true)(hb:uS X.K fd ps ds)(hd:zM dvs ds)(hx:zcz CX X E)
  (ha:PA X (e::es) t) (B:Ah x:=by ext) (he:starEach (e::es) X.env=(false,eval e X.env)::starEach es X.env:=by rfl) (J:(backTo pos (starEach es X.env)).any (·.1)=false:=by rfl) :
  PE X (.Call (.Name x p) (e::es) [] pos) (zcf sp dvs E t):=by
 intro pins s σ H Q I h;show dN (zi0 I U Y ?_ B);show fj (h₀:=X.base) I.ok.mod.kin Z (thn (ha pos pins s σ H _ I h) λus s1 ⟨vs,H1,I1,r,q⟩=>⟨I1.kIn,?_⟩) he J;exact zmY F O hb hd hx I1 r q
def zop {pl:Sem Bool}(he:PE X o ta)(c:Cls X.K C)(hm:Meth X.K C m f)(F:FnOk X.prog X.w X.K X.mg X.base CX k f fd ps sp)(hr:Room k X.A)(hb:uS X.K fd ps ds)(hd:zM dvs ds)(hx:zcz CX X E)(ha:PA X (e::es) t)
  (hst:starEach (e::es) X.env=(false,eval e X.env)::starEach es X.env:=by rfl) (hpl:(backTo pos (starEach es X.env)).any (·.1)=false:=by rfl)
  (ht:eval (.Call (.Attribute o m apos) (e::es) [] pos) X.env=(do
   let ov <- eval o X.env
   standAt apos.atName
   let (f,first) <- holding [ov] (getMethod ov m pl)
   callWith pos f first (backTo pos (starEach (e::es) X.env)) (backToKw pos (keywordEach [] X.env))):=by rfl) :
  PE X (.Call (.Attribute o m apos) (e::es) [] pos) (zr0 C m sp dvs E ta t):=by
 intro pins s σ H Q I h;show PySem.W.methodCall_KW (pl:=pl) (thn (he pins s σ H _ I h) λu s1 ⟨x,H1,I1,rx,a,dx,fs,ex,ea,l,q⟩=>?_) ht;subst ex;obtain rfl:u=Value.ref a:=rx;show zhf I1 ea c hm l ?_;show fj (first:=[.ref a]) (h₀:=X.base) I.ok.mod.kin hm.kp (thn (ha pos pins s1 σ H1 _ I1 q) λus s2 ⟨vs,H2,I2,r,q2⟩=>⟨I2.kIn,?_⟩) hst hpl;exact zmY (us:=.ref a::us) (vs:=.ref a::vs) F hr hb hd hx I2 (.cons rfl r) q2
structure Mk (K:AH)(C f:Addr):Prop where
 makes:PySem.W.makesIn K C=true
 init:PySem.W.findIn K (.ref C) "__init__" = some (some (.ref f))
 fn:PySem.W.isFn K (.ref f)=true
 kp:PySem.W.keepIn K (.ref C)=true
def zlX{pins:AB}{σ:St}{H:Hp}{s:AZ}{Q:VK}{vs:AT}(M:Mk X.K C f)(F:FnOk X.prog X.w X.K X.mg X.base CX k f fd ps sp)(O:Room (k+1) X.A)(U:uS X.K fd ps ds)(Y:zM dvs ds)(Z:zcz CX X E)(I:Inv X pins σ H s)(r:zM vs us)(h:∀x dx,H x=none->H dx=none->dx≠x->sp (.ref x::(vs++dvs)) (upd (upd H dx (.own x)) x (.ins C dx [])) (λv H2=>v = .non/\Q (.ref x) H2) E) :
  Af X (call (.ref C) us) (EP X pins σ Q) X.xe s:=by
 have B:=h (s.heap.objs.size+1) s.heap.objs.size (I.hok.fresh (Nat.le_succ _)) (I.hok.fresh (ai _)) (aS (eF _));have I2:=Inv.made (C:=C) I;have J:zM (V.ref (s.heap.objs.size+1)::(vs++dvs)) (Value.ref (s.heap.objs.size+1)::(us++ds)):=.cons rfl (r.append Y);have hl:(Value.ref (s.heap.objs.size+1)::us++ds).length=ps.length:=by have e:=J.length;rw[F.len _ _ _ _ B] at e;exact e.symm
 show wpAny_call (zlo (f:=f) I.kIn M.makes M.init (beq_iff_eq.mp M.fn) (ge (F.run _ X.stack _ _ ⟨Value.ref (s.heap.objs.size+1)::us,[]⟩ (Value.ref (s.heap.objs.size+1)::(us++ds)) _ _ E (O.make C us [])
  (I2.env0.make C us []) (U _ (Value.ref (s.heap.objs.size+1)::us) I2.kIn hl) J B) λr s' q=>?_))
 cases r with
 | error e=>exact Z pins σ _ _ e s' I2 q
 | ok fl=>
  cases fl with
  | ret u=>
   obtain⟨v,H',I3,rv,ev,q3⟩:=I2.after q;subst ev;exact⟨rv,⟨V.ref (s.heap.objs.size+1),H',I3,rfl,q3⟩⟩
  | next=>exact False.elim q
  | brk=>exact False.elim q
  | cont=>exact False.elim q
def zoo (M:Mk X.K C f)(F:FnOk X.prog X.w X.K X.mg X.base CX k f fd ps sp)(O:Room (k+1) X.A)(U:Gl X x)(Y:X.mg x=some (.ref C))(Z:uS X.K fd ps ds)(hd:zM dvs ds)(hx:zcz CX X E)
  (ha:PA X (e::es) t) (B:Ah x:=by ext) (he:starEach (e::es) X.env=(false,eval e X.env)::starEach es X.env:=by rfl) (J:(backTo pos (starEach es X.env)).any (·.1)=false:=by rfl) :
  PE X (.Call (.Name x p) (e::es) [] pos) (zrZ C sp dvs E t):=by
 intro pins s σ H Q I h;show dN (zi0 I U Y ?_ B);show fj (h₀:=X.base) I.ok.mod.kin M.kp (thn (ha pos pins s σ H _ I h) λus s1 ⟨vs,H1,I1,r,q⟩=>⟨I1.kIn,?_⟩) he J;exact zlX M F O Z hd hx I1 r q
variable {ks:AM}{kpos:Pos}{kws:List Keyword}{te:TE}{tk:TA}{nm:Option Str}
variable {g:AN->AN->AN}{gV:AT->AT->AT}
end
structure FnScope (N P:AM)(sc:Scope):Prop where
 kind:sc.kind = .function
 co:sc.isCoroutine=false
 gen:sc.isGenerator=false
 nd:N.Nodup
 pre:N.take P.length=P
 par:∀x∈P,sc.names.lookup x=some .local\/sc.names.lookup x=some .cell
 nofree:∀y∈sc.names,y.2≠.free
def zef {B:Str->Option NameKind}{x:Str}:∀ {q:List (Str×Value)} {m:AI},(∀v,(x,v)∉q)->bindL B q m x=m x
 | [],_,_=>rfl
 | (n,v)::r,m,h=>by
  unfold bindL;rw[zef λw F=>h w (am _ F)];split
  all_goals grind
def zed {B:Str->Option NameKind}{x:Str}:∀ {q:List (Str×Value)} {m:AI},(∀v,(x,v)∉q)->bindC B q m x=m x
 | [],_,_=>rfl
 | (n,v)::r,m,h=>by
  unfold bindC;rw[zed λw F=>h w (am _ F)];split
  all_goals grind
def zee {q:Str->Option NameKind}{x:Str}{v:Value}:∀ {P:AM} {vs:AN} {i:Nat} {m:AI},P.Nodup->P[i]?=some x->vs[i]?=some v->q x=some .local->
  bindL q (P.zip vs) m x=some v
 | [],_,_,_,_,h,_,_=>by simp at h
 | _::_,[],_,_,_,_,h,_=>by simp at h
 | p::P,w::vs,0,m,B,h1,h2,F=>by simp at h1 h2;subst h1;subst h2;change bindL q ((p,w)::P.zip vs) m p=_;unfold bindL;rw[zef λv I=>(cU.mp B).1 (eS I).1,if_pos F];simp
 | p::P,w::vs,i+1,m,B,h1,h2,F=>by change bindL q ((p,w)::P.zip vs) m x=_;unfold bindL;exact zee (i:=i) (cU.mp B).2 (by simpa using h1) (by simpa using h2) F
def zec {q:Str->Option NameKind}{x:Str}{v:Value}:∀ {P:AM} {vs:AN} {i:Nat} {m:AI},P.Nodup->P[i]?=some x->vs[i]?=some v->q x≠some .local->
  bindC q (P.zip vs) m x=some v
 | [],_,_,_,_,h,_,_=>by simp at h
 | _::_,[],_,_,_,_,h,_=>by simp at h
 | p::P,w::vs,0,m,B,h1,h2,F=>by simp at h1 h2;subst h1;subst h2;change bindC q ((p,w)::P.zip vs) m p=_;unfold bindC;rw[zed λv I=>(cU.mp B).1 (eS I).1,if_neg F];simp
 | p::P,w::vs,i+1,m,B,h1,h2,F=>by change bindC q ((p,w)::P.zip vs) m x=_;unfold bindC;exact zec (i:=i) (cU.mp B).2 (by simpa using h1) (by simpa using h2) F
def y6 (N:AM)(vs:AT):St:=vs.map some++List.replicate (N.length - vs.length) none
def zd6 (CX:CXT)(P:Aa)(w:Ab)(K:AH)(mg:AI)(base:Heap)(N:AM)(qual:Str)(scope:Scope)(f:Addr)(cd:Value)(A:Ae)(outer:List Env)(s:AZ)(H:Hp)(E:XK):Cx where
 prog:=P
 w:=w
 K:=K
 mg:=mg
 base:=base
 A:=A.deeper (envOfC qual scope s.heap.objs.size f cd)
 N:=N
 s₀:=s
 H₀:=H
 env:=envOfC qual scope s.heap.objs.size f cd
 outer:=outer
 stack:=envOfC qual scope s.heap.objs.size f cd::outer
 ex:=[]
 calm:=true
 fn:=λ_=>true
 pn:=[]
 xe:=λe s'=>wpAny (model P w) (A.deeper (envOfC qual scope s.heap.objs.size f cd)) (leaving (envOfC qual scope s.heap.objs.size f cd) e) (λ_ s''=>CX outer H s E e s'') (λe' s''=>CX outer H s E e' s'') s'
def zf4{B:Scope}(h:B.names.lookup x=some .cell):∃c,(cellsFrom n B.names []).lookup x=some c:=by have q:=PySem.W.cellsFrom_some B.names n [] (.inl h);exact Option.isSome_iff_exists.mp q
def ziI{CX:CXT}{P:Aa}{w:Ab}{K:AH}{mg:AI}{base:Heap}{N ps:AM}{F:Str}{scope:Scope}{f:Addr}{Z:Value}{A:Ae}{B:List Env}{s s1:AZ}{H:Hp}{E:XK}{vs:AT}(S:FnScope N ps scope)(hd:A.handled=none)(I:Env0 P w K mg base A B s H)(hl:vs.length=ps.length)(r:zM vs us)(x:InCallC s s.heap.objs.size (bindL (envOfC F scope s.heap.objs.size f Z).kindOf (ps.zip us) λ_=>none) (cellsFrom (s.heap.objs.size+1) scope.names []) (bindC (envOfC F scope s.heap.objs.size f Z).kindOf (ps.zip us) λ_=>none) s1) :
  Inv (zd6 CX P w K mg base N F scope f Z A B s H E) [] (y6 N vs) H s1:=by
 have ac:ps.length<=N.length:=by have:=congrArg List.length S.pre;rw[bg] at this;lia
 obtain⟨h1,tk,rfl,hk⟩:=x.done;have J:∀b:Addr,b∉(zd6 CX P w K mg base N F scope f Z A B s H E).ex:=λb z=>absurd (show b∈([]:AY) from z) (by simp)
 show⟨⟨I.mod,S.kind,rfl,rfl,ai _,λy z c h1 h2=>?_,λy O=>?_,λy c _ h=>?_,λ_=>hd,Around.frames_deeper I.frames,.inr ⟨rfl,rfl⟩,λb z=>absurd z (J b),I.bs,I.bsz,λb _ _=>J b,λb z=>absurd z (J b),I.funs,I.frf⟩,
  rfl,I.bare,Un.kept hk,⟨_,x.toInCall.ns,λi y v h1 h2 h3=>?_⟩,λy c h=>⟨_,x.cell y c h⟩,I.hok.fresh (ai _),λy c h=>?_,λp U=>absurd (show p∈([]:AB) from U) (by simp),I.hok.kept hk,?_⟩
 exact name_of_addr x.apart (c8 h1) (c8 h2);have O:scope.names.lookup y=some .cell\/scope.names.lookup y=some .free:=O;rcases O with O | O;exact zf4 O;exact absurd rfl (S.nofree _ (c8 O));exact cD (x.above y c (c8 h))
 have hi:i<vs.length:=by
  unfold y6 at h2;by_cases hi:i<vs.length;exact hi;rw[bi (by simpa using hi)] at h2;rw[List.getElem?_replicate] at h2;right
 have ha:vs[i]?=some v:=by
  unfold y6 at h2;rw[bw (by simpa using hi),aL] at h2;right
 obtain⟨u,hu,rv⟩:=r.get ha;have U:ps[i]?=some y:=by rw[<- S.pre,bW (by lia)];exact h1
 have Y:ps.Nodup:=by rw[<- S.pre];exact S.nd.sublist (cg _ _)
 show⟨u,rv,?_⟩;rcases S.par y (aG U) with k | k;exact .inl ⟨k,zee Y U hu k⟩;obtain⟨c,e⟩:=zf4 (n:=s.heap.objs.size+1) k;show .inr ⟨.inl k,c,e,?_⟩;have q:=x.cell y c e;rw[zec Y U hu (by change scope.names.lookup y≠_;rw[k];decide)] at q;exact q;exact I.hok.fresh (cD (x.above y c (c8 h)));unfold y6;change _=N.length;grind
def zqh{CX:CXT}{P:Aa}{w:Ab}{K:AH}{mg:AI}{base:Heap}{f:Addr}{name F:Str}{U:Arguments}{body:List Stmt}{scope:Scope}{dV kV ad pm O ct oc:Value}{an od:Option Addr}{N ps:AM}{sp:Sp}(lk:K.lookup f=some ⟨oc,od,.func (PySem.W.fnOf name F U body scope dV kV ad pm an O ct),ap⟩)(as:PySem.W.codeIn K O F=true)(S:FnScope N ps scope)(ag:∀vs H Q E,sp vs H Q E->vs.length=ps.length)(Z:∀ (A:Ae) (B:List Env) (s:AZ) (H:Hp) (vs:AT) (Q:VK) (E:XK),Room k (A.deeper (envOfC F scope s.heap.objs.size f O))->sp vs H Q E->
   ∃t,PSs (zd6 CX P w K mg base N F scope f O A B s H E) body t/\t { nx:=λ_ H'=>Q .non H',rt:=Q } (y6 N vs) H) :
  FnOk P w K mg base CX (k+1) f (PySem.W.fnOf name F U body scope dV kV ad pm an O ct) ps sp:=by
 show⟨ag,λA B s H args us vs Q E hr e0 hb r al=>?_⟩;have hl:=ag _ _ _ _ al;have KX:K.In s.heap:=e0.mod.kin.keeps λb o e=>(e0.bs b o e).1;have lim:s.heap.NoLimit:=e0.mod.nolimit.keeps λb o e=>(e0.bs b o e).1
 have ac:∀y∈ps.zip us,scope.names.lookup y.1=some .local\/(scope.names.lookup y.1=some .cell/\((cellsFrom (s.heap.objs.size+1) scope.names []).lookup y.1).isSome=true):=by
  rintro⟨n,v⟩ hy;rcases S.par n (eS hy).1 with q | q;exact .inl q;exact .inr ⟨q,PySem.W.cellsFrom_some _ _ _ (.inl q)⟩
 show codeAny_call_function hr.depth (KX _ _ lk) rfl S.co S.gen rfl (PySem.W.codeRec_of KX as) (hb _ _ _ _ ?_);show wpAny_newFunctionEnv_cells S.kind ac λenv he s1 x=>?_;subst he;show⟨lim.keeps x.toInCall.keep,codeAny_func ?_⟩;obtain⟨t,ht,hq⟩:=Z A B s H vs Q E (hr.deeper _) al;have I:Inv (zd6 CX P w K mg base N F scope f O A B s H E) [] (y6 N vs) H s1:=ziI S hr.hd e0 hl r x;show bE (ht [] s1 (y6 N vs) H _ I hq) (λfl s' hs=>?_) λe s' hs=>hs
 have fin:∀ {Y:St} {H':Hp} {v:V} {u:Value},Inv (zd6 CX P w K mg base N F scope f O A B s H E) [] Y H' s'->yc v u->Q v H'->CE B P w H s Q u s':=
  λ{Y H' v u} J rv q=>⟨v,H',J.os,J.bare,J.base,J.hok,rv,q⟩
 cases fl with
 | ret u=>
  obtain⟨v,Y,H',J,rv,q⟩:=hs;exact fin J rv q
 | next=>
  obtain⟨Y,H',J,q⟩:=hs;exact fin (v:=V.non) (u:=Value.none) J rfl q
 | brk=>
  obtain⟨_,_,_,q⟩:=hs;exact False.elim q
 | cont=>
  obtain⟨_,_,_,q⟩:=hs;exact False.elim q
section
variable {X:Cx}{x:Str}{p pos:Pos}{e:Expr}{es:AO}{t:TA}{id T:String}{r:AT->Hp->VK->Prop}
def tCB (r:AT->Hp->VK->Prop)(t:TA):TE:=λσ H Q=>t σ H λvs H1=>r vs H1 Q
def zlA (F:zc3 X (.builtin id) r)(J:Gl X x)(O:X.mg x=none)(U:bootBuiltins x=some (.builtin id))(Y:PA X (e::es) t)(hn:x ≠ "__name__" := by ext)(q:Ah x:=by ext)
  (Z:starEach (e::es) X.env=(false,eval e X.env)::starEach es X.env:=by rfl) (B:(backTo pos (starEach es X.env)).any (·.1)=false:=by rfl):PE X (.Call (.Name x p) (e::es) [] pos) (tCB r t):=by
 intro pins s σ H Q I h;show dN (zcL I J O U ?_ hn q);exact PyProof.Rows.callWith_builtin1 (thn (Y pos pins s σ H _ I h) <| by rintro us s1 ⟨vs,H1,I1,r1,q1⟩;exact F pins s1 σ H1 vs us Q I1 r1 q1) Z B
def zjA (F:zc3 X (.type T) r)(J:Gl X x)(O:X.mg x=none)(U:bootBuiltins x=some (.type T))(Y:PA X (e::es) t)(hn:x ≠ "__name__" := by ext)(q:Ah x:=by ext)
  (Z:starEach (e::es) X.env=(false,eval e X.env)::starEach es X.env:=by rfl) (B:(backTo pos (starEach es X.env)).any (·.1)=false:=by rfl):PE X (.Call (.Name x p) (e::es) [] pos) (tCB r t):=by
 intro pins s σ H Q I h;show dN (zcL I J O U ?_ hn q);exact cH (thn (Y pos pins s σ H _ I h) <| by rintro us s1 ⟨vs,H1,I1,r1,q1⟩;exact F pins s1 σ H1 vs us Q I1 r1 q1) Z B
end
section
variable {κ:Type}[DecidableEq κ]
def xq (kvs:List (κ×V))(k:κ):Option V:=(kvs.find? λkv=>decide (kv.1=k)).map (·.2)
def uy (kvs:List (κ×V))(k:κ)(v:V):List (κ×V):=
 if (kvs.any λkv=>decide (kv.1=k))=true then kvs.map (λkv=>if kv.1=k then (kv.1,v) else kv) else kvs++[(k,v)]
def zZ{p:κ×V}(e:p.1=k):xq (p::r) k=some p.2:=by simp[xq,cq,e]
def zY{p:κ×V}{r:List (κ×V)}(e:¬ p.1=k):xq (p::r) k=xq r k:=by simp[xq,cq,e]
def zaI (k:κ):∀kvs:List (κ×V),(kvs.any λkv=>decide (kv.1=k))=(xq kvs k).isSome
 | []=>rfl
 | p::r=>by
  rw[c9];by_cases e:p.1=k;simp only[zZ e,a9 e,Bool.true_or,Option.isSome_some];rw[zY e,aZ e,Bool.false_or];exact zaI k r
def zgY (k j:κ)(y:V):∀kvs:List (κ×V),xq (kvs.map λkv=>if kv.1=k then (kv.1,y) else kv) j=(xq kvs j).map λx=>if j=k then y else x
 | []=>rfl
 | p::r=>by
  have q:=zgY k j y r;rw[aC];by_cases h:p.1=k;rw[if_pos h];by_cases e:p.1=j;rw[zZ (p:=(p.1,y)) e,zZ e,Option.map_some,if_pos (e.symm.trans h)];rw[zY (p:=(p.1,y)) e,zY e,q];rw[if_neg h];by_cases e:p.1=j;rw[zZ (p:=p) e,zZ e,Option.map_some,if_neg (λz=>h (e.trans z))];rw[zY (p:=p) e,zY e,q]
def ze4 (k j:κ)(y:V):∀kvs:List (κ×V),xq kvs k=none->xq (kvs++[(k,y)]) j=if j=k then some y else xq kvs j
 | [],_=>by
  by_cases e:k=j;rw[if_pos e.symm];exact zZ (p:=(k,y)) e;rw[if_neg (λz=>e z.symm)];exact zY (p:=(k,y)) e
 | p::r,hn=>by
  rw[List.cons_append];have q:¬ p.1=k:=λz=>by rw[zZ z] at hn;cases hn
  rw[zY q] at hn;have B:=ze4 k j y r hn;by_cases e:p.1=j;rw[zZ e,zZ e,if_neg (λz=>q (e.trans z))];rw[zY e,zY e,B]
def zmf (kvs:List (κ×V))(k j:κ)(y:V):xq (uy kvs k y) j=if j=k then some y else xq kvs j:=by
 unfold uy;by_cases a:(kvs.any λkv=>decide (kv.1=k))=true;rw[if_pos a,zgY];rw[zaI] at a;by_cases e:j=k;obtain⟨x,q⟩:=Option.isSome_iff_exists.mp a;grind;right;rw[if_neg a];show ze4 k j y kvs ?_;rw[zaI] at a;right
def yW (kvs:List (κ×V))(k:κ)(v:V):(uy kvs k v).length<=kvs.length+1:=by
 unfold uy;split
 all_goals right
def zlH {kvs:List (κ×V)}{k:κ}(v:V)(h:xq kvs k=none):uy kvs k v=kvs++[(k,v)]:=by
 unfold uy;rw[zaI,h];right
def ze8.isSome_eq(r:ze8 o u):o.isSome=u.isSome:=by
 cases o with
 | none=>cases u with
  | none=>rfl
  | some _=>exact (show False from r).elim
 | some _=>cases u with
  | none=>exact (show False from r).elim
  | some _=>rfl
def KV.val(r:KV kvs vs)(k:κ):ze8 (xq kvs k) (valueAt vs k):=by
 unfold KV at r
 induction r with
 | nil=>exact True.intro
 | @cons p q ps B h t I=>
  obtain⟨h1,h2⟩:=h;by_cases e:p.1=k;have F:q.1=k:=h1.symm.trans e;have b:valueAt (q::B) k=some q.2:=by simp[valueAt,cq,F]
  rw[zZ e,b];exact h2;have F:¬ q.1=k:=λz=>e (h1.trans z);have b:valueAt (q::B) k=valueAt B k:=by simp[valueAt,cq,F]
  rw[zY e,b];exact I
def KV.any(r:KV kvs vs)(k:κ):(kvs.any λkv=>decide (kv.1=k))=vs.any λkv=>decide (kv.1=k):=by
 unfold KV at r
 induction r with
 | nil=>rfl
 | cons h t q=>rw[c9,c9,q,h.1]
def KV.repl {kvs:List (κ×V)}{vs:List (κ×Value)}(r:KV kvs vs)(k:κ){y:V}{u:Value}(F:yc y u) :
  KV (kvs.map λkv=>if kv.1=k then (kv.1,y) else kv) (vs.map λkv=>if kv.1=k then (kv.1,u) else kv):=by
 unfold KV at r ⊢
 induction r with
 | nil=>exact .nil
 | @cons p q ps I h t B=>
  rw[aC,aC];show .cons ?_ B;grind
def KV.put(r:KV kvs vs)(k:κ)(q:yc y u):KV (uy kvs k y) (stored vs k u):=by
 unfold uy stored;rw[r.any k];by_cases e:(vs.any λkv=>decide (kv.1=k))=true;rw[if_pos e,if_pos e];exact r.repl k q;rw[if_neg e,if_neg e];exact Paired.snoc r ⟨rfl,q⟩
def KV.length {kvs:List (κ×V)}{vs:List (κ×Value)}(r:KV kvs vs):kvs.length=vs.length:=fT r
end
def zhj(r:yc (kV k) u):(zQ P w).is k u=true:=by
 cases k with
 | inl i=>obtain⟨t,e⟩:=(show ∃t,u=Value.int i t from r);subst e;exact zfC P w i t
 | inr x=>obtain⟨t,e⟩:=(show ∃t,u=Value.str x t from r);subst e;exact zfD P w x t
def zew:∀ {ks:List Key} {us:AN},zM (ks.map kV) us->ItemsAre (zQ P w) ks us
 | [],_,r=>by rw[ez] at r;cases r;exact .nil
 | k::ks,_,r=>by
  rw[aC] at r
  cases r with
  | cons h t=>exact .cons (zhj h) (zew t)
abbrev KT (H:Hp):List (List Key×V)->List (List Key×Addr×Value)->Prop:=Paired λp q=>p.1=q.1/\H q.2.1=some (.tup (p.1.map kV))/\yc p.2 q.2.2
def KT.val(r:KT H kvs xs)(k:List Key):ze8 (xq kvs k) ((atKey xs k).map (·.2)):=by
 induction r with
 | nil=>exact True.intro
 | @cons p q ps B h t I=>
  obtain⟨h1,_,h2⟩:=h;by_cases e:p.1=k;have F:q.1=k:=h1.symm.trans e;have b:atKey (q::B) k=some q.2:=by simp[atKey,cq,F]
  rw[zZ e,b];exact h2;have F:¬ q.1=k:=λz=>e (h1.trans z);have b:atKey (q::B) k=atKey B k:=by simp[atKey,cq,F]
  rw[zY e,b];exact I
def KT.repl(r:KT H kvs xs)(k:List Key)(F:yc y u) :
  KT H (kvs.map λkv=>if kv.1=k then (kv.1,y) else kv) (xs.map (putAt k u)):=by
 induction r with
 | nil=>exact .nil
 | @cons p q ps I h t B=>
  rw[aC,aC];show .cons ?_ B;obtain⟨h1,h2,J⟩:=h;unfold putAt;by_cases e:p.1=k
  all_goals right
def KT.put(r:KT H kvs xs)(k:List Key)(F:H b=some (.tup (k.map kV)))(B:yc y u) :
  KT H (uy kvs k y) (storedH xs k b u):=by
 have e:(kvs.any λkv=>decide (kv.1=k))=(atKey xs k).isSome:=by rw[zaI,(r.val k).isSome_eq,fK]
 unfold uy storedH;rw[e];by_cases q:(atKey xs k).isSome=true;rw[if_pos q,if_pos q];exact r.repl k B;rw[if_neg q,if_neg q];exact Paired.snoc r ⟨rfl,F,B⟩
def KT.keeps(r:KT H kvs xs)(q:∀b ys,H b=some (.tup ys)->H' b=some (.tup ys)):KT H' kvs xs:=
 Paired.mapP r λ_ _ z=>⟨z.1,q _ _ z.2.1,z.2.2⟩
section
variable {P:Aa}{w:Ab}{H:Hp}{h:Heap}{a:Addr}
def zo2(q:HOk P w H h)(e:Rd H a u):ya P w H h a u:=e.ok q
def zkT(q:HOk P w H h)(e:Rd H a (.dK kvs)):kvs.length<=sizeLine/\(a==sysModules)=false/\∃vs,KV kvs vs/\h.DictOf (zQ P w) a vs:=
 show ya P w H h a (.dK kvs) from zo2 q e
def znn(q:HOk P w H h)(e:H a=some (.dK kvs)):kvs.length<=sizeLine/\(a==sysModules)=false/\∃vs,KV kvs vs/\h.DictOf (zQ P w) a vs:=zkT q (.inl e)
def zeC(B:HOk P w H h)(e:H a=some (.tup (ks.map kV))):(tupleKind (zQ P w)).is h ks a:=by obtain⟨_,q,r,o,h1,h2,⟨n,F⟩,_⟩:=(show ya P w H h a (.tup (ks.map kV)) from B a _ e);exact⟨o,q.toArray,n,h1,h2,F,by simpa using zew r⟩
def zkV(F:HOk P w H h)(e:Rd H a (.dT kvs)):kvs.length<=sizeLine/\(a==sysModules)=false/\
  ∃xs,KT H kvs xs/\h.DictOfH (tupleKind (zQ P w)) a xs:=by
 obtain⟨z,y,xs,r,o,es,I,h1,h2,J,O,U⟩:=(show ya P w H h a (.dT kvs) from zo2 F e);show⟨z,y,xs,r,o,es,I,h1,h2,J,O,λx B=>?_,U⟩
 have all:∀ {l:List (List Key×V)} {m:List (List Key×Addr×Value)},KT H l m->∀x∈m,(tupleKind (zQ P w)).is h x.1 x.2.1:=by
  intro l m q
  induction q with
  | nil=>intro x B;exact nomatch B
  | @cons p q ps Z hq t Y=>
   intro x B;rcases ay.mp B with e | B;subst e;exact zeC F (by right);exact Y x B
 exact all r x B
def zqb(q:HOk P w H h)(e:H a=some (.dT kvs)):kvs.length<=sizeLine/\(a==sysModules)=false/\
  ∃xs,KT H kvs xs/\h.DictOfH (tupleKind (zQ P w)) a xs:=zkV q (.inl e)
end
def zcg (H:Hp)(a:Addr)(y:V)(r:Option V):Prop:=
 (∃kvs k,Rd H a (.dK kvs)/\y=kV k/\r=xq kvs k)\/∃kvs k b,Rd H a (.dT kvs)/\y = .ref b/\H b=some (.tup (k.map kV))/\r=xq kvs k
def zd4 (H:Hp)(a:Addr)(y v:V)(H':Hp):Prop:=
 (∃kvs k,H a=some (.dK kvs)/\y=kV k/\kvs.length<sizeLine/\H'=upd H a (.dK (uy kvs k v)))\/
 ∃kvs k b,H a=some (.dT kvs)/\y = .ref b/\H b=some (.tup (k.map kV))/\kvs.length<sizeLine/\H'=upd H a (.dT (uy kvs k v))
def zcg.k {H:Hp}{a:Addr}{kvs:List (Key×V)}{k:Key}(e:H a=some (.dK kvs)):zcg H a (kV k) (xq kvs k):=.inl ⟨kvs,k,.inl e,rfl,rfl⟩
def zcg.t {H:Hp}{a b:Addr}{kvs:List (List Key×V)}{k:List Key}(e:H a=some (.dT kvs))(q:H b=some (.tup (k.map kV))):zcg H a (.ref b) (xq kvs k):=.inr ⟨kvs,k,b,.inl e,rfl,q,rfl⟩
def zd4.k {H:Hp}{a:Addr}{kvs:List (Key×V)}{k:Key}{v:V}(e:H a=some (.dK kvs))(q:kvs.length<sizeLine):zd4 H a (kV k) v (upd H a (.dK (uy kvs k v))):=.inl ⟨kvs,k,e,rfl,q,rfl⟩
def zd4.t {H:Hp}{a b:Addr}{kvs:List (List Key×V)}{k:List Key}{v:V}(e:H a=some (.dT kvs))(q:H b=some (.tup (k.map kV)))(B:kvs.length<sizeLine) :
  zd4 H a (.ref b) v (upd H a (.dT (uy kvs k v))):=.inr ⟨kvs,k,b,e,rfl,q,B,rfl⟩
section
variable {X:Cx}{pins:AB}{σ:St}{H:Hp}{s:AZ}{a:Addr}{y v:V}{u r:Value}{o:Option V}{A:Ae}{E:AA}
def Inv.big (I:Inv X pins σ H s):sysModules<s.heap.objs.size:=by have h:mainGlobals<s.heap.objs.size:=(I.mod.glob.keeps I.bk).lt;exact Nat.lt_trans (by ext) h
def zih(Y:A.units+1<cLine)(I:Inv X pins σ H s)(g:zcg H a y (some v))(U:yc y u)(h:∀w' s',Inv X pins σ H s'->yc v w'->Q w' s') :
  wpAny (model X.prog X.w) A (getItem (.ref a) u) Q E s:=by
 rcases g with ⟨kvs,k,e,ey,l⟩ | ⟨kvs,k,b,e,ey,eb,l⟩;subst ey;obtain⟨z,Z,vs,q,F⟩:=zkT I.hok e;obtain⟨w',J,B⟩:=ze8.some_of (v:=v) (o:=valueAt vs k) (by rw[l];exact q.val k);exact wpAny_getItem_of (zhj U) F.mapOf J (h w' _ (I.tok _) B);subst ey;cases (show u=Value.ref b from U);obtain⟨z,Z,xs,q,F⟩:=zkV I.hok e;obtain⟨w',J,B⟩:=ze8.some_of (v:=v) (o:=(atKey xs k).map (·.2)) (by rw[l];exact q.val k);obtain⟨p,hp,O⟩:=aI.mp J;show wpAny_getItem_heap (fm Y) (zeC I.hok eb) F hp ?_;rw[O];exact h w' _ (I.tok _) B
def znm(U:A.units+1<cLine)(I:Inv X pins σ H s)(g:zcg H a y o)(O:yc y u)(h:∀s',Inv X pins σ H s'->Q (.bool (!o.isSome)) s') :
  wpAny (model X.prog X.w) A (compareOp .NotIn u (.ref a)) Q E s:=by
 rcases g with ⟨kvs,k,e,ey,l⟩ | ⟨kvs,k,b,e,ey,eb,l⟩;subst ey;obtain⟨z,F,vs,B,J⟩:=zkT I.hok e;show wpAny_notIn_of (zhj O) F J.mapOf ?_;rw[<- (B.val k).isSome_eq,<- l];exact h _ (I.tok _);subst ey;cases (show u=Value.ref b from O);obtain⟨z,F,xs,B,J⟩:=zkV I.hok e;show wpAny_notIn_heap (fm U) (zeC I.hok eb) F J ?_;have q:=(B.val k).isSome_eq;rw[fK] at q;rw[<- q,<- l];exact h _ (I.tok _)
def zbC(I:Inv X pins σ H s)(F:Mut (H a))(hs:Heap.SameBut a s.heap h')(J:∃q,h'.get? a=some q)(B:ya X.prog X.w (upd H a ob) h' a ob) :
  Inv X pins σ (upd H a ob) { s with heap:=h',toks:=t' }:=
 I.write (x:=a) (e:=a) F (.inl rfl) (λb q O z=>(hs.2 b O).trans z) J B
def zin(z:kvs.length<=sizeLine)(B:(a==sysModules)=false)(q:KV kvs vs)(F:h'.DictOf (zQ P w) a vs) :
  ya P w H' h' a (.dK kvs):=⟨z,B,vs,q,F⟩
def zii(hu:A.units+1<cLine)(I:Inv X pins σ H s)(g:zd4 H a y v H')(ry:yc y u)(rv:yc v r)(h:∀s',Inv X pins σ H' s'->Q () s') :
  wpAny (model X.prog X.w) A (setItem (.ref a) u r) Q E s:=by
 rcases g with ⟨kvs,k,e,ey,l,eH⟩ | ⟨kvs,k,b,e,ey,eb,l,eH⟩;subst ey eH;obtain⟨z,O,vs,B,U⟩:=znn I.hok e;have Y:vs.length<=sizeLine:=by rw[<- B.length];exact z
 have Z:(uy kvs k v).length<=sizeLine:=by have:=yW kvs k v;lia
 show wpAny_setItem_pairs (hsz:=Y) (zhj ry) U λh' F hs=>h _ ?_;have he:∃q,h'.get? a=some q:=let ⟨q,_,_,J,_⟩:=F;⟨q,J⟩;exact zbC I (by rw[e];exact True.intro) hs he (zin Z O (B.put k rv) F);subst ey eH;cases (show u=Value.ref b from ry);obtain⟨z,O,xs,B,U⟩:=zqb I.hok e;have Y:xs.length<=sizeLine:=by rw[<- fT B];exact z
 have Z:(uy kvs k v).length<=sizeLine:=by have:=yW kvs k v;lia
 show wpAny_setItem_heap (hsz:=Y) (fm hu) (zeC I.hok eb) U λh' F hs=>h _ ?_;obtain⟨q,es,ep,J,h2,h3,h4,_,h5⟩:=F;show zbC I (by rw[e];exact True.intro) hs ⟨q,J⟩ ⟨Z,O,_,(B.put k eb rv).keeps λc ys ec=>?_,q,es,ep,J,h2,h3,h4,h5⟩;rw[ze (by grind)];exact ec
variable {kvs:List (Key×V)}{k:Key}
end
def zsO (i:Expr):Prop:=∀q B,subscripted i false q B=operate [q,B] (getItem q B)
def zpi {prog:Aa}{w:Ab}{A:Ae}{E:AA}{s:AZ}{env:Env}{value q:Expr}{pos:Pos}{T id:String}{Q:AA}
  (Z:typeLookup (.type T) "__getitem__" = pure (some (.builtin id))) (hs:zsO q)
  (h:Ag prog w A (eval value env) (λo I=>Ag prog w A (eval q env) (λi B=>B.TypeIs o T/\Ag prog w A (getItem o i) Q E B) E I) E s) :
  Ag prog w A (eval (.Subscript value q pos) env) Q E s:=by
 show Subscript_ (bE h (λo I O=>bE O (λi B F=>?_) λ_ _ x=>x) λ_ _ x=>x);obtain⟨Y,F⟩:=F;unfold subscriptTail;show aa ?_;rw[getitemInPython_of_ne Y.not_modules];show aa (wpAny_specialOf Y Z ?_);have fin:Ag prog w A (subscripted q false o i) (λr J=>Ag prog w A (letTemporaryGo value o r >>= λ_=>pure r) Q E J) E B:=by rw[hs o i];exact wpAny_operating (bE F (λr J U=>aa (wpAny_letTemporaryGo (ae U))) λ_ _ x=>x)
 first
  | exact ae (aa fin)
  | exact aa (by grind)
  | exact aa fin
def zfm{X:Cx}{pins:AB}{σ:St}{H:Hp}{s:AZ}{a:Addr}{y:V}(I:Inv X pins σ H s)(g:zcg H a y o):s.TypeIs (.ref a) "dict" := by
 rcases g with ⟨kvs,k,e,_,_⟩ | ⟨kvs,k,b,e,_,_,_⟩;obtain⟨_,_,vs,_,q⟩:=zkT I.hok e;exact q.typeIs;obtain⟨_,_,xs,_,q⟩:=zkV I.hok e;exact q.typeIs
def zpj (td ty:TE):TE:=λσ H Q=>td σ H λx H1=>ty σ H1 λy H2=>∃a v,x = .ref a/\zcg H2 a y (some v)/\Q v H2
def zfT (ty td:TE):TE:=λσ H Q=>ty σ H λy H1=>td σ H1 λx H2=>∃a o,x = .ref a/\zcg H2 a y o/\Q (.bl (!o.isSome)) H2
def zpa (td ty tv:TE):TS:=λD σ H=>tv σ H λv H1=>td σ H1 λx H2=>ty σ H2 λy H3=>∃a H4,x = .ref a/\zd4 H3 a y v H4/\D.nx σ H4
section
variable {X:Cx}{o i e value:Expr}{pos pos' tpos:Pos}{td ty tv:TE}
def zjB (B:X.A.units+1<cLine)(J:PE X o td)(hi:PE X i ty)(hs:zsO i):PE X (.Subscript o i pos) (zpj td ty):=by intro pins s σ H Q I h;show zpi PySem.F.slot_dict_getitem.lookup hs (thn (J pins s σ H _ I h) λu O ⟨x,H1,I1,U,Y⟩=>thn (hi pins O σ H1 _ I1 Y)  ?_);rintro iv s2 ⟨y,H2,I2,Z,a,v,ex,g,q2⟩;subst ex;obtain rfl:u=Value.ref a:=U;exact⟨zfm I2 g,zih B I2 g Z λw' s3 I3 q=>⟨v,H2,I3,q,q2⟩⟩
def zeM (q:X.A.units+1<cLine)(hi:PE X i ty)(B:PE X o td):PC X .NotIn i o (zfT ty td):=by intro pins s σ H Q I h;show thn (hi pins s σ H _ I h) λiv F ⟨y,H1,I1,J,O⟩=>thn (B pins F σ H1 _ I1 O)  ?_;rintro u s2 ⟨x,H2,I2,U,a,Y,ex,g,Z⟩;subst ex;obtain rfl:u=Value.ref a:=U;exact znm q I2 g J λs3 I3=>⟨.bl (!Y.isSome),H2,I3,rfl,Z⟩
def zjI (q:X.A.units+1<cLine)(B:PE X o td)(hi:PE X i ty)(F:PE X value tv)(hs:swapsWith value (some (.Subscript o i pos')) pos.line X.env=pure false) :
  PS X (.Assign [.Subscript o i pos'] value pos) (zpa td ty tv):=by
 intro pins s σ H D I h;show wpAny_Assign_Subscript (thn (F pins s σ H _ I h) λr J ⟨v,H1,I1,O,U⟩=>thn (B pins J σ H1 _ I1 U) λu Y ⟨x,H2,I2,Z,q2⟩=>thn (hi pins Y σ H2 _ I2 q2) λiv s3 ⟨y,H3,I3,ry,a,H4,ex,g,q3⟩=>?_) hs;subst ex;obtain rfl:u=Value.ref a:=Z;exact zii q I3 g ry O λs4 I4=>⟨σ,H4,I4,q3⟩
end
def zkS(h:Heap)(q:sysModules<h.objs.size):ya P w H (h.push { cls:=.type "dict",data:=.dict #[] }) h.objs.size (.dK []):=
 ⟨aK _,beq_eq_false_iff_ne.mpr (Ne.symm (aS q)),[],.nil,Heap.DictOf.new h⟩
def zgc(h:Heap)(q:sysModules<h.objs.size):ya P w H (h.push { cls:=.type "dict",data:=.dict #[] }) h.objs.size (.dT []):=
 ⟨aK _,beq_eq_false_iff_ne.mpr (Ne.symm (aS q)),[],.nil,_,#[],0,aq _ rfl,⟨rfl,rfl,rfl⟩,rfl,rfl,List.nodup_nil⟩
def zm4:TE:=λ_ H Q=>∀p,H p=none->Q (.ref p) (upd H p (.dT []))
section
variable {X:Cx}{pos:Pos}
def zgI:PE X (.Dict [] [] pos) zm4:=λpins s σ H Q I h=>
 wpAny_Dict_empty ⟨.ref s.heap.objs.size,_,I.laid (a:=s.heap.objs.size) (o:=.dT []) (t':=s.toks) (λ_ _ q=>af _ q) (ai _) (zgc s.heap I.big),rfl,h _ (I.hok.fresh (ai _))⟩
end
def zgW:List (TE×TE)->St->Hp->(List (V×V)->Hp->Prop)->Prop
 | [],_,H,Q=>Q [] H
 | (tk,tv)::r,σ,H,Q=>tk σ H λx H1=>tv σ H1 λy H2=>zgW r σ H2 λps H3=>Q ((x,y)::ps) H3
abbrev VV:List (V×V)->List (Value×Value)->Prop:=Paired λp q=>yc p.1 q.1/\yc p.2 q.2
def PPs (X:Cx)(pos:Pos)(B:List (Option Expr))(q:AO)(F:List (TE×TE)):Prop:=
 ∀ (pins:AB) (s:AZ) (σ:St) (H:Hp) (Q:List (V×V)->Hp->Prop),Inv X pins σ H s->zgW F σ H Q->
  Af X (evalPairs (pairTrees B q X.env pos)) (λvs s'=>∃ps H',Inv X pins σ H' s'/\VV ps vs/\Q ps H') X.xe s
def zjF:PPs X pos [] [] []:=λpins s σ H Q I h=>pairTrees_nil_walk ⟨[],H,I,.nil,h⟩
def zgL(F:PE X k tk)(J:PE X v tv)(O:PPs X pos ks vs q) :
  PPs X pos (some k::ks) (v::vs) ((tk,tv)::q):=λpins s σ H Q I h=>
 pairTrees_cons_walk (thn (F pins s σ H _ I h) λu U ⟨x,H1,I1,Y,Z⟩=>thn (J pins U σ H1 _ I1 Z) λw2 s2 ⟨y,H2,I2,ry,q2⟩=>
  thn (O pins s2 σ H2 _ I2 q2) <| by rintro ws s3 ⟨ps,H3,I3,B,q3⟩;exact⟨(x,y)::ps,H3,I3,.cons ⟨Y,ry⟩ B,q3⟩)
def zbV (kvs more:List (Key×V)):List (Key×V):=more.foldl (λacc kv=>uy acc kv.1 kv.2) kvs
def KV.merge:∀ {more:List (Key×V)} {B:List (Key×Value)} {kvs:List (Key×V)} {vs:List (Key×Value)},KV more B->KV kvs vs->KV (zbV kvs more) (merged vs B):=by
 intro more B kvs vs r;unfold KV at r
 induction r generalizing kvs vs with
 | nil=>intro q;exact q
 | @cons p q ps J h t F=>
  intro I
  have e:KV (uy kvs p.1 p.2) (stored vs q.1 q.2):=by
   have:=I.put p.1 h.2;right
  exact F e
def zaq:∀ (more kvs:List (Key×V)),(zbV kvs more).length<=kvs.length+more.length
 | [],kvs=>by change kvs.length<=kvs.length+0;lia
 | p::r,kvs=>by
  have h1:=zaq r (uy kvs p.1 p.2);have h2:=yW kvs p.1 p.2;change (zbV (uy kvs p.1 p.2) r).length<=_;grind
def zcD:∀ {kvs:List (Key×V)} {F:List (Value×Value)},VV (kvs.map λkv=>(kV kv.1,kv.2)) F->∃B,Carries (zQ P w) F B/\KV kvs B
 | [],_,r=>by rw[ez] at r;cases r;exact⟨[],True.intro,.nil⟩
 | p::kvs,_,r=>by
  rw[aC] at r
  cases r with
  | @cons a b as J h t=>
   obtain⟨B,c,q⟩:=zcD (P:=P) (w:=w) t;obtain⟨O,I⟩:=b;exact⟨(p.1,I)::B,⟨zhj h.1,rfl,c⟩,.cons ⟨rfl,h.2⟩ q⟩
def zrT (q:List (TE×TE)):TE:=λσ H Q=>∀p,H p=none->zgW q σ (upd H p (.dK [])) λps H2=>H2 p=some (.dK [])/\∃kvs:List (Key×V),ps=kvs.map (λkv=>(kV kv.1,kv.2))/\kvs.length<=15/\Q (.ref p) (upd H2 p (.dK (zbV [] kvs)))
def zok(h:PPs X pos B F J)(O:B.all (·.isSome)=true)(hl:B.length=F.length)(h0:B≠[])(Y:B.length<=15):PE X (.Dict B F pos) (zrT J):=by
 intro pins s σ H Q I q;have hn:=I.hok.fresh (ai s.heap.objs.size);have I1:=I.laid (a:=s.heap.objs.size) (o:=.dK []) (h':=s.heap.push { cls:=.type "dict",data:=.dict #[] }) (t':=s.toks) (λ_ _ q=>af _ q) (ai _) (zkS s.heap I.big);show wpAny_Dict_walk (knd:=zQ X.prog X.w) O hl h0 Y (thn (h pins _ σ _ _ I1 (q _ hn))  ?_);rintro ws s2 ⟨ps,H2,I2,Z,e,kvs,ep,lk,q2⟩;subst ep;obtain⟨rs,c,rk⟩:=zcD (P:=X.prog) (w:=X.w) Z;obtain⟨z,hd,ac,r0,dd⟩:=znn I2.hok e;cases r0;show⟨rs,c,dd,λh' U hs=>⟨.ref s.heap.objs.size,_,?_,rfl,q2⟩⟩;have hz:(zbV [] kvs).length<=sizeLine:=by have h1:=zaq kvs [];rw[List.length_nil] at h1;rw[b6];lia
 have he:∃q,h'.get? s.heap.objs.size=some q:=let ⟨q,_,_,hq,_⟩:=U;⟨q,hq⟩;exact zbC I2 (by rw[e];exact True.intro) hs he (zin hz hd (rk.merge .nil) U)
section
variable {X:Cx}{pins:AB}{σ:St}{H:Hp}{s:AZ}{a:Addr}{y d:V}{u r:Value}{o:Option V}{A:Ae}{E:AA}
variable {o e f:Expr}{apos cpos:Pos}{td ty tx:TE}
variable {kvs:List (Key×V)}
end
end L2
namespace HT
open PyProof.Rows
def lexLt:AG->AG->Bool
 | [],[]=>false
 | [],_::_=>true
 | _::_,[]=>false
 | x::xs,y::ys=>if x=y then lexLt xs ys else decide (x<y)
section
open PySem.SeqAt
open PySem.AutoSeq1 (wpAny_loadPart')
open PySem.MeetsSeq PySem.MeetsSeq2 PySem.MeetsSeq3
variable {prog:Aa}{w:Ab}{A:Ae}{E:AA}{s:AZ}
def cat_tup(ht:IsTup s.heap t vs.toArray)(hb:IsTup s.heap b q.toArray)(hv:vs≠[])(h1:q=[]->Q (.ref t) s)(h2:q≠[]->Q (.ref s.heap.objs.size) { s with heap:=s.heap.push { cls:=.type "tuple",data:=.seq (vs++q).toArray } })(hsz:vs.length+q.length<=sizeLine):Ag prog w A (binaryOp .Add (.ref t) (.ref b)) Q E s:=by
 obtain⟨⟨cls,dd,data,sl⟩,Y,hc,n,hd⟩:=id ht;obtain⟨⟨ad,I,ac,J⟩,B,O,n2,U⟩:=id hb;simp only at hc hd O U;subst hc hd O U;have e:vs.toArray++q.toArray=(vs++q).toArray:=by simp
 by_cases Z:q=[]
 ·exact concat_meets ⟨_,Y,rfl⟩ ⟨_,B,rfl⟩ noFill_tuple_add seq_tuple_add PySem.F.slot_tuple_add PySem.F.entry_tuple_add (PySem.F.args_tuple_add_2 _ _)
   (tuple_addW1 t b vs.toArray q.toArray n n2 dd I sl J (by simpa using hv) (by simp[Z])) ⟨Y,B,h1 Z⟩
 ·show concat_meets ⟨_,Y,rfl⟩ ⟨_,B,rfl⟩ noFill_tuple_add seq_tuple_add PySem.F.slot_tuple_add PySem.F.entry_tuple_add (PySem.F.args_tuple_add_2 _ _)
   (tuple_addW2 t b vs.toArray q.toArray n n2 dd I sl J (by simpa using hv) (by simpa using Z) (by right)) ⟨Y,B,?_⟩
  rw[e];exact h2 Z
def sIx (n d:Nat):AQ->Nat
 | none=>d
 | some v=>if v<0 then (v+(n:Int)).toNat else min v.toNat n
def sIx_none (n d:Nat):sIx n d none=d:=rfl
def sIx_nat (n d k:Nat):sIx n d (some (k:Int))=min k n:=by change (if (k:Int)<0 then ((k:Int)+(n:Int)).toNat else min (k:Int).toNat n)=min k n;rw[if_neg (by lia),Int.toNat_natCast]
def zrP (n d:Nat)(B:d<=n)(o:AQ):sIx n d o<=n:=by
 cases o with
 | none=>exact B
 | some v=>
  change (if v<0 then (v+(n:Int)).toNat else min v.toNat n)<=n;by_cases q:v<0;rw[if_pos q];lia;rw[if_neg q];exact Nat.min_le_right _ _
def zh4 (v:Int)(n d:Nat):(if v<0 then max (v+(n:Int)) 0 else min v (n:Int))=((sIx n d (some v):Nat):Int):=by
 change (if v<0 then max (v+(n:Int)) 0 else min v (n:Int))=(((if v<0 then (v+(n:Int)).toNat else min v.toNat n):Nat):Int);grind
def zg6 (lo hi:AQ)(n:Nat):Builtin.Slice.sliceAdjust lo hi 1 (n:Int)=(((sIx n 0 lo:Nat):Int),((sIx n n hi:Nat):Int)):=by
 have h1:¬ ((1:Int)<0):=by lia
 unfold Builtin.Slice.sliceAdjust;simp only[h1,if_false];show Prod.ext ?_ ?_
 cases lo with
 | none=>rfl
 | some v=>exact zh4 v n 0
 cases hi with
 | none=>rfl
 | some v=>exact zh4 v n n
def zhu (i j:Nat):Builtin.Slice.slicePlaces (i:Int) (j:Int) 1=j - i:=by
 unfold Builtin.Slice.slicePlaces;have h1:(1:Int) > 0:=by lia
 simp only[h1,if_true,Int.ediv_one];split <;> lia
def zcZ{o:AQ}{Q:AQ->AZ->Prop}(p:IsPart v o)(h:Q o s):Ag prog w A (Builtin.Slice.slicePartIndex v) Q E s:=by
 cases p with
 | none=>exact slicePart_none h
 | int i t=>exact slicePart_int h
def x4{lo hi:AQ}{Q:Int×Int×Nat->AZ->Prop}(hs:s.heap.IsSliceOf J F I .none)(pl:IsPart F lo)(O:IsPart I hi)(h:Q (((sIx n 0 lo:Nat):Int),1,sIx n n hi - sIx n 0 lo) s):Ag prog w A (Builtin.Slice.sliceApplied (.ref J) (pure (n:Int))) Q E s:=by
 obtain⟨Y,q,U,B⟩:=id hs;unfold Builtin.Slice.sliceApplied Builtin.Slice.sliceFields;show wpAny_bind (wpAny_bind (wpAny_field q B (x:=F) rfl (wpAny_bind (wpAny_field q B (x:=I) rfl (wpAny_bind (wpAny_field q B (x:=.none) rfl (wpAny_pure ?_)))))));show wpAny_bind (slicePart_none ?_);change wpAny _ _ (if ((1:Int)==0)=true then _ else _) _ _ s;rw[if_neg (by ext)];show wpAny_bind (zcZ pl (wpAny_bind (zcZ O (wpAny_bind (wpAny_pure ?_)))));change wpAny _ _ (match Builtin.Slice.sliceAdjust lo hi 1 (n:Int) with | (lo,hi)=>pure (lo,(1:Int),Builtin.Slice.slicePlaces lo hi 1)) _ _ s;rw[zg6 lo hi n];change wpAny _ _ (pure (((sIx n 0 lo:Nat):Int),(1:Int),Builtin.Slice.slicePlaces ((sIx n 0 lo:Nat):Int) ((sIx n n hi:Nat):Int) 1)) _ _ s;rw[zhu];exact wpAny_pure h
def zlE (xs:AK)(i k:Nat):((List.range k).filterMap λ(m:Nat)=>xs[((i:Int)+(m:Int) * 1).toNat]?).toArray=((xs.toList.drop i).take k).toArray:=by
 have e:(λ(m:Nat)=>xs[((i:Int)+(m:Int) * 1).toNat]?)=λm=>xs[i+m]?:=by
  funext m;have:((i:Int)+(m:Int) * 1).toNat=i+m:=by lia
  rw[this]
 rw[e];have:=pick_run xs i k;rw[List.filterMap_map] at this;have q:((λx=>xs[x]?) ∘ λx=>i+x)=λm=>xs[i+m]?:=rfl;right
def getItem_tuple_cut{lo hi:AQ}(B:IsTup s.heap t items)(hs:s.heap.IsSliceOf F Y Z .none)(pl:IsPart Y lo)(pu:IsPart Z hi)(hw:¬ (sIx items.size 0 lo=0/\sIx items.size items.size hi=items.size))(h:Q (.ref s.heap.objs.size) { s with heap:=s.heap.push { cls:=.type "tuple",data:=.seq ((items.toList.drop (sIx items.size 0 lo)).take (sIx items.size items.size hi - sIx items.size 0 lo)).toArray } })(hsz:items.size<=sizeLine):Ag prog w A (getItem (.ref t) (.ref F)) Q E s:=by
 have q:sizeOk (.seq ((items.toList.drop (sIx items.size 0 lo)).take (sIx items.size items.size hi - sIx items.size 0 lo)).toArray):=by change ((items.toList.drop (sIx items.size 0 lo)).take (sIx items.size items.size hi - sIx items.size 0 lo)).toArray.size<=sizeLine;rw[List.size_toArray,List.length_take,List.length_drop,Array.length_toList];lia
 have hj:sIx items.size items.size hi<=items.size:=zrP _ _ (Nat.le_refl _) hi;obtain⟨os,I,J,ac⟩:=id hs;have O:s.TypeIs (.ref F) "slice" := ⟨os,I,J⟩;unfold getItem;try with_reducible show wpAny_holding ?_
 first | show wpAny_bind (wpAny_pure ?_) | skip
 show wpAny_bind (wpAny_sequenceKey B.typeIs (by ext) ?_)
 show wpAny_bind (wpAny_callSpecial?_slot (name:=Str.ofString "__getitem__") B.typeIs PyProof.Rows.slot_tuple_getitem
  (wpAny_call_entry PyProof.Rows.slot_tuple_getitem B.typeIs entry_tuple_getitem ?_ (args_tuple_getitem _ _)))
 change wpAny _ _ (Builtin.Tuple.tupleItemsOf (.ref t) >>= _) _ _ s;show wpAny_bind (tupleItemsOf_ B ?_);show wpAny_bind (wpAny_typeOf O ?_);rw[if_pos (by ext)];show wpAny_bind (x4 hs pl pu ?_);have U:¬ ((((sIx items.size 0 lo:Nat):Int)==0&&(1:Int)==1&&(sIx items.size items.size hi - sIx items.size 0 lo)==items.size)=true):=by grind
 change wpAny _ _ (if (((sIx items.size 0 lo:Nat):Int)==0&&(1:Int)==1&&(sIx items.size items.size hi - sIx items.size 0 lo)==items.size)=true then _ else _) _ _ s;rw[if_neg U,zlE]
 first
  | exact wpAny_bind (m:=Builtin.Tuple.tupleExact _) (wpAny_newObj_type (wpAny_pure ⟨_,rfl,wpAny_pure h⟩) q)
  | exact wpAny_bind (by grind) (by grind)
  | exact wpAny_bind (by grind)
  | exact wpAny_bind (by grind)
end
end HT
namespace L2
open PyProof.Rows
abbrev TO:=St->Hp->(AQ->Hp->Prop)->Prop
def PO (X:Cx)(e:Option Expr)(t:TO):Prop:=
 ∀ (pins:AB) (s:AZ) (σ:St) (H:Hp) (Q:AQ->Hp->Prop),Inv X pins σ H s->t σ H Q->
  Af X (evalPart e X.env) (λu s'=>∃o H',Inv X pins σ H' s'/\IsPart u o/\Q o H') X.xe s
def zkb:TO:=λ_ H Q=>Q none H
def zr1 (t:TE):TO:=λσ H Q=>t σ H λx H1=>∃i,x = .int i/\Q (some i) H1
section
variable {X:Cx}{e:Expr}{te:TE}{lo hi:Option Expr}{tl th:TO}{pos p2:Pos}
def zoz:PO X none zkb:=by intro pins s σ H Q I h;rw[evalPart_none];exact ae ⟨none,H,I,.none,h⟩
def zoA (h:PE X e te):PO X (some e) (zr1 te):=by intro pins s σ H Q I B;rw[evalPart_some];show thn (h pins s σ H _ I B)  ?_;rintro u O ⟨x,H1,I1,F,J⟩;obtain⟨i,rfl,q⟩:=J;obtain⟨t,rfl⟩:=F;exact⟨some i,H1,I1,.int i t,q⟩
def SlR (X:Cx)(r:V->AQ->AQ->Hp->VK->Prop):Prop:=
 ∀ (pins:AB) (s:AZ) (σ:St) (H:Hp) (x:V) (v q B:Value) (lo hi:AQ) (F:Addr) (Q:VK),Inv X pins σ H s->yc x v->s.heap.IsSliceOf F q B .none->IsPart q lo->IsPart B hi->r x lo hi H Q->
  ∃T id,typeLookup (.type T) "__getitem__" = pure (some (.builtin id))/\s.TypeIs v T/\Af X (getItem v (.ref F)) (EP X pins σ Q) X.xe s
def tSl (r:V->AQ->AQ->Hp->VK->Prop)(te:TE)(tl th:TO):TE:=λσ H Q=>te σ H λx H1=>tl σ H1 λl H2=>th σ H2 λu H3=>r x l u H3 Q
def zlC {r:V->AQ->AQ->Hp->VK->Prop}(O:SlR X r)(U:PE X e te)(Y:PO X lo tl)(Z:PO X hi th):PE X (.Subscript e (.Slice lo hi none p2) pos) (tSl r te tl th):=by intro pins s σ H Q I h;show Subscript_ (thn (U pins s σ H _ I h)  ?_);rintro v s1 ⟨x,H1,I1,r1,q1⟩;show wpAny_Slice (thn (Y pins s1 σ H1 _ I1 q1) λF s2 ⟨l,H2,I2,pl,q2⟩=>thn (Z pins s2 σ H2 _ I2 q2)  ?_);rintro J B ⟨u,H3,I3,pu,q3⟩;rw[evalPart_none];show ae ?_;have I4:Inv X pins σ H3 { B with heap:=B.heap.push { cls:=.type "slice",data:=.fields #[F,J,.none] } }:=I3.kept (t':=B.toks) λb ob q=>af _ q;obtain⟨T,id,hT,ht,hg⟩:=O pins { B with heap:=B.heap.push { cls:=.type "slice",data:=.fields #[F,J,.none] } } σ H3 x v F J l u B.heap.objs.size Q I4 r1 (Heap.IsSliceOf.new ..) pl pu q3;change Af X (subscriptTail e (.Slice lo hi none p2) v (.ref B.heap.objs.size)) (EP X pins σ Q) X.xe { B with heap:=B.heap.push { cls:=.type "slice",data:=.fields #[F,J,.none] } };exact tail_any (ops:=[.ref B.heap.objs.size,v]) ht hT hg (by with_unfolding_all rfl)
def zcF (xs:AT)(lo hi:AQ):AT:=(xs.drop (HT.sIx xs.length 0 lo)).take (HT.sIx xs.length xs.length hi - HT.sIx xs.length 0 lo)
def u9 (xs:AT)(lo hi:AQ):(zcF xs lo hi).length<=xs.length:=by unfold zcF;rw[bg,eG];lia
def rSlT (K:AH):V->AQ->AQ->Hp->VK->Prop:=λx lo hi H Q=>∃a xs,x = .ref a/\SqT K H a xs/\
 ¬ (HT.sIx xs.length 0 lo=0/\HT.sIx xs.length xs.length hi=xs.length)/\∀p,H p=none->Q (.ref p) (upd H p (.tup (zcF xs lo hi)))
def zrR:SlR X (rSlT X.K):=by
 intro pins s σ H x v vl vu lo hi sl Q I U hs pl Y h;obtain⟨a,xs,rfl,Z,hw,q⟩:=h;cases U;obtain⟨F,r,J,O⟩:=I.tuple Z;have B:F.toArray.size=xs.length:=by rw[aU];exact r.length.symm
 show⟨"tuple",_,PyProof.Rows.slot_tuple_getitem.lookup,J.typeIs,?_⟩;show HT.getItem_tuple_cut J hs pl Y (by rw[B];exact hw) ?_ (by rw[B];exact O);rw[B];show⟨.ref s.heap.objs.size,_,I.laid (t':=s.toks) (o:=.tup (zcF xs lo hi)) (λb ob q=>af _ q) (ai _) ?_,rfl,q _ (I.hok.fresh (ai _))⟩;exact⟨aA (u9 xs lo hi) O,_,(r.drop (HT.sIx xs.length 0 lo)).take (HT.sIx xs.length xs.length hi - HT.sIx xs.length 0 lo),uV.new _ _⟩
def zub (K:AH):R2:=λx y H Q=>∃a b xs ys,x = .ref a/\y = .ref b/\SqT K H a xs/\SqT K H b ys/\xs≠[]/\xs.length+ys.length<=sizeLine/\
 (ys=[]->Q (.ref a) H)/\(ys≠[]->∀p,H p=none->Q (.ref p) (upd H p (.tup (xs++ys))))
def zM.nil_iff(r:zM xs us):us=[]↔xs=[]:=by
 cases r with
 | nil=>simp
 | cons _ _=>simp
def zoe:OpR X (binaryOp .Add) (zub X.K):=by intro pins s σ H x y v u Q I O U h;obtain⟨a,b,xs,ys,rfl,rfl,Y,Z,hx,hz,q1,q2⟩:=h;cases O;cases U;obtain⟨ac,F,p1,_⟩:=I.tuple Y;obtain⟨J,B,p2,_⟩:=I.tuple Z;show HT.cat_tup p1 p2 (λz=>hx (F.nil_iff.mp z)) (λz=>⟨.ref a,H,I,rfl,q1 (B.nil_iff.mp z)⟩) (λz=>?_) (by rw[<- F.length,<- B.length];exact hz);show⟨.ref s.heap.objs.size,_,I.laid (t':=s.toks) (o:=.tup (xs++ys)) (λb ob q=>af _ q) (ai _) ?_,rfl,q2 (λw=>z (B.nil_iff.mpr w)) _ (I.hok.fresh (ai _))⟩;exact⟨by right,_,F.append B,uV.new _ _⟩
end
def ixN (n:Nat)(i:Int):Option Nat:=if 0<=i then (if i<n then some i.toNat else none) else if -(n:Int)<=i then some (i+n).toNat else none
def atI {α:Type}(xs:List α)(i:Int):Option α:=(ixN xs.length i).bind λj=>xs[j]?
def ziO {n:Nat}{i:Int}{j:Nat}(h:ixN n i=some j):seqIndex? i n=some j/\j<n/\-(n:Int)<=i/\i<n:=by
 unfold ixN at h;by_cases q:0<=i;rw[if_pos q] at h;by_cases h1:i<n;rw[if_pos h1] at h;have e:i.toNat=j:=cG h;exact⟨by rw[seqIndex_of q h1,e],by lia,by lia,h1⟩;right;rw[if_neg q] at h;by_cases h1:-(n:Int)<=i;rw[if_pos h1] at h;have e:(i+n).toNat=j:=cG h;exact⟨by rw[seqIndex_neg (by lia) h1,e],by lia,h1,by lia⟩;right
def zhW {α:Type}{xs:List α}{i:Int}{v:α}(h:atI xs i=some v):∃j,seqIndex? i xs.length=some j/\xs[j]?=some v/\j<xs.length/\-(xs.length:Int)<=i/\i<xs.length:=by
 unfold atI at h
 cases e:ixN xs.length i with
 | none=>rw[e] at h;cases h
 | some j=>
  rw[e] at h;obtain⟨h1,h2,q,B⟩:=ziO e;exact⟨j,h1,h,h2,q,B⟩
def zhX {α:Type}{xs:List α}{j:Nat}{v:α}(h:xs[j]?=some v):atI xs (j:Int)=some v:=by
 have q:j<xs.length:=(ah.mp h).1
 have e:ixN xs.length (j:Int)=some j:=by
  unfold ixN;right
 unfold atI;rw[e];exact h
def zfb (b:Expr):Prop:=∀o i,subscripted b false o i=operate [o,i] (getItem o i)
def IxR (X:Cx)(r:R2):Prop:=
 ∀ (value q:Expr) (pins:AB) (s:AZ) (σ:St) (H:Hp) (x y:V) (v u:Value) (Q:VK),Inv X pins σ H s->yc x v->yc y u->r x y H Q->
  subscripted q false v u=operate [v,u] (getItem v u)->Af X (subscriptTail value q v u) (EP X pins σ Q) X.xe s
def MtR (X:Cx)(id:String)(r:V->AT->Hp->VK->Prop):Prop:=
 ∀ (pins:AB) (s:AZ) (σ:St) (H:Hp) (x:V) (xs:AT) (v:Value) (us:AN) (Q:VK),Inv X pins σ H s->yc x v->zM xs us->r x xs H Q->
  Af X (call (.builtin id) (v::us)) (EP X pins σ Q) X.xe s
section
variable {X:Cx}{a b:Expr}{ta tb:TE}{pos:Pos}
def zt3(B:IxR X r)(F:PE X a ta)(J:PE X b tb)(hs:zfb b):PE X (.Subscript a b pos) (tOp r ta tb):=by intro pins s σ H Q I h;exact Subscript_ (zsV F J I h λv u O x y H2 I2 U Y q=>B a b pins O σ H2 x y v u Q I2 U Y q (hs _ _))
def zsJ (K:AH):R2:=λx y H Q=>∃p xs i v,x = .ref p/\y = .int i/\SqL K H p xs/\atI xs i=some v/\Q v H
def zpM (K:AH):R2:=λx y H Q=>∃p xs i v,x = .ref p/\y = .int i/\SqT K H p xs/\atI xs i=some v/\Q v H
def znK:IxR X (zsJ X.K):=by
 intro value B pins s σ H x y v u Q I Z ry h hs;obtain⟨p,xs,i,z,rfl,rfl,hq,he,q⟩:=h;cases Z;obtain⟨t,rfl⟩:=ry;obtain⟨F,r,pl,hz⟩:=I.list hq;obtain⟨j,h1,h2,h3,h4,h5⟩:=zhW he;obtain⟨w,U,J⟩:=r.get h2;have hl:=r.length;have hn:=zgx;have fin:EP X pins σ Q w s:=⟨z,H,I,J,q⟩;by_cases Y:0<=i
 have O:i.toNat=j:=by
  rw[seqIndex_of Y h5] at h1;right
 exact item_listR pl.isList Y (by lia) (by rw[O];simpa using U) fin hs
 have O:(i+(F.toArray.size:Int)).toNat=j:=by
  rw[seqIndex_neg (by lia) h4] at h1;right
 exact subscriptTail_builtinR (x:=w) pl.isList.typeIs slot_list_getitem.lookup
  (wpAny_getItem_list_neg (Q:=λr s'=>r=w/\EP X pins σ Q r s') pl.isList (by lia) (by right) (by lia) (by rw[O];simpa using U) ⟨rfl,fin⟩) hs
def zqq:IxR X (zpM X.K):=by
 intro value B pins s σ H x y v u Q I J O h hs;obtain⟨p,xs,i,z,rfl,rfl,U,Y,q⟩:=h;cases J;obtain⟨t,rfl⟩:=O;obtain⟨Z,r,pl,hz⟩:=I.tuple U;obtain⟨j,h1,h2,h3,h4,h5⟩:=zhW Y;obtain⟨w,ew,F⟩:=r.get h2;have hl:=r.length;have hn:=zgx;have fin:EP X pins σ Q w s:=⟨z,H,I,F,q⟩
 exact subscriptTail_builtinR (x:=w) pl.typeIs slot_tuple_getitem.lookup
  (getItem_tuple (j:=j) (Q:=λr s'=>r=w/\EP X pins σ Q r s') pl (by lia) (by lia) (by right) (by simpa using ew) ⟨rfl,fin⟩) hs
def zhn (q:AN)(n j:Nat)(u:Value):Obj.mapSeq (·.setIfInBounds j u) { cls:=.type "list",data:=.seq q.toArray n }={ cls:=.type "list",data:=.seq (q.set j u).toArray n }:=by simp[Obj.mapSeq]
def Inv.lst {pins:AB}{σ:St}{H:Hp}{s:AZ}{p:Addr}{xs:AT}(I:Inv X pins σ H s)(h:H p=some (.lst xs)) :
  ∃ (q:AN) (n:Nat),zM xs q/\s.heap.get? p=some { cls:=.type "list",data:=.seq q.toArray n }/\xs.length<=sizeLine:=by
 obtain⟨z,q,n,r,e⟩:=I.hok p _ h;exact⟨q,n,r,e,z⟩
def Inv.lstUpd{pins:AB}{σ:St}{H:Hp}{s:AZ}{p:Addr}{xs ys:AT}{B its':AN}{f:Obj->Obj}(I:Inv X pins σ H s)(h:H p=some (.lst xs))(O:s.heap.get? p=some { cls:=.type "list",data:=.seq B.toArray n })(J:f { cls:=.type "list",data:=.seq B.toArray n }={ cls:=.type "list",data:=.seq its'.toArray F })(r:zM ys its')(U:ys.length<=sizeLine)(t:Nat) :
  Inv X pins σ (upd H p (.lst ys)) { s with heap:=s.heap.update p f,toks:=t }:=by
 have e:(s.heap.update p f).get? p=some { cls:=.type "list",data:=.seq its'.toArray F }:=by rw[bv f O (by rw[J] <;> rfl),J]
 show I.write (x:=p) (e:=p) (by rw[h];trivial) (.inl rfl) (λb u Y q=>(bI _ _ (Ne.symm Y)).trans q) ⟨_,e⟩ ?_;exact⟨U,its',F,r,e⟩
def zuc:V->V->V->Hp->(Hp->Prop)->Prop:=λo i v H Q=>∃p xs k j,o = .ref p/\i = .int k/\H p=some (.lst xs)/\ixN xs.length k=some j/\Q (upd H p (.lst (xs.set j v)))
def zl2:PSet X zuc:=by
 intro pins s σ H o i v ov iv u Q I Y Z rv h;obtain⟨p,xs,k,j,rfl,rfl,O,hj,q⟩:=h;cases Y;obtain⟨t,rfl⟩:=Z;obtain⟨B,n,r,F,hz⟩:=I.lst O;obtain⟨h1,h2,h3,h4⟩:=ziO hj;have hl:=r.length;have hn:=zgx
 have I':Inv X pins σ (upd H p (.lst (xs.set j v))) { s with heap:=s.heap.update p (Obj.mapSeq (·.setIfInBounds j u)) }:=
  I.lstUpd O F (zhn B n j u) (r.set rv j) (by right) s.toks
 by_cases U:0<=k
 have J:k.toNat=j:=by
  rw[seqIndex_of U h4] at h1;right
 exact PySem.W.ki_setAt F U (by lia) (by right) (by rw[J];exact⟨_,I',q⟩)
 have J:(k+(B.toArray.size:Int)).toNat=j:=by
  rw[seqIndex_neg (by lia) h3] at h1;right
 exact PySem.W.ki_setBack F (by lia) (by right) (by lia) (by rw[J];exact⟨_,I',q⟩)
def zeX (lo hi:AQ)(n:Nat):(sliceBounds lo hi none n).1=((HT.sIx n 0 lo:Nat):Int)/\(sliceBounds lo hi none n).2.1=((HT.sIx n n hi:Nat):Int)/\(sliceBounds lo hi none n).2.2=1:=by
 show⟨?_,?_,rfl⟩
 ·cases lo with
  | none=>simp[sliceBounds,HT.sIx]
  | some i=>
   simp only[sliceBounds,HT.sIx,Option.getD_none,show (1:Int) > 0 by ext,if_true];by_cases h:i<0
   ·simp only[h,if_true] <;> lia
   ·simp only[h,if_false] <;> lia
 ·cases hi with
  | none=>simp[sliceBounds,HT.sIx]
  | some i=>
   simp only[sliceBounds,HT.sIx,Option.getD_none,show (1:Int) > 0 by ext,if_true];by_cases h:i<0
   ·simp only[h,if_true] <;> lia
   ·simp only[h,if_false] <;> lia
def zdT (q:AN)(lo hi:AQ):slicePick q.toArray lo hi none=((q.drop (HT.sIx q.length 0 lo)).take (HT.sIx q.length q.length hi - HT.sIx q.length 0 lo)).toArray:=by obtain⟨h1,h2,B⟩:=zeX lo hi q.toArray.size;unfold slicePick;rw[h1,h2,B];simp only[sliceRange_one,pick_run,aU] <;> rfl
def rSlL (K:AH):V->AQ->AQ->Hp->VK->Prop:=λx lo hi H Q=>∃a xs,x = .ref a/\SqL K H a xs/\∀p,H p=none->Q (.ref p) (upd H p (.lst (zcF xs lo hi)))
def zpe:SlR X (rSlL X.K):=by intro pins s σ H x v vl vu lo hi sl Q I J hs pl O h;obtain⟨a,xs,rfl,U,q⟩:=h;cases J;obtain⟨Y,r,F,Z⟩:=I.list U;have B:=r.length;show⟨"list",_,slot_list_getitem.lookup,F.isList.typeIs,?_⟩;show wpAny_getItem_list_slice F.isList hs pl O .none (by simp) ?_ (by grind);rw[zdT,<- B];show⟨.ref s.heap.objs.size,_,I.laid (t':=s.toks) (o:=.lst (zcF xs lo hi)) (λb ob q=>af _ q) (ai _) ?_,rfl,q _ (I.hok.fresh (ai _))⟩;exact⟨aA (u9 xs lo hi) Z,_,0,(r.drop (HT.sIx xs.length 0 lo)).take (HT.sIx xs.length xs.length hi - HT.sIx xs.length 0 lo),aq _ rfl⟩
def zde:V->Bool
 | .non=>true
 | .bl _=>true
 | .int _=>true
 | .str _=>true
 | _=>false
def eqV:V->V->Bool
 | .non,.non=>true
 | .bl a,.bl b=>a==b
 | .bl a,.int b=>(if a then 1 else 0)==b
 | .int a,.bl b=>a==(if b then 1 else 0)
 | .int a,.int b=>a==b
 | .str a,.str b=>a==b
 | _,_=>false
def zqd(B:yc y u)(q:yc x v)(I:zde y=true)(F:zde x=true):SeqAt.EqAt A s u v (eqV y x):=by
 cases y with
 | non=>
  cases B
  cases x with
  | non=>cases q;exact SeqAt.EqAt.same _
  | bl b=>cases q;exact SeqAt.EqAt.none_bool b
  | int b=>obtain⟨t,rfl⟩:=q;exact SeqAt.EqAt.none_int b t
  | str b=>obtain⟨t,rfl⟩:=q;exact SeqAt.EqAt.none_str b t
  | _=>exact absurd (show false=true from F) av
 | bl a=>
  cases B
  cases x with
  | non=>cases q;exact SeqAt.EqAt.bool_none a
  | bl b=>cases q;exact SeqAt.EqAt.bool_bool a b
  | int b=>obtain⟨t,rfl⟩:=q;exact SeqAt.EqAt.bool_int a b t
  | str b=>obtain⟨t,rfl⟩:=q;exact SeqAt.EqAt.bool_str a b t
  | _=>exact absurd (show false=true from F) av
 | int a=>
  obtain⟨t',rfl⟩:=B
  cases x with
  | non=>cases q;exact SeqAt.EqAt.int_none a t'
  | bl b=>cases q;exact SeqAt.EqAt.int_bool a t' b
  | int b=>obtain⟨t,rfl⟩:=q;exact SeqAt.EqAt.int_int a t' b t
  | str b=>obtain⟨t,rfl⟩:=q;exact SeqAt.EqAt.int_str a t' b t
  | _=>exact absurd (show false=true from F) av
 | str a=>
  obtain⟨t',rfl⟩:=B
  cases x with
  | non=>cases q;exact SeqAt.EqAt.str_none a t'
  | bl b=>cases q;exact SeqAt.EqAt.str_bool a t' b
  | int b=>obtain⟨t,rfl⟩:=q;exact SeqAt.EqAt.str_int a t' b t
  | str b=>obtain⟨t,rfl⟩:=q;exact SeqAt.EqAt.str_str a t' b t
  | _=>exact absurd (show false=true from F) av
 | _=>exact absurd (show false=true from I) av
def eqU (x:V)(u:Value):Bool:=match u with
 | .none=>eqV .non x
 | .bool b=>eqV (.bl b) x
 | .int i _=>eqV (.int i) x
 | .str z _=>eqV (.str z) x
 | _=>false
def zmr(r:yc y u)(f:zde y=true):eqU x u=eqV y x:=by
 cases y with
 | non=>cases r;rfl
 | bl b=>cases r;rfl
 | int i=>obtain⟨t,rfl⟩:=r;rfl
 | str z=>obtain⟨t,rfl⟩:=r;rfl
 | _=>exact absurd (show false=true from f) av
def zfd:∀ {xs:AT} {us:AN},zM xs us->xs.all zde=true->us.any (eqU x)=xs.any λy=>eqV y x
 | _,_,.nil,_=>rfl
 | y::xs,u::us,.cons r t,f=>by rw[dP,bC] at f;rw[c9,c9,zmr r f.1,zfd t f.2]
def zdu {A:Ae}{s:AZ}{x:V}{v:Value}(B:yc x v)(F:zde x=true):∀ {xs:AT} {us:AN},zM xs us->xs.all zde=true->∀u∈us,SeqAt.EqAt A s u v (eqU x u)
 | _,_,.nil,_=>by grind
 | y::xs,u::us,.cons r t,f=>λI q=>by
  rw[dP,bC] at f;rcases ay.mp q with rfl | q;rw[zmr r f.1];exact zqd r B f.1 F;exact zdu B F t f.2 I q
def inV (x:V)(xs:AT):Bool:=xs.any λy=>eqV y x
def rIn (K:AH)(q:Bool):R2:=λx y H Q=>∃p xs,y = .ref p/\(SqL K H p xs\/SqT K H p xs)/\zde x=true/\xs.all zde=true/\Q (.bl (if q then !inV x xs else inV x xs)) H
def zeK:OpR X (compareOp .NotIn) (rIn X.K true):=by
 intro pins s σ H x y v u Q I O Y h;obtain⟨p,xs,rfl,F,U,fs,q⟩:=h;cases Y;rcases F with F | F;obtain⟨B,r,pl,Z⟩:=I.list F;show SeqAt.notIn_listAt (eqU x) pl.isList (λw J=>zdu O U r fs w (by simpa using J)) ⟨.bl _,H,I,rfl,?_⟩;rw[show B.toArray.any (eqU x)=B.any (eqU x) by simp,zfd r fs];exact q;obtain⟨B,r,pl,Z⟩:=I.tuple F;show SeqAt.notIn_tupleAt (eqU x) pl (λw J=>zdu O U r fs w (by simpa using J)) ⟨.bl _,H,I,rfl,?_⟩;rw[show B.toArray.any (eqU x)=B.any (eqU x) by simp,zfd r fs];exact q
def zeg:zc3 X (.type "list") (λxs H Q=>∃p ys,xs=[.ref p]/\(SqL X.K H p ys\/SqT X.K H p ys)/\∀l,H l=none->Q (.ref l) (upd H l (.lst ys))):=by
 intro pins s σ H xs us Q I r h;obtain⟨p,ys,rfl,O,q⟩:=h;obtain⟨u,rfl,rx⟩:=zaJ r;cases rx
 have fin:∀ (B:AN),zM ys B->ys.length<=sizeLine->∀ (h':Heap) (F:Nat),(∀b o',s.heap.get? b=some o'->h'.get? b=some o')->
   h'.get? s.heap.objs.size=some { cls:=.type "list",dict:=none,data:=.seq B.toArray F,slots:=#[] }->EP X pins σ Q (.ref s.heap.objs.size) { s with heap:=h' }:=λB J U h' F Y e=>
  ⟨.ref s.heap.objs.size,_,I.laid (t':=s.toks) Y (ai _) (show ya X.prog X.w _ h' _ (.lst ys) from ⟨U,B,F,J,e⟩),rfl,q _ (I.hok.fresh (ai _))⟩
 rcases O with O | O;obtain⟨B,J,pl,U⟩:=I.list O;have Z:=J.length;obtain⟨o,ho,hc,n,hd⟩:=pl.isList;exact call_list_seq p (.inl rfl) ho hc hd (λh' F Y e=>fin B J U h' F Y e) (by grind);obtain⟨B,J,pl,U⟩:=I.tuple O;have Z:=J.length;obtain⟨o,ho,hc,n,hd⟩:=pl;exact call_list_seq p (.inr rfl) ho hc hd (λh' F Y e=>fin B J U h' F Y e) (by grind)
def zc8:zc3 X (.type "tuple") (λxs H Q=>∃p ys,xs=[.ref p]/\((SqL X.K H p ys/\∀l,H l=none->Q (.ref l) (upd H l (.tup ys)))\/(SqT X.K H p ys/\Q (.ref p) H))):=by
 intro pins s σ H xs us Q I r h;obtain⟨p,ys,rfl,h⟩:=h;obtain⟨u,rfl,U⟩:=zaJ r;cases U;rcases h with ⟨hq,q⟩ | ⟨hq,q⟩;obtain⟨B,F,pl,J⟩:=I.list hq;have O:=F.length;show call_tuple_list pl.isList (λh' Y=>?_) (by grind);have I1:Inv X pins σ H { s with heap:=h' }:=I.kept (t':=s.toks) Y
 have I2:Inv X pins σ (upd H h'.objs.size (.tup ys)) { s with heap:=h'.push { cls:=.type "tuple",data:=.seq B.toArray } }:=
  I1.laid (t':=s.toks) (λb o e=>af _ e) (ai _) (show ya X.prog X.w _ _ _ (.tup ys) from ⟨J,B,F,uV.new _ _⟩)
 exact⟨.ref h'.objs.size,_,I2,rfl,q _ (I1.hok.fresh (ai _))⟩;obtain⟨B,F,pl,J⟩:=I.tuple hq;exact call_tuple_same pl ⟨.ref p,H,I,rfl,q⟩
def tyV (K:AH)(T:String)(x:V)(H:Hp):Prop:=match x with
 | .str _=>T = "str"
 | .int _=>T = "int"
 | .ref p=>(T = "list" /\ ∃xs,SqL K H p xs)\/(T = "tuple" /\ ∃o,K.lookup p=some o/\o.cls = .type "tuple" /\ o.dict=none)\/
   (T = "dict" /\ ((∃kvs,H p=some (.dK kvs))\/∃kvs,H p=some (.dT kvs)))\/(T = "set" /\ ∃S n,H p=some (.set S n))
 | _=>False
def zm6 {pins:AB}{σ:St}{H:Hp}{s:AZ}{T:String}{x:V}{v:Value}(I:Inv X pins σ H s)(r:yc x v)(ty:tyV X.K T x H) :
  s.TypeIs v T/\∀a,v = .ref a->∃ob,s.heap.get? a=some ob/\ob.dict=none:=by
 cases x with
 | str z=>
  obtain⟨t,rfl⟩:=r;cases (show T = "str" from ty);exact⟨typeIs_str s z t,λ_ e=>nomatch e⟩
 | int i=>
  obtain⟨t,rfl⟩:=r;cases (show T = "int" from ty);exact⟨typeIs_int s i t,λ_ e=>nomatch e⟩
 | ref p=>
  cases r;rcases ty with ⟨rfl,xs,hq⟩ | ⟨rfl,o,q,hc,B⟩ | ⟨rfl,q⟩ | ⟨rfl,S,n,q⟩;obtain⟨J,_,pl,_⟩:=I.list hq;show⟨pl.isList.typeIs,λa e=>?_⟩;cases e;obtain⟨o,n,e,c,B,_⟩:=pl;exact⟨o,e,B⟩;show⟨⟨o,I.kIn p o q,hc⟩,λa e=>?_⟩;cases e;exact⟨o,I.kIn _ o q,B⟩
  have z:∃o,s.heap.get? p=some o/\o.ExactDict:=by
   rcases q with ⟨kvs,q⟩ | ⟨kvs,q⟩;obtain⟨_,_,_,_,o,_,_,e,ex,_⟩:=I.hok p _ q;exact⟨o,e,ex⟩;obtain⟨_,_,_,_,o,_,_,e,ex,_⟩:=I.hok p _ q;exact⟨o,e,ex⟩
  obtain⟨o,e,ex⟩:=z;show⟨⟨o,e,ex.1⟩,λa F=>?_⟩;cases F;exact⟨o,e,ex.2.1⟩;obtain⟨o,_,_,_,e,ex,_⟩:=I.hok p _ q;show⟨⟨o,e,ex.1⟩,λa F=>?_⟩;cases F;exact⟨o,e,ex.2.1⟩
 | _=>exact False.elim ty
def zuj (K:AH)(T:String)(r:V->AT->Hp->VK->Prop)(to:TE):TE:=λσ H Q=>to σ H λx H1=>tyV K T x H1/\r x [] H1 Q
def tBM (K:AH)(T:String)(r:V->AT->Hp->VK->Prop)(to:TE)(t:TA):TE:=λσ H Q=>to σ H λx H1=>tyV K T x H1/\t σ H1 λxs H2=>r x xs H2 Q
variable {o e:Expr}{es:AO}{to:TE}{t:TA}{name:Str}{apos cpos:Pos}{T id:String}{r:V->AT->Hp->VK->Prop}
def zmJ (U:PlainAttrs T)(F:Slot T name id)(J:typeOf (.builtin id)=pure (.type "method_descriptor"))(Y:MtR X id r)(Z:PE X o to)
  (q:attributeBase o name X.env (eval o X.env)=eval o X.env:=by rfl) (B:(apos.endLine==cpos.line)=true:=by rfl):PE X (.Call (.Attribute o name apos) [] [] cpos) (zuj X.K T r to):=by
 intro pins s σ H Q I h;show wpAny_Call_method0_late q B (thn (Z pins s σ H _ I h)  ?_);rintro v s1 ⟨x,H1,I1,O,ty,q1⟩;obtain⟨h1,h2⟩:=zm6 I1 O ty;exact⟨T,id,U,F,J,h1,h2,Calls.callWith_builtin rfl (PySem.evalArgs_none (Y pins s1 σ H1 x [] v [] Q I1 O .nil q1))⟩
def zq3 (pa:PlainAttrs T)(J:Slot T name id)(U:typeOf (.builtin id)=pure (.type "method_descriptor"))(hm:MtR X id r)(ho:PE X o to)(ha:PA X (e::es) t)
  (B:attributeBase o name X.env (eval o X.env)=eval o X.env:=by rfl)
  (O:((backTo cpos (starEach (e::es) X.env)).all (λx=>!x.1)&&(backToKw cpos (keywordEach [] X.env)).all (λx=>x.1.isSome)
   && decide ((e::es).length+([]:List Keyword).length+(if ([]:List Keyword).isEmpty then 0 else 1)<30))=true:=by rfl)
  (F:(apos.endLine==cpos.line)=true:=by rfl) (hs:starEach (e::es) X.env=(false,eval e X.env)::starEach es X.env:=by rfl) (q:(backTo cpos (starEach es X.env)).any (·.1)=false:=by rfl) :
  PE X (.Call (.Attribute o name apos) (e::es) [] cpos) (tBM X.K T r to t):=by
 intro pins s σ H Q I h;show wpAny_Call_method_late B O F rfl (thn (ho pins s σ H _ I h)  ?_);rintro v s1 ⟨x,H1,I1,Y,ty,q1⟩;obtain⟨h1,h2⟩:=zm6 I1 Y ty;show⟨T,id,pa,J,U,h1,h2,?_⟩;have Z:=ha cpos pins s1 σ H1 _ I1 q1;rw[hs] at Z ⊢;show Calls.callWith_builtin (by change (false || (backTo cpos (starEach es X.env)).any (·.1))=false;rw[q] <;> rfl) (Calls.evalArgs_plain ?_);exact thn Z <| by rintro us s2 ⟨vs,H2,I2,r2,q2⟩;exact hm pins s2 σ H2 x vs v us Q I2 Y r2 q2
end
def MtM (X:Cx)(id:String)(r:V->AT->Hp->VK->Prop):Prop:=
 ∀ (pins:AB) (s:AZ) (σ:St) (H:Hp) (x:V) (xs:AT) (v:Value) (us:AN) (Q:VK),Inv X pins σ H s->yc x v->zM xs us->r x xs H Q->
  Af X (call (.builtin id) (v::us)) (EP X pins σ Q) X.xe s
def zM.one:∀ {x:V} {us:AN},zM [x] us->∃u,us=[u]/\yc x u
 | _,_,.cons r .nil=>⟨_,rfl,r⟩
def zM.zero:∀ {us:AN},zM [] us->us=[]
 | _,.nil=>rfl
def zM.dropLast(h:zM xs us):zM xs.dropLast us.dropLast:=by
 induction h with
 | nil=>exact .nil
 | cons r t B=>
  cases t with
  | nil=>exact .nil
  | cons q t'=>exact .cons r B
def zM.reverse(h:zM xs us):zM xs.reverse us.reverse:=by
 induction h with
 | nil=>exact .nil
 | cons r t q=>rw[bX,bX];exact zM.append q (.cons r .nil)
section
variable {X:Cx}{pins:AB}{σ:St}{H:Hp}{s:AZ}{l b:Addr}{xs ys zs:AT}
def Inv.lset{B its':AN}{f:AK->AK}(I:Inv X pins σ H s)(F:H l=some (.lst xs))(e:s.heap.get? l=some { cls:=.type "list",data:=.seq B.toArray n })(J:f B.toArray=its'.toArray)(O:zM ys its')(U:ys.length<=sizeLine) :
  Inv X pins σ (upd H l (.lst ys)) { s with heap:=s.heap.update l (Obj.mapSeq f),toks:=t' }:=by
 have q:=PySem.IsL.update e f;rw[J] at q;show I.write (x:=l) (e:=l) (by rw[F];exact trivial) (.inl rfl) (λb' u Y Z=>(bI s.heap (Obj.mapSeq f) (Ne.symm Y)).trans Z) ⟨_,q⟩ ?_;exact⟨U,its',_,O,q⟩
def Inv.lnew(I:Inv X pins σ H s)(F:zM ys B)(J:ys.length<=sizeLine) :
  Inv X pins σ (upd H s.heap.objs.size (.lst ys)) { s with heap:=s.heap.push { cls:=.type "list",data:=.seq B.toArray },toks:=t' }:=
 I.laid (λ_ _ q=>af _ q) (ai _) ⟨J,B,0,F,aq _ rfl⟩
def Inv.fresh (I:Inv X pins σ H s):H s.heap.objs.size=none:=I.hok.fresh (ai _)
def Inv.lstM (I:Inv X pins σ H s)(B:H l=some (.lst xs)):xs.length<=sizeLine/\∃ (q:AN) (n:Nat),zM xs q/\xs.length=q.length/\s.heap.get? l=some { cls:=.type "list",data:=.seq q.toArray n }:=by obtain⟨z,q,n,r,e⟩:=I.hok l _ B;exact⟨z,q,n,r,r.length,e⟩
def zlu(h:n<=sizeLine):Builtin.List.listTooLong n=false:=by
 unfold Builtin.List.listTooLong;right
def zfM:V->AT->Hp->VK->Prop:=λx vs H Q=>∃l xs y,x = .ref l/\vs=[y]/\H l=some (.lst xs)/\xs.length<sizeLine/\Q .non (upd H l (.lst (xs++[y])))
def zeF:MtM X "list.append" zfM:=by intro pins s σ H x vs v us Q I O U h;obtain⟨l,xs,y,rfl,rfl,J,Z,q⟩:=h;cases O;obtain⟨u,rfl,Y⟩:=U.one;obtain⟨z,B,n,r,hl,e⟩:=I.lstM J;show gk F.slot_list_append ⟨_,e,rfl⟩ F.entry_list_append (F.args_list_append_2 _ _) (PySem.list_append l B.toArray n u (by grind)) ⟨e,?_⟩;show⟨.non,_,I.lset (its':=B++[u]) J e (by simp) (r.append (.cons Y .nil)) ?_,rfl,q⟩;rw[ak,cO];lia
def zoZ:V->AT->Hp->VK->Prop:=λx vs H Q=>∃l b xs zs,x = .ref l/\vs=[.ref b]/\H l=some (.lst xs)/\H b=some (.lst zs)/\xs.length+zs.length<=sizeLine/\Q .non (upd H l (.lst (xs++zs)))
def zjj:MtM X "list.extend" zoZ:=by
 intro pins s σ H x vs v us Q I Y Z h;obtain⟨l,b,xs,zs,rfl,rfl,U,hB,hz,q⟩:=h;cases Y;obtain⟨u,rfl,ru⟩:=Z.one;cases ru;obtain⟨z,J,n,r,hl,e⟩:=I.lstM U;obtain⟨z2,B,n2,r2,ac,e2⟩:=I.lstM hB;have hsz:J.toArray.size+B.toArray.size<=sizeLine:=by rw[aU,aU];lia
 have O:¬ (!J.toArray.isEmpty&&Builtin.List.listTooLong (J.toArray.size+B.toArray.size))=true:=by
  rw[zlu hsz,Bool.and_false];grind
 show gk F.slot_list_extend ⟨_,e,rfl⟩ F.entry_list_extend (F.args_list_extend_2 _ _)
  (AutoSeq1.list_extend_list_list_0 l J.toArray n b B.toArray n2 O (by lia) (by lia)) ⟨e,e2,?_⟩
 show⟨.non,_,I.lset (its':=J++B) U e (by simp) (r.append r2) ?_,rfl,q⟩;right
def rPop:V->AT->Hp->VK->Prop:=λx vs H Q=>∃l xs y,x = .ref l/\vs=[]/\H l=some (.lst xs)/\xs[xs.length - 1]?=some y/\Q y (upd H l (.lst xs.dropLast))
def zqH:MtM X "list.pop" rPop:=by
 intro pins s σ H x vs v us Q I Y Z h;obtain⟨l,xs,y,rfl,rfl,U,hy,q⟩:=h;cases Y;have J:=Z.zero;subst J;obtain⟨z,B,n,r,hl,e⟩:=I.lstM U;obtain⟨u,hu,ru⟩:=r.get hy;have O:B.toArray[B.toArray.size - 1]?=some u:=by right
 show gk F.slot_list_pop ⟨_,e,rfl⟩ F.entry_list_pop (F.args_list_pop_1 _) (MeetsSeq.list_pop_last l B.toArray n u O (by right)) ⟨e,?_⟩;show⟨y,_,I.lset (its':=B.dropLast) U e ?_ r.dropLast ?_,ru,q⟩;right;rw[List.length_dropLast];lia
def zgR:V->AT->Hp->VK->Prop:=λx vs H Q=>∃l xs,x = .ref l/\vs=[]/\H l=some (.lst xs)/\Q .non (upd H l (.lst xs.reverse))
def zho:MtM X "list.reverse" zgR:=by
 intro pins s σ H x vs v us Q I U Y h;obtain⟨l,xs,rfl,rfl,O,q⟩:=h;cases U;have J:=Y.zero;subst J;obtain⟨z,B,n,r,Z,e⟩:=I.lstM O;show gk F.slot_list_reverse ⟨_,e,rfl⟩ F.entry_list_reverse (F.args_list_reverse_1 _) (AutoSeq1.list_reverse_list_0 l B.toArray n (by grind)) ⟨e,?_⟩;show⟨.non,_,I.lset (its':=B.reverse) O e (by simp) r.reverse ?_,rfl,q⟩;right
def rCat:R2:=λx y H Q=>∃l b xs zs,x = .ref l/\y = .ref b/\H l=some (.lst xs)/\H b=some (.lst zs)/\xs.length+zs.length<=sizeLine/\∀p,H p=none->Q (.ref p) (upd H p (.lst (xs++zs)))
def zqQ:OpR X (binaryOp .Add) rCat:=by
 intro pins s σ H x y v u Q I J O h;obtain⟨l,b,xs,zs,rfl,rfl,U,Y,hz,q⟩:=h;cases J;cases O;obtain⟨z,F,n,r,hl,e⟩:=I.lstM U;obtain⟨z2,B,n2,Z,ac,e2⟩:=I.lstM Y;show PySem.P.add_list e e2 ?_ (by right);have ea:F.toArray++B.toArray=(F++B).toArray:=by simp
 rw[ea];exact⟨.ref _,_,I.lnew (t':=s.toks) (r.append Z) (by right),rfl,q _ I.fresh⟩
variable {prog:Aa}{w:Ab}{A:Ae}{E:AA}
end
end L2
namespace Att
open PySem.W PySem.Calls PyProof.Rows
def zbG:∀ (ns:AG) (vs:AN),WellAll P h vs (ns.map WData.int)->IntsAre vs ns:=by
 intro ns
 induction ns with
 | nil=>
  intro vs w;rw[List.map_nil] at w;cases w;exact .nil
 | cons n ns q=>
  intro vs w;rw[List.map_cons] at w
  cases w with
  | cons a b=>
   cases a;exact .cons _ _ (q _ b)
def zj2{l:OpenLaw}(hn:l.most=some n){P:Params}{h:Heap}{q:AN}(B:l.row.toRowW.claim.pre args=true)(J:WellAll P h q args) :
  ∃a vs ns,q=[Value.ref a]/\args=[WData.list (ns.map WData.int)]/\h.get? a=some { cls:=.type "list",data:=.seq vs.toArray }/\IntsAre vs ns/\ns.length<=n:=by
 have O:WShape.hasAll [] args [.list .int]=true:=(pre_splitW B).1;have U:l.pre.holds [] { args:=args }=true:=(pre_splitW B).2;obtain⟨d,r,rfl,h1,h2⟩:=hasAllW_cons O;obtain rfl:=hasAllW_nil h2;obtain⟨xs,rfl,Z⟩:=hasW_list h1;obtain⟨ns,rfl⟩:=items_int Z
 have F:ns.length<=n:=by
  unfold OpenLaw.pre at U
  have Y:(WTm.not (.lt (.lit (.int (n:Int))) (.len (.arg 0)))).holds [] { args:=[.list (ns.map .int)] }=true:=by
   have Y:=(holds_andW U).1;right
  have h5:=condW_of Y (w_not (w_lt w_lit (w_len_list (w_arg rfl))));grind
 cases J with
 | cons w1 w2=>
  cases w2
  cases w1 with
  | list ho I=>exact⟨_,_,ns,rfl,rfl,ho,zbG ns _ I,F⟩
def zjE (l:OpenLaw)(args:List WData):l.row.toRowW.claim.post args (.bool true) args=true:=
 postW_of (r:=l.row.toRowW) (X:=(true==true))
  (show WShape.has [] (.bool true) .bool=true by first | rfl | decide | simp[WShape.has,WShape.arms,WShape.armsAll])
  (show (WTm.eq .res (.lit (.bool true))).value [] { args:=args,res:=some (.bool true),after:=args }=some (.bool (true==true)) from w_eq_bool (w_res rfl) w_lit) rfl
def attach_call{l:OpenLaw}{q:Aa}{F:AM}{XP:(AI)->Heap->Prop}{YP:Ab->Heap->Prop}{d:DefRec}(hn:l.most=some n)(ag:d.params.defaults=[])(U:∀ (w:Ab) (I B:AZ) (mg mb:AI) (fa:Addr) (o:Obj) (pm cd J:Value) (a:Addr) (vs:AN) (ns:AG),
   Ground q F [] XP w I mg mb B.heap->YP w B.heap->
   B.heap.get? fa=some o->o.data = .func (docDef d.name d.params d.body d.scope pm cd J)->B.heap.CodeRec cd d.name->mg d.name=some (.ref fa)->
   B.heap.get? a=some { cls:=.type "list",data:=.seq vs.toArray }->IntsAre vs ns->ns.length<=n->B.gens = #[]->
   codeAny (model l.prog w) callerA (.call (.ref fa) ⟨[.ref a],[]⟩) (λr s'=>r = .ok (.ret (.bool true))/\OldK B.heap s'.heap/\s'.os=B.os/\AllBare s'.gens) B) :
  WalkO q F XP YP l.row.toRowW d [] (λf vs=>PySem.call f vs):=by
 intro w I B mg mb G Y fa o pm cd J dV kV ho hd al hD an hg args a0 as Z a1 a2 ap a3;obtain rfl:dV = .none:=Dflts.none hD ag;obtain rfl:kV = .none:=Dflts.noKw hD;obtain⟨a,vs,ns,rfl,rfl,ac,O,ad⟩:=zj2 hn Z ap;show enter_call (codeAny_mono (U w I B mg mb fa o pm cd J a vs ns G Y ho (fd_plain hd) al an ac O ad hg) λr s' hq=>?_);obtain⟨rfl,h2,h3,h4⟩:=hq;exact⟨.inl ⟨.bool true,.bool true,[],rfl,λ_=>rfl,.bool true,zjE l _,λ_=>⟨List.Pairwise.nil,λ_ hm=>(nomatch hm)⟩⟩,h2,h3,h4⟩
section
variable {prog:Aa}{w:Ab}{A:Ae}{E:AA}{s:AZ}{K:Frag}
def ledger (h:Heap)(L d:Addr):AB:=(List.range h.objs.size).filterMap λa=>if a=L\/a=d then none else (h.get? a).map λo=>(a,o)
end
end Att
namespace L2
open PyProof.Rows
def ze5:∀ {vs:AN} {ns:AG},IntsAre vs ns->zM (ns.map V.int) vs
 | _,_,.nil=>.nil
 | _,_,.cons n t h=>.cons ⟨t,rfl⟩ (ze5 h)
def zst (H:Hp):Prop:=∀b,H b=none\/∃o xs,H b=some (.frz o (.lst xs))
def zli{P:Aa}{w:Ab}{K:AH}{mg mb:AI}{CX:CXT}{fa a:Addr}{fd:Ac}{sp:Sp}{B:AZ}{vs:AN}{ns:AG}(KX:K.In B.heap)(Z:B.heap.Ns mainGlobals mg)(J:B.heap.Ns builtinsNs mb)(ap:∀x:Str,x ≠ "__name__" -> mb x=bootBuiltins x)(ac:B.heap.NoLimit)(hg:B.gens = #[])(ha:B.heap.get? a=some { cls:=.type "list",data:=.seq vs.toArray })(hi:IntsAre vs ns)(hl:ns.length<=sizeLine)(hr:Room k callerA)(F:∀base:Heap,K.In base->base.Ns mainGlobals mg->FnOk P w K mg base CX k fa fd [x] sp)(Y:∀ (s:AZ) (u:Value),BindsTo s fd ⟨[u],[]⟩ [(x,u)])(as:∀H:Hp,zst H->SqL K H a (ns.map V.int)->sp [.ref a] H (λv _=>v = .bl true) λ_ _ _=>False)(a0:∀H e s',CX [] H B (λ_ _ _=>False) e s'->False) :
  codeAny (model P w) callerA (.call (.ref fa) ⟨[.ref a],[]⟩) (λr s'=>r = .ok (.ret (.bool true))/\OldK B.heap s'.heap/\s'.os=B.os/\AllBare s'.gens) B:=by
 have rv:=ze5 hi;have a2:=hi.length
 have U:∀H:Hp,zst H->SqL K H a (ns.map V.int)->HOk P w H B.heap->(∀b,H b≠none->b=a)->(H a≠none->K.lookup a=none)->
   codeAny (model P w) callerA (.call (.ref fa) ⟨[.ref a],[]⟩) (λr s'=>r = .ok (.ret (.bool true))/\OldK B.heap s'.heap/\s'.os=B.os/\AllBare s'.gens) B:=by
  intro H hO hS ad hA hK;have I:∀ {b:Addr} {o:Obj},B.heap.get? b=some o->H b=none->(zk5 B.heap H).get? b=some o:=λe n=>zk6 e n;have a1:∀ {b:Addr} {o:Obj} {es:Array DictEntry} {ep:Nat},B.heap.get? b=some o->o.data = .dict es ep->H b=none:=λ{b o es ep} e d=>by grind
  have O:∀ {b:Addr} {m:AI},B.heap.Ns b m->(zk5 B.heap H).Ns b m:=λ{b m} ⟨o,es,ep,e,d,r⟩=>⟨o,es,ep,I e (a1 e d),d,r⟩;have ag:K.In (zk5 B.heap H):=λb o e=>I (KX b o e) (by grind);have hM:Mod K mg (zk5 B.heap H):=⟨ag,O Z,⟨mb,O J,ap⟩,let ⟨mc,h1,h2⟩:=ac;⟨mc,O h1,h2⟩⟩;have e0:Env0 P w K mg (zk5 B.heap H) callerA [] B H:=⟨rfl,hM,λb o e=>zob e,Nat.le_of_eq (ziF _ _),trivial,λb J=>absurd (show b∈([]:AY) from J) (by simp),ad,.of_eq hg⟩;show ge ((F _ ag (O Z)).run callerA [] B H ⟨[.ref a],[]⟩ [.ref a] [.ref a] _ _ hr e0 (Y B (.ref a)) (.cons rfl .nil) (as H hO hS)) λr s' h=>?_
  cases r with
  | error e=>exact (a0 H e s' h).elim
  | ok fl=>
   cases fl with
   | next=>exact False.elim h
   | brk=>exact False.elim h
   | cont=>exact False.elim h
   | ret u=>
    obtain⟨v,H',os,al,un,an,r',q⟩:=h;have q':v = .bl true:=q;subst q';obtain rfl:u=Value.bool true:=r';show⟨rfl,OldK.of_keep λb o e=>?_,os,al⟩
    cases q:H b with
    | none=>exact un.keep b o e q (by intro z;exact absurd (show b∈([]:AY) from z) (by simp)) (by simp)
    | some u=>
     rcases hO b with z | ⟨ob,xs,z⟩;grind;have z2:=un.frzs b ob _ z;obtain⟨e1,_⟩:=ad b _ z;obtain⟨e2,_⟩:=an b _ z2;grind
 cases hk:K.lookup a with
 | some o=>
  have e:=KX a o hk;rw[ha] at e;cases e;show U (λ_=>none) (λ_=>.inl rfl) (.inr ⟨_,vs.toArray,_,hk,rfl,rfl,rfl,by right,by simpa using rv⟩) (λb u z=>by lia) (by grind) λz=>absurd rfl z
 | none=>
  show U (λb=>if b=a then some (.frz { cls:=.type "list",data:=.seq vs.toArray } (.lst (ns.map V.int))) else none) (λb=>?_) (.inl (.inr ⟨{ cls:=.type "list",data:=.seq vs.toArray },if_pos rfl⟩)) (λb u z=>?_) (λb z=>?_) λ_=>hk;by_cases J:b=a;exact .inr ⟨_,_,if_pos J⟩;exact .inl (if_neg J);by_cases J:b=a;have z':=(if_pos J).symm.trans z;cases z';subst J;exact⟨ha,by right,vs,_,rv,ha⟩;right;grind
def zpF{l:PySem.W.OpenLaw}{q:Aa}{I:AM}{XP:(AI)->Heap->Prop}{YP:Ab->Heap->Prop}{d:DefRec}{K:Params->AH}{CX:Ab->CXT}{sp:Ab->Sp}(hn:l.most=some n)(Z:n<=sizeLine)(ac:d.params.defaults=[])(hr:Room k callerA)(hY:∀ (w:Ab) (h:Heap),YP w h->(K w.params).In h)(F:∀ (w:Ab) (mg:AI) (fa:Addr) (h:Heap),(K w.params).In h->h.Ns mainGlobals mg->mg d.name=some (.ref fa)->
   ∃fd:Ac,(∀ (s:AZ) (u:Value),BindsTo s fd ⟨[u],[]⟩ [(x,u)])/\
    ∀base:Heap,(K w.params).In base->base.Ns mainGlobals mg->FnOk l.prog w (K w.params) mg base (CX w) k fa fd [x] (sp w))(ad:∀ (w:Ab) (H:Hp) (a:Addr) (ns:AG),ns.length<=n->zst H->SqL (K w.params) H a (ns.map V.int)->sp w [.ref a] H (λv _=>v = .bl true) λ_ _ _=>False)(ag:∀ (w:Ab) (H:Hp) (s:AZ) (e:Value) (s':AZ),CX w [] H s (λ_ _ _=>False) e s'->False) :
  PySem.W.WalkO q I XP YP l.row.toRowW d [] (λf vs=>PySem.call f vs):=by
 show Att.attach_call hn ac λw an O mg mb fa o pm cd ap a vs ns G Y ho hd as al U J B hg=>?_;have KX:=hY w _ Y;obtain⟨fd,hb,hF⟩:=F w mg fa _ KX G.T.g al;exact zli KX G.T.g G.T.b G.T.builtins G.T.nolimit hg U J (aA B Z) hr hF hb (λH hO hS=>ad w H a ns B hO hS) λH e s'=>ag w H O e s'
def z5 (s:Stmt):Arguments:=match s with
 | .FunctionDef _ a _ _ _ _ _ _ _ _=>a
 | _=>{ posonlyargs:=[],args:=[],vararg:=none,kwonlyargs:=[],kw_defaults:=[],kwarg:=none,defaults:=[] }
def zu (s:Stmt):List Stmt:=match s with
 | .FunctionDef _ _ b _ _ _ _ _ _ _=>b
 | _=>[]
def zd (s:Stmt):Scope:=match s with
 | .FunctionDef _ _ _ _ _ _ q _ _ _=>q
 | _=>{ kind:=.function,names:=[],isGenerator:=false,isCoroutine:=false }
abbrev CX0:CXT:=λ_ _ _ _ _ _=>False
abbrev E0:XK:=λ_ _ _=>False
def zjz:zcz CX0 X E0:=λ_ _ _ _ _ _ _ h=>h.elim
structure Fun (K:AH)(x qual:Str)(st:Stmt)(f:Addr)(fd:Ac):Prop where
 ex:∃ (oc:Value) (od:Option Addr) (kV doc pm:Value) (an:Option Addr) (cdv ct:Value) (osl:Array AJ),
  fd=PySem.W.fnOf x qual (z5 st) (zu st) (zd st) .none kV doc pm an cdv ct/\K.lookup f=some ⟨oc,od,.func fd,osl⟩/\PySem.W.codeIn K cdv qual=true
 kp:PySem.W.keepIn K (.ref f)=true
section
variable {P:Aa}{w:Ab}{K:AH}{mg:AI}{base:Heap}
def Fun.ok{x I:Str}{st:Stmt}{f:Addr}{fd:Ac}{N ps:AM}{sp:Sp}(F:Fun K x I st f fd)(S:FnScope N ps (zd st))(U:∀vs H Q E,sp vs H Q E->vs.length=ps.length)(O:∀ (J:Value) (A:Ae) (B:List Env) (s:AZ) (H:Hp) (vs:AT) (Q:VK) (E:XK),Room k (A.deeper (envOfC I (zd st) s.heap.objs.size f J))->sp vs H Q E->
   ∃t,PSs (zd6 CX0 P w K mg base N I (zd st) f J A B s H E).nox (zu st) t/\t { nx:=λ_ H'=>Q .non H',rt:=Q } (y6 N vs) H):FnOk P w K mg base CX0 (k+1) f fd ps sp:=by
 obtain⟨oc,od,kV,ac,pm,an,J,ct,ad,rfl,lk,Y⟩:=F.ex;show zqh lk Y S U λA B s H vs Q E hr Z=>?_;obtain⟨t,h,q⟩:=O J A B s H vs Q E hr Z;exact⟨t,h.nox,q⟩
def Fun.binds {x q:Str}{st:Stmt}{f:Addr}{fd:Ac}{ps:AM}(F:Fun K x q st f fd)
  (h:∀ (kV B J:Value) (O:Option Addr) (I ct:Value) (us:AN),us.length=ps.length->bindArgs (PySem.W.fnOf x q (z5 st) (zu st) (zd st) .none kV B J O I ct) ⟨us,[]⟩=pure (ps.zip us)):uS K fd ps []:=by
 obtain⟨Z,od,kV,B,J,O,I,ct,U,rfl,lk,Y⟩:=F.ex;exact .all (h kV B J O I ct)
def zgi{x q:Str}{st:Stmt}{f:Addr}{Y J:Option Addr}{kV F O B ct:Value}(l:K.lookup f=some ⟨U,Y,.func (PySem.W.fnOf x q (z5 st) (zu st) (zd st) .none kV F O J B ct),I⟩)(c:PySem.W.codeIn K B q=true)(k:PySem.W.keepIn K (.ref f)=true):Fun K x q st f (PySem.W.fnOf x q (z5 st) (zu st) (zd st) .none kV F O J B ct):=⟨⟨U,Y,kV,F,O,J,B,ct,I,rfl,l,c⟩,k⟩
end
def zcj(q:Room k A):A.units+1<cLine:=aX (Nat.add_le_add_left (by decide:1<=64) _) q.units
def zce(h:n<=1000):n<sizeLine:=aX h (by ext)
section
variable {X:Cx}
def pv (i:Nat){x:Str}{pos:Pos}(B:X.N[i]?=some x:=by rfl)(F:Vis X.env.scope x:=by walk_at "v")(I:Ah x:=by ext)
  (q:(x==("__classdict__" : Str))=false:=by ext):PE X (.Name x pos) (zaL i):=zmL B F I q
end
def zqo {A B:Prop}(h:B):if false=true then A else B:=by grind
def iteT {A B:Prop}(h:A):if true=true then A else B:=by grind
def zmw {c A B:Prop}[Decidable c](h1:c->A)(h2:¬ c->B):if c then A else B:=by grind
def yL (H H':Hp):Prop:=∀b o,H b=some o->H' b=some o
def yL.free(e:yL H H')(h:H' l=Option.none):H l=Option.none:=by
 cases q:H l with
 | none=>rfl
 | some o=>
  rw[e l o q] at h;cases h
section
variable {κ:Type}[DecidableEq κ]
variable {X:Cx}
def zff:zc3 X (.builtin "isinstance") (λxs H Q=>∃x T t b,xs=[x,.ty T]/\TyOf X.K H x t/\PySem.W.kitOne X.K t (.type T)=some b/\Q (.bl b) H):=by intro pins s σ H xs us Q I r h;obtain⟨x,T,t,b,rfl,ty,e,q⟩:=h;obtain⟨u,c,rfl,B,F⟩:=zuD r;cases F;exact ziL I B ty e λtk=>⟨.bl b,H,I.tok tk,rfl,q⟩
def zlO (K:AH):R2:=λx y H Q=>∃a b xs ys,x = .ref a/\y = .ref b/\H a=some (.tup xs)/\H b=some (.tup ys)/\xs.length+ys.length<=sizeLine/\
 ∀p H',H' p=some (.tup (xs++ys))->yL H H'->Q (.ref p) H'
def zod:OpR X (binaryOp .Add) (zlO X.K):=by
 intro pins s σ H x y v u Q I rx ry h;obtain⟨a,b,xs,ys,rfl,rfl,ha,Y,hz,q⟩:=h;by_cases hx:xs=[]
 ·subst hx;cases rx;cases ry;obtain⟨B,r1,p1,_⟩:=I.tuple (.of ha);obtain⟨F,r2,p2,_⟩:=I.tuple (.of Y);obtain⟨⟨cls,dd,data,sl⟩,ho,hc,n,hd⟩:=id p1;obtain⟨⟨ag,Z,ac,ad⟩,J,O,n2,U⟩:=id p2;simp only at hc hd O U;subst hc hd O U;have hi:B=[]:=r1.nil_iff.mpr rfl
  exact concat_meets ⟨_,ho,rfl⟩ ⟨_,J,rfl⟩ fZ seq_tuple_add dX dO (dL _ _)
   (tuple_addW0 a b B.toArray F.toArray n n2 dd Z sl ad (by simp[hi])) ⟨ho,J,⟨.ref b,H,I,rfl,q b H Y λ_ _ e=>e⟩⟩
 show zoe pins s σ H _ _ v u Q I rx ry ⟨a,b,xs,ys,rfl,rfl,.of ha,.of Y,hx,hz,λe=>?_,λe p hp=>?_⟩;subst e;exact q a H (by right) λ_ _ e=>e;exact q p _ zg λc o e=>by rw[ze (zb e hp)];exact e
end
end L2
namespace HT
open PyProof.Rows
section
variable {prog:Aa}{w:Ab}{A:Ae}{E:AA}{s:AZ}
def getItem_tuple_whole{lo hi:AQ}(q:IsTup s.heap t items)(hs:s.heap.IsSliceOf F U Y .none)(pl:IsPart U lo)(Z:IsPart Y hi)(hw:sIx items.size 0 lo=0/\sIx items.size items.size hi=items.size)(h:Q (.ref t) s)(hsz:items.size<=sizeLine):Ag prog w A (getItem (.ref t) (.ref F)) Q E s:=by
 obtain⟨os,I,J,ac⟩:=id hs;have O:s.TypeIs (.ref F) "slice" := ⟨os,I,J⟩;unfold getItem;try with_reducible show wpAny_holding ?_
 first | show wpAny_bind (wpAny_pure ?_) | skip
 show wpAny_bind (wpAny_sequenceKey q.typeIs (by ext) ?_)
 show wpAny_bind (wpAny_callSpecial?_slot (name:=Str.ofString "__getitem__") q.typeIs PyProof.Rows.slot_tuple_getitem
  (wpAny_call_entry PyProof.Rows.slot_tuple_getitem q.typeIs entry_tuple_getitem ?_ (args_tuple_getitem _ _)))
 change wpAny _ _ (Builtin.Tuple.tupleItemsOf (.ref t) >>= _) _ _ s;show wpAny_bind (tupleItemsOf_ q ?_);show wpAny_bind (wpAny_typeOf O ?_);rw[if_pos (by ext)];show wpAny_bind (x4 hs pl Z ?_);have B:(((sIx items.size 0 lo:Nat):Int)==0&&(1:Int)==1&&(sIx items.size items.size hi - sIx items.size 0 lo)==items.size)=true:=by right
 change wpAny _ _ (if (((sIx items.size 0 lo:Nat):Int)==0&&(1:Int)==1&&(sIx items.size items.size hi - sIx items.size 0 lo)==items.size)=true then _ else _) _ _ s;rw[if_pos B];unfold Builtin.Tuple.tupleIsExact;show wpAny_bind (wpAny_bind (wpAny_typeOf q.typeIs ?_));show wpAny_pure ?_;rw[if_pos (by ext)];show wpAny_bind (wpAny_rule ?_);exact wpAny_pure ⟨_,rfl,wpAny_pure h⟩
end
end HT
namespace L2
open PyProof.Rows
section
variable {X:Cx}
def rSlA:V->AQ->AQ->Hp->VK->Prop:=λx lo hi H Q=>∃a xs,x = .ref a/\H a=some (.tup xs)/\∀p H',H' p=some (.tup (zcF xs lo hi))->yL H H'->Q (.ref p) H'
def zpf:SlR X rSlA:=by
 intro pins s σ H x v vl vu lo hi sl Q I J hs pl O h;obtain⟨a,xs,rfl,U,q⟩:=h;by_cases Y:HT.sIx xs.length 0 lo=0/\HT.sIx xs.length xs.length hi=xs.length;cases J;obtain⟨F,r,Z,hz⟩:=I.tuple (.of U);have B:F.toArray.size=xs.length:=by rw[aU];exact r.length.symm
 show⟨"tuple",_,PyProof.Rows.slot_tuple_getitem.lookup,Z.typeIs,?_⟩;show HT.getItem_tuple_whole Z hs pl O (by rw[B];exact Y) ⟨.ref a,H,I,rfl,q a H ?_ λ_ _ e=>e⟩ (by rw[B];exact hz);unfold zcF;grind;exact zrR pins s σ H _ v vl vu lo hi sl Q I J hs pl O ⟨a,xs,rfl,.of U,Y,λp hp=>q p _ zg λc o e=>by rw[ze (zb e hp)];exact e⟩
inductive Dt where
 | non | bl (b:Bool) | int (i:Int) | str (x:Str) | tup (l:List Dt) | lst (l:List Dt) | dct
abbrev AS:=List Dt
mutual
def Is (H:Hp):Dt->V->Prop
 | .non,v=>v = .non
 | .bl b,v=>v = .bl b
 | .int i,v=>v = .int i
 | .str x,v=>v = .str x
 | .tup l,v=>∃a xs,v = .ref a/\H a=some (.tup xs)/\IsL H l xs
 | .lst l,v=>∃a xs,v = .ref a/\H a=some (.lst xs)/\IsL H l xs
 | .dct,v=>∃a kvs,v = .ref a/\H a=some (.dK kvs)/\xq kvs (Sum.inr "at" : Key)=none
def IsL (H:Hp):AS->AT->Prop
 | [],xs=>xs=[]
 | d::ds,xs=>∃x r,xs=x::r/\Is H d x/\IsL H ds r
end
def kO (d:Addr)(ob:Obj):HO:=.ext λh=>h.get? d=some ob
open Classical in
@[reducible] noncomputable def pnK:HO->Option (List (Key×V))
 | .dK kvs=>some kvs
 | .ext q=>if (∃d ob,(∃h:Heap,h.get? d=some ob)/\q=λh=>h.get? d=some ob) then some [(Sum.inr "at",.non)] else none
 | _=>none
def zq (H H':Hp):Prop:=∀b o,H b=some o->(∀kvs,pnK o=some kvs->xq kvs (Sum.inr "at" : Key)=none)->H' b=some o
def zq.refl (H:Hp):zq H H:=λ_ _ e _=>e
def zq.trans(a:zq H H1)(b:zq H1 H2):zq H H2:=λc o e n=>b c o (a c o e n) n
def zq.same(a:yL H H1):zq H H1:=λc o e _=>a c o e
def zq.upd(h:H p=none):zq H (upd H p o):=λc u e _=>by rw[ze (zb e h)];exact e
def yL.upd(h:H p=none):yL H (upd H p o):=λc u e=>by rw[ze (zb e h)];exact e
def zq.tup(a:zq H H1)(h:H p=some (.tup xs)):H1 p=some (.tup xs):=a _ _ h λ_ e=>by cases e
def zq.lst(a:zq H H1)(h:H p=some (.lst xs)):H1 p=some (.lst xs):=a _ _ h λ_ e=>by cases e
mutual
def Is.stay {H H1:Hp}(a:zq H H1):∀ {d:Dt} {v:V},Is H d v->Is H1 d v
 | .non,_,h=>h
 | .bl _,_,h=>h
 | .int _,_,h=>h
 | .str _,_,h=>h
 | .tup l,v,h=>by obtain⟨p,xs,e,hp,hl⟩:=h;exact⟨p,xs,e,a.tup hp,IsL.stay a hl⟩
 | .lst l,v,h=>by obtain⟨p,xs,e,hp,hl⟩:=h;exact⟨p,xs,e,a.lst hp,IsL.stay a hl⟩
 | .dct,v,h=>by obtain⟨p,kvs,e,hp,hl⟩:=h;exact⟨p,kvs,e,a _ _ hp λkvs' e=>by cases e;exact hl,hl⟩
def IsL.stay {H H1:Hp}(a:zq H H1):∀ {ds:AS} {xs:AT},IsL H ds xs->IsL H1 ds xs
 | [],_,h=>h
 | d::ds,xs,h=>by obtain⟨x,r,e,h1,h2⟩:=h;exact⟨x,r,e,Is.stay a h1,IsL.stay a h2⟩
end
def IsL.length:∀ {ds:AS} {xs:AT},IsL H ds xs->xs.length=ds.length
 | [],_,h=>by cases h;rfl
 | d::ds,xs,h=>by obtain⟨x,r,rfl,_,h2⟩:=h;rw[aM,aM,IsL.length h2]
def IsL.get:∀ {ds:AS} {xs:AT} {i:Nat} {x:V},IsL H ds xs->xs[i]?=some x->∃d,ds[i]?=some d/\Is H d x
 | [],_,_,_,h,e=>by cases h;simp at e
 | d::ds,xs,i,x,h,e=>by
  obtain⟨y,r,rfl,h1,h2⟩:=h
  cases i with
  | zero=>simp at e;subst e;exact⟨d,rfl,h1⟩
  | succ i=>
   obtain⟨d',q,B⟩:=IsL.get (i:=i) (x:=x) h2 (by simpa using e);right
def IsL.getD:∀ {ds:AS} {xs:AT} {i:Nat} {d:Dt},IsL H ds xs->ds[i]?=some d->∃x,xs[i]?=some x/\Is H d x
 | [],_,_,_,_,e=>by simp at e
 | d::ds,xs,i,x,h,e=>by
  obtain⟨y,r,rfl,h1,h2⟩:=h
  cases i with
  | zero=>simp at e;subst e;exact⟨y,rfl,h1⟩
  | succ i=>
   obtain⟨d',q,B⟩:=IsL.getD (i:=i) (d:=x) h2 (by simpa using e);right
def IsL.append:∀ {ds es:AS} {xs ys:AT},IsL H ds xs->IsL H es ys->IsL H (ds++es) (xs++ys)
 | [],_,_,_,h,k=>by cases h;exact k
 | d::ds,es,xs,ys,h,k=>by obtain⟨y,r,rfl,h1,h2⟩:=h;exact⟨y,r++ys,rfl,h1,IsL.append h2 k⟩
def IsL.take:∀ {ds:AS} {xs:AT} (n:Nat),IsL H ds xs->IsL H (ds.take n) (xs.take n)
 | _,_,0,_=>by simp[IsL]
 | [],_,n+1,h=>by cases h;simp[IsL]
 | d::ds,xs,n+1,h=>by obtain⟨y,r,rfl,h1,h2⟩:=h;exact⟨y,r.take n,rfl,h1,IsL.take n h2⟩
def IsL.drop:∀ {ds:AS} {xs:AT} (n:Nat),IsL H ds xs->IsL H (ds.drop n) (xs.drop n)
 | _,_,0,h=>h
 | [],_,n+1,h=>by cases h;simp[IsL]
 | d::ds,xs,n+1,h=>by obtain⟨y,r,rfl,h1,h2⟩:=h;exact IsL.drop n h2
def IsL.one(h:Is H d x):IsL H [d] [x]:=⟨x,[],rfl,h,rfl⟩
def IsL.ints:∀ {ns:AG},IsL H (ns.map .int) (ns.map .int)
 | []=>rfl
 | n::ns=>⟨_,_,rfl,rfl,IsL.ints⟩
def IsL.of_ints:∀ {ns:AG} {xs:AT},IsL H (ns.map .int) xs->xs=ns.map .int
 | [],_,h=>h
 | n::ns,xs,h=>by obtain⟨y,r,rfl,h1,h2⟩:=h;cases h1;rw[IsL.of_ints h2];rfl
def Dt.ty:Dt->String
 | .non => "NoneType" | .bl _ => "bool" | .int _ => "int" | .str _ => "str" | .tup _ => "tuple" | .lst _ => "list" | .dct => "dict"
def Is.ty {K:AH}{H:Hp}:∀ {d:Dt} {v:V},Is H d v->TyOf K H v (.type d.ty)
 | .non,_,h=>by cases h;exact .non
 | .bl _,_,h=>by cases h;exact .bl _
 | .int _,_,h=>by cases h;exact .int _
 | .str _,_,h=>by cases h;exact .str _
 | .tup l,v,h=>by obtain⟨p,xs,rfl,q,B⟩:=h;exact .tup q
 | .lst l,v,h=>by obtain⟨p,xs,rfl,q,B⟩:=h;exact .lst q
 | .dct,v,h=>by obtain⟨p,xs,rfl,q,B⟩:=h;exact .dK q
abbrev Dt.isTup:Dt->Bool
 | .tup _=>true | _=>false
abbrev Dt.isLst:Dt->Bool
 | .lst _=>true | _=>false
abbrev Dt.isInt:Dt->Bool
 | .int _=>true | .bl _=>true | _=>false
abbrev Dt.isBl:Dt->Bool
 | .bl _=>true | _=>false
def Dt.isWhole:Dt->Bool
 | .int _=>true | _=>false
def znV (K:AH)(d:Dt):PySem.W.kitOne K (.type d.ty) (.type "tuple")=some d.isTup:=by cases d <;> rfl
def znU (K:AH)(d:Dt):PySem.W.kitOne K (.type d.ty) (.type "list")=some d.isLst:=by cases d <;> rfl
def znT (K:AH)(d:Dt):PySem.W.kitOne K (.type d.ty) (.type "int")=some d.isInt:=by cases d <;> rfl
def zqA (K:AH)(d:Dt):PySem.W.kitOne K (.type d.ty) (.type "bool")=some d.isBl:=by cases d <;> rfl
end
def zg8 (env:Env):List (Str×NameKind)->List (Str×Addr)->List (Str×Addr)
 | [],cs=>cs
 | x::r,cs=>zg8 env r (if (x.2==NameKind.free)=true then (x.1,(env.cells.lookup x.1).getD 0)::cs else cs)
def zg9(h:∀x∈scope.names,x.2 = .free->∃c,env.cells.lookup x.1=some c):closureFor scope env=pure (zg8 env scope.names []):=by
 have gen:∀ (names:List (Str×NameKind)) (cs:List (Str×Addr)),(∀x∈names,x.2 = .free->∃c,env.cells.lookup x.1=some c)->
   (forIn names cs (λx r=>match x with
    | (name,kind)=>if (kind==NameKind.free)=true then do let a <- cellOf env name;pure (ForInStep.yield ((name,a)::r)) else pure (ForInStep.yield r)):Sem (List (Str×Addr)))=pure (zg8 env names cs):=by
  intro names
  induction names with
  | nil=>intro cs _;rfl
  | cons x r ih=>
   intro cs hh;obtain⟨n,k⟩:=x;rw[dQ];by_cases hk:(k==NameKind.free)=true;obtain⟨c,hc⟩:=hh (n,k) aj (cb hk);have hc':env.cells.lookup n=some c:=hc;have e:cellOf env n=pure c:=by unfold cellOf;rw[hc']
   simp only[hk,if_true,e,pure_bind];rw[ih _ λy hy=>hh y (am _ hy)];change pure _=pure (zg8 env r (if (k==NameKind.free)=true then (n,(env.cells.lookup n).getD 0)::cs else cs));right;simp only[hk,pure_bind];have e2:zg8 env ((n,k)::r) cs=zg8 env r cs:=by change zg8 env r (if (k==NameKind.free)=true then _ else cs)=_;rw[if_neg hk]
   right
 unfold closureFor;have:=gen scope.names [] h;simpa using this
def zbB:∀ {names:List (Str×NameKind)} {cs:List (Str×Addr)} {x:Str} {c:Addr},(∀y∈names,y.2 = .free->∃c,env.cells.lookup y.1=some c)->(zg8 env names cs).lookup x=some c->env.cells.lookup x=some c\/cs.lookup x=some c
 | [],_,_,_,_,h=>.inr h
 | (n,k)::r,cs,x,c,B,h=>by
  have q:=zbB (names:=r) (x:=x) (c:=c) (λy F=>B y (am _ F)) h;rcases q with q | q;exact .inl q;by_cases I:(k==NameKind.free)=true;obtain⟨J,O⟩:=B (n,k) aj (cb I);grind;right
def zcC:∀ {names:List (Str×NameKind)} {cs:List (Str×Addr)} {x:Str},(∃c,cs.lookup x=some c)->∃c,(zg8 env names cs).lookup x=some c
 | [],_,_,h=>h
 | (n,k)::r,cs,x,h=>by
  show zcC (names:=r) ?_;grind
def zbq:∀ {names:List (Str×NameKind)} {cs:List (Str×Addr)} {x:Str},names.lookup x=some .free->∃c,(zg8 env names cs).lookup x=some c
 | [],_,_,h=>by simp at h
 | (n,k)::r,cs,x,h=>by
  rw[List.lookup_cons] at h
  cases e:x==n with
  | true=>
   rw[e] at h;have h':some k=some NameKind.free:=h;cases h';show zcC (names:=r) ?_;right
  | false=>
   rw[e] at h;exact zbq (names:=r) h
def yr {env:Env}:∀ {names:List (Str×NameKind)} {x:Str} {k:NameKind},(∀y∈names,y.2≠.cell)->
  (names.map λ(n,k)=>if (k==NameKind.free&&env.scope.kind==.function&&env.kindOf n==some .cell) then (n,NameKind.cell) else (n,k)).lookup x=some k->(k = .cell\/k = .free)->names.lookup x=some .free
 | [],_,_,_,h,_=>by simp at h
 | (n,k)::r,x,q,B,h,I=>by
  have J:=@yr env r x q (λy F=>B y (am _ F));grind
def yX {env:Env}:∀ {names:List (Str×NameKind)} {x:Str},names.lookup x=some .free->
  (names.map λ(n,k)=>if (k==NameKind.free&&env.scope.kind==.function&&env.kindOf n==some .cell) then (n,NameKind.cell) else (n,k)).lookup x=some .cell\/
  (names.map λ(n,k)=>if (k==NameKind.free&&env.scope.kind==.function&&env.kindOf n==some .cell) then (n,NameKind.cell) else (n,k)).lookup x=some .free
 | [],_,h=>by simp at h
 | (n,k)::r,x,h=>by
  have q:=@yX env r x;grind
def zS (X:Cx)(scope:Scope)(N:AM)(C:Addr)(s:AZ)(H:Hp)(ex:AY):Cx where
 prog:=X.prog
 w:=X.w
 K:=X.K
 mg:=X.mg
 base:=X.base
 A:=X.A
 N:=N
 s₀:=s
 H₀:=H
 env:=compEnvC scope (zg8 X.env scope.names []) C X.env
 outer:=X.stack
 stack:=X.stack
 ex:=ex
 fn:=λ_=>false
 calm:=X.calm
 pn:=[]
 xe:=λ_ _=>False
def caps (XN:AM)(Xnames names:List (Str×NameKind))(N:AM)(cix:List (Option Nat)):Bool:=
 N.length==cix.length&&(names.all λy=>y.2 != .cell)&&((N.zip cix).all λp=>match p.2 with
  | none=>true
  | some i=>XN[i]?==some p.1&&names.lookup p.1==some .free&&(Xnames.lookup p.1==some .cell || Xnames.lookup p.1==some .free)) &&
 (names.all λy=>y.2 != .free || (Xnames.lookup y.1==some .cell || Xnames.lookup y.1==some .free))
def zeh (σ:St)(cix:List (Option Nat)):St:=cix.map λo=>match o with
 | none=>none
 | some i=>(σ[i]?).join
structure CompOk (X:Cx)(scope:Scope)(N:AM)(cix:List (Option Nat)):Prop where
 kind:scope.kind = .function
 names:∀x∈scope.names,x.2 = .local->scope.names.lookup x.1=some .local
 caps:caps X.N X.env.scope.names scope.names N cix=true
section
variable {X:Cx}{pins:AB}{σ:St}{H:Hp}{s:AZ}{scope:Scope}{N:AM}{cix:List (Option Nat)}
def CompOk.cell (c:CompOk X scope N cix):∀y∈scope.names,y.2≠.cell:=λy q e=>by
 have h:=c.caps;unfold L2.caps at h;rw[bC,bC,bC] at h;have:=dD.mp h.1.1.2 y q;right
def CompOk.len (c:CompOk X scope N cix):N.length=cix.length:=by
 have h:=c.caps;unfold L2.caps at h;right
def CompOk.cells (c:CompOk X scope N cix)(B:X.Ok):∀x∈scope.names,x.2 = .free->∃a,X.env.cells.lookup x.1=some a:=λx F e=>by
 have h:=c.caps;unfold L2.caps at h;rw[bC] at h;have q:=dD.mp h.2 x F;rw[e] at q;have I:(X.env.scope.names.lookup x.1==some NameKind.cell || X.env.scope.names.lookup x.1==some NameKind.free)=true:=by simpa using q
 rcases Bool.or_eq_true_iff.mp I with q | q;exact B.has _ (.inl (cb q));exact B.has _ (.inr (cb q))
def CompOk.cap (c:CompOk X scope N cix){j i:Nat}{x:Str}(h1:N[j]?=some x)(h2:cix[j]?=some (some i)):X.N[i]?=some x/\scope.names.lookup x=some .free/\(X.env.scope.names.lookup x=some .cell\/X.env.scope.names.lookup x=some .free):=by
 have h:=c.caps;unfold L2.caps at h;rw[bC,bC] at h;have B:(x,some i)∈N.zip cix:=by show aG (i:=j) ?_;rw[List.getElem?_zip_eq_some];exact⟨h1,h2⟩
 have q:=dD.mp h.1.2 _ B;grind
def zk8 {fp:AY}{h':Heap}{tk:Nat}{m:AI}(I:Inv X pins σ H s)(c:CompOk X scope N cix)(Z:∀b∈fp,zfa X pins H b)(ac:∀b∈fp,b<s.heap.objs.size)
  (hn:h'.Ns s.heap.objs.size m) (hk:∀b o,s.heap.get? b=some o->h'.get? b=some o) :
  Inv (zS X scope N s.heap.objs.size s H fp) [] (zeh σ cix) H { s with heap:=h',toks:=tk }:=by
 have ad:=c.cells I.ok
 have B:∀x a,(zg8 X.env scope.names []).lookup x=some a->X.env.cells.lookup x=some a:=λx a e=>by
  rcases zbB ad e with z | z;exact z;simp at z
 show⟨⟨I.mod,c.kind,I.ok.glob,I.ok.blt,ai _,λx y a e1 e2=>I.ok.inj x y a (B x a e1) (B y a e2),λx hx=>?_,λx a z _=>absurd (show (false:Bool)=true from z) (by ext),I.ok.hd,I.ok.frames,.inl rfl,
  λb J=>⟨aS (ac b J),λx a e=>(Z b J).2.2.2.2.1 x a (B x a e)⟩,I.bs,aA I.ok.bsz I.sz,λb o e J=>?_,λb J z=>?_,I.stack,I.stkFree⟩,
  I.os ▸ rfl,I.bare,Un.kept hk,⟨m,hn,λj x v h1 h2 h3=>?_⟩,λx a e=>?_,I.hok.fresh (ai _),λx a e=>I.freeC x a (B x a e),λp hp=>absurd (show p∈([]:AB) from hp) (by simp),I.hok.kept hk,?_⟩
 have ag:((relabel scope X.env).names.lookup x=some .cell\/(relabel scope X.env).names.lookup x=some .free):=hx;rcases ag with z | z;exact zbq (yr c.cell z (.inl rfl));exact zbq (yr c.cell z (.inr rfl));rcases (Z b J).2.2.2.1 with z | z;exact I.ok.noex b o e z;exact absurd (aY (ar e) (aA I.ok.bsz z)) (cB _);rcases ay.mp (I.stkSub b z) with e | e;exact (Z b J).2.1 e;exact (Z b J).2.2.1 e;have al:N[j]?=some x:=h1;unfold zeh at h2;rw[aL] at h2
 cases e:cix[j]? with
 | none=>rw[e] at h2;cases h2
 | some o=>
  rw[e] at h2
  cases o with
  | none=>cases h2
  | some i=>
   have F:(σ[i]?).join=some v:=cG h2
   have U:σ[i]?=some (some v):=by
    cases q:σ[i]? with
    | none=>rw[q] at F;cases F
    | some z=>rw[q] at F;have:z=some v:=F;rw[this]
   obtain⟨q1,q2,q3⟩:=c.cap al e;obtain⟨m0,ap,an⟩:=I.loc;obtain⟨u,ru,hu⟩:=an i x v q1 U (q3.elim (λz=>.inr (.inl z)) λz=>.inr (.inr z));show⟨u,ru,.inr ⟨yX q2,?_⟩⟩;rcases hu with ⟨z,_⟩ | ⟨_,a,ha,hcell⟩;have z':X.env.scope.names.lookup x=some .local:=z;right;obtain⟨a',Y⟩:=zbq (env:=X.env) (cs:=[]) q2;have:a'=a:=by have:=(B x a' Y).symm.trans ha;exact cG this
   subst this;obtain⟨oc,O,hd⟩:=hcell;exact⟨a',Y,oc,hk _ _ O,hd⟩
 obtain⟨v,oc,O,hd⟩:=I.cell x a (B x a e);exact⟨v,oc,hk _ _ O,hd⟩;change (zeh σ cix).length=N.length;unfold zeh;rw[ab,c.len]
def zfr(x:HOk P w H h)(hn:H a=none)(hs:Heap.SameBut a h h'):HOk P w H h':=λb o e=>by
 show (x b o e).stay (λc u B q=>(hs.2 c ?_).trans q) (λ_ q=>q) λ_ _ q=>q;grind
def zhg{Y:St}{H':Hp}{s':AZ}(I:Inv X pins σ H s)(O:∀b∈U,zfa X pins H b)(I':Inv (zS X scope N s.heap.objs.size s H U) [] Y H' s')(hs:Heap.SameBut s.heap.objs.size s'.heap F) :
  Inv X pins σ H' { s' with heap:=F }:=by
 have Z:∀b o,s.heap.get? b=some o->b≠s.heap.objs.size:=λb o e=>aS (ar e);have u:=I'.base;show Inv.call' (ch:=U) I I'.os ⟨λb o e n B J=>?_,λb o e n B J=>?_,u.free,λb o e J=>?_,u.tups,u.frzs,u.tbls⟩ (zfr I'.hok I'.free hs) I'.bare λb B=>⟨(O b B).2.2.2.1,(O b B).2.1,(O b B).2.2.2.2.1,(O b B).2.2.2.2.2⟩;exact (hs.2 b (Z b o e)).trans (u.keep b o e n B J);obtain⟨sl,q⟩:=u.slot b o e n B J;exact⟨sl,(hs.2 b (Z b o e)).trans q⟩;obtain⟨o',q⟩:=u.there b o e J;exact⟨o',(hs.2 b (Z b o e)).trans q⟩
variable {prog:Aa}{w:Ab}{A:Ae}{R:Result->AZ->Prop}
def zda(I:Nat->AZ->Prop)(turn:∀n s,I n s->Ag prog w A (pyNext it) (λr s₁=>match r with
   | none=>R (.ok .next) s₁
   | some v=>Ag prog w A (letOwnedTupleGo target it v) (λ_ s₂=>Ag prog w A (assign target env v) (λ_ s₃=>
     Ag prog w A (forIn ifs true λc r=>if r=true then do let ok <- isTrue c env (eval c env);pure (ForInStep.yield ok) else pure (ForInStep.yield r)) (λok s₄=>
      if ok=true then Ag prog w A (eval elt env) (λx s₅=>
       Ag prog w A (call (.builtin "list.append") [acc,x]) (λ_ s₆=>∃m,m<n/\I m s₆) (λ_ _=>False) s₅) (λ_ _=>False) s₄
      else ∃m,m<n/\I m s₄) (λ_ _=>False) s₃) (λ_ _=>False) s₂) (λ_ _=>False) s₁) (λ_ _=>False) s)(n:Nat)(h:I n s) :
  codeAny (model prog w) A (.compLoop (.ListComp elt [⟨target,iter,ifs,0⟩] scope pos) 0 it acc env) R s:=by
 show codeAny_loop rfl I (λn s hI=>?_) n h;change wpAny _ A ((compTurn (.ListComp elt [⟨target,iter,ifs,0⟩] scope pos) 0 it acc env).onRaise (λx=>do noteFrame x env;theTreesLotGoes x)) _ _ s;show wpAny_noted ?_;rw[compTurn_list];show aa (c7 (aa (bE (turn n s hI) (λr s₁ h₁=>?_) λ_ _ h'=>h'.elim)))
 cases r with
 | none=>exact ae h₁
 | some v=>
  show aa (bE h₁ (λ_ s₂ h₂=>?_) λ_ _ h'=>h'.elim);show aa (bE h₂ (λ_ s₃ h₃=>aa (bE h₃ (λok s₄ h₄=>?_) λ_ _ h'=>h'.elim)) λ_ _ h'=>h'.elim)
  cases ok with
  | false=>exact ae ⟨rfl,h₄⟩
  | true=>
   exact aa (aa (bE h₄ (λx s₅ h₅=>aa (bE h₅ (λ_ s₆ h₆=>ae (ae ⟨rfl,h₆⟩)) λ_ _ h'=>h'.elim)) λ_ _ h'=>h'.elim))
end
def PTs (X:Cx)(ifs:AO)(t:TT):Prop:=
 ∀ (pins:AB) (s:AZ) (σ:St) (H:Hp) (Q:Bool->Hp->Prop),Inv X pins σ H s->t σ H Q->
  Af X (forIn ifs true λc r=>if r=true then do let ok <- isTrue c X.env (eval c X.env);pure (ForInStep.yield ok) else pure (ForInStep.yield r)) (TP X pins σ Q) X.xe s
def zkc:TT:=λ_ H Q=>Q true H
def zoD:PTs X [] zkc:=λpins s σ H Q I h=>wpAny_tests_nil ⟨H,I,h⟩
def zoE(h:PT X c t):PTs X [c] t:=λpins s σ H Q I q=>wpAny_tests_one (h pins s σ H Q I q)
def zuk (wi:TI)(g:TG)(ti:TT)(te:TE)(cix:List (Option Nat)):TE:=λσ H Q=>wi σ H λJ H1=>∀acc,H1 acc=none->∃W:Nat->Nat->St->Hp->Prop,(∃m,W 0 m (zeh σ cix) (upd H1 acc (.lst [])))/\
 ∀i m B H',W i m B H'->(J.stop i H'/\Q (.ref acc) H')\/(J.go i H'/\∃N:St->Hp->Prop,(∀ F H2,N F H2->∃I,I<m/\W (i+1) I F H2)/\
  ∀x H2,J.yld i H' x H2->g x B H2 λq H3=>ti q H3 λO H4=>if O=true then te q H4 λv H5=>∃xs,H5 acc=some (.lst xs)/\xs.length<sizeLine/\N q (upd H5 acc (.lst (xs++[v]))) else N q H4)
def zpX (g:TG)(ti:TT)(te:TE)(acc:Addr)(N:St->Hp->Prop)(x:V)(σ:St)(H:Hp):Prop:=
 g x σ H λq H3=>ti q H3 λB H4=>if B=true then te q H4 λv H5=>∃xs,H5 acc=some (.lst xs)/\xs.length<sizeLine/\N q (upd H5 acc (.lst (xs++[v]))) else N q H4
def zmk (M:Model)(A:Ae)(e:Expr)(k:Nat)(tg:Expr)(ifs:AO)(it acc:Value)(env:Env)(B:(AZ->Prop)->AZ->Prop):Prop:=
 ∀ (R:Result->AZ->Prop) (s:AZ) (I:Nat->AZ->Prop),(∀n s,I n s->wpAny M A (pyNext it) (λr s₁=>match r with
   | none=>R (.ok .next) s₁
   | some v=>wpAny M A (letOwnedTupleGo tg it v) (λ_ s₂=>wpAny M A (assign tg env v) (λ_ s₃=>
     wpAny M A (forIn ifs true λc r=>if r=true then do let ok <- isTrue c env (eval c env);pure (ForInStep.yield ok) else pure (ForInStep.yield r)) (λok s₄=>
      if ok=true then B (λs'=>∃m,m<n/\I m s') s₄ else ∃m,m<n/\I m s₄) (λ_ _=>False) s₃) (λ_ _=>False) s₂) (λ_ _=>False) s₁) (λ_ _=>False) s)->
  ∀n,I n s->codeAny M A (.compLoop e k it acc env) R s
def zi8{X:Cx}{ifs:AO}{it acc:Addr}{I:AY}{tn:Nat->Heap->Prop}{J:It}{g:TG}{ti:TT}{tb:(St->Hp->Prop)->St->Hp->Prop}{B:(AZ->Prop)->AZ->Prop}{pl:AB}{Fin:St->Hp->Prop}{R:Result->AZ->Prop}{W:Nat->Nat->St->Hp->Prop}{σ0:St}{H0:Hp}{s0:AZ}(L:zmk (model X.prog X.w) X.A e k tg ifs (.ref it) (.ref acc) X.env B)(hc:X.calm=true)(xX:X.xe=λ_ _=>False)(T:Turn X.prog X.w X.K tg J I it tn)(f4:∀ {H':Hp},(∀b∈I,H' b=none)->∀b∈I,zfa X pl H' b)(hg:PG X tg g)(ht:PTs X ifs ti)(O:∀pl' s σ H (Nx:St->Hp->Prop) (P:AZ->Prop),Inv X (pl++pl') σ H s->tb Nx σ H->(∀ q H' s',Inv X (pl++pl') q H' s'->Nx q H'->P s')->B P s)(Z:∀i n σ H,W i n σ H->(J.stop i H/\Fin σ H)\/(J.go i H/\∃Nx:St->Hp->Prop,(∀ q H',Nx q H'->∃m,m<n/\W (i+1) m q H')/\∀x H',J.yld i H x H'->g x σ H' λU H2=>ti U H2 λb H3=>if b=true then tb Nx U H3 else Nx U H3))(fin:∀ σ H s,Inv X pl σ H s->Fin σ H->R (.ok .next) s)(I0:Inv X pl σ0 H0 s0)(an:tn 0 s0.heap)(ap:∀b∈I,H0 b=none)(w0:W 0 m0 σ0 H0) :
  codeAny (model X.prog X.w) X.A (.compLoop e k (.ref it) (.ref acc) X.env) R s0:=by
 show L R s0 (λn s'=>∃i q H',Inv X pl q H' s'/\tn i s'.heap/\(∀b∈I,H' b=none)/\W i n q H') ?_ m0 ⟨0,σ0,H0,I0,an,ap,w0⟩;rintro n s5 ⟨i,F,H5,I5,ac,ad,w5⟩;rcases Z i n F H5 w5 with ⟨stop,qn⟩ | ⟨go,Nx,hN,step⟩
 ·show thn (T.done X rfl rfl rfl hc i pl s5 F H5 (λ_ _=>False) I5 (f4 ad) ac stop) ?_;rintro r s6 ⟨hr,I6⟩;subst hr;exact fin F H5 s6 I6 qn
 show thn (T.item X rfl rfl rfl hc i pl s5 F H5 (λ_ _=>False) I5 (f4 ad) ac go) ?_;rintro r s6 ⟨u,hr,h6⟩;subst hr;show thn h6 ?_;rintro _ s7 ⟨x,H7,I7,r7,y7,Y,as⟩;have I7':=I7.pinned (f4 as) (T.obj _ _ Y);have a7:=hg _ s7 F H7 x u _ I7' r7 (step x H7 y7);rw[xX] at a7;show thn a7 ?_;rintro _ s8 ⟨al,H8,I8,q8⟩;have t8:=ht _ s8 al H8 _ I8 q8;rw[xX] at t8;show thn t8 ?_;rintro ok s9 ⟨H9,I9,q9⟩
 have ag:∀ q H' s',Inv X (pl++zeP I s7.heap) q H' s'->Nx q H'->∃m,m<n/\∃i q H',Inv X pl q H' s'/\tn i s'.heap/\(∀b∈I,H' b=none)/\W i m q H':=λq H' s' J' n'=>by
  obtain⟨m',hm,w'⟩:=hN q H' n'
  have pn:∀b∈I,∀o,s7.heap.get? b=some o->s'.heap.get? b=some o/\H' b=none:=λb O o e=>by
   have:=J'.pin (b,o) (aE _ (aE _ (zaS O e)));right
  show⟨m',hm,i+1,q,H',J'.unpinned,T.keep _ _ _ Y λb O o e=>(pn b O o e).1,λb O=>?_,w'⟩;obtain⟨o,e,_⟩:=T.obj _ _ Y b O;right
 cases ok with
 | false=>exact ag _ _ _ I9 q9
 | true=>exact O _ s9 al H9 _ _ I9 q9 ag
structure Inn (X X':Cx)(pins:AB)(σ:St)(fp:AY)(C:Addr):Prop where
 pX:X'.prog=X.prog
 wX:X'.w=X.w
 KX:X'.K=X.K
 AX:X'.A=X.A
 cX:X'.calm=X.calm
 xX:X'.xe=λ_ _=>False
 lX:X'.env.locals=C
 f4:∀ {H':Hp},(∀b∈fp,H' b=none)->∀b∈fp,zfa X' [] H' b
 back:∀ {σ':St} {H':Hp} {s':AZ} {h'':Heap},Inv X' [] σ' H' s'->Heap.SameBut C s'.heap h''->Inv X pins σ H' { s' with heap:=h'' }
structure Opn (X:Cx)(scope:Scope)(cix:List (Option Nat))(Fam:Cx->Prop):Prop where
 kind:scope.kind = .function
 names:∀x∈scope.names,x.2 = .local->scope.names.lookup x.1=some .local
 cells:X.Ok->∀x∈scope.names,x.2 = .free->∃a,X.env.cells.lookup x.1=some a
 run:∀ (pins:AB) (σ:St) (H3:Hp) (s3:AZ) (fp:AY) (Q:Env->AZ->Prop),Inv X pins σ H3 s3->(∀b∈fp,zfa X pins H3 b)->(∀b∈fp,b<s3.heap.objs.size)->
  (∀X' cenv s4,Fam X'->Inn X X' pins σ fp s3.heap.objs.size->cenv.locals=s3.heap.objs.size->X'.env={ cenv with scope:=relabel scope X.env }->Inv X' [] (zeh σ cix) H3 s4->(∀b o,s3.heap.get? b=some o->s4.heap.get? b=some o)->Q cenv s4)->
  Af X (newFunctionEnv scope X.env.globals (zg8 X.env scope.names []) [] X.env.qual none .none (some X.env)) Q X.xe s3
def zek{X:Cx}{Fam:Cx->Prop}{scope:Scope}{cix:List (Option Nat)}{use:Option (Value->Sem Unit)}{Qp:AA}{ifs:AO}{pos:Pos}{U:Sem Value}{o0:Addr->HO}{B:Cx->Addr->(AZ->Prop)->AZ->Prop}{tb:Addr->(St->Hp->Prop)->St->Hp->Prop}{Fin:Addr->Hp->Prop}{wi:TI}{g:TG}{ti:TT}{Kk:It->Hp->Prop}{pins:AB}{σ:St}{H:Hp}{s:AZ}(O:Opn X scope cix Fam)(hc:X.calm=true)(a5:clausesOf e=⟨tg,iter,ifs,0⟩::gs)(hs:∀x,foldedSetIterable iter X.env x=pure x)(a7:∀ (R:Result->AZ->Prop) (s:AZ) (it acc:Value) (env:Env),codeAny (model X.prog X.w) X.A (.compLoop e 0 it acc env) R s->Af X (pyIter it) (λba s'=>codeAny (model X.prog X.w) X.A (.compLoop e 0 ba acc env) R s') (notedBy (model X.prog X.w) X.A env λx s'=>R (.error x) s') s->codeAny (model X.prog X.w) X.A (.compStart e 0 it acc env) R s)(hL:∀X',Fam X'->∀it acc,zmk (model X'.prog X'.w) X'.A e 0 tg ifs it (.ref acc) X'.env (B X' acc))(an:∀ (s:AZ) (Q:AA),Q (.ref s.heap.objs.size) { s with heap:=s.heap.push ob }->Af X U Q X.xe s)(bb:∀ {pins σ H s},Inv X pins σ H s->∀H',ya X.prog X.w H' (s.heap.push ob) s.heap.objs.size (o0 s.heap.objs.size))(hi:PI X tg iter wi)(hg:∀X',Fam X'->PG X' tg g)(ht:∀X',Fam X'->PTs X' ifs ti)(Y:∀X',Fam X'->X'.prog=X.prog->X'.w=X.w->X'.A=X.A->X'.calm=true->X'.xe=(λ_ _=>False)->∀acc pl s σ H (Nx:St->Hp->Prop) (P:AZ->Prop),Inv X' pl σ H s->tb acc Nx σ H->(∀ Z H' s',Inv X' pl Z H' s'->Nx Z H'->P s')->B X' acc P s)(I:Inv X pins σ H s)(h:wi σ H Kk)(hK:∀J H1 acc,Kk J H1->H1 acc=none->∃W:Nat->Nat->St->Hp->Prop,(∃m,W 0 m (zeh σ cix) (upd H1 acc (o0 acc)))/\∀i n σ H,W i n σ H->(J.stop i H/\Fin acc H)\/(J.go i H/\∃Nx:St->Hp->Prop,(∀ Z H',Nx Z H'->∃m,m<n/\W (i+1) m Z H')/\∀x H',J.yld i H x H'->g x σ H' λad H2=>ti ad H2 λb H3=>if b=true then tb acc Nx ad H3 else Nx ad H3))(ap:∀acc C H5 s6,zfa X pins H5 C->(∃m,s6.heap.Ns C m)->(∀ag,Heap.SameBut C s6.heap ag->Inv X pins σ H5 { s6 with heap:=ag })->Fin acc H5->compPost (model X.prog X.w) X.A X.xe use Qp (.ref acc) C (.ok .next) s6) :
  Af X (comprehension e scope X.env pos U false (eval iter X.env) use) Qp X.xe s:=by
 show wpAny_comprehension_free (use:=use) a5 hs (zg9 (O.cells I.ok)) O.kind O.names (thn (hi pins s σ H _ I h) λxv s1 h1=>thn h1 λbe F h2=>?_);obtain⟨it,fp,tn,J,H2,e,I2,T,as,f2,q2⟩:=h2;subst e;show an F _ ?_;have al:=I2.hok.fresh (ai F.heap.objs.size);obtain⟨W,⟨m0,w0⟩,a0⟩:=hK J H2 F.heap.objs.size q2 al;have a1:∀b o,F.heap.get? b=some o->(F.heap.push ob).get? b=some o:=λb u e=>af _ e;have I3:Inv X pins σ (upd H2 F.heap.objs.size (o0 F.heap.objs.size)) { F with heap:=F.heap.push ob,toks:=F.toks }:=I2.laid (t':=F.toks) a1 (ai _) (bb I2 _);have a2:∀b∈fp,b<F.heap.objs.size:=λb Y=>by obtain⟨o,ho,_⟩:=T.obj _ _ as b Y;exact ar ho
 have fn:∀b∈fp,upd H2 F.heap.objs.size (o0 F.heap.objs.size) b=none:=λb Y=>by rw[ze (aS (a2 b Y))];exact (f2 b Y).1
 show O.run pins σ _ _ fp _ I3 (λb Y=>⟨fn b Y,(f2 b Y).2⟩) (λb Y=>Nat.lt_trans (a2 b Y) (by simp)) λX' bd s4 hF N hl hE I4 kp=>?_;rw[<- hE,hl];have a3:tn 0 s4.heap:=T.keep _ _ _ as λb Y o e=>kp b o (a1 b o e);have cX:=N.cX.trans hc;have ac:=zi8 (X:=X') (R:=compPost (model X.prog X.w) X.A X.xe use Qp (.ref F.heap.objs.size) (F.heap.push ob).objs.size) (Fin:=λ_ H=>Fin F.heap.objs.size H) (pl:=[]) (hL X' hF (.ref it) F.heap.objs.size) cX N.xX (by rw[N.pX,N.wX,N.KX];exact T) N.f4 (hg X' hF) (ht X' hF) (Y X' hF N.pX N.wX N.AX cX N.xX F.heap.objs.size) a0 (λbk H5 s6 I6 q=>?_) I4 a3 fn w0;rw[N.pX,N.wX,N.AX] at ac;exact a7 _ _ _ _ _ ac (T.self X.A 0 _ _ _ a3 ac);have bc:H5 (F.heap.push ob).objs.size=none:=by have:=I6.free;rwa[N.lX] at this
 obtain⟨m6,a4,_⟩:=I6.loc;rw[N.lX] at a4;exact ap _ _ H5 s6 (I3.fpOk (ai _) bc) ⟨m6,a4⟩ (λag hs=>N.back I6 hs) q
section
variable {X:Cx}{scope:Scope}{N:AM}{cix:List (Option Nat)}{z:Str}
def zbZ (c:CompOk X scope N cix):Opn X scope cix (λX'=>∃C s H ex,X'=zS X scope N C s H ex) where
 kind:=c.kind
 names:=c.names
 cells:=c.cells
 run:=λpins σ H3 U Z Q I3 B F k=>by
  show wpAny_newFunctionEnv c.cell (by simp) (λh4 J O=>?_) c.kind;have Y:∀b o,U.heap.get? b=some o->h4.get? b=some o:=λb o e=>O.extBut b o (aS (ar e)) (af _ e);show k (zS X scope N U.heap.objs.size U H3 Z) _ _ ⟨_,_,_,_,rfl⟩ ⟨rfl,rfl,rfl,rfl,rfl,rfl,rfl,λ{H'} hn b q=>⟨hn b q,aS (F b q),λy=>?_,.inl q,λx a e=>?_,λp hp=>?_⟩,λI' hs=>zhg I3 B I' hs⟩ rfl rfl (zk8 I3 c B F J Y) Y;rcases ay.mp (I3.stkSub b y) with e | e;exact (B b q).2.1 e;exact (B b q).2.2.1 e;rcases zbB (c.cells I3.ok) e with y | y;exact (B b q).2.2.2.2.1 x a y;simp at y;exact absurd (show p∈([]:AB)++[] from hp) (by simp)
def zgf {pins:AB}{σ:St}{Q:VK}{acc C:Addr}{H5:Hp}{F:AZ}(J:∃m,F.heap.Ns C m)(O:∀B,Heap.SameBut C F.heap B->Inv X pins σ H5 { F with heap:=B })(q:Q (.ref acc) H5):compPost (model X.prog X.w) X.A X.xe none (EP X pins σ Q) (.ref acc) C (.ok .next) F:=
 let ⟨m,hn⟩:=J;⟨m,hn,λU I=>⟨.ref acc,H5,O U I,rfl,q⟩⟩
def zkE{pos spos px:Pos}{nx:Str}{B first:Sem Value}{D:Ends}{pins:AB}{σ:St}{s:AZ}(Y:X.N.Nodup)(Z:X.N[ix]?=some nx)(J:X.env.scope.names.lookup nx=some .local)(ac:swapsWithSole [.Name nx px] e spos.line X.env=pure true)(ad:(assignEach [.Name nx px] X.env).map (·.2)=[assign (.Name nx px) X.env])(ag:∀U,evalThenUse e X.env U=comprehension e scope X.env pos B false first (some U) >>= λ_=>pure ())(h:∀ (U:Value->Sem Unit) (Qp:AA),(∀acc C H5 I,zfa X pins H5 C->(∃m,I.heap.Ns C m)->(∀O,Heap.SameBut C I.heap O->Inv X pins σ H5 { I with heap:=O })->D.nx (σ.set ix (some (.ref acc))) H5->compPost (model X.prog X.w) X.A X.xe (some U) Qp (.ref acc) C (.ok .next) I)->Af X (comprehension e scope X.env pos B false first (some U)) Qp X.xe s) :
  Af X (exec (.Assign [.Name nx px] e spos) X.env) (SP X pins D) X.xe s:=by
 rw[exec_Assign_arm];show aa (c7 ?_);rw[ac];show aa (ae ?_);rw[if_pos rfl];show aa ?_;rw[ag];show aa ?_;show h _ _ λacc C H5 I F hm al q=>?_;have IX:=al _ ⟨rfl,λ_ _=>rfl⟩;change wpAny _ _ (assignAll _ ((assignEach [.Name nx px] X.env).map (·.2))) _ _ I;rw[ad];show wpAny_assign_Name (x:=nx) (pos:=px) ?_;show zeZ IX Y Z (Or.inl J) (v:=.ref acc) rfl (λs7 I7 ⟨a7,an,ap⟩=>?_) (.inr J)
 have as:C≠a7:=by
  intro z;rcases ap with e | e;exact F.2.1 (z.trans e);exact F.2.2.2.2.1 nx a7 e z.symm
 obtain⟨m6,oC,a0,a1,a2,rC⟩:=hm;show⟨m6,⟨oC,a0,a1,(an.2 _ as).trans a2,rC⟩,λh8 a3=>ae (ae ?_)⟩;exact⟨_,H5,I7.turned (t':=s7.toks) (λb o hb e=>(a3.2 b hb).trans e) F.1 F.2.1 F.2.2.2.1 F.2.2.2.2.1 F.2.2.2.2.2,q⟩
variable {Fam:Cx->Prop}{use:Option (Value->Sem Unit)}{Qp:AA}{elt tg iter:Expr}{ifs:AO}{pos ipos spos px:Pos}{wi:TI}{g:TG}{ti:TT}{te:TE}{pins:AB}{σ:St}{H:Hp}{s:AZ}{Fin:Addr->Hp->Prop}
def zkC {P:AZ->Prop}{acc:Addr}{Nx:St->Hp->Prop}(he:PE X elt te)(xX:X.xe=λ_ _=>False)(I:Inv X pins σ H s)(q:te σ H λv H'=>∃xs,H' acc=some (.lst xs)/\xs.length<sizeLine/\Nx σ (upd H' acc (.lst (xs++[v]))))(k:∀ B H' s',Inv X pins B H' s'->Nx B H'->P s') :
  Af X (eval elt X.env) (λx s5=>Af X (call (.builtin "list.append") [.ref acc,x]) (λ_ s6=>P s6) (λ_ _=>False) s5) (λ_ _=>False) s:=by
 have e9:=he pins s σ H _ I q;rw[xX] at e9;show thn e9 ?_;rintro u2 J ⟨v,H10,I10,O,xs,U,Y,nx⟩;have F:=zeF (X:=X) _ J σ H10 (.ref acc) [v] (.ref acc) [u2] (λ_ H'=>Nx σ H') I10 rfl (.cons O .nil) ⟨_,xs,v,rfl,rfl,U,Y,nx⟩;rw[xX] at F;show thn F (by rintro _ ac ⟨_,H11,I11,_,Z⟩;exact k _ _ _ I11 Z)
def zeE (O:Opn X scope cix Fam)(hc:X.calm=true)(hi:PI X tg iter wi)(hg:∀X',Fam X'->PG X' tg g)(ht:∀X',Fam X'->PTs X' ifs ti)(he:∀X',Fam X'->PE X' elt te)(hs:∀x,foldedSetIterable iter X.env x=pure x)(I:Inv X pins σ H s)
  (h:wi σ H λJ H1=>∀acc,H1 acc=none->∃W:Nat->Nat->St->Hp->Prop,(∃m,W 0 m (zeh σ cix) (upd H1 acc (.lst [])))/\∀i n σ H,W i n σ H->(J.stop i H/\Fin acc H)\/(J.go i H/\∃Nx:St->Hp->Prop,(∀ U H',Nx U H'->∃m,m<n/\W (i+1) m U H')/\∀x H',J.yld i H x H'->zpX g ti te acc Nx x σ H'))
  (Y:∀acc C H5 F,zfa X pins H5 C->(∃m,F.heap.Ns C m)->(∀Z,Heap.SameBut C F.heap Z->Inv X pins σ H5 { F with heap:=Z })->Fin acc H5->compPost (model X.prog X.w) X.A X.xe use Qp (.ref acc) C (.ok .next) F) :
  Af X (comprehension (.ListComp elt [⟨tg,iter,ifs,0⟩] scope pos) scope X.env ipos (newList []) false (eval iter X.env) use) Qp X.xe s:=
 zek (ob:={ cls:=.type "list",dict:=none,data:=.seq ([]:AN).toArray }) (o0:=λ_=>.lst []) (B:=λX' acc P s=>wpAny (model X'.prog X'.w) X'.A (eval elt X'.env) (λx s5=>wpAny (model X'.prog X'.w) X'.A (call (.builtin "list.append") [.ref acc,x]) (λ_ F=>P F) (λ_ _=>False) s5) (λ_ _=>False) s) (tb:=λacc Nx σ H=>te σ H λv H'=>∃xs,H' acc=some (.lst xs)/\xs.length<sizeLine/\Nx σ (upd H' acc (.lst (xs++[v])))) O hc rfl hs (λ_ _ _ _ _ h0 h1=>codeAny_compStart_list h0 h1) (λ_ _ _ _ _ _ I ac n h=>zda I ac n h) (λs Q h=>bu h) (λ_ _=>⟨aK _,[],0,.nil,aq _ rfl⟩) hi hg ht (λX' hF _ _ _ _ xX _ _ _ _ _ _ _ I q k=>zkC (he X' hF) xX I q k) I h (λJ H1 acc q hn=>q acc hn) Y
end
section
variable {X:Cx}{scope:Scope}{N:AM}{z:Str}
def zkZ {P:Cx->Prop}(h:∀C s H ex,P (zS X scope N C s H ex)):∀X',(∃C s H ex,X'=zS X scope N C s H ex)->P X':=by right
abbrev EndK (X:Cx)(pins:AB)(σ:St)(use:Option (Value->Sem Unit))(Qp:AA)(Q:VK):Prop:=∀acc C H5 B,zfa X pins H5 C->(∃m,B.heap.Ns C m)->(∀q,Heap.SameBut C B.heap q->Inv X pins σ H5 { B with heap:=q })->Q (.ref acc) H5->compPost (model X.prog X.w) X.A X.xe use Qp (.ref acc) C (.ok .next) B
end
structure Dfn (K:AH)(mg:AI)(x:Str)(st:Stmt)(ps:AM)(f:Addr)(fd:Ac):Prop where
 F:Fun K x x st f fd
 b:uS K fd ps []
 m:mg x=some (.ref f)
section
variable {X:Cx}
def zq4{x:Str}{st:Stmt}{ps:AM}{f:Addr}{fd:Ac}{sp:Sp}{es:AO}{p pos:Pos}(D:Dfn X.K X.mg x st ps f fd)(G:FnOk X.prog X.w X.K X.mg X.base CX0 j f fd ps sp)(J:Room k X.A)(O:PA X (e::es) t)(q:j<=k:=by ext)(U:Gl X x:=by rfl)(B:Ah x:=by ext)(Y:starEach (e::es) X.env=(false,eval e X.env)::starEach es X.env:=by rfl)(I:(backTo pos (starEach es X.env)).any (·.1)=false:=by rfl) :
  PE X (.Call (.Name x p) (e::es) [] pos) (zcf sp [] E0 t):=
 zfG G (J.mono q) U D.m D.F.kp D.b .nil zjz O B Y I
end
structure QE (X:Cx)(e:Expr)(t:TE):Prop where
 run:PE X e t
structure QT (X:Cx)(e:Expr)(t:TT):Prop where
 run:PT X e t
structure QW (X:Cx)(e:Expr)(t:TT):Prop where
 run:PW X e t
structure QC (X:Cx)(op:CmpOp)(a b:Expr)(t:TE):Prop where
 run:PC X op a b t
structure QA (X:Cx)(es:AO)(t:TA):Prop where
 run:PA X es t
structure QS (X:Cx)(s:Stmt)(t:TS):Prop where
 run:PS X s t
structure QSs (X:Cx)(s:List Stmt)(t:TS):Prop where
 run:PSs X s t
structure QG (X:Cx)(e:Expr)(t:TG):Prop where
 run:PG X e t
structure QGs (X:Cx)(es:AO)(t:TGs):Prop where
 run:PGs X es t
structure QI (X:Cx)(tg e:Expr)(t:TI):Prop where
 run:PI X tg e t
structure QO (X:Cx)(e:Option Expr)(t:TO):Prop where
 run:PO X e t
structure QP (X:Cx)(pos:Pos)(ks:List (Option Expr))(vs:AO)(t:List (TE×TE)):Prop where
 run:PPs X pos ks vs t
structure QTs (X:Cx)(es:AO)(t:TT):Prop where
 run:PTs X es t
structure OpQ (X:Cx)(f:Value->Value->Sem Value)(r:R2):Prop where
 run:OpR X f r
structure CallQ (X:Cx)(f:Value)(r:AT->Hp->VK->Prop):Prop where
 run:zc3 X f r
structure IxQ (X:Cx)(r:R2):Prop where
 run:IxR X r
structure SlQ (X:Cx)(r:V->AQ->AQ->Hp->VK->Prop):Prop where
 run:SlR X r
section
variable {X:Cx}{e a b c:Expr}{es:AO}{te ta tb tc:TE}{t u:TT}{pos p:Pos}
def qv(i:Nat)(B:X.N[i]?=some x:=by rfl)(F:Vis X.env.scope x:=by walk_at "v")(I:Ah x:=by ext)(q:(x==("__classdict__" : Str))=false:=by ext):QE X (.Name x pos) (zaL i):=⟨zmL B F I q⟩
def yo{i:Int}:QE X (.Constant (.int i) j pos) (tC (.int i)):=⟨zmK⟩
def zoI:QE X (.Constant (.bool k) j pos) (tC (.bl k)):=⟨zt2⟩
def zrr:QE X (.Constant .none j pos) (tC .non):=⟨zq5⟩
def xf:QE X (.Constant (.str x) j pos) (tC (.str x)):=⟨zq6⟩
def zoJ(q:Gl X x)(B:X.mg x=none)(F:bootBuiltins x=some w)(r:yc v w)(hn:x ≠ "__name__" := by ext)(I:Ah x:=by ext):QE X (.Name x pos) (tC v):=⟨zoi q B F r hn I⟩
def yv:OpQ X (binaryOp .Add) (rI0 λi j=>.int (i+j)):=⟨zqP⟩
def zjy:OpQ X (binaryOp .Sub) (rI0 λi j=>.int (i - j)):=⟨zqW⟩
def ux:OpQ X (binaryOp .Mult) (rI zmi λi j=>.int (i * j)):=⟨zqT⟩
def zdE:OpQ X (binaryOp .FloorDiv) (rI zpI λi j=>.int (i / j)):=⟨zof⟩
def uw:OpQ X (binaryOp .Mod) (rI (λ_ j=>0<j) λi j=>.int (i % j)):=⟨zqS⟩
def zqZ:OpQ X (binaryOp .Pow) (rI CPow λi j=>.int (i ^ j.toNat)):=⟨zqV⟩
def zab:OpQ X (binaryOp .Add) (zlO X.K):=⟨zod⟩
def zqX:OpQ X (binaryOp .Add) rCat:=⟨zqQ⟩
def zog:OpQ X (compareOp .Lt) (rI0 λi j=>.bl (decide (i<j))):=⟨ztZ⟩
def zqY:OpQ X (compareOp .LtE) (rI0 λi j=>.bl (decide (i<=j))):=⟨ztY⟩
def zjw:OpQ X (compareOp .Gt) (rI0 λi j=>.bl (decide (j<i))):=⟨ztX⟩
def zt1:OpQ X (compareOp .GtE) (rI0 λi j=>.bl (decide (j<=i))):=⟨ztW⟩
def uv:OpQ X (compareOp .Eq) rEq:=⟨ztV⟩
def zht:OpQ X (compareOp .NotEq) rNe:=⟨zt0⟩
def za4:OpQ X (compareOp .NotIn) (rIn X.K true):=⟨zeK⟩
def yx(B:OpQ X (binaryOp q) r)(F:QE X a ta)(I:QE X b tb):QE X (.BinOp a q b pos) (tOp r ta tb):=⟨zt4 B.run F.run I.run⟩
def zoK(B:OpQ X (compareOp q) r)(F:QE X a ta)(I:QE X b tb)(J:behindInMarks q b=false):QE X (.Compare a [q] [b] pos) (tOp r ta tb):=⟨zoj B.run F.run I.run J⟩
def uC(B:OpQ X (compareOp q) r)(F:QE X a ta)(I:QE X b tb)(J:behindInMarks q b=false):QT X (.Compare a [q] [b] pos) (zpq (tOp r ta tb)):=⟨zoC B.run F.run I.run J⟩
def zmP(q:QE X a ta):QC X .Is a (.Constant .none j pos') (zun ta):=⟨zq2 q.run⟩
def zjL (q:X.A.units+1<cLine)(B:QE X a ta)(F:QE X b tb):QC X .NotIn a b (zfT ta tb):=⟨zeM q B.run F.run⟩
def zjS(h:QC X q a b te)(h1:behindInMarks q b=false:=by first | exact zdv _ (by ext) (by ext) | rfl):QT X (.Compare a [q] [b] pos) (tB te):=⟨zmO h.run h1⟩
def zmT (h:QE X e te)(he:∀whole,isTrue e X.env whole=(do let v <- whole;standAt e.pos;holding [v] (truthy v)):=by intro _;rfl):QT X e (tB te):=⟨zrm h.run he⟩
def zrt (h:QT X a t):QT X (.UnaryOp .Not a pos) (tNot t):=⟨zrl h.run⟩
def zfL (h:QT X a t):QW X (.BoolOp .And [a] pos) t:=⟨zoH h.run⟩
def zru (h:QT X a t):QW X (.BoolOp .Or [a] pos) t:=⟨zro h.run⟩
def zgQ {zC:AO}(h:QT X a t)(h':QW X (.BoolOp .And (b::zC) pos) u):QW X (.BoolOp .And (a::b::zC) pos) (zui t u):=⟨zrn h.run h'.run⟩
def zua {zC:AO}(h:QT X a t)(h':QW X (.BoolOp .Or (b::zC) pos) u):QW X (.BoolOp .Or (a::b::zC) pos) (tOr t u):=⟨zt8 h.run h'.run⟩
def QW.pt (h:QW X e t):QT X e t:=⟨h.run.pt⟩
def zlM (q:QT X c t)(B:QE X a ta)(F:QE X b tb):QE X (.IfExp c a b pos) (tIf t ta tb):=⟨zlB q.run B.run F.run⟩
def yw:QA X [] zpo:=⟨zmI⟩
def zz(B:QE X e te)(F:QA X es q)(hs:starEach (e::es) X.env=(false,eval e X.env)::starEach es X.env:=by rfl):QA X (e::es) (zbo te q):=⟨zaV B.run F.run hs⟩
def zoV:QP X pos [] [] []:=⟨zjF⟩
def zdL(B:QE X k tk)(F:QE X v tv)(I:QP X pos ks vs q):QP X pos (some k::ks) (v::vs) ((tk,tv)::q):=⟨zgL B.run F.run I.run⟩
def zoM(h:QP X pos q B F)(I:q.all (·.isSome)=true)(O:q.length=B.length)(U:q≠[])(J:q.length<=15):QE X (.Dict q B pos) (zrT F):=⟨zok h.run I O U J⟩
def zfJ:QO X none zkb:=⟨zoz⟩
def zfK (h:QE X e te):QO X (some e) (zr1 te):=⟨zoA h.run⟩
def zfS:SlQ X rSlA:=⟨zpf⟩
def zph:SlQ X (rSlL X.K):=⟨zpe⟩
def zbx{r:V->AQ->AQ->Hp->VK->Prop}{lo hi:Option Expr}{tl th:TO}(q:SlQ X r)(B:QE X e te)(F:QO X lo tl)(I:QO X hi th):QE X (.Subscript e (.Slice lo hi none p2) pos) (tSl r te tl th):=⟨zlC q.run B.run F.run I.run⟩
def yk:IxQ X (zsJ X.K):=⟨znK⟩
def yA:IxQ X (zpM X.K):=⟨zqq⟩
def zlN(q:IxQ X r)(B:QE X a ta)(F:QE X b tb)(hs:zfb b):QE X (.Subscript a b pos) (tOp r ta tb):=⟨zt3 q.run B.run F.run hs⟩
def uz (q:X.A.units+1<cLine)(B:QE X a ta)(F:QE X b tb)(hs:zsO b):QE X (.Subscript a b pos) (zpj ta tb):=⟨zjB q B.run F.run hs⟩
def yu:CallQ X (.builtin "len") (λxs H Q=>∃x n,xs=[x]/\zss X.K x H n/\Q (.int n) H):=⟨zkH⟩
def zh6:CallQ X (.builtin "abs") (λxs H Q=>∃i,xs=[.int i]/\Q (.int (if i<0 then -i else i)) H):=⟨zkG⟩
def zh7:CallQ X (.builtin "isinstance") (λxs H Q=>∃x T t b,xs=[x,.ty T]/\TyOf X.K H x t/\PySem.W.kitOne X.K t (.type T)=some b/\Q (.bl b) H):=⟨zff⟩
def zha:CallQ X (.type "list") (λxs H Q=>∃p ys,xs=[.ref p]/\(SqL X.K H p ys\/SqT X.K H p ys)/\∀l,H l=none->Q (.ref l) (upd H l (.lst ys))):=⟨zeg⟩
def zfi:CallQ X (.type "tuple") (λxs H Q=>∃p ys,xs=[.ref p]/\((SqL X.K H p ys/\∀l,H l=none->Q (.ref l) (upd H l (.tup ys)))\/(SqT X.K H p ys/\Q (.ref p) H))):=⟨zc8⟩
def zni:CallQ X (.type "int") (λxs H Q=>(∃i,xs=[.int i]/\Q (.int i) H)\/∃k,xs=[.bl k]/\Q (.int (if k then 1 else 0)) H):=⟨zh0⟩
def yP {id:String}{r:AT->Hp->VK->Prop}{x:Str}{F:TA}(I:CallQ X (.builtin id) r)(J:Gl X x)(O:X.mg x=none)(U:bootBuiltins x=some (.builtin id))(Y:QA X (e::es) F)(hn:x ≠ "__name__" := by ext)(q:Ah x:=by ext)
  (Z:starEach (e::es) X.env=(false,eval e X.env)::starEach es X.env:=by rfl) (B:(backTo pos (starEach es X.env)).any (·.1)=false:=by rfl):QE X (.Call (.Name x p) (e::es) [] pos) (tCB r F):=⟨zlA I.run J O U Y.run hn q Z B⟩
def zb2(I:CallQ X (.type T) r)(J:Gl X x)(O:X.mg x=none)(U:bootBuiltins x=some (.type T))(Y:QA X (e::es) F)(hn:x ≠ "__name__" := by ext)(q:Ah x:=by ext)(Z:starEach (e::es) X.env=(false,eval e X.env)::starEach es X.env:=by rfl)(B:(backTo pos (starEach es X.env)).any (·.1)=false:=by rfl):QE X (.Call (.Name x p) (e::es) [] pos) (tCB r F):=⟨zjA I.run J O U Y.run hn q Z B⟩
def zhv{x:Str}{st:Stmt}{ps:AM}{f:Addr}{fd:Ac}{sp:Sp}(D:Dfn X.K X.mg x st ps f fd)(G:FnOk X.prog X.w X.K X.mg X.base CX0 j f fd ps sp)(J:Room k X.A)(O:QA X (e::es) I)(q:j<=k:=by ext)(U:Gl X x:=by rfl)(B:Ah x:=by ext)(Y:starEach (e::es) X.env=(false,eval e X.env)::starEach es X.env:=by rfl)(F:(backTo pos (starEach es X.env)).any (·.1)=false:=by rfl) :
  QE X (.Call (.Name x p) (e::es) [] pos) (zcf sp [] E0 I):=⟨zq4 D G J O.run q U B Y F⟩
def zad(q:X.N.Nodup)(hi:X.N[i]?=some x)(B:Loc X.env.scope x)(F:X.fn x=true\/X.env.scope.names.lookup x=some .local:=by walk_at "l"):QG X (.Name x pos) (zbg i):=⟨zou q hi B F⟩
def zfI:QGs X [] gNil:=⟨zov⟩
def xU(h1:QG X e g)(h2:QGs X es gs)(hs:(assignEach (e::es) X.env).map (·.2)=assign e X.env::(assignEach es X.env).map (·.2):=by rfl):QGs X (e::es) (zqi g gs):=⟨zlD h1.run h2.run hs⟩
def zmS {k:Nat}{gs:TGs}{n:Nat}(B:X.calm=true)(h:QGs X es gs)(hn:(assignEach es X.env).length=n:=by rfl)(q:(assignEach es X.env).findIdx? (·.1)=none:=by rfl):QG X (.Tuple es k pos) (zth X.K n gs):=⟨zrd B h.run hn q⟩
def zjN(q:QE X e te):QI X tg e (znE X.K te):=⟨zow q.run⟩
def zjP(q:QE X e te):QI X tg e (ztj X.K te):=⟨zre q.run⟩
def zjO(B:Gl X "range")(F:X.mg "range" = none)(I:QA X [a] q)(hs:starEach [a] X.env=[(false,eval a X.env)]:=by rfl):QI X tg (.Call (.Name "range" p) [a] [] pos) (zqk q):=⟨zjD B F I.run hs⟩
def zoX:QTs X [] zkc:=⟨zoD⟩
def zjT (h:QT X c t):QTs X [c] t:=⟨zoE h.run⟩
def zoL(B:X.calm=true)(c:CompOk X scope N cix)(hi:QI X tg iter wi)(F:∀C s H ex,QG (zS X scope N C s H ex) tg g)(J:∀C s H ex,QTs (zS X scope N C s H ex) ifs ti)(O:∀C s H ex,QE (zS X scope N C s H ex) elt te)(hs:∀x,foldedSetIterable iter X.env x=pure x:=by intro _;rfl):QE X (.ListComp elt [⟨tg,iter,ifs,0⟩] scope pos) (zuk wi g ti te cix):=⟨λpins s σ H Q I h=>by
 rw[eval_ListComp];exact zeE (Fin:=λacc H=>Q (.ref acc) H) (zbZ c) B hi.run (zkZ λC s H ex=>(F C s H ex).run) (zkZ λC s H ex=>(J C s H ex).run) (zkZ λC s H ex=>(O C s H ex).run) hs I h λ_ _ _ _ _ U Y q=>zgf U Y q⟩
end
section
variable {X:Cx}{st:Stmt}{sts body a b:List Stmt}{t u:TS}{e o i:Expr}{te td ty tv:TE}{pos:Pos}
def zb3:QSs X [] zpn:=⟨zjJ⟩
def z8 (h1:QS X st t)(h2:QSs X sts u):QSs X (st::sts) (zpp t u):=⟨zax h1.run h2.run⟩
def yY (h1:QS X st t):QSs X [st] t:=⟨zdJ h1.run⟩
def zdN (q:QE X e te)(hs:swapsWith e none pos.line X.env=pure false:=by rfl):QS X (.Expr e pos) (zpl te):=⟨zoB q.run hs⟩
def uA (q:QE X e te):QS X (.Return (some e) pos) (zr2 te):=⟨zmN q.run⟩
def zjR(q:QT X c tc)(B:QSs X a t)(F:QSs X b u):QS X (.If c a b pos) (zum tc t u):=⟨zri q.run B.run F.run⟩
def uB {i:Nat}{x:Str}{pos':Pos}(q:X.N.Nodup)(hi:X.N[i]?=some x)(B:Loc X.env.scope x)(F:QE X e te)(hs:swapsWith e (some (.Name x pos')) pos.line X.env=pure false:=by rfl)(I:X.fn x=true\/X.env.scope.names.lookup x=some .local:=by walk_at "l") :
  QS X (.Assign [.Name x pos'] e pos) (zhR te (zbg i)):=⟨zrk q hi B F.run hs I⟩
def zrs(q:QE X e te)(B:QG X tg g)(hs:swapsWithSole [tg] e pos.line X.env=pure false:=by rfl)(F:swappedStores [tg] e X.env=pure none:=by rfl)(h1:(assignEach [tg] X.env).map (·.2)=[assign tg X.env]:=by rfl):QS X (.Assign [tg] e pos) (zhR te g):=⟨zrf q.run B.run hs F h1⟩
def zdM(q:X.A.units+1<cLine)(B:QE X o td)(hi:QE X i ty)(F:QE X e tv)(hs:swapsWith e (some (.Subscript o i pos')) pos.line X.env=pure false):QS X (.Assign [.Subscript o i pos'] e pos) (zpa td ty tv):=⟨zjI q B.run hi.run F.run hs⟩
def zjQ(q:PassesOwn (model X.prog X.w) X.A X.env X.xe)(B:X.calm=true)(hi:QI X tg iter wi)(F:QG X tg g)(I:QSs X body t)(hs:∀x,foldedSetIterable iter X.env x=pure x:=by intro _;rfl):QS X (.For tg iter body [] pos) (zul wi g t):=⟨zrh q B hi.run F.run I.run hs⟩
end
def Fun.okQ{P:Aa}{w:Ab}{K:AH}{mg:AI}{base:Heap}{x B:Str}{st:Stmt}{f:Addr}{fd:Ac}{N ps:AM}{sp:Sp}(F:Fun K x B st f fd)(S:FnScope N ps (zd st))(O:∀vs H Q E,sp vs H Q E->vs.length=ps.length)(J:∀ (I:Value) (A:Ae) (q:List Env) (s:AZ) (H:Hp) (vs:AT) (Q:VK) (E:XK),Room k (A.deeper (envOfC B (zd st) s.heap.objs.size f I))->sp vs H Q E->
   ∃t,QSs (zd6 CX0 P w K mg base N B (zd st) f I A q s H E).nox (zu st) t/\t { nx:=λ_ H'=>Q .non H',rt:=Q } (y6 N vs) H):FnOk P w K mg base CX0 (k+1) f fd ps sp:=
 F.ok S O λI A q s H vs Q E U h=>by obtain⟨t,h1,h2⟩:=J I A q s H vs Q E U h;exact⟨t,h1.run,h2⟩
def s_ca:¬ (("script" : Str) = "at"):=by decide +kernel
def s_cl:¬ (("script" : Str) = "left"):=by decide +kernel
def s_al:¬ (("at" : Str) = "left"):=by decide +kernel
def ztt:¬ (Sum.inr "script" : Key)=(Sum.inr "at" : Key):=λz=>s_ca (Sum.inr.inj z)
def ztu:¬ (Sum.inr "script" : Key)=(Sum.inr "left" : Key):=λz=>s_cl (Sum.inr.inj z)
def zsx:¬ (Sum.inr "at" : Key)=(Sum.inr "left" : Key):=λz=>s_al (Sum.inr.inj z)
def zaw (c:Addr)(a l:Int):List (Key×V):=[(Sum.inr "script",.ref c),(Sum.inr "at",.int a),(Sum.inr "left",.int l)]
def zt6 (c:Addr)(a l:Int):xq (zaw c a l) (Sum.inr "script" : Key)=some (.ref c):=zZ rfl
def zot (c:Addr)(a l:Int):xq (zaw c a l) (Sum.inr "at" : Key)=some (.int a):=by unfold zaw;rw[zY ztt,zZ rfl]
def zt7 (c:Addr)(a l:Int):xq (zaw c a l) (Sum.inr "left" : Key)=some (.int l):=by unfold zaw;rw[zY ztu,zY zsx,zZ rfl]
def zq9 (c:Addr)(a l b:Int):uy (zaw c a l) (Sum.inr "at" : Key) (.int b)=zaw c b l:=by unfold uy zaw;have q:=ztt;have B:¬ (Sum.inr "left" : Key)=(Sum.inr "at" : Key):=λz=>zsx z.symm;simp[q,B]
def zra (c:Addr)(a l b:Int):uy (zaw c a l) (Sum.inr "left" : Key) (.int b)=zaw c a b:=by unfold uy zaw;have q:=ztu;have B:=zsx;simp[q,B]
def zq8 (c:Addr)(a l:Int):zbV [] (zaw c a l)=zaw c a l:=by unfold zbV zaw;have q:=ztt;have B:=ztu;have F:=zsx;simp[uy,q,B,F]
def PLs (H:Hp)(c:Addr)(ns:AG):Prop:=(∃r,ns=0::r/\∃ob,H c=some (.frz ob (.lst (r.map V.int))))\/∃r,ns=1::r
def PLs.but{ns:AG}(P:PLs H c ns)(h:∀r ob,ns=0::r->H c=some (.frz ob (.lst (r.map V.int)))->H' c=some (.frz ob (.lst (r.map V.int)))):PLs H' c ns:=by
 rcases P with ⟨r,e,o,z⟩ | P;exact .inl ⟨r,e,o,h r o e z⟩;exact .inr P
def PLs.same{ns:AG}(P:PLs H c ns)(h:yL H H'):PLs H' c ns:=P.but λ_ _ _ e=>h _ _ e
def PLs.upd{ns:AG}(P:PLs H c ns)(h:∀r,ns=0::r->c≠b):PLs (upd H b u) c ns:=P.but λr _ e z=>by rw[ze (h r e)];exact z
def KL (K:AH)(c:Addr)(ns:AG):Prop:=∃r,ns=0::r\/(ns=1::r/\∃ (o:Obj) (q:AK) (n:Nat),K.lookup c=some o/\o.cls = .type "list" /\ o.dict=none/\o.data = .seq q n/\q.size<=sizeLine/\zM (r.map V.int) q.toList)
def KL.seq {K:AH}{H:Hp}{c:Addr}{ns:AG}(k:KL K c ns)(P:PLs H c ns):∃r:AG,SqL K H c (r.map V.int):=by
 obtain⟨r,e | ⟨e,k⟩⟩:=k;rcases P with ⟨r',e',z⟩ | ⟨r',e'⟩;rw[e] at e';cases e';exact⟨r,.inl (.inr z)⟩;rw[e] at e';cases e';exact⟨r,.inr k⟩
structure Pen (H:Hp)(p c:Addr)(ns:AG)(n:Nat):Prop where
 ob:∃a l:Int,H p=some (.dK (zaw c a l))/\0<=a/\a<=n/\0<=l
 ls:PLs H c ns
 len:ns.length<=64
def Pen.same{ns:AG}(P:Pen H p c ns n)(h:yL H H'):Pen H' p c ns n:=by obtain⟨⟨a,l,h1,h2,q,B⟩,F,I⟩:=P;exact⟨⟨a,l,h _ _ h1,h2,q,B⟩,F.same h,I⟩
def zdX{a l:Int}(h:H p=some (.dK (zaw c a l))):zq H (upd H p o):=λb u e n=>by
 by_cases q:b=p;subst q;rw[h] at e;cases e;have:=n _ rfl;rw[zot] at this;cases this;rw[ze q];exact e
section
variable {H:Hp}{p c:Addr}{a l:Int}
def zgJ (h:H p=some (.dK (zaw c a l))):zcg H p (.str "script") (some (.ref c)):=by have:=zcg.k (k:=(Sum.inr "script" : Key)) h;rw[zt6] at this;exact this
def zq7 (h:H p=some (.dK (zaw c a l))):zcg H p (.str "at") (some (.int a)):=by have:=zcg.k (k:=(Sum.inr "at" : Key)) h;rw[zot] at this;exact this
def zjC (h:H p=some (.dK (zaw c a l))):zcg H p (.str "left") (some (.int l)):=by have:=zcg.k (k:=(Sum.inr "left" : Key)) h;rw[zt7] at this;exact this
def zrb (h:H p=some (.dK (zaw c a l)))(b:Int):zd4 H p (.str "at") (.int b) (upd H p (.dK (zaw c b l))):=by have:=zd4.k (k:=(Sum.inr "at" : Key)) (v:=.int b) h (by change 3<sizeLine;decide);rw[zq9] at this;exact this
def zmM (h:H p=some (.dK (zaw c a l)))(b:Int):zd4 H p (.str "left") (.int b) (upd H p (.dK (zaw c a b))):=by have:=zd4.k (k:=(Sum.inr "left" : Key)) (v:=.int b) h (by change 3<sizeLine;decide);rw[zra] at this;exact this
end
def zpR (ns:AG)(a:Int)(h:0<((ns.map V.int).length:Int)):∃z,atI (ns.map V.int) (a % ((ns.map V.int).length:Int))=some (.int z):=by
 have q:=cV a (show ((ns.map V.int).length:Int)≠0 by lia);have h1:=cr a h;generalize F:a % ((ns.map V.int).length:Int)=m at q h1;obtain⟨j,rfl⟩:∃j:Nat,m=j:=⟨m.toNat,by lia⟩;have B:j<ns.length:=by rw[ab] at h1;lia
 exact⟨ns[j],zhX (by simp[B])⟩
def meet {α:Type}{G:Prop}(P:α->Prop)(h:(∀a,P a)->G)(r:∀a,P a):G:=h r
def ztO {G:Prop}(P:Prop)(h:P->G)(r:P):G:=h r
def zm3 (K:AH):Sp:=λvs H Q _=>∃ (p c:Addr) (ns:AG) (n:Nat) (zR:Int),vs=[.ref p,.int zR]/\KL K c ns/\Pen H p c ns n/\n<=1000000/\1<=zR/\zR<1073741824/\
 ∀ (r:Int) (H':Hp),0<=r->r<zR->Pen H' p c ns (n+1)->zq H H'->Q (.int r) H'
def zl6 (K:AH):Sp:=λvs H Q _=>∃ (a:Addr) (ns:AG),vs=[.ref a]/\KL K a ns/\PLs H a ns/\ns.length<=64/\∀ (p:Addr) (H':Hp),Pen H' p a ns 0->yL H H'->Q (.ref p) H'
def zL (ns:AG):Int:=ns.foldl (· * ·) 1
def yE (ns:AG)(n:Int):zL (ns++[n])=zL ns * n:=by unfold zL;rw[List.foldl_append];rfl
def zn{α:Type}{l:List α}{x:α}(h:l[i]?=some x):l.take (i+1)=l.take i++[x]:=by rw[List.take_succ,h];rfl
def zhF (K:AH):Sp:=λvs H Q _=>∃ (a:Addr) (ns:AG),vs=[.ref a]/\KL K a ns/\PLs H a ns/\ns.length<=64/\∀H',Q (.bl true) H'
def zl5{K:AH}{H:Hp}{a:Addr}{ns:AG}{Q:VK}(I:zst H)(B:SqL K H a (ns.map V.int))(F:ns.length<=63)(q:∀H',Q (.bl true) H'):zhF K [.ref a] H Q E:=by
 rcases B with B | B
 ·show⟨a,0::ns,rfl,⟨ns,.inl rfl⟩,.inl ⟨ns,rfl,?_⟩,dE F,q⟩;rcases B with z | z
  ·rcases I a with y | ⟨_,_,y⟩ <;> (rw[z] at y;cases y)
  exact z
 exact⟨a,1::ns,rfl,⟨ns,.inr ⟨rfl,B⟩⟩,.inr ⟨ns,rfl⟩,dE F,q⟩
section
variable {prog:Aa}{w:Ab}{A:Ae}{E:AA}{s:AZ}
def xF{items}(q:s.heap.IsTupleIter B t i)(U:s.heap.IsTuple t items)(Y:items[i]?=some x)(Z:∀h',h'.IsTupleIter B t (i+1)->Heap.SameBut B s.heap h'->Q x { s with heap:=h' }):Ag prog w A (Builtin.SmallTypes.nextOf (.ref B)) Q E s:=by
 obtain⟨o,I,hc,F⟩:=id q;obtain⟨ol,J,_,nl,O⟩:=U;unfold Builtin.SmallTypes.nextOf
 show aa (wpAny_callSpecial?_slot (name:=Str.ofString "__next__") q.typeIs cL
  (aW cL q.typeIs eU ?_ (eO _)))
 change wpAny _ _ (field (.ref B) 0 >>= _) _ _ s;show aa (b7 I F (x:=.ref t) rfl ?_);change wpAny _ _ (if (Value.ref t==Value.none)=true then _ else _) _ _ s;rw[if_neg (by grind)];change wpAny _ _ (field (.ref B) 1 >>= _) _ _ s;show aa (b7 I F (x:=.int i 0) rfl ?_);change wpAny _ _ (seqItems? (.ref t) >>= _) _ _ s;show aa (cE J O ?_);simp only[aO,Y];show aa (bN I F (by simp) (ae ⟨x,rfl,ae (Z _ ?_ (br ..))⟩))
 exact⟨_,bv _ I (dl (b8 F _)),(dY ..).trans hc,by
  rw[b8 F];simp[rawInt]⟩
def zbi{items}(U:A.handled=none)(q:s.heap.IsTupleIter B t i)(Y:s.heap.IsTuple t items)(Z:items[i]?=none)(hE:∀h' e,Heap.ExtBut B s.heap h'->(∃o,h'.get? e=some o/\o.cls = .type "StopIteration")->E (.ref e) { s with heap:=h' }):Ag prog w A (Builtin.SmallTypes.nextOf (.ref B)) Q E s:=by
 obtain⟨o,F,hc,I⟩:=id q;obtain⟨ol,J,_,nl,O⟩:=Y;unfold Builtin.SmallTypes.nextOf
 show aa (wpAny_callSpecial?_slot (name:=Str.ofString "__next__") q.typeIs cL
  (aW cL q.typeIs eU ?_ (eO _)))
 change wpAny _ _ (field (.ref B) 0 >>= _) _ _ s;show aa (b7 F I (x:=.ref t) rfl ?_);change wpAny _ _ (if (Value.ref t==Value.none)=true then _ else _) _ _ s;rw[if_neg (by grind)];change wpAny _ _ (field (.ref B) 1 >>= _) _ _ s;show aa (b7 F I (x:=.int i 0) rfl ?_);change wpAny _ _ (seqItems? (.ref t) >>= _) _ _ s;show aa (cE J O ?_);simp only[aO,Z];show aa (cS (aa (bN F I (by simp) ?_)));change wpAny _ _ (newExc (.type "StopIteration") [] >>= _) _ _ _;show aa ?_;simp only[newExc,newTuple];show aa (bu ?_ (by size_fits));show aa (m:=firstArgMember _ _) (wpAny_of_eq (a:=Value.none) (by first | rfl | (simp only[firstArgMember];rfl)) ?_);show bu ?_ (by size_fits);simp only[raiseNew];show aa (fU ?_)
 first | rw[show A.in1.handled=none from U] | rw[U]
 show aa (ae (wpAny_throw ?_));exact hE _ _ (((br ..).extBut.push _).push _) ⟨_,aq _ rfl,rfl⟩
end
mutual
def Dt.toW:Dt->PySem.W.Dat
 | .non=>.none
 | .bl b=>.bool b
 | .int i=>.int i
 | .str x=>.str x
 | .tup l=>.tuple (Dt.toWs l)
 | .lst l=>.list (Dt.toWs l)
 | .dct=>.bytes #[]
def Dt.toWs:AS->List PySem.W.Dat
 | []=>[]
 | d::ds=>d.toW::Dt.toWs ds
end
mutual
def zkg:∀ {d e:Dt},d.toW=e.toW->d=e
 | .non,e,h=>by cases e <;> simp[Dt.toW] at h ⊢
 | .bl b,e,h=>by cases e <;> simp[Dt.toW] at h ⊢;exact h
 | .int b,e,h=>by cases e <;> simp[Dt.toW] at h ⊢;exact h
 | .str b,e,h=>by cases e <;> simp[Dt.toW] at h ⊢;exact h
 | .tup l,e,h=>by
  cases e with
  | tup m=>simp only[Dt.toW,PySem.W.Dat.tuple.injEq] at h;rw[zdZ h]
  | _=>simp[Dt.toW] at h
 | .lst l,e,h=>by
  cases e with
  | lst m=>simp only[Dt.toW,PySem.W.Dat.list.injEq] at h;rw[zdZ h]
  | _=>simp[Dt.toW] at h
 | .dct,e,h=>by cases e <;> simp[Dt.toW] at h ⊢
def zdZ:∀ {l m:AS},Dt.toWs l=Dt.toWs m->l=m
 | [],m,h=>by cases m <;> simp[Dt.toWs] at h ⊢
 | d::l,m,h=>by
  cases m with
  | nil=>simp[Dt.toWs] at h
  | cons e m=>
   simp only[Dt.toWs,List.cons.injEq] at h;rw[zkg h.1,zdZ h.2]
end
def Dt.eqOk (d:Dt):Prop:=PySem.W.kqdOk 8 d.toW=true
section
variable {P:Aa}{w:Ab}{H:Hp}{h:Heap}
mutual
def zam (ok:HOk P w H h):∀ (n:Nat) {d:Dt} {v:V} {u:Value},Is H d v->yc v u->PySem.W.kqdOk n d.toW=true->∃as,Reads h u (PySem.W.kqdP d.toW) as
 | _,.non,_,_,h1,r,_=>by cases h1;cases r;exact⟨_,Reads.none⟩
 | n,.bl b,_,_,_,_,k=>by cases n <;> simp[Dt.toW,PySem.W.kqdOk] at k
 | _,.int i,_,_,h1,r,_=>by cases h1;obtain⟨t,rfl⟩:=r;exact⟨_,Reads.int i t⟩
 | _,.str x,_,_,h1,r,_=>by cases h1;obtain⟨t,rfl⟩:=r;exact⟨_,Reads.str x t⟩
 | 0,.tup l,_,_,_,_,k=>by simp[Dt.toW,PySem.W.kqdOk] at k
 | n+1,.tup l,_,_,h1,r,k=>by obtain⟨a,xs,rfl,ha,hl⟩:=h1;cases r;obtain⟨_,its,rv,o,ho,hc,⟨m,hd⟩,_⟩:=ok a _ ha;obtain⟨as,q⟩:=zaa ok n hl rv (by simpa [Dt.toW,PySem.W.kqdOk] using k);exact⟨as,reads_tuple_at ho hc hd (by simpa using q)⟩
 | 0,.lst l,_,_,_,_,k=>by simp[Dt.toW,PySem.W.kqdOk] at k
 | n+1,.lst l,_,_,h1,r,k=>by obtain⟨a,xs,rfl,ha,hl⟩:=h1;cases r;obtain⟨_,its,m,rv,e⟩:=ok a _ ha;obtain⟨as,q⟩:=zaa ok n hl rv (by simpa [Dt.toW,PySem.W.kqdOk] using k);exact⟨_,reads_list_at e rfl rfl (by simpa using q)⟩
 | n,.dct,_,_,_,_,k=>by cases n <;> simp[Dt.toW,PySem.W.kqdOk] at k
def zaa (ok:HOk P w H h):∀ (n:Nat) {ds:AS} {xs:AT} {us:AN},IsL H ds xs->zM xs us->(∀d∈Dt.toWs ds,PySem.W.kqdOk n d=true)->∃as,ReadsAll h us (PySem.W.kqdPs (Dt.toWs ds)) as
 | _,[],_,_,h1,r,_=>by cases h1;cases r;exact⟨_,ReadsAll.nil⟩
 | n,d::ds,_,_,h1,r,k=>by
  obtain⟨x,xr,rfl,hd,hr⟩:=h1
  cases r with
  | cons rx rr=>
   obtain⟨as,q⟩:=zam ok n hd rx (k _ (by simp[Dt.toWs]));obtain⟨bs,q2⟩:=zaa ok n hr rr λe he=>k e (by simp[Dt.toWs,he]);exact⟨_,ReadsAll.cons q q2⟩
end
end
def xN {d:Dt}(h:d.eqOk):SeqAt.shaped (PySem.W.kqdP d.toW)=true:=by
 have l:=PySem.W.kqd_lay 8 _ h;unfold SeqAt.shaped;grind
def zsI:R2:=λx y H Q=>∃d e,Is H d x/\Is H e y/\d.eqOk/\e.eqOk/\∀b:Bool,(b=true↔d=e)->Q (.bl b) H
def zsK:R2:=λx y H Q=>∃d e,Is H d x/\Is H e y/\d.eqOk/\e.eqOk/\∀b:Bool,(b=true↔d=e)->Q (.bl (!b)) H
section
variable {X:Cx}
def ziq {d e:Dt}(h1:d.eqOk)(h2:e.eqOk):PyData.eqv (PySem.W.kqdP d.toW) (PySem.W.kqdP e.toW)=true↔d=e:=
 (PySem.W.kqd_eqv 8 d.toW e.toW 8 h1 h2).trans ⟨zkg,λz=>by rw[z]⟩
def zqR (F:X.A.units+64<cLine):OpR X (compareOp .Eq) zsI:=by intro pins s σ H x y v u Q I J O h;obtain⟨d,e,U,Y,B,ke,q⟩:=h;obtain⟨as,ra⟩:=zam I.hok 8 U J B;obtain⟨Z,rb⟩:=zam I.hok 8 Y O ke;exact eq_dataH ra rb (xN B) (xN ke) F ⟨.bl _,H,I,rfl,q _ (ziq B ke)⟩
def zqU (F:X.A.units+64<cLine):OpR X (compareOp .NotEq) zsK:=by intro pins s σ H x y v u Q I J O h;obtain⟨d,e,U,Y,B,ke,q⟩:=h;obtain⟨as,ra⟩:=zam I.hok 8 U J B;obtain⟨Z,rb⟩:=zam I.hok 8 Y O ke;exact ne_dataH ra rb (xN B) (xN ke) F ⟨.bl _,H,I,rfl,q _ (ziq B ke)⟩
def zmH (q:X.A.units+64<cLine):OpQ X (compareOp .Eq) zsI:=⟨zqR q⟩
def zjx (q:X.A.units+64<cLine):OpQ X (compareOp .NotEq) zsK:=⟨zqU q⟩
def zrp{to:TE}{t:TA}{apos cpos:Pos}(O:QE X o to)(U:QA X [e] t)(B:attributeBase o "append" X.env (eval o X.env)=eval o X.env:=by rfl)(J:((backTo cpos (starEach [e] X.env)).all (λx=>!x.1)&&(backToKw cpos (keywordEach [] X.env)).all (λx=>x.1.isSome)&&decide (([e]:AO).length+([]:List Keyword).length+(if ([]:List Keyword).isEmpty then 0 else 1)<30))=true:=by rfl)(I:(apos.endLine==cpos.line)=true:=by rfl)(hs:starEach [e] X.env=(false,eval e X.env)::starEach [] X.env:=by rfl)(q:(backTo cpos (starEach [] X.env)).any (·.1)=false:=by rfl) :
  QE X (.Call (.Attribute o "append" apos) [e] [] cpos) (tBM X.K "list" zfM to t):=⟨zq3 cC PySem.F.slot_list_append PySem.F.type_list_append zeF O.run U.run B J I hs q⟩
end
def ue {ns:AG}:(Dt.tup (ns.map .int)).eqOk:=by
 have e:∀ns:AG,(Dt.toWs (ns.map .int)).all (PySem.W.kqdOk 7)=true:=by
  intro ns
  induction ns with
  | nil=>rfl
  | cons n ns q=>simp only[aC,Dt.toWs,dP,q,eP];rfl
 exact e ns
structure RoomAt (H:Hp)(ra:Addr)(rm:AG):Prop where
 at':H ra=some (.tup (rm.map V.int))
 ne:rm≠[]
 few:rm.length<=8
 box:∀r∈rm,2<=r/\r<=4
def RoomAt.stay{rm:AG}(h:RoomAt H ra rm)(s:zq H H'):RoomAt H' ra rm:=⟨s.tup h.at',h.ne,h.few,h.box⟩
def zR (rm:AG)(i:Int):Int:=rm.getD i.toNat 0
abbrev xo (q:Int×Int):Dt:=.tup [.int q.1,.int q.2]
structure Giv (rm:AG)(g:List (Int×Int)):Prop where
 ok:∀q∈g,0<=q.1/\q.1<rm.length/\0<=q.2/\q.2<zR rm q.1
 up:g.Pairwise λa b=>a.1<b.1
def zfc (H H':Hp):Prop:=∀b xs,H b=some (.tup xs)->H' b=some (.tup xs)
mutual
def Dt.noL:Dt->Bool
 | .tup l=>Dt.noLs l
 | .lst _=>false
 | .dct=>false
 | _=>true
def Dt.noLs:AS->Bool
 | []=>true
 | d::ds=>d.noL&&Dt.noLs ds
end
mutual
def Is.stayT {H H1:Hp}(a:zfc H H1):∀ {d:Dt} {v:V},d.noL=true->Is H d v->Is H1 d v
 | .non,_,_,h=>h
 | .bl _,_,_,h=>h
 | .int _,_,_,h=>h
 | .str _,_,_,h=>h
 | .tup l,_,n,h=>by obtain⟨p,xs,e,hp,hl⟩:=h;exact⟨p,xs,e,a _ _ hp,IsL.stayT a (by simpa [Dt.noL] using n) hl⟩
 | .lst l,_,n,_=>by simp[Dt.noL] at n
 | .dct,_,n,_=>by simp[Dt.noL] at n
def IsL.stayT {H H1:Hp}(a:zfc H H1):∀ {ds:AS} {xs:AT},Dt.noLs ds=true->IsL H ds xs->IsL H1 ds xs
 | [],_,_,h=>h
 | d::ds,_,n,h=>by
  obtain⟨x,r,e,hd,hr⟩:=h;have n':d.noL=true/\Dt.noLs ds=true:=by simpa [Dt.noLs] using n
  exact⟨x,r,e,Is.stayT a n'.1 hd,IsL.stayT a n'.2 hr⟩
end
def zeG:∀g:List (Int×Int),Dt.noLs (g.map xo)=true
 | []=>rfl
 | q::g=>by change (Dt.noL (xo q)&&Dt.noLs (g.map xo))=true;rw[zeG g];rfl
def Giv.snoc {rm:AG}{g:List (Int×Int)}{i w:Int}(h:Giv rm g)(B:∀q∈g,q.1<i)(O:0<=i)(h1:i<rm.length)(h2:0<=w)(U:w<zR rm i):Giv rm (g++[(i,w)]):=by
 show⟨λq F=>?_,bm.mpr ⟨h.up,dR _ _,λa I b J=>?_⟩⟩;rcases au.mp F with z | z;exact h.ok q z;right;rw[ao.mp J];exact B a I
def New (H:Hp)(o:HO)(R:V->Hp->Prop):Prop:=∀ (p:Addr) (H':Hp),H p=none->H' p=some o->yL H H'->R (.ref p) H'
def New.at(h:New H o R)(q:H p=none):R (.ref p) (upd H p o):=h p _ q zg (yL.upd q)
def zr6 (t:TA):TE:=λσ H Q=>t σ H λxs H1=>xs.length<=sizeLine/\New H1 (.tup xs) Q
def zrY (t:TA):TE:=λσ H Q=>t σ H λxs H1=>xs.length<=sizeLine/\New H1 (.lst xs) Q
section
variable {X:Cx}{es:AO}{t:TA}{pos:Pos}
def zos {x1}(h:PA X es t):PE X (.Tuple es x1 pos) (zr6 t):=by intro pins s σ H Q I F;show wpAny_Tuple_spliced (thn (h pos pins s σ H _ I F) λus B ⟨xs,H1,I1,r,z,q⟩=>⟨by rw[<- r.length];exact z,?_⟩);have J:H1 B.heap.objs.size=none:=I1.hok.fresh (ai _);show⟨.ref B.heap.objs.size,upd H1 B.heap.objs.size (.tup xs),I1.laid (t':=B.toks) (λb u e=>af _ e) (ai _) ?_,rfl,q.at J⟩;exact⟨z,us,r,⟨_,aq _ rfl,rfl,⟨_,rfl⟩,rfl⟩⟩
def zon (h:PA X es t):PE X (.List es pos) (zrY t):=by intro pins s σ H Q I F;show wpAny_List_spliced (thn (h pos pins s σ H _ I F) λus B ⟨xs,H1,I1,r,z,q⟩=>⟨by rw[<- r.length];exact z,?_⟩);have J:H1 B.heap.objs.size=none:=I1.hok.fresh (ai _);show⟨.ref B.heap.objs.size,upd H1 B.heap.objs.size (.lst xs),I1.laid (t':=B.toks) (λb u e=>af _ e) (ai _) ?_,rfl,q.at J⟩;exact⟨z,us,0,r,aq _ rfl⟩
def zdK {x1}(h:QA X es t):QE X (.Tuple es x1 pos) (zr6 t):=⟨zos h.run⟩
def zoN (h:QA X es t):QE X (.List es pos) (zrY t):=⟨zon h.run⟩
def CallQ.weak(h:CallQ X f r)(k:∀xs H Q,q xs H Q->r xs H Q):CallQ X f q:=⟨λpins s σ H xs us Q I rr z=>h.run pins s σ H xs us Q I rr (k _ _ _ z)⟩
def OpQ.weak(h:OpQ X f r)(k:∀x y H Q,q x y H Q->r x y H Q):OpQ X f q:=⟨λpins s σ H x y v u Q I B F z=>h.run pins s σ H x y v u Q I B F (k _ _ _ _ z)⟩
def zjV (K:AH):AT->Hp->VK->Prop:=λxs H Q=>∃p ys,xs=[.ref p]/\(SqL K H p ys\/SqT K H p ys)/\New H (.lst ys) Q
def zfN (K:AH):AT->Hp->VK->Prop:=λxs H Q=>∃p ys,xs=[.ref p]/\((SqL K H p ys/\New H (.tup ys) Q)\/(SqT K H p ys/\Q (.ref p) H))
def zfg:CallQ X (.type "list") (zjV X.K):=zha.weak <| by rintro xs H Q ⟨p,ys,e,h,n⟩;exact⟨p,ys,e,h,λl q=>n.at q⟩
def zW:CallQ X (.type "tuple") (zfN X.K):=zfi.weak <| by rintro xs H Q ⟨p,ys,e,h⟩;exact⟨p,ys,e,h.elim (by rintro⟨a,n⟩;exact .inl ⟨a,λl q=>n.at q⟩) .inr⟩
def zoY:R2:=λx y H Q=>∃l b xs zs,x = .ref l/\y = .ref b/\H l=some (.lst xs)/\H b=some (.lst zs)/\xs.length+zs.length<=sizeLine/\New H (.lst (xs++zs)) Q
def zjv:OpQ X (binaryOp .Add) zoY:=zqX.weak <| by rintro x y H Q ⟨l,b,xs,zs,q,B,h1,h2,z,n⟩;exact⟨l,b,xs,zs,q,B,h1,h2,z,λp F=>n.at F⟩
end
def zsW (J:It)(g:TG)(ti:TT)(te:TE)(acc:Addr)(Q:VK)(σ:St)(H:Hp):Prop:=∃W:Nat->Nat->St->Hp->Prop,(∃m,W 0 m σ H)/\
 ∀i m q H',W i m q H'->(J.stop i H'/\Q (.ref acc) H')\/(J.go i H'/\∃N:St->Hp->Prop,(∀ B H2,N B H2->∃F,F<m/\W (i+1) F B H2)/\∀x H2,J.yld i H' x H2->zpX g ti te acc N x q H2)
def zka (wi:TI)(g:TG)(ti:TT)(te:TE)(cix:List (Option Nat)):TE:=λσ H Q=>wi σ H λJ H1=>∀acc,H1 acc=none->zsW J g ti te acc Q (zeh σ cix) (upd H1 acc (.lst []))
def zlI(q:X.calm=true)(c:CompOk X scope N cix)(hi:QI X tg iter wi)(B:∀C s H ex,QG (zS X scope N C s H ex) tg g)(F:∀C s H ex,QTs (zS X scope N C s H ex) ifs ti)(I:∀C s H ex,QE (zS X scope N C s H ex) elt te)(hs:∀x,foldedSetIterable iter X.env x=pure x:=by intro _;rfl):QE X (.ListComp elt [⟨tg,iter,ifs,0⟩] scope pos) (zka wi g ti te cix):=zoL q c hi B F I hs
section
variable {K:AH}{a acc:Addr}{xs:AT}{g:TG}{ti:TT}{te:TE}{σ:St}{H:Hp}{Q:VK}
end
def zlY(h:H acc=none)(s:yL H H1):yL H (upd H1 acc o):=λb u e=>by rw[ze (zb e h)];exact s b u e
section
variable {X:Cx}(K:AH)(h:X.K=K)
include h
def zpG:IxQ X (zpM K):=h ▸ yA
def zdF:OpQ X (compareOp .NotIn) (rIn K true):=h ▸ za4
end
def zjM {X:Cx}(K:AH)(B:X.K=K){es:AO}{pos:Pos}{k:Nat}{gs:TGs}{n:Nat}(F:X.calm=true)(h:QGs X es gs)(hn:(assignEach es X.env).length=n:=by rfl)(q:(assignEach es X.env).findIdx? (·.1)=none:=by rfl):QG X (.Tuple es k pos) (zth K n gs):=B ▸ zmS F h hn q
def zoS(K:AH)(q:X.K=K)(B:QE X e te):QI X tg e (ztj K te):=q ▸ zjP B
def zgP(K:AH)(q:X.K=K)(B:QE X e te):QI X tg e (znE K te):=q ▸ zjN B
structure Wi where
 g:List (Int×Int)
 b:Int
 r:Int
 w:Int
abbrev AW:=List Wi
abbrev xt (x:Wi):Dt:=.tup [.tup (x.g.map xo),.int x.b,.int x.r,.int x.w]
structure WishOk (rm:AG)(x:Wi):Prop where
 giv:Giv rm x.g
 b0:0<=x.b
 b1:x.b<rm.length
 apart:∀q∈x.g,q.1≠x.b
 r0:0<=x.r
 r1:x.r<zR rm x.b
 w0:0<=x.w
 w1:x.w<zR rm x.b
 ne:x.r≠x.w
def zhS (H:Hp)(R:Dt->Prop)(xs:AT):Prop:=∀x∈xs,∃d,Is H d x/\R d
section
variable {H H':Hp}{R:Dt->Prop}{xs ys:AT}
def zhS.stay (h:zhS H R xs)(s:zq H H'):zhS H' R xs:=λx q=>by obtain⟨d,B,F⟩:=h x q;exact⟨d,B.stay s,F⟩
end
def zgD (x:Wi):(xt x).noL=true:=by change Dt.noLs [.tup (x.g.map xo),.int x.b,.int x.r,.int x.w]=true;change (Dt.noLs (x.g.map xo)&&_)=true;rw[zeG];rfl
def zgm (b:Int)(ns:AG):inV (.int b) (ns.map V.int)=ns.contains b:=by
 unfold inV
 induction ns with
 | nil=>rfl
 | cons n ns q=>
  rw[aC,c9,q,List.contains_cons];show ((n==b) || _)=((b==n) || _);rw[show (n==b)=(b==n) from BEq.comm]
def zep (ns:AG):(ns.map V.int).all zde=true:=by rw[dD];intro x q;obtain⟨n,_,rfl⟩:=aF.mp q;rfl
def zfq {m:Int}:∀ {g:List (Int×Int)} {lo:Int},(∀q∈g,lo<=q.1/\q.1<m)->(g.Pairwise λa b=>a.1<b.1)->lo<=m->(g.length:Int)<=m - lo
 | [],lo,_,_,h=>by simp;lia
 | q::g,lo,h,I,J=>by
  have h1:=h q aj;have B:=a6.mp I;have O:=zfq (g:=g) (lo:=q.1+1) (λx F=>⟨by have:=B.1 x F;lia,(h x (am _ F)).2⟩) B.2 (by lia);grind
def znA {rm:AG}{g:List (Int×Int)}(h:Giv rm g)(F:rm.length<=8):g.length<=100:=by have:=zfq (g:=g) (lo:=0) (m:=rm.length) (λq B=>⟨(h.ok q B).1,(h.ok q B).2.1⟩) h.up (by lia);lia
def zia (xs:AT)(k:Nat):zcF xs none (some (k:Int))=xs.take k:=by
 have e:HT.sIx xs.length xs.length (some (k:Int))=min k xs.length:=by simp[HT.sIx];try lia
 unfold zcF;rw[e,show HT.sIx xs.length 0 none=0 from rfl,ek,Nat.sub_zero];grind
def zh9 (xs:AT)(k:Nat):zcF xs (some (k:Int)) none=xs.drop k:=by
 have e:HT.sIx xs.length 0 (some (k:Int))=min k xs.length:=by simp[HT.sIx];try lia
 unfold zcF;rw[e,show HT.sIx xs.length xs.length none=xs.length from rfl];by_cases h:k<=xs.length;rw[dS h,bt (by simp)];rw[Nat.min_eq_right (by lia),List.drop_eq_nil_of_le (as:=xs) (i:=xs.length) (by lia),List.drop_eq_nil_of_le (as:=xs) (i:=k) (by lia),List.take_nil]
def zhO(h:Is H (xt x) v):∃ (a q:Addr) (gs:AT),v = .ref a/\H a=some (.tup [.ref q,.int x.b,.int x.r,.int x.w])/\H q=some (.tup gs)/\IsL H (x.g.map xo) gs:=by obtain⟨a,xs,rfl,J,U,Y,rfl,B,O⟩:=h;obtain⟨q,gs,rfl,F,I⟩:=B;obtain rfl:=IsL.of_ints (ns:=[x.b,x.r,x.w]) O;exact⟨a,q,gs,rfl,J,F,I⟩
def ztP {α q:Type}{G:Prop}(P C:α->q->Prop)(h:(∀a b,C a b->P a b)->G)(r:∀a b,C a b->P a b):G:=h r
section
variable {rm:AG}{g b r w:Dt}
end
end L2
namespace HT
open PyProof.Rows
section
variable {prog:Aa}{w:Ab}{A:Ae}{E:AA}{s:AZ}
def fm_congr {α q:Type}{f g:α->Option q}:∀ {l:List α},(∀m∈l,f m=g m)->l.filterMap f=l.filterMap g
 | [],_=>rfl
 | a::l,h=>by rw[List.filterMap_cons,List.filterMap_cons,h a List.mem_cons_self,fm_congr λm B=>h m (List.mem_cons_of_mem _ B)]
def pick_rev (xs:AK):((List.range xs.size).filterMap λ(m:Nat)=>xs[((xs.size:Int) - 1+(m:Int) * (-1)).toNat]?).toArray=xs.toList.reverse.toArray:=by
 congr 1
 have e:∀m∈List.range xs.size,xs[((xs.size:Int) - 1+(m:Int) * (-1)).toNat]?=some (xs.toList.reverse.getD m .none):=by
  intro m q;have B:=List.mem_range.mp q;have F:((xs.size:Int) - 1+(m:Int) * (-1)).toNat=xs.size - 1 - m:=by lia
  right
 rw[fm_congr e];rw[List.filterMap_eq_map' (f:=λm=>xs.toList.reverse.getD m .none)];show List.ext_getElem? λi=>?_;rw[List.getElem?_map];by_cases hi:i<xs.size
 all_goals right
end
end HT
namespace L2
open PyProof.Rows
section
variable {X:Cx}{e:Expr}{te:TE}{pos p2 p3 p4:Pos}{j:Nat}
def ze7(r:zM xs us):zM xs.reverse us.reverse:=by
 induction r with
 | nil=>exact .nil
 | cons h _ q=>rw[bX,bX];exact q.append (.cons h .nil)
def zdU (xs:AK):slicePick xs none none (some (-1))=xs.toList.reverse.toArray:=by
 rw[<- HT.pick_rev];unfold slicePick;congr 1;have q:sliceBounds none none (some (-1)) xs.size=((xs.size:Int) - 1,-1,-1):=by simp[sliceBounds]
 rw[q];unfold sliceRange;have B:(if (-1:Int) > 0 then (if (xs.size:Int) - 1 < -1 then (-1 - ((xs.size:Int) - 1)+-1 - 1) / -1 else 0) else if (xs.size:Int) - 1 > -1 then ((xs.size:Int) - 1 - -1 - -1 - 1) / - -1 else 0).toNat=xs.size:=by grind
 change List.filterMap (λx=>xs[x]?) (List.map _ (List.range (if (-1:Int) > 0 then (if (xs.size:Int) - 1 < -1 then (-1 - ((xs.size:Int) - 1)+-1 - 1) / -1 else 0) else if (xs.size:Int) - 1 > -1 then ((xs.size:Int) - 1 - -1 - -1 - 1) / - -1 else 0).toNat))=_;rw[B,fq];show HT.fm_congr λm F=>?_;grind
def zr3 (te:TE):TE:=λσ H Q=>te σ H λx H1=>∃a xs,x = .ref a/\H1 a=some (.lst xs)/\New H1 (.lst xs.reverse) Q
def zoq (U:PE X e te):PE X (.Subscript e (.Slice none none (some (.UnaryOp .USub (.Constant (.int 1) j p4) p3)) p2) pos) (zr3 te):=by intro pins s σ H Q I h;show Subscript_ (thn (U pins s σ H _ I h)  ?_);rintro v Y ⟨x,H1,I1,Z,q1⟩;obtain⟨a,xs,rfl,ha,q⟩:=q1;cases Z;show wpAny_Slice ?_;rw[evalPart_none];show ae (ae ?_);rw[evalPart_some];show thn (zt5 (zsf (X:=X)) (zmK (X:=X)) pins Y σ H1 (λz H2=>z = .int (-1)/\H2=H1) I1 ⟨1,rfl,rfl,rfl⟩)  ?_;rintro u B ⟨z,H2,I2,r2,e1,e2⟩;subst e1 e2;obtain⟨tk,rfl⟩:=r2;have I3:Inv X pins σ H2 { B with heap:=B.heap.push { cls:=.type "slice",data:=.fields #[.none,.none,.int (-1) tk] } }:=I2.kept (t':=B.toks) λb ob q=>af _ q;obtain⟨F,r,J,hz⟩:=I3.list (.of ha);have O:=r.length;change Af X (subscriptTail e _ (.ref a) (.ref B.heap.objs.size)) (EP X pins σ Q) X.xe { B with heap:=B.heap.push { cls:=.type "slice",data:=.fields #[.none,.none,.int (-1) tk] } };show tail_any (ops:=[.ref a,.ref B.heap.objs.size]) J.isList.typeIs slot_list_getitem.lookup ?_ (by with_unfolding_all rfl);show wpAny_getItem_list_slice J.isList (Heap.IsSliceOf.new ..) .none .none (.int (-1) tk) (by simp) ?_ (by grind);rw[zdU];show⟨.ref _,_,I3.laid (t':=B.toks) (o:=.lst xs.reverse) (λb ob q=>af _ q) (ai _) ?_,rfl,q.at (I3.hok.fresh (ai _))⟩;exact⟨by right,F.reverse,0,ze7 r,aq _ rfl⟩
def zoQ (q:QE X e te):QE X (.Subscript e (.Slice none none (some (.UnaryOp .USub (.Constant (.int 1) j p4) p3)) p2) pos) (zr3 te):=⟨zoq q.run⟩
def zud:V->V->V->Hp->(Hp->Prop)->Prop:=λo i v H Q=>∃p xs k,o = .ref p/\i = .int k/\H p=some (.lst xs)/\0<=k/\k<xs.length/\Q (upd H p (.lst (xs.set k.toNat v)))
def zoR(ho:QE X o to)(hi:QE X i ti)(ha:∀v,assign (.Subscript o i pos) X.env v=(do
   let ov <- holding [v] (eval o X.env)
   let iv <- holding [v,ov] (eval i X.env)
   standAt pos
   holding [v,ov,iv] (setItem ov iv v)
   release [v,ov,iv] []):=by intro _;rfl):QG X (.Subscript o i pos) (gSub to ti zud):=
 ⟨zrc ho.run hi.run (by rintro pins s σ H o i v ov iv u Q I ro ri rv ⟨p,xs,k,e1,e2,hp,h0,h1,q⟩;exact zl2 pins s σ H o i v ov iv u Q I ro ri rv ⟨p,xs,k,k.toNat,e1,e2,hp,by unfold ixN;rw[if_pos h0,if_pos h1],q⟩) ha⟩
end
def zgB {st:AG}{b:Int}(B:0<=b)(h1:b<st.length):atI (st.map V.int) b=some (.int (zR st b)):=by
 obtain⟨j,rfl⟩:∃j:Nat,b=j:=⟨b.toNat,by lia⟩;have q:j<st.length:=by lia
 have e:zR st (j:Int)=st[j]:=by unfold zR;simp[q]
 rw[e];exact zhX (by simp[q])
def chg (st:AG)(b w:Int):AG:=st.take b.toNat++[w]++st.drop (b.toNat+1)
def zh2 (st:AG){b w:Int}(q:0<=b):zcF (st.map V.int) none (some b)++[.int w]++zcF (st.map V.int) (some (b+1)) none=(chg st b w).map V.int:=by
 obtain⟨j,rfl⟩:∃j:Nat,b=j:=⟨b.toNat,by lia⟩;rw[zia,show ((j:Int)+1)=((j+1:Nat):Int) by lia,zh9];unfold chg;right
def zh3 {st:AG}{b w:Int}(q:0<=b)(h1:b<st.length):(chg st b w).length=st.length:=by
 unfold chg;grind
def znh {st:AG}{b w c:Int}(B:0<=b)(h1:b<st.length)(F:0<=c):zR (chg st b w) c=if c=b then w else zR st c:=by
 obtain⟨j,rfl⟩:∃j:Nat,b=j:=⟨b.toNat,by lia⟩;obtain⟨k,rfl⟩:∃k:Nat,c=k:=⟨c.toNat,by lia⟩;have I:j<st.length:=by lia
 unfold zR chg;simp only[aO,bj];have q:(st.take j).length=j:=by rw[bg];lia
 rcases cF k j with h | h | h;rw[if_neg (by lia),az,bw (by rw[q];exact h),bW h];right;rw[if_neg (by lia),az,bi (by rw[q];lia),q];obtain⟨m,rfl⟩:∃m,k=j+1+m:=⟨k - (j+1),by lia⟩;rw[show j+1+m - j=m+1 by lia];right
def xD (st:AG)(g:List (Int×Int)):Bool:=g.all λq=>decide (zR st q.1=q.2)
def zaO (st:AG)(x:Wi):Bool:=decide (zR st x.b=x.w)&&xD st x.g
structure BookAt (H:Hp)(rm:AG)(ba:Addr)(xs:AT)(bk:AW):Prop where
 at':H ba=some (.tup xs)
 is:IsL H (bk.map xt) xs
 ok:∀x∈bk,WishOk rm x
def BookAt.stay{rm:AG}(h:BookAt H rm q xs bk)(s:zq H H'):BookAt H' rm q xs bk:=⟨s.tup h.at',h.is.stay s,h.ok⟩
def BookAt.len{rm:AG}(h:BookAt H rm q xs bk):xs.length=bk.length:=by
 have:=h.is.length;right
def BookAt.get {H:Hp}{rm:AG}{I:Addr}{xs:AT}{bk:AW}(h:BookAt H rm I xs bk){i:Nat}{v:V}(J:xs[i]?=some v):∃x,bk[i]?=some x/\Is H (xt x) v/\WishOk rm x:=by obtain⟨d,B,q⟩:=h.is.get J;rw[aL] at B;obtain⟨x,F,rfl⟩:=aI.mp B;exact⟨x,F,q,h.ok x (aG F)⟩
def uO:∀bk:AW,Dt.noLs (bk.map xt)=true
 | []=>rfl
 | x::bk=>by change ((xt x).noL&&Dt.noLs (bk.map xt))=true;rw[zgD,uO bk];rfl
def zK (st:AG)(j:Nat):zR st (j:Int)=st.getD j 0:=by unfold zR;simp
def za3 {st:AG}{r b:Int}(B:0<=b)(h1:b<st.length):zR (st++[r]) b=zR st b:=by
 obtain⟨j,rfl⟩:∃j:Nat,b=j:=⟨b.toNat,by lia⟩;have q:j<st.length:=by lia
 rw[zK,zK,bj,bj,bw q]
def za2 {st:AG}{r:Int}:zR (st++[r]) (st.length:Int)=r:=by rw[zK,bj,bi (ai _),Nat.sub_self];rfl
def zfB {st:AG}{i:Nat}{m:Int}(h:st[i]?=some m):zR st (i:Int)=m:=by rw[zK,bj,h];rfl
def xI {rm:AG}(B:∀r∈rm,2<=r/\r<=4){b:Int}(F:0<=b)(h1:b<rm.length):2<=zR rm b/\zR rm b<=4:=by
 obtain⟨j,rfl⟩:∃j:Nat,b=j:=⟨b.toNat,by lia⟩;have q:j<rm.length:=by lia
 rw[zfB (aw q)];right
def zeY:Sp:=λvs H Q _=>∃ (a:Addr) (st:AG) (b w:Int),vs=[.ref a,.int b,.int w]/\H a=some (.tup (st.map V.int))/\st.length<=400/\0<=b/\∀ (p:Addr) (H':Hp),H' p=some (.tup ((chg st b w).map V.int))->yL H H'->Q (.ref p) H'
def zj8:Sp:=λvs H Q _=>∃ (a B:Addr) (st:AG) (gs:AT) (g:List (Int×Int)),vs=[.ref a,.ref B]/\H a=some (.tup (st.map V.int))/\H B=some (.tup gs)/\IsL H (g.map xo) gs/\(∀q∈g,0<=q.1/\q.1<st.length)/\Q (.bl (xD st g)) H
def zas:∀st:AG,Dt.noLs (st.map .int)=true
 | []=>rfl
 | _::st=>by change (true&&Dt.noLs (st.map .int))=true;rw[zas st];rfl
def zlh (st:AG):PySem.W.kqdOk 7 (Dt.tup (st.map .int)).toW=true:=by
 have e:∀ns:AG,(Dt.toWs (ns.map .int)).all (PySem.W.kqdOk 6)=true:=by
  intro ns
  induction ns with
  | nil=>rfl
  | cons n ns q=>simp only[aC,Dt.toWs,dP,q,eP];rfl
 exact e st
def zoW{X:Cx}{ifs:AO}{scope:Scope}{pos spos:Pos}{wi:TI}{g:TG}{ti:TT}{te:TE}{N:AM}{nx:Str}(q:X.N.Nodup)(B:X.N[ix]?=some nx)(F:X.env.scope.names.lookup nx=some .local)(Y:X.calm=true)(c:CompOk X scope N cix)(hi:QI X tg iter wi)(Z:∀C s H ex,QG (zS X scope N C s H ex) tg g)(ht:∀C s H ex,QTs (zS X scope N C s H ex) ifs ti)(he:∀C s H ex,QE (zS X scope N C s H ex) elt te)(J:swapsWithSole [.Name nx px] (.ListComp elt [⟨tg,iter,ifs,0⟩] scope pos) spos.line X.env=pure true:=by rfl)(hs:∀x,foldedSetIterable iter X.env x=pure x:=by intro _;rfl)(O:(assignEach [.Name nx px] X.env).map (·.2)=[assign (.Name nx px) X.env]:=by rfl):QS X (.Assign [.Name nx px] (.ListComp elt [⟨tg,iter,ifs,0⟩] scope pos) spos) (zhR (zka wi g ti te cix) (zbg ix)):=⟨λpins s σ H D I h=>zkE q B F J O (λ_=>rfl) λU Qp hf=>zeE (Fin:=λacc H=>D.nx (σ.set ix (some (.ref acc))) H) (zbZ c) Y hi.run (zkZ λC s H ex=>(Z C s H ex).run) (zkZ λC s H ex=>(ht C s H ex).run) (zkZ λC s H ex=>(he C s H ex).run) hs I h hf⟩
section
variable {prog:Aa}{w:Ab}{A:Ae}{E:AA}{s:AZ}
variable {X:Cx}
variable {R:Result->AZ->Prop}
variable {Fam:Cx->Prop}{scope:Scope}{N:AM}{cix:List (Option Nat)}{z:Str}{use:Option (Value->Sem Unit)}{Qp:AA}{elt ke ve tg iter tg2 iter2:Expr}{ifs ifs2:AO}{pos ipos spos px:Pos}{wi wi2:TI}{g g2:TG}{ti ti2:TT}{te tk tv:TE}{pins:AB}{σ:St}{H:Hp}{Q:VK}{o0:HO}
variable {K:AH}{a acc:Addr}{xs:AT}{N:St->Hp->Prop}
end
section
variable {X:Cx}
def zkM:CallQ X (.type "range") (λxs H Q=>∃n,xs=[.int n]/\New H (.rng 0 n) Q):=⟨by
 intro pins s σ H xs us Q I r h;obtain⟨n,rfl,q⟩:=h;obtain⟨u,rfl,B⟩:=zaJ r;obtain⟨t,rfl⟩:=B;show call_range_1 ?_;show⟨.ref s.heap.objs.size,_,I.laid (t':=s.toks+1+1) (o:=.rng 0 n) (λb ob q=>af _ q) (ai _) ?_,rfl,q.at (I.hok.fresh (ai _))⟩;exact⟨_,_,_,aq _ rfl⟩⟩
def zgT (n:Nat):Builtin.Range.rangeSize 0 (n:Int) 1=n:=by
 unfold Builtin.Range.rangeSize;grind
def zkr:∀ {xs:AT} {us:AN},xs.length=us.length->(∀ (i:Nat) x u,xs[i]?=some x->us[i]?=some u->yc x u)->zM xs us
 | [],[],_,_=>.nil
 | [],_::_,h,_=>by simp at h
 | _::_,[],h,_=>by simp at h
 | x::xs,u::us,h,k=>.cons (k 0 x u rfl rfl) (zkr (by simpa using h) λi y v q B=>k (i+1) y v q B)
def zfh (U:X.calm=true):CallQ X (.type "list") (λxs H Q=>∃ (p:Addr) (n:Nat),xs=[.ref p]/\H p=some (.rng 0 n)/\n<=1000/\New H (.lst ((List.range n).map λi:Nat=>V.int i)) Q):=⟨by
 intro pins s σ H xs us Q I r h;obtain⟨p,n,rfl,Y,hn,q⟩:=h;obtain⟨u,rfl,Z⟩:=zaJ r;cases Z;obtain⟨t,u,v,ho⟩:=I.hok p _ Y;have J:n<sizeLine:=zce hn;show call_list_range (a:=0) (b:=n) (c:=1) (n:=n) (I.ok.hd U) ho ?_ ?_ (aA hn (by ext)) λh' tk B c' kp hg F=>?_;have e:=zgT n;unfold Builtin.Range.small;rw[e];simp[Builtin.Range.rangeFitsLong];lia;exact zgT n
 have hv:zM ((List.range n).map λi:Nat=>V.int i) B.toList:=by
  show zkr (by rw[ab,aB,aH,F.1]) λj x u O hu=>?_;rw[aL] at O;obtain⟨k,hk,rfl⟩:=aI.mp O;obtain⟨ac,e⟩:=ah.mp hk;have:k=j:=by simpa using e.symm
  subst this;obtain⟨t',rfl⟩:=F.2 k u (by simpa using hu);exact⟨t',by lia⟩
 show⟨.ref s.heap.objs.size,_,I.laid (t':=tk) (o:=.lst ((List.range n).map λi:Nat=>V.int i)) kp (ai _) ?_,rfl,q.at (I.hok.fresh (ai _))⟩;exact⟨by rw[ab,aB];exact cD J,B.toList,c',hv,by simpa using hg⟩⟩
end
def zE (m:Int):AG:=(List.range m.toNat).map λi:Nat=>(i:Int)
def xx (q:AF)(B:AG):AF:=q.flatMap λr=>B.map λw=>r++[w]
def uL (cs:AF):AF:=cs.foldl xx [[]]
def yT (cs:AF)(c:AG):uL (cs++[c])=xx (uL cs) c:=by
 unfold uL;right
def zkR:AG->Nat->AG
 | [],_=>[]
 | m::r,k=>zkR r (k / m.toNat)++[((k % m.toNat:Nat):Int)]
def zhD:AG->Nat
 | []=>1
 | m::r=>zhD r * m.toNat
def zjX (P m:Nat):List.range (P * m)=(List.range P).flatMap λq=>(List.range m).map λr=>q * m+r:=by
 induction P with
 | zero=>rw[Nat.zero_mul];rfl
 | succ P B=>
  rw[gf,List.range_add,B,List.range_succ,List.flatMap_append];simp
def zfj (P m:Nat)(f:Nat->AG):xx ((List.range P).map f) ((List.range m).map λi:Nat=>(i:Int))=(List.range (P * m)).map λk=>f (k / m)++[((k % m:Nat):Int)]:=by
 unfold xx;rw[zjX,List.map_flatMap,List.flatMap_map];congr 1;funext q;rw[aJ,aJ];show bK λr F=>?_;have B:=aN.mp F;change f q++[(r:Int)]=f ((q * m+r) / m)++[(((q * m+r) % m:Nat):Int)];have I:(q * m+r) / m=q:=by rw[Nat.mul_comm,Nat.mul_add_div (by lia),gb B];lia
 have J:(q * m+r) % m=r:=by rw[Nat.mul_comm,Nat.mul_add_mod,Nat.mod_eq_of_lt B]
 rw[I,J]
def zf1:∀rr:AG,uL (rr.reverse.map zE)=(List.range (zhD rr)).map (zkR rr)
 | []=>rfl
 | m::r=>by rw[bX,aD];change uL (r.reverse.map zE++[zE m])=_;rw[yT,zf1 r];exact zfj (zhD r) m.toNat (zkR r)
def zcY:∀ {rr:AG},(∀m∈rr,1<=m)->(zhD rr:Int)=zL rr.reverse
 | [],_=>rfl
 | m::r,h=>by have B:=h m aj;rw[bX,yE,<- zcY λx q=>h x (am _ q)];change ((zhD r * m.toNat:Nat):Int)=_;rw[dU];congr 1;lia
abbrev stD (st:AG):Dt:=.tup (st.map .int)
def yO:∀sts:AF,Dt.noLs (sts.map stD)=true
 | []=>rfl
 | st::sts=>by show ((stD st).noL&&Dt.noLs (sts.map stD))=true;rw[yO sts,show (stD st).noL=true from zas st];rfl
def ziY (sts:AF):(Dt.lst (sts.map stD)).eqOk:=by
 have e:∀sts:AF,(Dt.toWs (sts.map stD)).all (PySem.W.kqdOk 7)=true:=by
  intro sts
  induction sts with
  | nil=>rfl
  | cons m B q=>simp only[aC,Dt.toWs,dP,q,show PySem.W.kqdOk 7 (stD m).toW=true from zlh m,eP]
 exact e sts
def zcE (q:AF)(B:AG):(xx q B).length=q.length * B.length:=by
 unfold xx;rw[List.length_flatMap]
 induction q with
 | nil=>simp
 | cons r q F=>rw[aC,List.sum_cons,F,ab,aM,gf,Nat.add_comm]
def zkA:∀ (cs:AF) (q:AG),q∈uL cs->q.length=cs.length:=by
 intro cs
 have:∀ (n:Nat) (cs:AF),cs.length=n->∀q,q∈uL cs->q.length=cs.length:=by
  intro n
  induction n with
  | zero=>
   intro cs h q B;have:cs=[]:=a8 h;subst this;have:q=[]:=by simpa [uL] using B
   right
  | succ n I=>
   intro cs h q B;have F:cs≠[]:=by intro z;rw[z] at h;simp at h
   rw[<- bp F,yT] at B;unfold xx at B;grind
 exact this cs.length cs rfl
def zm9:∀ (n:Nat) (cs:AF),cs.length=n->(∀c∈cs,c.length<=4)->(uL cs).length<=4 ^ n:=by
 intro n
 induction n with
 | zero=>
  intro cs h _;have:cs=[]:=a8 h;subst this;exact ai _
 | succ n F=>
  intro cs h B;have q:cs≠[]:=by intro z;rw[z] at h;simp at h
  rw[<- bp q,yT,zcE,Nat.pow_succ];exact Nat.mul_le_mul (F cs.dropLast (by grind) λc I=>B c ((List.dropLast_sublist cs).subset I)) (B _ (List.getLast_mem q))
def zkz {cs:AF}(F:cs.length<=8)(q:∀c∈cs,c.length<=4)(k:Nat):(uL (cs.take k)).length<=65536:=by
 show aA (zm9 _ (cs.take k) rfl λc B=>q c (bB B)) ?_;have:(cs.take k).length<=8:=by rw[bg];lia
 exact aA (dz (by ext) this) (by ext)
def zlW (rm:AG):uL (rm.map zE)=(List.range (zhD rm.reverse)).map (zkR rm.reverse):=by
 have:=zf1 rm.reverse;right
def zaW (m:Int):(zE m).length=m.toNat:=by unfold zE;rw[ab,aB]
section
variable {X:Cx}{o:Expr}{to:TE}{apos cpos:Pos}
def zoP (I:QE X o to)(q:attributeBase o "reverse" X.env (eval o X.env)=eval o X.env:=by rfl)(B:(apos.endLine==cpos.line)=true:=by rfl):QE X (.Call (.Attribute o "reverse" apos) [] [] cpos) (zuj X.K "list" zgR to):=⟨zmJ cC PySem.F.slot_list_reverse PySem.F.type_list_reverse zho I.run q B⟩
def zoO (I:QE X o to)(q:attributeBase o "pop" X.env (eval o X.env)=eval o X.env:=by rfl)(B:(apos.endLine==cpos.line)=true:=by rfl):QE X (.Call (.Attribute o "pop" apos) [] [] cpos) (zuj X.K "list" rPop to):=⟨zmJ cC PySem.F.slot_list_pop PySem.F.type_list_pop zqH I.run q B⟩
open PySem.W
variable {n:Nat}{f:Nat->Int}
def key (f:Nat->Int)(p:Array Nat)(k:Nat):Int:=f (p.getD k 0)
structure Up (n:Nat)(f:Nat->Int)(p:Array Nat)(m:Nat):Prop where
 perm:p.Perm (List.range n).toArray
 le:m<=n
 up:∀k,k+1<m->key f p k<key f p (k+1)
def zeN {p:Array Nat}(h:p.Perm (List.range n).toArray):p.size=n:=by have:=h.size_eq;simpa using this
def Up.lt_of(h:Up n f p m):∀ {i j:Nat},i<j->j<m->key f p i<key f p j:=by
 intro i j
 induction j with
 | zero=>intro F;lia
 | succ j I=>
  intro q B;have h1:=h.up j B;grind
def zhU (n:Nat)(f:Nat->Int):Prop:=∀i j,i<n->j<n->f i=f j->i=j
end
def ziC:Bool->Keyed->Array Keyed->Nat->Nat->Nat->StateT SortSt Sem (Option Nat):=sortPriv% PySem.Builtin.gallop
def zlr:Array Keyed->Array Keyed->StateT SortSt Sem (Array Keyed):=sortPriv% PySem.Builtin.mergeLo
def zlq:Array Keyed->Array Keyed->StateT SortSt Sem (Array Keyed):=sortPriv% PySem.Builtin.mergeHi
def zbd (M:Model)(A:Ae)(s:AZ)(κ:SortKind)(L0:List Keyed)(f:Keyed->Int):Prop:=
 ∀x y,x∈L0->y∈L0->∀ (Q:Bool->AZ->Prop) (E:AA),Q (decide (f x<f y)) s->wpAny M A (keyLt' κ x.1 y.1) Q E s
section
variable {M:Model}{A:Ae}{E:AA}{s:AZ}{κ:SortKind}{L0:List Keyed}{f:Keyed->Int}
def zr8 (R:zbd M A s κ L0 f){x y:Keyed}(q:x∈L0)(B:y∈L0){st:SortSt}(F:kindOf st=κ){Q:Option Bool->SortSt->Prop}(h:Q (some (decide (f x<f y))) st):wpS M A E s (lt' x y) Q st:=by rw[lt'_eq];show wpS_bind (wpS_get ?_);rw[F];exact wpS_bind (wpS_lift (cP (R x y q B _ _ ⟨rfl,wpS_pure h⟩)))
def yj {a:Array Keyed}{i:Nat}{x:Keyed}(e:a[i]?=some x){st:SortSt}{Q:Keyed->SortSt->Prop}(h:Q x st):wpS M A E s (elem' a i) Q st:=by rw[elem'_eq,e];exact wpS_pure h
def xj (f:Keyed->Int)(left:Bool)(key x:Keyed):Bool:=if left=true then decide (f x<f key) else !decide (f key<f x)
def zpr (R:zbd M A s κ L0 f){key x:Keyed}(q:x∈L0)(B:key∈L0){left:Bool}{st:SortSt}(F:kindOf st=κ){Q:Option Bool->SortSt->Prop}(h:Q (some (xj f left key x)) st) :
  wpS M A E s (if left=true then lt' x key else lt' key x >>= λr=>pure (Option.map (λb=>!b) r)) Q st:=by
 unfold xj at h
 cases left with
 | true=>rw[if_pos rfl] at h ⊢;exact zr8 R q B F h
 | false=>rw[if_neg av] at h ⊢;exact wpS_bind (zr8 R B q F (wpS_pure h))
def zl8 (R:zbd M A s κ L0 f){left:Bool}{key:Keyed}{a:Array Keyed}{base n hint:Nat}(hy:key∈L0)(ha:∀x∈a,x∈L0)(hn:base+n<=a.size)(hh:hint<n){B:Nat->Bool}(hB:∀i x,i<n->a[base+i]?=some x->xj f left key x=B i)(Z:∀i j,i<=j->j<n->B j=true->B i=true)
  {st:SortSt} (hk:kindOf st=κ) {Q:Option Nat->SortSt->Prop} (h:∀k,k<=n->(∀i,i<k->B i=true)->(∀i,k<=i->i<n->B i=false)->Q (some k) st):wpS M A E s (ziC left key a base n hint) Q st:=by
 have O:∀i,i<n->∀ {Q:Option Bool->SortSt->Prop},Q (some (B i)) st->wpS M A E s (elem' a (base+i) >>= λx=>if left=true then lt' x key else lt' key x >>= λr=>pure (Option.map (λb=>!b) r)) Q st:=λi hi {Q} hq=>by have e:a[base+i]?=some a[base+i]:=aP (by lia);show wpS_bind (yj e (zpr R (ha _ (dn _)) hy hk ?_));rw[hB i _ hi e];exact hq
 have up:∀i j,i<=j->j<n->B i=false->B j=false:=λi j h1 h2 F=>by
  cases e:B j with
  | false=>rfl
  | true=>rw[Z i j h1 h2 e] at F;cases F
 have fin:∀lo hi,lo<=hi->hi<=n->(∀i,i<lo->B i=true)->(∀i,hi<=i->i<n->B i=false)->∀ {G:Option (Option Nat)×Nat×Nat->SortSt->Prop},(∀l k,k<=n->(∀i,i<k->B i=true)->(∀i,k<=i->i<n->B i=false)->G (none,l,k) st)->∀ {body:Nat->Option (Option Nat)×Nat×Nat->StateT SortSt Sem (ForInStep (Option (Option Nat)×Nat×Nat))},
   (∀x lo hi (G':ForInStep (Option (Option Nat)×Nat×Nat)->SortSt->Prop),lo ≥ hi->G' (.done (none,lo,hi)) st->wpS M A E s (body x (none,lo,hi)) G' st)->
   (∀x lo hi (G':ForInStep (Option (Option Nat)×Nat×Nat)->SortSt->Prop),lo<hi->hi<=n->(B (lo+(hi - lo) / 2)=true->G' (.yield (none,lo+(hi - lo) / 2+1,hi)) st)->(B (lo+(hi - lo) / 2)=false->G' (.yield (none,lo,lo+(hi - lo) / 2)) st)->wpS M A E s (body x (none,lo,hi)) G' st)->
   wpS M A E s (forIn [0:n] (none,lo,hi) body) G st:=by
  intro lo hi h1 h2 F J G hG body b1 b2;show bL (I:=λx c q=>q=st/\∃lo hi,c=(none,lo,hi)/\lo<=hi/\hi<=n/\(∀i,i<lo->B i=true)/\(∀i,hi<=i->i<n->B i=false)/\hi - lo+x<=n) ?_ ?_ ⟨rfl,lo,hi,rfl,h1,h2,F,J,by lia⟩;rintro x c q _ hx ⟨rfl,lo,hi,rfl,h1,h2,F,J,h5⟩;by_cases e:lo ≥ hi;show b1 x lo hi _ e ?_;obtain rfl:lo=hi:=by lia
  exact hG _ _ h2 F J;show b2 x lo hi _ (by lia) h2 (λhb=>?_) (λhb=>?_);exact⟨rfl,_,_,rfl,by lia,h2,λi ac=>Z i _ (by lia) (by lia) hb,J,by lia⟩;exact⟨rfl,_,_,rfl,by lia,by lia,F,λi h1 h2=>up _ i h1 h2 hb,by lia⟩;rintro c q ⟨rfl,lo,hi,rfl,h1,h2,F,J,h5⟩;obtain rfl:lo=hi:=by lia
  exact hG _ _ h2 F J
 show wpS_bind (O hint hh ?_);dsimp only
 cases eB:B hint with
 | true=>
  rw[if_pos rfl];show wpS_bind (wpS_mono (bL (I:=λx c q=>q=st/\∃l o,c=(none,l,o)/\l<o/\hint+l<n/\B (hint+l)=true/\x+1<=o) (Q:=λc q=>q=st/\∃l o,c=(none,l,o)/\l<o/\hint+l<n/\B (hint+l)=true/\(o ≥ n - hint\/(hint+o<n/\B (hint+o)=false))) ?_ ?_ ⟨rfl,0,1,rfl,by lia,by lia,eB,by lia⟩) ?_);rintro x c q _ hx ⟨rfl,l,o,rfl,h1,h2,F,J⟩;dsimp only;by_cases e:o ≥ n - hint;rw[if_pos e];exact wpS_pure ⟨rfl,l,o,rfl,h1,h2,F,.inl e⟩;rw[if_neg e];show wpS_bind (O (hint+o) (by lia) ?_)
  cases eo:B (hint+o) with
  | true=>exact wpS_pure ⟨rfl,o,2 * o+1,rfl,by lia,by lia,eo,by lia⟩
  | false=>exact wpS_pure ⟨rfl,l,o,rfl,h1,h2,F,.inr ⟨by lia,eo⟩⟩
  rintro c q ⟨rfl,l,o,rfl,h1,h2,F,J⟩;exact⟨rfl,l,o,rfl,h1,h2,F,.inl (by lia)⟩;rintro c q ⟨rfl,l,o,rfl,h1,h2,F,J⟩;dsimp only;show wpS_bind (fin (hint+l+1) (hint+min o (n - hint)) (by lia) (by lia) (λi hi=>Z i _ (by lia) h2 F) (λi h5 h6=>?_) (λl' k k1 k2 k3=>?_) (λx lo hi G' e hg=>?_) (λx lo hi G' e e2 U Y=>?_));rcases J with J | ⟨J,h7⟩;lia;exact up _ i (by lia) h6 h7;exact wpS_pure (h k k1 k2 k3);dsimp only;rw[if_pos e];exact wpS_pure hg;dsimp only;rw[if_neg (by lia)];show wpS_bind (O _ (by lia) ?_)
  cases eb:B (lo+(hi - lo) / 2) with
  | true=>exact wpS_pure (U eb)
  | false=>exact wpS_pure (Y eb)
 | false=>
  rw[if_neg av];show wpS_bind (wpS_mono (bL (I:=λx c q=>q=st/\∃l o,c=(none,l,o)/\l<o/\l<=hint/\B (hint - l)=false/\x+1<=o) (Q:=λc q=>q=st/\∃l o,c=(none,l,o)/\l<o/\l<=hint/\B (hint - l)=false/\(o ≥ hint+1\/(o<=hint/\B (hint - o)=true))) ?_ ?_ ⟨rfl,0,1,rfl,by lia,by lia,eB,by lia⟩) ?_);rintro x c q _ hx ⟨rfl,l,o,rfl,h1,h2,F,J⟩;dsimp only;by_cases e:o ≥ hint+1;rw[if_pos e];exact wpS_pure ⟨rfl,l,o,rfl,h1,h2,F,.inl e⟩;rw[if_neg e];show wpS_bind (O (hint - o) (by lia) ?_)
  cases eo:B (hint - o) with
  | true=>exact wpS_pure ⟨rfl,l,o,rfl,h1,h2,F,.inr ⟨by lia,eo⟩⟩
  | false=>exact wpS_pure ⟨rfl,o,2 * o+1,rfl,by lia,by lia,eo,by lia⟩
  rintro c q ⟨rfl,l,o,rfl,h1,h2,F,J⟩;exact⟨rfl,l,o,rfl,h1,h2,F,.inl (by lia)⟩;rintro c q ⟨rfl,l,o,rfl,h1,h2,F,J⟩;dsimp only;show wpS_bind (fin (hint+1 - min o (hint+1)) (hint - l) (by lia) (by lia) (λi hi=>?_) (λi h5 h6=>up _ i h5 h6 F) (λl' k k1 k2 k3=>?_) (λx lo hi G' e hg=>?_) (λx lo hi G' e e2 U Y=>?_));rcases J with J | ⟨J,h7⟩;lia;exact Z i _ (by lia) (by lia) h7;exact wpS_pure (h k k1 k2 k3);dsimp only;rw[if_pos e];exact wpS_pure hg;dsimp only;rw[if_neg (by lia)];show wpS_bind (O _ (by lia) ?_)
  cases eb:B (lo+(hi - lo) / 2) with
  | true=>exact wpS_pure (U eb)
  | false=>exact wpS_pure (Y eb)
def zg7{key x y:Keyed}(h:f x<=f y)(e:xj f left key y=true):xj f left key x=true:=by
 unfold xj at e ⊢
 cases left with
 | true=>rw[if_pos rfl] at e ⊢;have:=bD e;exact a9 (by lia)
 | false=>
  rw[if_neg av] at e ⊢;simp only[dZ,bP] at e ⊢;lia
abbrev leF (f:Keyed->Int)(x y:Keyed):Prop:=f x<=f y
def zhH (R:zbd M A s κ L0 f){left:Bool}{key:Keyed}{a:Array Keyed}{base n hint:Nat}(hy:key∈L0)(ha:∀x∈a,x∈L0)(hn:base+n<=a.size)(hh:hint<n)(hs:((a.toList.drop base).take n).Pairwise (leF f))
  {st:SortSt} (hk:kindOf st=κ) {Q:Option Nat->SortSt->Prop} (h:∀k,k<=n->(∀x∈(a.toList.drop base).take k,xj f left key x=true)->(∀x∈((a.toList.drop base).take n).drop k,xj f left key x=false)->Q (some k) st):wpS M A E s (ziC left key a base n hint) Q st:=by
 have J:((a.toList.drop base).take n).length=n:=by simp;lia
 have q:∀i,i<n->∃x,a[base+i]?=some x/\((a.toList.drop base).take n)[i]?=some x:=λi hi=>by show⟨a[base+i],aP (by lia),?_⟩;rw[bW hi,fw,bY,aP (by lia)]
 show zl8 R hy ha hn hh (B:=λi=>match a[base+i]? with | some x=>xj f left key x | none=>false) (λi x hi e=>by rw[e]) (λi j al hj U=>?_) hk λk Y h1 h2=>h k Y (λx Z=>?_) (λx Z=>?_);obtain⟨x,F,I⟩:=q i (by lia);obtain⟨y,e3,O⟩:=q j hj;rw[F];rw[e3] at U;by_cases e:i=j;subst e;rw[F] at e3;cases e3;exact U;show zg7 ?_ U;obtain⟨ac,q1⟩:=ah.mp I;obtain⟨ad,q2⟩:=ah.mp O;have:=bz.mp hs i j ac ad (by lia);rw[q1,q2] at this;exact this;obtain⟨i,hi,e⟩:=bS.mp Z;have ag:i<k:=by simp at hi;lia
 have:=h1 i ag;obtain⟨y,F,I⟩:=q i (by lia);rw[F] at this;rw[bW (by lia)] at I;rw[fM] at e;obtain⟨_,O⟩:=ah.mp I;rw[<- e,O];exact this;obtain⟨i,hi,e⟩:=bS.mp Z;rw[eG,J] at hi;have:=h2 (k+i) (by lia) (by lia);obtain⟨y,F,I⟩:=q (k+i) (by lia);rw[F] at this;rw[List.getElem_drop] at e;obtain⟨_,O⟩:=ah.mp I;rw[<- e,O];exact this
end
structure Mg (R:Keyed->Keyed->Prop)(T out ra rb:List Keyed):Prop where
 perm:(out++(ra++rb)).Perm T
 up:out.Pairwise R
 le:∀x∈out,∀y∈ra++rb,R x y
 ua:ra.Pairwise R
 ub:rb.Pairwise R
section
variable {R:Keyed->Keyed->Prop}{T out ra rb c:List Keyed}
def Mg.a (h:Mg R T out (c++ra) rb)(k:∀x∈c,∀y∈rb,R x y):Mg R T (out++c) ra rb:=by
 have F:=bm.mp h.ua;show⟨?_,bm.mpr ⟨h.up,F.1,λx B y q=>h.le x B y (by simp[q])⟩,λx B y q=>?_,F.2.1,h.ub⟩;have:=h.perm;simpa only[az] using this
 ·rcases au.mp B with B | B
  ·exact h.le x B y (by rcases au.mp q with q | q <;> simp[q])
  rcases au.mp q with q | q;exact F.2.2 x B y q;exact k x B y q
def Mg.b (h:Mg R T out ra (c++rb))(k:∀x∈c,∀y∈ra,R x y):Mg R T (out++c) ra rb:=by
 have F:=bm.mp h.ub;show⟨?_,bm.mpr ⟨h.up,F.1,λx B y q=>h.le x B y (by simp[q])⟩,λx B y q=>?_,h.ua,F.2.1⟩;show List.Perm.trans ?_ h.perm;rw[az];show eA _ ?_;rw[<- az,<- az];exact List.Perm.append_right _ List.perm_append_comm
 ·rcases au.mp B with B | B
  ·exact h.le x B y (by rcases au.mp q with q | q <;> simp[q])
  rcases au.mp q with q | q;exact k x B y q;exact F.2.2 x B y q
def zcA (R:Keyed->Keyed->Prop)(T out:List Keyed):Prop:=out.Perm T/\out.Pairwise R
def Mg.told (h:Mg R T out [] []):zcA R T out:=⟨by have:=h.perm;simpa using this,h.up⟩
def Mg.doneA (h:Mg R T out ra []):zcA R T (out++ra):=(Mg.a (c:=ra) (ra:=[]) (by simpa using h) (λ_ _ _ q=>by simp at q)).told
def Mg.doneB (h:Mg R T out [] rb):zcA R T (out++rb):=(Mg.b (c:=rb) (rb:=[]) (by simpa using h) (λ_ _ _ q=>by simp at q)).told
def Mg.last(h:Mg R T out [z] rb)(k:∀y∈rb,R y z):zcA R T (out++rb++[z]):=(Mg.b (c:=rb) (rb:=[]) (by simpa using h) (λx q y B=>by rw[ao.mp B];exact k x q)).doneA
def Mg.lastB(h:Mg R T out ra [z])(k:∀y∈ra,R y z):zcA R T (out++ra++[z]):=(Mg.a (c:=ra) (ra:=[]) (by simpa using h) (λx q y B=>by rw[ao.mp B];exact k x q)).doneB
end
def zhc{a:Array Keyed}(h:i<a.size):∃x,a[i]?=some x/\x∈a/\a.toList.drop i=x::a.toList.drop (i+1):=
 ⟨a[i],aP h,dn h,by rw[ck (by simpa using h)];rfl⟩
def zdc (a:Array Keyed)(i:Nat):(a.extract i a.size).toList=a.toList.drop i:=by simp[bt]
def zib (l:List Keyed)(i k:Nat):(l.drop i).take k++l.drop (i+k)=l.drop i:=by rw[<- em,aV]
def zge (a:Array Keyed)(i k:Nat):(a.extract i (i+k)).toList=(a.toList.drop i).take k:=by simp
structure Like (st st':SortSt):Prop where
 kind:kindOf st'=kindOf st
 arr:arrOf st'=arrOf st
 pend:pendingOf st'=pendingOf st
 fail:failedOf st'=failedOf st
section
variable {M:Model}{A:Ae}{E:AA}{s:AZ}{κ:SortKind}{L0:List Keyed}{f:Keyed->Int}
structure LoI (f:Keyed->Int)(T:List Keyed)(a b:Array Keyed)(out:Array Keyed)(ia ib:Nat):Prop where
 mg:Mg (leF f) T out.toList (a.toList.drop ia) (b.toList.drop ib)
 la:ia+1<a.size
 lb:ib<b.size
def zgv {T:List Keyed}{a b out:Array Keyed}{q B:Nat}(mg:Mg (leF f) T out.toList (a.toList.drop q) (b.toList.drop B))(e:(q+1==a.size)=true)(F:∀x∈b,∀y,a[a.size - 1]?=some y->f x<=f y):zcA (leF f) T (out++b.extract B b.size++a.extract q a.size).toList:=by
 have e:=cb e;obtain⟨z,I,Y,J⟩:=zhc (a:=a) (i:=q) (by lia);have O:a.toList.drop (q+1)=[]:=by rw[eM];simp;lia
 rw[bh,bh,zdc,zdc];rw[J,O] at mg ⊢;show mg.last λy U=>F y ?_ z ?_;have:=cA U;simpa using this;rw[<- I];congr 1;lia
def zem {T:List Keyed}{a b out:Array Keyed}{q B:Nat}(mg:Mg (leF f) T out.toList (a.toList.drop q) (b.toList.drop B))(e:B=b.size\/q=a.size):zcA (leF f) T (out++a.extract q a.size++b.extract B b.size).toList:=by
 rw[bh,bh,zdc,zdc];rcases e with e | e;have F:b.toList.drop B=[]:=by rw[eM];simp;lia
 rw[F] at mg ⊢;rw[cI];exact mg.doneA;have F:a.toList.drop q=[]:=by rw[eM];simp;lia
 rw[F] at mg ⊢;rw[cI];exact mg.doneB
def zkf (R:zbd M A s κ L0 f){a b:Array Keyed}(ha:∀x∈a,x∈L0)(hb:∀x∈b,x∈L0)(sa:a.toList.Pairwise (leF f))(sb:b.toList.Pairwise (leF f))(na:1<=a.size)(nb:1<=b.size)
  (hf:∀x∈a,∀y,b[0]?=some y->f y<=f x) (hl:∀x∈b,∀y,a[a.size - 1]?=some y->f x<=f y) {st:SortSt} (hk:kindOf st=κ) {Q:Array Keyed->SortSt->Prop}
  (h:∀out Y,Like st Y->zcA (leF f) (a.toList++b.toList) out.toList->Q out Y):wpS M A E s (zlr a b) Q st:=by
 show wpS_bind (wpS_lift (cS ⟨rfl,?_⟩));obtain⟨y,y1,y2,y3⟩:=zhc (a:=b) (i:=0) (by lia);show wpS_bind (yj y1 ?_)
 have m0:Mg (leF f) (a.toList++b.toList) (#[y]:Array Keyed).toList (a.toList.drop 0) (b.toList.drop 1):=by
  have h0:Mg (leF f) (a.toList++b.toList) [] a.toList ([y]++b.toList.drop 1):=by have e:b.toList=[y]++b.toList.drop 1:=y3;rw[<- e];exact⟨by simp,.nil,λ_ hx=>by simp at hx,sa,sb⟩
  exact h0.b λx hx z hz=>by rw[ao.mp hx];exact hf z (by simpa using hz) y y1
 dsimp only;by_cases e1:(1==b.size)=true;rw[if_pos e1];exact wpS_pure (h _ _ ⟨rfl,rfl,rfl,rfl⟩ (zem m0 (.inl (cb e1))));rw[if_neg e1];by_cases e2:(0+1==a.size)=true;rw[if_pos e2];exact wpS_pure (h _ _ ⟨rfl,rfl,rfl,rfl⟩ (zgv m0 e2 hl));rw[if_neg e2];have bb:1≠b.size:=λz=>e1 (by rw[<- z];rfl);have bd:1≠a.size:=λz=>e2 (by rw[<- z];rfl);show wpS_bind (wpS_get ?_);show wpS_bind (wpS_mono (bL (I:=λx c Y=>Like st Y/\∃out ia ib g,c=(none,out,ia,ib,g)/\LoI f (a.toList++b.toList) a b out ia ib/\x+1<=ia+ib) (Q:=λc Y=>Like st Y/\∃r out ia ib g,c=(some r,out,ia,ib,g)/\zcA (leF f) (a.toList++b.toList) r.toList) ?_ ?_ ⟨⟨rfl,rfl,rfl,rfl⟩,_,0,1,_,rfl,⟨m0,by lia,by lia⟩,by lia⟩) ?_)
 ·rintro x c a0 _ hx ⟨l1,out,ia,ib,g,rfl,I,hp⟩;dsimp only
  show wpS_bind (wpS_mono (bL (I:=λx c Y=>Like st Y/\∃F O U ac bc,c=(none,F,O,U,ac,bc)/\LoI f (a.toList++b.toList) a b F O U/\x+(ia+ib)<=O+U)
   (Q:=λc Y=>Like st Y/\((∃r F O U ac bc,c=(some r,F,O,U,ac,bc)/\zcA (leF f) (a.toList++b.toList) r.toList)\/∃F O U ac bc,c=(none,F,O,U,ac,bc)/\LoI f (a.toList++b.toList) a b F O U/\ia+ib+1<=O+U)) ?_ ?_ ⟨l1,_,_,_,_,_,rfl,I,by lia⟩) ?_)
  rintro x2 c a1 _ be ⟨l2,o2,ad,ag,ac,bc,rfl,I2,a2⟩;dsimp only;have la:=I2.la;have lb:=I2.lb;obtain⟨y,y1,y2,y3⟩:=zhc lb;obtain⟨z,z1,z2,z3⟩:=zhc (a:=a) (i:=ad) (by lia);show wpS_bind (yj y1 (wpS_bind (yj z1 (wpS_bind (zr8 R (hb _ y2) (ha _ z2) (l2.kind.trans hk) ?_)))));have mg:=I2.mg;by_cases a3:f y<f z;rw[a9 a3];dsimp only;rw[if_pos rfl];show wpS_bind (yj y1 ?_);have ua:=mg.ua;rw[z3] at ua;have ua:=a6.mp ua
  have m2:Mg (leF f) (a.toList++b.toList) (o2.push y).toList (a.toList.drop ad) (b.toList.drop (ag+1)):=by
   rw[y3] at mg;rw[bQ];show Mg.b (c:=[y]) mg λx hx w Z=>?_;rw[ao.mp hx];rw[z3] at Z;change f y<=f w;rcases ay.mp Z with rfl | Z;lia;have h9:f z<=f w:=ua.1 w Z;lia
  by_cases e3:(ag+1==b.size)=true;rw[if_pos e3];exact wpS_pure ⟨l2,.inl ⟨_,_,_,_,_,_,rfl,zem m2 (.inl (cb e3))⟩⟩;rw[if_neg e3];have a4:ag+1≠b.size:=λq=>e3 (by rw[q];exact cx _);split;exact wpS_pure ⟨l2,.inr ⟨_,_,_,_,_,rfl,⟨m2,la,by lia⟩,by lia⟩⟩;exact wpS_pure ⟨l2,_,_,_,_,_,rfl,⟨m2,la,by lia⟩,by lia⟩;rw[aZ a3];dsimp only;rw[if_neg av];show wpS_bind (yj z1 ?_);have ub:=mg.ub;rw[y3] at ub;have ub:=a6.mp ub
  have m2:Mg (leF f) (a.toList++b.toList) (o2.push z).toList (a.toList.drop (ad+1)) (b.toList.drop ag):=by
   rw[z3] at mg;rw[bQ];show Mg.a (c:=[z]) mg λx hx w Z=>?_;rw[ao.mp hx];rw[y3] at Z;change f z<=f w;rcases ay.mp Z with rfl | Z;lia;have h9:f y<=f w:=ub.1 w Z;lia
  by_cases e3:(ad+1+1==a.size)=true;rw[if_pos e3];exact wpS_pure ⟨l2,.inl ⟨_,_,_,_,_,_,rfl,zgv m2 e3 hl⟩⟩;rw[if_neg e3];have a4:ad+1+1≠a.size:=λq=>e3 (by rw[q];exact cx _);split;exact wpS_pure ⟨l2,.inr ⟨_,_,_,_,_,rfl,⟨m2,by lia,lb⟩,by lia⟩⟩;exact wpS_pure ⟨l2,_,_,_,_,_,rfl,⟨m2,by lia,lb⟩,by lia⟩;rintro c a1 ⟨l2,o2,ad,ag,ac,bc,rfl,I2,a2⟩;have la:=I2.la;have lb:=I2.lb;lia
  ·rintro c a1 ⟨l2,⟨r,o2,ad,ag,ac,bc,rfl,ht⟩ | ⟨o2,ad,ag,ac,bc,rfl,I2,a2⟩⟩;exact wpS_pure ⟨l2,_,_,_,_,_,rfl,ht⟩;dsimp only;show wpS_bind (wpS_lift (cS ⟨rfl,?_⟩))
   show wpS_bind (wpS_mono (bL (I:=λx c Y=>Like st Y/\∃F O U g ac bc,c=(none,F,O,U,g,ac,bc)/\LoI f (a.toList++b.toList) a b F O U/\ad+ag<=O+U)
    (Q:=λc Y=>Like st Y/\((∃r F O U g ac bc,c=(some r,F,O,U,g,ac,bc)/\zcA (leF f) (a.toList++b.toList) r.toList)\/∃F O U g ac bc,c=(none,F,O,U,g,ac,bc)/\LoI f (a.toList++b.toList) a b F O U/\ad+ag<=O+U)) ?_ ?_ ⟨l2,_,_,_,_,_,_,rfl,I2,ai _⟩) ?_)
   ·rintro x3 c al _ bk ⟨l3,o3,J,B,g3,an,ap,rfl,I3,as⟩;dsimp only;have la:=I3.la;have lb:=I3.lb;have mg:=I3.mg;obtain⟨y,y1,y2,y3⟩:=zhc lb;have ub:=mg.ub;rw[y3] at ub;have ub:=a6.mp ub;by_cases g0:g3 > 1
    case' pos=>rw[if_pos g0]
    case' neg=>rw[if_neg g0]
    all_goals
     show wpS_bind (dq ?_);have lk:∀g,Like st (SortSt.mk' (kindOf al) (arrOf al) (pendingOf al) g (failedOf al)):=λg=>⟨l3.kind,l3.arr,l3.pend,l3.fail⟩;show wpS_bind (yj y1 ?_);show wpS_bind (zhH (n:=a.size - J) (left:=false) (hint:=0) R (hb _ y2) ha (by lia) (by lia) (mg.ua.sublist (cg _ _)) ((lk _).kind.trans hk) λk k1 k2 k3=>?_);dsimp only;have h4:∀w∈a.toList.drop (J+k),f y<=f w:=λw Z=>by have:=k3 w (by rw[bt (by simp),em];exact Z);unfold xj at this;rw[if_neg av,fB,cj] at this;lia
     have m4:Mg (leF f) (a.toList++b.toList) (o3++a.extract J (J+k)).toList (a.toList.drop (J+k)) (b.toList.drop B):=by
      rw[bh,zge];show Mg.a (by rw[zib];exact mg) λx hx w Z=>?_;have h5:=k2 x hx;unfold xj at h5;rw[if_neg av,dZ,bP] at h5;rw[y3] at Z;change f x<=f w;rcases ay.mp Z with rfl | Z;lia;have h9:f y<=f w:=ub.1 w Z;lia
     by_cases k0:k > 0
     case' pos=>
      rw[if_pos k0];by_cases e4:(J+k+1==a.size)=true;rw[if_pos e4];exact wpS_pure ⟨lk _,.inl ⟨_,_,_,_,_,_,_,rfl,zgv m4 e4 hl⟩⟩;rw[if_neg e4];by_cases e5:(J+k==a.size)=true;rw[if_pos e5];exact wpS_pure ⟨lk _,.inl ⟨_,_,_,_,_,_,_,rfl,zem m4 (.inr (cb e5))⟩⟩;rw[if_neg e5];have a5:J+k+1≠a.size:=λq=>e4 (by rw[q];exact cx _);have a7:J+k≠a.size:=λq=>e5 (by rw[q];exact cx _);have q1:J+k+1<a.size:=by lia
      have q2:J<=J+k:=by lia
      clear e4 e5 a5 a7 k1 k2 k3;generalize o3++a.extract J (J+k)=o4 at m4 ⊢;generalize J+k=ia4 at m4 h4 q1 q2 ⊢
     case' neg=>
      rw[if_neg k0];obtain rfl:k=0:=by lia
      have q1:J+1<a.size:=la;have q2:J<=J:=ai _;clear m4;have m4:=mg;rw[gg] at h4;clear k1 k2 k3;generalize ho:o3=o4 at m4 ⊢;generalize hi:J=ia4 at m4 h4 q1 ⊢;have q2:J<=ia4:=by lia
     all_goals
      show wpS_bind (yj y1 ?_);have m5:Mg (leF f) (a.toList++b.toList) (o4.push y).toList (a.toList.drop ia4) (b.toList.drop (B+1)):=by rw[y3] at m4;rw[bQ];exact Mg.b (c:=[y]) m4 λx hx w Z=>by rw[ao.mp hx];exact h4 w Z
      by_cases e6:(B+1==b.size)=true;rw[if_pos e6];exact wpS_pure ⟨lk _,.inl ⟨_,_,_,_,_,_,_,rfl,zem m5 (.inl (cb e6))⟩⟩;rw[if_neg e6];have bl:B+1≠b.size:=λq=>e6 (by rw[q];exact cx _);obtain⟨z,z1,z2,z3⟩:=zhc (a:=a) (i:=ia4) (by lia);show wpS_bind (yj z1 ?_);have ua:=m5.ua;rw[z3] at ua;have ua:=a6.mp ua;show wpS_bind (zhH (n:=b.size - (B+1)) (left:=true) (hint:=0) R (ha _ z2) hb (by lia) (by lia) (m5.ub.sublist (cg _ _)) ((lk _).kind.trans hk) λj j1 j2 j3=>?_);dsimp only;have h6:∀w∈b.toList.drop (B+1+j),f z<=f w:=λw Z=>by have:=j3 w (by rw[bt (by simp),em];exact Z);unfold xj at this;rw[if_pos rfl,bP] at this;lia
      have m6:Mg (leF f) (a.toList++b.toList) (o4.push y++b.extract (B+1) (B+1+j)).toList (a.toList.drop ia4) (b.toList.drop (B+1+j)):=by
       rw[bh,zge];show Mg.b (by rw[zib];exact m5) λx hx w Z=>?_;have h5:=j2 x hx;unfold xj at h5;rw[if_pos rfl,cj] at h5;rw[z3] at Z;change f x<=f w;rcases ay.mp Z with rfl | Z;lia;have h9:f z<=f w:=ua.1 w Z;lia
      by_cases j0:j > 0
      case' pos=>
       rw[if_pos j0];by_cases e7:(B+1+j==b.size)=true;rw[if_pos e7];exact wpS_pure ⟨lk _,.inl ⟨_,_,_,_,_,_,_,rfl,zem m6 (.inl (cb e7))⟩⟩;rw[if_neg e7];have ba:B+1+j≠b.size:=λq=>e7 (by rw[q];exact cx _);have q3:B+1+j<b.size:=by lia
       have q4:B<=B+1+j:=by lia
       clear e7 ba j1 j2 j3;generalize o4.push y++b.extract (B+1) (B+1+j)=o5 at m6 ⊢;generalize B+1+j=ib4 at m6 h6 q3 q4 ⊢
      case' neg=>
       rw[if_neg j0];obtain rfl:j=0:=by lia
       have q3:B+1<b.size:=by lia
       have q4:B<=B+1:=by lia
       clear m6;have m6:=m5;rw[gg] at h6;clear j1 j2 j3;generalize o4.push y=o5 at m6 ⊢;generalize B+1=ib4 at m6 h6 q3 q4 ⊢
      all_goals
       show wpS_bind (yj z1 ?_);have m7:Mg (leF f) (a.toList++b.toList) (o5.push z).toList (a.toList.drop (ia4+1)) (b.toList.drop ib4):=by rw[z3] at m6;rw[bQ];exact Mg.a (c:=[z]) m6 λx hx w Z=>by rw[ao.mp hx];exact h6 w Z
       by_cases e8:(ia4+1+1==a.size)=true;rw[if_pos e8];exact wpS_pure ⟨lk _,.inl ⟨_,_,_,_,_,_,_,rfl,zgv m7 e8 hl⟩⟩;rw[if_neg e8];have bo:ia4+1+1≠a.size:=λq=>e8 (by rw[q];exact cx _);split;exact wpS_pure ⟨lk _,.inr ⟨_,_,_,_,_,_,rfl,⟨m7,by lia,q3⟩,by lia⟩⟩;exact wpS_pure ⟨lk _,_,_,_,_,_,_,rfl,⟨m7,by lia,q3⟩,by lia⟩
   rintro c al ⟨l3,o3,J,B,g3,an,ap,rfl,I3,as⟩;exact⟨l3,.inr ⟨_,_,_,_,_,_,rfl,I3,as⟩⟩;rintro c al ⟨l3,⟨r,o3,J,B,g3,an,ap,rfl,ht⟩ | ⟨o3,J,B,g3,an,ap,rfl,I3,as⟩⟩;exact wpS_pure ⟨l3,_,_,_,_,_,rfl,ht⟩;dsimp only;exact wpS_bind (dq (wpS_pure ⟨⟨l3.kind,l3.arr,l3.pend,l3.fail⟩,_,_,_,_,rfl,I3,by lia⟩))
 rintro c a0 ⟨l1,out,ia,ib,g,rfl,I,hp⟩;have:=I.la;have:=I.lb;lia;rintro c a0 ⟨l1,r,out,ia,ib,g,rfl,ht⟩;exact wpS_pure (h _ _ l1 ht)
abbrev geF (f:Keyed->Int)(x y:Keyed):Prop:=f y<=f x
def zd0(h:zcA (geF f) T l):zcA (leF f) T l.reverse:=⟨(du l).trans h.1,eC.mpr h.2⟩
def zhJ{a:Array Keyed}(h1:1<=n)(h:n<=a.size):∃x,a[n - 1]?=some x/\x∈a/\(a.toList.take n).reverse=x::(a.toList.take (n - 1)).reverse:=by obtain⟨i,rfl⟩:∃i,n=i+1:=⟨n - 1,by lia⟩;show⟨a[i],aP (by lia),dn _,?_⟩;rw[List.take_succ_eq_append_getElem (by rw[aH];exact h),List.reverse_append];rfl
def zbs (a:Array Keyed)(n:Nat):(a.extract 0 n).toList=a.toList.take n:=by simp
def zis (a:Array Keyed)(i n:Nat):(a.extract i n).reverse.toList=((a.toList.take n).drop i).reverse:=by simp[List.drop_take]
def zic(l:List Keyed)(h:i<=n):((l.take n).drop i).reverse++(l.take i).reverse=(l.take n).reverse:=by
 rw[<- List.reverse_append];congr 1;have:l.take i=(l.take n).take i:=by rw[List.take_take,dS h]
 rw[this,aV]
structure HiI (f:Keyed->Int)(T:List Keyed)(a b:Array Keyed)(out:Array Keyed)(na nb:Nat):Prop where
 mg:Mg (geF f) T out.toList (a.toList.take na).reverse (b.toList.take nb).reverse
 la:1<=na
 ma:na<=a.size
 lb:2<=nb
 mb:nb<=b.size
def zdd{T:List Keyed}{a b out:Array Keyed}(mg:Mg (geF f) T out.toList (a.toList.take q).reverse (b.toList.take B).reverse)(e:(B==1)=true)(hn:1<=b.size)(I:∀x∈a,∀y,b[0]?=some y->f y<=f x):zcA (leF f) T (b.extract 0 B++a.extract 0 q++out.reverse).toList:=by
 have e:=cb e;subst e;obtain⟨z,J,Y,F⟩:=zhJ (a:=b) (n:=1) (ai _) hn;rw[bh,bh,zbs,zbs,Array.toList_reverse];rw[F] at mg;have mg:Mg (geF f) T out.toList (a.toList.take q).reverse [z]:=mg;have t:=zd0 (mg.lastB λy O=>I y (by have:=bB (cy.mp O);simpa using this) z J);have U:b.toList.take 1=[z]:=by rw[<- List.reverse_reverse (b.toList.take 1),F];rfl
 rw[U];simpa using t
def zel{T:List Keyed}{a b out:Array Keyed}(mg:Mg (geF f) T out.toList (a.toList.take q).reverse (b.toList.take B).reverse)(e:q=0\/B=0):zcA (leF f) T (a.extract 0 q++b.extract 0 B++out.reverse).toList:=by
 rw[bh,bh,zbs,zbs,Array.toList_reverse];rcases e with rfl | rfl;have t:=zd0 (Mg.doneB (by simpa using mg));simpa using t;have t:=zd0 (Mg.doneA (by simpa using mg));simpa using t
def zke (R:zbd M A s κ L0 f){a b:Array Keyed}(ha:∀x∈a,x∈L0)(hb:∀x∈b,x∈L0)(sa:a.toList.Pairwise (leF f))(sb:b.toList.Pairwise (leF f))(na:1<=a.size)(nb:1<=b.size)
  (hf:∀x∈a,∀y,b[0]?=some y->f y<=f x) (hl:∀x∈b,∀y,a[a.size - 1]?=some y->f x<=f y) {st:SortSt} (hk:kindOf st=κ) {Q:Array Keyed->SortSt->Prop}
  (h:∀out U,Like st U->zcA (leF f) (a.toList++b.toList) out.toList->Q out U):wpS M A E s (zlq a b) Q st:=by
 show wpS_bind (wpS_lift (cS ⟨rfl,?_⟩));obtain⟨y,y1,y2,y3⟩:=zhJ na (ai _);show wpS_bind (yj y1 ?_)
 have m0:Mg (geF f) (a.toList++b.toList) (#[y]:Array Keyed).toList (a.toList.take (a.size - 1)).reverse (b.toList.take b.size).reverse:=by
  have ea:a.toList.take a.size=a.toList:=bt (by simp);have eb:b.toList.take b.size=b.toList:=bt (by simp)
  have h0:Mg (geF f) (a.toList++b.toList) [] ([y]++(a.toList.take (a.size - 1)).reverse) (b.toList.take b.size).reverse:=by
   have e:a.toList.reverse=[y]++(a.toList.take (a.size - 1)).reverse:=by rw[ea] at y3;exact y3
   rw[<- e,eb];exact⟨(du _).append (du _),.nil,λ_ hx=>by simp at hx,eC.mpr sa,eC.mpr sb⟩
  exact h0.a λx hx z hz=>by rw[ao.mp hx];exact hl z (by have:=bB (cy.mp hz);simpa using this) y y1
 dsimp only;by_cases e1:(a.size - 1==0)=true;rw[if_pos e1];exact wpS_pure (h _ _ ⟨rfl,rfl,rfl,rfl⟩ (zel m0 (.inl (cb e1))));rw[if_neg e1];by_cases e2:(b.size==1)=true;rw[if_pos e2];exact wpS_pure (h _ _ ⟨rfl,rfl,rfl,rfl⟩ (zdd m0 e2 nb hf));rw[if_neg e2];have bd:a.size - 1≠0:=λz=>e1 (by rw[z];rfl);have be:b.size≠1:=λz=>e2 (by rw[z];rfl);show wpS_bind (wpS_get ?_);show wpS_bind (wpS_mono (bL (I:=λx c U=>Like st U/\∃ia ib out g,c=(none,ia,ib,out,g)/\HiI f (a.toList++b.toList) a b out ia ib/\x+(ia+ib)+1<=a.size+b.size) (Q:=λc U=>Like st U/\∃r ia ib out g,c=(some r,ia,ib,out,g)/\zcA (leF f) (a.toList++b.toList) r.toList) ?_ ?_ ⟨⟨rfl,rfl,rfl,rfl⟩,_,_,_,_,rfl,⟨m0,by lia,by lia,by lia,by lia⟩,by lia⟩) ?_)
 ·rintro x c a0 _ hx ⟨l1,ia,ib,out,g,rfl,I,hp⟩;dsimp only
  show wpS_bind (wpS_mono (bL (I:=λx c U=>Like st U/\∃F J B ac bc,c=(none,F,J,B,ac,bc)/\HiI f (a.toList++b.toList) a b B F J/\x+(F+J)<=ia+ib)
   (Q:=λc U=>Like st U/\((∃r F J B ac bc,c=(some r,F,J,B,ac,bc)/\zcA (leF f) (a.toList++b.toList) r.toList)\/∃F J B ac bc,c=(none,F,J,B,ac,bc)/\HiI f (a.toList++b.toList) a b B F J/\F+J+1<=ia+ib)) ?_ ?_ ⟨l1,_,_,_,_,_,rfl,I,by lia⟩) ?_)
  rintro x2 c a1 _ bk ⟨l2,ad,Z,o2,ac,bc,rfl,I2,a2⟩;dsimp only;have la:=I2.la;have lb:=I2.lb;have ma:=I2.ma;have mb:=I2.mb;obtain⟨y,y1,y2,y3⟩:=zhJ (a:=b) (n:=Z) (by lia) mb;obtain⟨z,z1,z2,z3⟩:=zhJ la ma;show wpS_bind (yj y1 (wpS_bind (yj z1 (wpS_bind (zr8 R (hb _ y2) (ha _ z2) (l2.kind.trans hk) ?_)))));have mg:=I2.mg;by_cases a3:f y<f z;rw[a9 a3];dsimp only;rw[if_pos rfl];show wpS_bind (yj z1 ?_);have ub:=mg.ub;rw[y3] at ub;have ub:=a6.mp ub
  have m2:Mg (geF f) (a.toList++b.toList) (o2.push z).toList (a.toList.take (ad - 1)).reverse (b.toList.take Z).reverse:=by
   rw[z3] at mg;rw[bQ];show Mg.a (c:=[z]) mg λx hx w Y=>?_;rw[ao.mp hx];rw[y3] at Y;change f w<=f z;rcases ay.mp Y with rfl | Y;lia;have h9:f w<=f y:=ub.1 w Y;lia
  by_cases e3:(ad - 1==0)=true;rw[if_pos e3];exact wpS_pure ⟨l2,.inl ⟨_,_,_,_,_,_,rfl,zel m2 (.inl (cb e3))⟩⟩;rw[if_neg e3];have a4:ad - 1≠0:=λq=>e3 (by rw[q];rfl);split;exact wpS_pure ⟨l2,.inr ⟨_,_,_,_,_,rfl,⟨m2,by lia,by lia,lb,mb⟩,by lia⟩⟩;exact wpS_pure ⟨l2,_,_,_,_,_,rfl,⟨m2,by lia,by lia,lb,mb⟩,by lia⟩;rw[aZ a3];dsimp only;rw[if_neg av];show wpS_bind (yj y1 ?_);have ua:=mg.ua;rw[z3] at ua;have ua:=a6.mp ua
  have m2:Mg (geF f) (a.toList++b.toList) (o2.push y).toList (a.toList.take ad).reverse (b.toList.take (Z - 1)).reverse:=by
   rw[y3] at mg;rw[bQ];show Mg.b (c:=[y]) mg λx hx w Y=>?_;rw[ao.mp hx];rw[z3] at Y;change f w<=f y;rcases ay.mp Y with rfl | Y;lia;have h9:f w<=f z:=ua.1 w Y;lia
  by_cases e3:(Z - 1==1)=true;rw[if_pos e3];exact wpS_pure ⟨l2,.inl ⟨_,_,_,_,_,_,rfl,zdd m2 e3 nb hf⟩⟩;rw[if_neg e3];have a4:Z - 1≠1:=λq=>e3 (by rw[q];rfl);split;exact wpS_pure ⟨l2,.inr ⟨_,_,_,_,_,rfl,⟨m2,la,ma,by lia,by lia⟩,by lia⟩⟩;exact wpS_pure ⟨l2,_,_,_,_,_,rfl,⟨m2,la,ma,by lia,by lia⟩,by lia⟩;rintro c a1 ⟨l2,ad,Z,o2,ac,bc,rfl,I2,a2⟩;have la:=I2.la;have lb:=I2.lb;lia
  ·rintro c a1 ⟨l2,⟨r,ad,Z,o2,ac,bc,rfl,ht⟩ | ⟨ad,Z,o2,ac,bc,rfl,I2,a2⟩⟩;exact wpS_pure ⟨l2,_,_,_,_,_,rfl,ht⟩;dsimp only;show wpS_bind (wpS_lift (cS ⟨rfl,?_⟩))
   show wpS_bind (wpS_mono (bL (I:=λx c U=>Like st U/\∃F J B g ac bc,c=(none,F,J,B,g,ac,bc)/\HiI f (a.toList++b.toList) a b B F J/\F+J<=ad+Z)
    (Q:=λc U=>Like st U/\((∃r F J B g ac bc,c=(some r,F,J,B,g,ac,bc)/\zcA (leF f) (a.toList++b.toList) r.toList)\/∃F J B g ac bc,c=(none,F,J,B,g,ac,bc)/\HiI f (a.toList++b.toList) a b B F J/\F+J<=ad+Z)) ?_ ?_ ⟨l2,_,_,_,_,_,_,rfl,I2,ai _⟩) ?_)
   ·rintro x3 c al _ bl ⟨l3,ag,O,o3,g3,an,ap,rfl,I3,as⟩;dsimp only;have la:=I3.la;have lb:=I3.lb;have ma:=I3.ma;have mb:=I3.mb;have mg:=I3.mg;obtain⟨y,y1,y2,y3⟩:=zhJ (a:=b) (n:=O) (by lia) mb;have ub:=mg.ub;rw[y3] at ub;have ub:=a6.mp ub;by_cases g0:g3 > 1
    case' pos=>rw[if_pos g0]
    case' neg=>rw[if_neg g0]
    all_goals
     show wpS_bind (dq ?_);have lk:∀g,Like st (SortSt.mk' (kindOf al) (arrOf al) (pendingOf al) g (failedOf al)):=λg=>⟨l3.kind,l3.arr,l3.pend,l3.fail⟩;show wpS_bind (yj y1 ?_);show wpS_bind (zhH (left:=false) (base:=0) (n:=ag) (hint:=ag - 1) R (hb _ y2) ha (by lia) (by lia) (sa.sublist ((cg _ _).trans (ee _ _))) ((lk _).kind.trans hk) λk k1 k2 k3=>?_);dsimp only;rw[ek] at k2 k3;have h4:∀w∈(a.toList.take k).reverse,f w<=f y:=λw Y=>by have h5:=k2 w (cy.mp Y);unfold xj at h5;rw[if_neg av,dZ,bP] at h5;lia
     have m4:Mg (geF f) (a.toList++b.toList) (o3++(a.extract k ag).reverse).toList (a.toList.take k).reverse (b.toList.take O).reverse:=by
      rw[bh,zis];show Mg.a (by rw[zic _ k1];exact mg) λx hx w Y=>?_;have h5:=k3 x (cy.mp hx);unfold xj at h5;rw[if_neg av,fB,cj] at h5;rw[y3] at Y;change f w<=f x;rcases ay.mp Y with rfl | Y;lia;have h9:f w<=f y:=ub.1 w Y;lia
     have q2:k<=a.size:=by lia
     have q5:k+O<=ad+Z:=by lia
     by_cases k0:ag - k > 0
     case' pos=>
      rw[if_pos k0];by_cases e4:(k==0)=true;rw[if_pos e4];exact wpS_pure ⟨lk _,.inl ⟨_,_,_,_,_,_,_,rfl,zel m4 (.inl (cb e4))⟩⟩;rw[if_neg e4];have a5:k≠0:=λq=>e4 (by rw[q];rfl);have q1:1<=k:=by lia
      clear e4 a5 k1 k2 k3;generalize o3++(a.extract k ag).reverse=o4 at m4 ⊢
     case' neg=>
      rw[if_neg k0];have a7:k=ag:=by lia
      subst a7;have q1:1<=k:=la;clear m4;have m4:=mg;clear k1 k2 k3;generalize ho:o3=o4 at m4 ⊢
     all_goals
      show wpS_bind (yj y1 ?_);have m5:Mg (geF f) (a.toList++b.toList) (o4.push y).toList (a.toList.take k).reverse (b.toList.take (O - 1)).reverse:=by rw[y3] at m4;rw[bQ];exact Mg.b (c:=[y]) m4 λx hx w Y=>by rw[ao.mp hx];exact h4 w Y
      by_cases e6:(O - 1==1)=true;rw[if_pos e6];exact wpS_pure ⟨lk _,.inl ⟨_,_,_,_,_,_,_,rfl,zdd m5 e6 nb hf⟩⟩;rw[if_neg e6];have bo:O - 1≠1:=λq=>e6 (by rw[q];rfl);obtain⟨z,z1,z2,z3⟩:=zhJ q1 q2;show wpS_bind (yj z1 ?_);have ua:=m5.ua;rw[z3] at ua;have ua:=a6.mp ua;show wpS_bind (zhH (left:=true) (base:=0) (n:=O - 1) (hint:=O - 1 - 1) R (ha _ z2) hb (by lia) (by lia) (sb.sublist ((cg _ _).trans (ee _ _))) ((lk _).kind.trans hk) λj j1 j2 j3=>?_);dsimp only;rw[ek] at j2 j3;have h6:∀w∈(b.toList.take j).reverse,f w<=f z:=λw Y=>by have h5:=j2 w (cy.mp Y);unfold xj at h5;rw[if_pos rfl,cj] at h5;lia
      have m6:Mg (geF f) (a.toList++b.toList) (o4.push y++(b.extract j (O - 1)).reverse).toList (a.toList.take k).reverse (b.toList.take j).reverse:=by
       rw[bh,zis];show Mg.b (by rw[zic _ j1];exact m5) λx hx w Y=>?_;have h5:=j3 x (cy.mp hx);unfold xj at h5;rw[if_pos rfl,bP] at h5;rw[z3] at Y;change f w<=f x;rcases ay.mp Y with rfl | Y;lia;have h9:f w<=f z:=ua.1 w Y;lia
      by_cases j0:O - 1 - j > 0
      case' pos=>
       rw[if_pos j0];by_cases e7:(j==1)=true;rw[if_pos e7];exact wpS_pure ⟨lk _,.inl ⟨_,_,_,_,_,_,_,rfl,zdd m6 e7 nb hf⟩⟩;rw[if_neg e7];by_cases e8:(j==0)=true;rw[if_pos e8];exact wpS_pure ⟨lk _,.inl ⟨_,_,_,_,_,_,_,rfl,zel m6 (.inr (cb e8))⟩⟩;rw[if_neg e8];have ba:j≠1:=λq=>e7 (by rw[q];rfl);have bb:j≠0:=λq=>e8 (by rw[q];rfl);have q3:2<=j:=by lia
       clear e7 e8 ba bb j2 j3;generalize o4.push y++(b.extract j (O - 1)).reverse=o5 at m6 ⊢
      case' neg=>
       rw[if_neg j0];have hj:j=O - 1:=by lia
       have q3:2<=j:=by lia
       clear m6;have m6:=m5;rw[<- hj] at m6 ⊢;clear j2 j3;generalize o4.push y=o5 at m6 ⊢
      all_goals
       show wpS_bind (yj z1 ?_);have m7:Mg (geF f) (a.toList++b.toList) (o5.push z).toList (a.toList.take (k - 1)).reverse (b.toList.take j).reverse:=by rw[z3] at m6;rw[bQ];exact Mg.a (c:=[z]) m6 λx hx w Y=>by rw[ao.mp hx];exact h6 w Y
       by_cases e9:(k - 1==0)=true;rw[if_pos e9];exact wpS_pure ⟨lk _,.inl ⟨_,_,_,_,_,_,_,rfl,zel m7 (.inl (cb e9))⟩⟩;rw[if_neg e9];have bs:k - 1≠0:=λq=>e9 (by rw[q];rfl);split;exact wpS_pure ⟨lk _,.inr ⟨_,_,_,_,_,_,rfl,⟨m7,by lia,by lia,q3,by lia⟩,by lia⟩⟩;exact wpS_pure ⟨lk _,_,_,_,_,_,_,rfl,⟨m7,by lia,by lia,q3,by lia⟩,by lia⟩
   rintro c al ⟨l3,ag,O,o3,g3,an,ap,rfl,I3,as⟩;exact⟨l3,.inr ⟨_,_,_,_,_,_,rfl,I3,as⟩⟩;rintro c al ⟨l3,⟨r,ag,O,o3,g3,an,ap,rfl,ht⟩ | ⟨ag,O,o3,g3,an,ap,rfl,I3,as⟩⟩;exact wpS_pure ⟨l3,_,_,_,_,_,rfl,ht⟩;dsimp only;exact wpS_bind (dq (wpS_pure ⟨⟨l3.kind,l3.arr,l3.pend,l3.fail⟩,_,_,_,_,rfl,I3,by lia⟩))
 rintro c a0 ⟨l1,ia,ib,out,g,rfl,I,hp⟩;have:=I.la;have:=I.lb;lia;rintro c a0 ⟨l1,r,ia,ib,out,g,rfl,ht⟩;exact wpS_pure (h _ _ l1 ht)
end
def kA (f:Keyed->Int)(a:Array Keyed)(i:Nat):Int:=match a[i]? with | some x=>f x | none=>0
def Seg (f:Keyed->Int)(a:Array Keyed)(lo hi:Nat):Prop:=∀i j,lo<=i->i<=j->j<hi->kA f a i<=kA f a j
def Gse (f:Keyed->Int)(a:Array Keyed)(lo hi:Nat):Prop:=∀i j,lo<=i->i<=j->j<hi->kA f a j<=kA f a i
structure Lk (lo:Nat)(st st':SortSt):Prop where
 kind:kindOf st'=kindOf st
 pend:pendingOf st'=pendingOf st
 fail:failedOf st'=failedOf st
 perm:(arrOf st').Perm (arrOf st)
 low:∀k,k<lo->(arrOf st')[k]?=(arrOf st)[k]?
section
variable {M:Model}{A:Ae}{E:AA}{s:AZ}{κ:SortKind}{L0:List Keyed}{f:Keyed->Int}
def zao(h:a[i]?=b[j]?):kA f a i=kA f b j:=by unfold kA;rw[h]
def Lk.refl (lo:Nat)(st:SortSt):Lk lo st st:=⟨rfl,rfl,rfl,.refl _,λ_ _=>rfl⟩
def Lk.trans {lo:Nat}{st B q:SortSt}(h:Lk lo st B)(k:Lk lo B q):Lk lo st q:=⟨k.kind.trans h.kind,k.pend.trans h.pend,k.fail.trans h.fail,k.perm.trans h.perm,λi hi=>(k.low i hi).trans (h.low i hi)⟩
def Lk.size {lo:Nat}{st q:SortSt}(h:Lk lo st q):(arrOf q).size=(arrOf st).size:=h.perm.size_eq
def Lk.mem {lo:Nat}{st q:SortSt}(h:Lk lo st q)(k:∀x∈arrOf st,x∈L0):∀x∈arrOf q,x∈L0:=λx B=>k x (h.perm.mem_iff.mp B)
def ze2 (R:zbd M A s κ L0 f){st:SortSt}{i j:Nat}(I:kindOf st=κ)(q:∀x∈arrOf st,x∈L0)(hi:i<(arrOf st).size)(J:j<(arrOf st).size){Q:Option Bool->SortSt->Prop}(h:Q (some (decide (kA f (arrOf st) i<kA f (arrOf st) j))) st):wpS M A E s (ltAt' i j) Q st:=by rw[ltAt'_eq];show wpS_bind (wpS_get ?_);have B:(arrOf st)[i]?=some (arrOf st)[i]:=aP hi;have F:(arrOf st)[j]?=some (arrOf st)[j]:=aP J;show wpS_bind (yj B (wpS_bind (yj F (zr8 R (q _ (dn _)) (q _ (dn _)) I ?_))));unfold kA at h;rw[B,F] at h;exact h
def zl9{st:SortSt}{Q:Unit->SortSt->Prop}(h:Q () (setArr st (mirror (arrOf st) i j ((j - i) / 2)))):wpS M A E s (reverseSlice' i j) Q st:=by rw[reverseSlice'_eq];exact dq h
def Lk.rev {lo:Nat}(st:SortSt){i j:Nat}(h1:lo<=i)(h2:j<=(arrOf st).size):Lk lo st (setArr st (mirror (arrOf st) i j ((j - i) / 2))):=⟨rfl,rfl,rfl,mirror_perm _ _ _ _,λk q=>by change (mirror (arrOf st) i j ((j - i) / 2))[k]?=_;rw[getElem?_mirror_all h2,if_neg (by lia)]⟩
def zbL(h2:j<=a.size)(k:Nat):kA f (mirror a i j ((j - i) / 2)) k=if i<=k/\k<j then kA f a (i+j - 1 - k) else kA f a k:=by
 have e:=getElem?_mirror_all (i:=i) h2 k;by_cases h:i<=k/\k<j;rw[if_pos h] at e ⊢;exact zao e;rw[if_neg h] at e ⊢;exact zao e
def uk {a:Array Keyed}{i j:Nat}(h2:j<=a.size)(h:∀k,i<=k->k<j->kA f a k=kA f a (j - 1))(k:Nat):kA f (mirror a i j ((j - i) / 2)) k=kA f a k:=by
 rw[zbL h2];split;rw[h _ (by lia) (by lia),h k (by lia) (by lia)];rfl
def Gse.turn {a:Array Keyed}{i j:Nat}(h2:j<=a.size)(h:Gse f a i j):Seg f (mirror a i j ((j - i) / 2)) i j:=λp q B I F=>by rw[zbL h2,zbL h2,if_pos ⟨B,by lia⟩,if_pos ⟨by lia,F⟩];exact h _ _ (by lia) (by lia) (by lia)
def zhG (R:zbd M A s κ L0 f){st:SortSt}{lo nrem:Nat}(hk:kindOf st=κ)(ha:∀x∈arrOf st,x∈L0)(h1:1<=nrem)(hz:lo+nrem<=(arrOf st).size){Q:Option Nat->SortSt->Prop}
  (h:∀m st',Lk lo st st'->1<=m->m<=nrem->Seg f (arrOf st') lo (lo+m)->Q (some m) st'):wpS M A E s (countRun' lo nrem) Q st:=by
 rw[countRun'_eq]
 have asc:∀ (n:Nat) (st1:SortSt),Lk lo st st1->1<=n->n<=nrem->Seg f (arrOf st1) lo (lo+n)->∀ {G:Option (Option Nat)×Nat->SortSt->Prop} {body:Nat->Option (Option Nat)×Nat->StateT SortSt Sem (ForInStep (Option (Option Nat)×Nat))},
   (∀m,n<=m->m<=nrem->Seg f (arrOf st1) lo (lo+m)->(m<nrem->kA f (arrOf st1) (lo+m)<kA f (arrOf st1) (lo+m - 1))->G (none,m) st1)->
   (∀x m (G':ForInStep (Option (Option Nat)×Nat)->SortSt->Prop),n<=m->m<nrem->(kA f (arrOf st1) (lo+m)<kA f (arrOf st1) (lo+m - 1)->G' (.done (none,m)) st1)->(¬ kA f (arrOf st1) (lo+m)<kA f (arrOf st1) (lo+m - 1)->G' (.yield (none,m+1)) st1)->wpS M A E s (body x (none,m)) G' st1)->
   wpS M A E s (forIn [n:nrem] (none,n) body) G st1:=by
  intro n st1 l1 hn1 hn2 hs G body hG hb;have hz1:=l1.size;show bL (I:=λx c st2=>st2=st1/\c=(none,x)/\n<=x/\Seg f (arrOf st1) lo (lo+x)) ?_ ?_ ⟨rfl,rfl,ai _,hs⟩;rintro x c st2 hx1 hx2 ⟨rfl,rfl,_,hs2⟩;show hb x x _ hx1 hx2 (λe=>hG x hx1 (by lia) hs2 λ_=>e) (λe=>?_);show⟨rfl,rfl,by lia,λi j p q r=>?_⟩;by_cases e1:j<lo+x;exact hs2 i j p q e1;obtain rfl:j=lo+x:=by lia
  by_cases e2:i=lo+x;subst e2;exact da _;have:=hs2 i (lo+x - 1) p (by lia) (by lia);lia;rintro c st2 ⟨rfl,rfl,_,hs2⟩;have e:max n nrem=nrem:=by lia
  rw[e] at hs2 ⊢;exact hG nrem hn2 (ai _) hs2 λz=>by lia
 have step:∀ (st1:SortSt),Lk lo st st1->∀m,1<=m->m<nrem->∀ (G':ForInStep (Option (Option Nat)×Nat)->SortSt->Prop),(kA f (arrOf st1) (lo+m)<kA f (arrOf st1) (lo+m - 1)->G' (.done (none,m)) st1)->(¬ kA f (arrOf st1) (lo+m)<kA f (arrOf st1) (lo+m - 1)->G' (.yield (none,m+1)) st1)->
   ∀ {k:Option Bool->StateT SortSt Sem (ForInStep (Option (Option Nat)×Nat))},k (some true)=pure (.done (none,m))->k (some false)=pure (.yield (none,m+1))->wpS M A E s (ltAt' (lo+m) (lo+m - 1) >>= k) G' st1:=by
  intro st1 l1 m h2 h3 G' g1 g2 k k1 k2;have hz1:=l1.size;show wpS_bind (ze2 R (l1.kind.trans hk) (l1.mem ha) (by lia) (by lia) ?_);by_cases e:kA f (arrOf st1) (lo+m)<kA f (arrOf st1) (lo+m - 1);rw[a9 e,k1];exact wpS_pure (g1 e);rw[aZ e,k2];exact wpS_pure (g2 e)
 show wpS_bind (asc 1 st (Lk.refl _ _) (ai _) h1 (λi j p q r=>by rw[show i=j by lia];exact da _) (λm hm1 hm2 hs hd=>?_) (λx m G' q1 q2 g1 g2=>step st (Lk.refl _ _) m (by lia) q2 G' g1 g2 rfl rfl))
 have fall:∀st1,Lk lo st st1->m<nrem->Gse f (arrOf st1) lo (lo+(m+1))->∀ {G:Option (Option Nat)×Nat×Nat->SortSt->Prop} {body:Nat->Option (Option Nat)×Nat×Nat->StateT SortSt Sem (ForInStep (Option (Option Nat)×Nat×Nat))},
   (∀n q st2,Lk lo st st2->m+1<=n->n<=nrem->q+1<=n->Gse f (arrOf st2) lo (lo+n)->(∀k,lo+n - (q+1)<=k->k<lo+n->kA f (arrOf st2) k=kA f (arrOf st2) (lo+n - 1))->G (none,n,q) st2)->
   (∀x n q st2 (G':ForInStep (Option (Option Nat)×Nat×Nat)->SortSt->Prop),Lk lo st st2->m+1<=n->n<nrem->q+1<=n->
    (kA f (arrOf st2) (lo+n)<kA f (arrOf st2) (lo+n - 1)->q > 0->G' (.yield (none,n+1,0)) (setArr st2 (mirror (arrOf st2) (lo+n - (q+1)) (lo+n) ((lo+n - (lo+n - (q+1))) / 2))))->(kA f (arrOf st2) (lo+n)<kA f (arrOf st2) (lo+n - 1)->¬ q > 0->G' (.yield (none,n+1,0)) st2)->
    (kA f (arrOf st2) (lo+n - 1)<kA f (arrOf st2) (lo+n)->G' (.done (none,n,q)) st2)->(kA f (arrOf st2) (lo+n)=kA f (arrOf st2) (lo+n - 1)->G' (.yield (none,n+1,q+1)) st2)->wpS M A E s (body x (none,n,q)) G' st2)->
   wpS M A E s (forIn [m+1:nrem] (none,m+1,0) body) G st1:=by
  intro st1 l1 hmn hg G body hG hb;show bL (I:=λx c st2=>∃q,c=(none,x,q)/\Lk lo st st2/\m+1<=x/\q+1<=x/\Gse f (arrOf st2) lo (lo+x)/\∀k,lo+x - (q+1)<=k->k<lo+x->kA f (arrOf st2) k=kA f (arrOf st2) (lo+x - 1)) ?_ ?_ ⟨0,rfl,l1,ai _,by lia,hg,λk p q=>by congr 1;lia⟩;rintro x c st2 hx1 hx2 ⟨q,rfl,l2,p1,p2,p3,p4⟩;have hz2:=l2.size
  have more:∀st3:SortSt,(∀k,kA f (arrOf st3) k=kA f (arrOf st2) k)->kA f (arrOf st2) (lo+x)<=kA f (arrOf st2) (lo+x - 1)->Gse f (arrOf st3) lo (lo+(x+1)):=λst3 e3 hle i j a1 a2 a3=>by
   rw[e3,e3];by_cases e1:j<lo+x;exact p3 i j a1 a2 e1;obtain rfl:j=lo+x:=by lia
   by_cases e2:i=lo+x;subst e2;exact da _;have:=p3 i (lo+x - 1) a1 (by lia) (by lia);lia
  show hb x x q st2 _ l2 p1 hx2 p2 (λe hq=>?_) (λe hq=>?_) (λe=>?_) (λe=>?_);have e3:∀k,kA f (mirror (arrOf st2) (lo+x - (q+1)) (lo+x) ((lo+x - (lo+x - (q+1))) / 2)) k=kA f (arrOf st2) k:=uk (by lia) p4;exact⟨0,rfl,l2.trans (Lk.rev st2 (by lia) (by lia)),by lia,by lia,more _ e3 (by lia),λk a1 a2=>by congr 1;lia⟩;exact⟨0,rfl,l2,by lia,by lia,more _ (λ_=>rfl) (by lia),λk a1 a2=>by congr 1;lia⟩;exact hG x q st2 l2 p1 (by lia) p2 p3 p4;show⟨q+1,rfl,l2,by lia,by lia,more _ (λ_=>rfl) (by lia),λk a1 a2=>?_⟩;rw[show lo+(x+1) - 1=lo+x by lia];by_cases e1:k=lo+x;rw[e1];rw[p4 k (by lia) (by lia),e];rintro c st2 ⟨q,rfl,l2,p1,p2,p3,p4⟩;have e:max (m+1) nrem=nrem:=by lia
  rw[e] at p1 p2 p3 p4 ⊢;exact hG nrem q st2 l2 p1 (ai _) p2 p3 p4
 dsimp only;by_cases e1:(m==nrem)=true;rw[if_pos e1];exact wpS_pure (h m st (Lk.refl _ _) hm1 hm2 hs);rw[if_neg e1];have e1':m<nrem:=by have:m≠nrem:=λz=>e1 (by rw[z];exact cx _);lia
 have hd:=hd e1';by_cases e2:m > 1
 case' pos=>
  rw[if_pos e2];show wpS_bind (ze2 R hk ha (by lia) (by lia) ?_);by_cases e3:kA f (arrOf st) lo<kA f (arrOf st) (lo+m - 1);rw[a9 e3];exact wpS_pure (h m st (Lk.refl _ _) hm1 hm2 hs);rw[aZ e3];dsimp only;rw[if_neg av];show wpS_bind (zl9 ?_);have l1:=Lk.rev (lo:=lo) st (i:=lo) (j:=lo+m) (ai _) (by lia);have eq0:∀k,lo<=k->k<lo+m->kA f (arrOf st) k=kA f (arrOf st) (lo+m - 1):=λk a1 a2=>by have h3:=hs lo k (ai _) a1 a2;have h4:=hs k (lo+m - 1) a1 (by lia) (by lia);lia
  have eq1:=uk (i:=lo) (by lia) eq0
  have g1:Gse f (mirror (arrOf st) lo (lo+m) ((lo+m - lo) / 2)) lo (lo+(m+1)):=λi j a1 a2 a3=>by
   rw[eq1,eq1];by_cases ej:j<lo+m;rw[eq0 j (by lia) ej,eq0 i a1 (by lia)];exact da _;obtain rfl:j=lo+m:=by lia
   by_cases ei:i=lo+m;rw[ei];exact da _;rw[eq0 i a1 (by lia)];lia
  have g1:Gse f (arrOf (setArr st (mirror (arrOf st) lo (lo+m) ((lo+m - lo) / 2)))) lo (lo+(m+1)):=g1;generalize setArr st (mirror (arrOf st) lo (lo+m) ((lo+m - lo) / 2))=st1 at l1 g1 ⊢
 case' neg=>
  rw[if_neg e2]
  obtain⟨st1,l1,g1,hst⟩:∃st1,Lk lo st st1/\Gse f (arrOf st1) lo (lo+(m+1))/\st1=st:=⟨st,Lk.refl _ _,λi j a1 a2 a3=>by
   by_cases e:i=j;rw[e];exact da _;rw[show i=lo+m - 1 by lia,show j=lo+m by lia];lia,rfl⟩
  rw[<- hst]
 all_goals
  show wpS_bind (wpS_lift (cS ⟨rfl,?_⟩));show wpS_bind (fall st1 l1 e1' g1 (λn q st2 l2 n1 n2 q1 g2 g3=>?_) (λx n q st2 G' l2 n1 n2 q1 b1 b2 b3 b4=>?_))
  ·dsimp only;have hz2:=l2.size;by_cases e4:q > 0
   case' pos=>
    rw[if_pos e4];show wpS_bind (zl9 ?_);have l3:=l2.trans (Lk.rev (lo:=lo) st2 (i:=lo+n - (q+1)) (j:=lo+n) (by lia) (by lia));have eq3:=uk (i:=lo+n - (q+1)) (by lia) g3;have g4:Gse f (arrOf (setArr st2 (mirror (arrOf st2) (lo+n - (q+1)) (lo+n) ((lo+n - (lo+n - (q+1))) / 2)))) lo (lo+n):=λi j a1 a2 a3=>by have:=g2 i j a1 a2 a3;rw[<- eq3 i,<- eq3 j] at this;exact this
    generalize setArr st2 (mirror (arrOf st2) (lo+n - (q+1)) (lo+n) ((lo+n - (lo+n - (q+1))) / 2))=st3 at l3 g4 ⊢
   case' neg=>
    rw[if_neg e4];obtain⟨st3,l3,g4,hst3⟩:∃st3,Lk lo st st3/\Gse f (arrOf st3) lo (lo+n)/\st3=st2:=⟨st2,l2,g2,rfl⟩;rw[<- hst3]
   all_goals
    show wpS_bind (zl9 ?_);have hz3:=l3.size;have l4:=l3.trans (Lk.rev (lo:=lo) st3 (i:=lo) (j:=lo+n) (ai lo) (by lia));have g5:=Gse.turn (by lia) g4;show wpS_bind (asc n _ l4 (by lia) n2 g5 (λm' a1 a2 a3 a4=>?_) (λx m' G' q1 q2 c1 c2=>step _ l4 m' (by lia) q2 G' c1 c2 rfl rfl));exact wpS_pure (h m' _ l4 (by lia) a2 a3)
  dsimp only;have hz2:=l2.size;show wpS_bind (ze2 R (l2.kind.trans hk) (l2.mem ha) (by lia) (by lia) ?_);by_cases e5:kA f (arrOf st2) (lo+n)<kA f (arrOf st2) (lo+n - 1);rw[a9 e5];dsimp only;rw[if_pos rfl];by_cases e6:q > 0;rw[if_pos e6];exact wpS_bind (zl9 (wpS_pure (b1 e5 e6)));rw[if_neg e6];exact wpS_pure (b2 e5 e6);rw[aZ e5];dsimp only;rw[if_neg av];show wpS_bind (ze2 R (l2.kind.trans hk) (l2.mem ha) (by lia) (by lia) ?_);by_cases e6:kA f (arrOf st2) (lo+n - 1)<kA f (arrOf st2) (lo+n);rw[a9 e6];exact wpS_pure (b3 e6);rw[aZ e6];exact wpS_pure (b4 (by lia))
def zr9{st:SortSt}{Q:Unit->SortSt->Prop}(h:Q () (setArr st (bubble (arrOf st) i (i - j)))):wpS M A E s (moveDown' i j) Q st:=by rw[moveDown'_eq];exact dq h
def Lk.move {lo:Nat}(st:SortSt){i j:Nat}(h1:lo<=j)(h2:i<(arrOf st).size)(q:j<=i):Lk lo st (setArr st (bubble (arrOf st) i (i - j))):=⟨rfl,rfl,rfl,bubble_perm _ _ _,λk B=>by change (bubble (arrOf st) i (i - j))[k]?=_;rw[getElem?_bubble h2 _ (by lia),if_neg (by lia),if_neg (by lia)]⟩
def zeA(h2:i<a.size)(F:j<=i)(k:Nat):kA f (bubble a i (i - j)) k=if k=j then kA f a i else if j<k/\k<=i then kA f a (k - 1) else kA f a k:=by
 have e:=getElem?_bubble h2 (i - j) (by lia) k;rw[show i - (i - j)=j by lia] at e;by_cases q:k=j;rw[if_pos q] at e ⊢;exact zao e;rw[if_neg q] at e ⊢;by_cases B:j<k/\k<=i;rw[if_pos B] at e ⊢;exact zao e;rw[if_neg B] at e ⊢;exact zao e
def ze1 (R:zbd M A s κ L0 f){st:SortSt}{lo n U:Nat}(hk:kindOf st=κ)(ha:∀x∈arrOf st,x∈L0)(h1:U<=n)(hn:1<=n)(hz:lo+n<=(arrOf st).size)(hs:Seg f (arrOf st) lo (lo+U)){Q:Bool->SortSt->Prop}
  (h:∀q,Lk lo st q->Seg f (arrOf q) lo (lo+n)->Q true q):wpS M A E s (binarySort' lo n U) Q st:=by
 rw[binarySort'_eq];show wpS_bind (wpS_mono (bL (I:=λx c q=>c=(none,())/\Lk lo st q/\Seg f (arrOf q) lo (lo+x)) (Q:=λc q=>c=(none,())/\Lk lo st q/\Seg f (arrOf q) lo (lo+n)) ?_ ?_ ⟨rfl,Lk.refl _ _,?_⟩) ?_);rintro k c B ad ag ⟨rfl,O,J⟩;have al:=O.size;dsimp only
 show wpS_bind (wpS_mono (bL (I:=λx c q=>q=B/\∃l r,c=(none,l,r)/\l<=r/\r<=k/\(∀i,i<l->kA f (arrOf B) (lo+i)<=kA f (arrOf B) (lo+k))/\(∀i,r<=i->i<k->kA f (arrOf B) (lo+k)<kA f (arrOf B) (lo+i))/\r - l+x<=k)
  (Q:=λc q=>q=B/\∃l,c=(none,l,l)/\l<=k/\(∀i,i<l->kA f (arrOf B) (lo+i)<=kA f (arrOf B) (lo+k))/\(∀i,l<=i->i<k->kA f (arrOf B) (lo+k)<kA f (arrOf B) (lo+i))) ?_ ?_ ⟨rfl,0,k,rfl,by lia,by lia,λi hi=>by lia,λi a1 a2=>by lia,by lia⟩) ?_)
 rintro x c F _ hx ⟨rfl,l,r,rfl,p1,p2,p3,p4,p5⟩;dsimp only;by_cases e:l ≥ r;rw[if_pos e];obtain rfl:l=r:=by lia
 exact wpS_pure ⟨rfl,l,rfl,p2,p3,p4⟩;rw[if_neg e];show wpS_bind (ze2 R (O.kind.trans hk) (O.mem ha) (by lia) (by lia) ?_);by_cases e2:kA f (arrOf F) (lo+k)<kA f (arrOf F) (lo+(l+r) / 2);rw[a9 e2];show wpS_pure ⟨rfl,l,(l+r) / 2,rfl,by lia,by lia,p3,λi a1 a2=>?_,by lia⟩;have:=J (lo+(l+r) / 2) (lo+i) (by lia) (by lia) (by lia);lia;rw[aZ e2];show wpS_pure ⟨rfl,(l+r) / 2+1,r,rfl,by lia,p2,λi a1=>?_,p4,by lia⟩;have:=J (lo+i) (lo+(l+r) / 2) (by lia) (by lia) (by lia);lia;rintro c F ⟨rfl,l,r,rfl,p1,p2,p3,p4,p5⟩;obtain rfl:l=r:=by lia
 exact⟨rfl,l,rfl,p2,p3,p4⟩;rintro c F ⟨rfl,l,rfl,p2,p3,p4⟩;dsimp only;show wpS_bind (zr9 (wpS_pure ⟨rfl,O.trans (Lk.move F (by lia) (by lia) (by lia)),λi j a1 a2 a3=>?_⟩));change kA f (bubble (arrOf F) (lo+k) (lo+k - (lo+l))) i<=kA f (bubble (arrOf F) (lo+k) (lo+k - (lo+l))) j;rw[zeA (by lia) (by lia),zeA (by lia) (by lia)];have up:=λx y b1 b2 b3=>J x y b1 b2 b3;by_cases ei:i=lo+l;rw[if_pos ei];by_cases Y:j=lo+l;rw[if_pos Y];exact da _;rw[if_neg Y,if_pos ⟨by lia,by lia⟩];have:=p4 (j - 1 - lo) (by lia) (by lia);rw[show lo+(j - 1 - lo)=j - 1 by lia] at this;lia;rw[if_neg ei];by_cases Z:lo+l<i/\i<=lo+k;rw[if_pos Z,if_neg (by lia),if_pos ⟨by lia,by lia⟩];exact J _ _ (by lia) (by lia) (by lia);rw[if_neg Z];by_cases Y:j=lo+l;rw[if_pos Y];have:=p3 (i - lo) (by lia);rw[show lo+(i - lo)=i by lia] at this;exact this;rw[if_neg Y];by_cases ac:lo+l<j/\j<=lo+k;rw[if_pos ac];exact J _ _ (by lia) (by lia) (by lia);rw[if_neg ac];exact J _ _ (by lia) (by lia) (by lia);rintro c B ⟨rfl,O,J⟩;have e:max (max U 1) n=n:=by lia
 rw[e] at J;exact⟨rfl,O,J⟩;by_cases e:1<=U;rw[show max U 1=U by lia];exact hs;intro i j a1 a2 a3;rw[show i=j by lia];exact da _;rintro c B ⟨rfl,O,J⟩;exact wpS_pure (h B O J)
end
def zks (base:Nat):∀ (l:List Keyed) (n:Nat) (a:Array Keyed),base+n+l.length<=a.size->((l.zipIdx n).foldl (λa (p:Keyed×Nat)=>a.setIfInBounds (base+p.2) p.1) a).toList=a.toList.take (base+n)++(l++a.toList.drop (base+n+l.length))
 | [],n,a,_=>by simp
 | p::l,n,a,h=>by
  rw[aM] at h;rw[List.zipIdx_cons,List.foldl_cons,zks base l (n+1) _ (by rw[Array.size_setIfInBounds];lia),Array.toList_setIfInBounds,List.set_eq_take_append_cons_drop,if_pos (by rw[aH];lia)];have e:a.toList.take (base+n)++p::a.toList.drop (base+n+1)=(a.toList.take (base+n)++[p])++a.toList.drop (base+n+1):=by simp
  have q:(a.toList.take (base+n)++[p]).length=base+n+1:=by simp;lia
  change List.take (base+(n+1)) (a.toList.take (base+n)++p::a.toList.drop (base+n+1))++(l++List.drop (base+(n+1)+l.length) (a.toList.take (base+n)++p::a.toList.drop (base+n+1)))=_;rw[e,eV (by rw[q];lia),<- em,List.drop_left' (by rw[q];lia),em,aM];rw[az,show base+n+1+l.length=base+n+(l.length+1) by lia];rfl
def zkU{P A S:List Keyed}(h:P.length=n):(P++(A++S)).drop n=A++S:=List.drop_left' h
def uM{P A S:List Keyed}(h:P.length=n)(k:A.length=m):((P++(A++S)).drop n).take m=A:=by rw[zkU h,eV k]
section
variable {M:Model}{A:Ae}{E:AA}{s:AZ}{κ:SortKind}{L0:List Keyed}{f:Keyed->Int}
def zir {a:Array Keyed}{P X S:List Keyed}{i j:Nat}(e:a.toList=P++(X++S))(h:P.length=i)(k:X.length+i=j):(a.extract i j).toList=X:=by
 have:(a.extract i j).toList=(a.toList.drop i).take (j - i):=by simp
 rw[this,e,uM h (by lia)]
def zml{a:Array Keyed}{P S:List Keyed}(e:a.toList=P++x::S)(h:P.length=i):a[i]?=some x:=by rw[<- bY,e,<- h,bi (ai _)];simp
def zmh {st st':SortSt}{Q:PUnit->SortSt->Prop}(h:Q ⟨⟩ st'):wpS M A E s (set st':StateT SortSt Sem PUnit) Q st:=by unfold wpS;rw[StateT.run_set];exact ae ⟨rfl,h⟩
def zkd (R:zbd M A s κ L0 f){st:SortSt}{i:Nat}{Z pv:List (Nat×Nat×Nat)}{P U V S:List Keyed}{p1 p2:Nat}(hk:kindOf st=κ)(ag:failedOf st=none)(ha:∀x∈arrOf st,x∈L0)
  (B:(arrOf st).toList=P++(U++(V++S))) (al:pendingOf st=(Z++(P.length,U.length,p1)::(P.length+U.length,V.length,p2)::pv).toArray) (hi:i=Z.length) (nu:U≠[]) (nv:V≠[]) (su:U.Pairwise (leF f)) (sv:V.Pairwise (leF f)) {Q:Bool->SortSt->Prop}
  (h:∀ (I:SortSt) (C:List Keyed),kindOf I=κ->failedOf I=none->(arrOf I).toList=P++(C++S)->C.Perm (U++V)->C.Pairwise (leF f)->pendingOf I=(Z++(P.length,U.length+V.length,p1)::pv).toArray->Q true I):wpS M A E s (mergeAt' i) Q st:=by
 subst hi;show wpS_bind (wpS_get ?_);have g1:(pendingOf st)[Z.length]?=some (P.length,U.length,p1):=by rw[al];simp
 have g2:(pendingOf st)[Z.length+1]?=some (P.length+U.length,V.length,p2):=by rw[al];simp
 have g3:((pendingOf st).setIfInBounds Z.length (P.length,U.length+V.length,p1)).eraseIdxIfInBounds (Z.length+1)=(Z++(P.length,U.length+V.length,p1)::pv).toArray:=by rw[al];simp[List.eraseIdx_append_of_length_le]
 rw[g1,g2];dsimp only;show wpS_bind (zmh ?_);rw[g3]
 obtain⟨y,V',rfl⟩:∃y V',V=y::V':=by
  cases V with
  | nil=>exact absurd rfl nv
  | cons y V'=>exact⟨y,V',rfl⟩
 obtain⟨U',z,rfl⟩:∃U' z,U=U'++[z]:=⟨U.dropLast,U.getLast nu,(bp nu).symm⟩;have hy:(arrOf st)[P.length+(U'++[z]).length]?=some y:=zml (P:=P++(U'++[z])) (S:=V'++S) (by rw[B];simp) (by simp);have hz:(arrOf st)[P.length+(U'++[z]).length - 1]?=some z:=zml (P:=P++U') (S:=y::V'++S) (by rw[B];simp) (by simp);have hsz:(arrOf st).size=P.length+((U'++[z]).length+((y::V').length+S.length)):=by rw[<- aH,B];simp only[ak]
 have ap:∀x∈U'++[z],x∈L0:=λx F=>ha x (by rw[<- bR,B];simp only[au] at F ⊢;rcases F with F | F <;> simp[F]);have inV:∀x∈y::V',x∈L0:=λx F=>ha x (by rw[<- bR,B];exact aE _ (aE _ (aQ _ F)));have cu:((arrOf st).toList.drop P.length).take (U'++[z]).length=U'++[z]:=by rw[B];exact uM rfl rfl
 have cv:((arrOf st).toList.drop (P.length+(U'++[z]).length)).take (y::V').length=y::V':=by rw[B,<- az];exact uM (by simp) rfl
 have hV:∀w∈y::V',f y<=f w:=λw J=>by
  rcases ay.mp J with rfl | J;exact da _;exact (a6.mp sv).1 w J
 have hU:∀w∈U'++[z],f w<=f z:=λw J=>by
  rcases au.mp J with J | J;exact (bm.mp su).2.2 w J z (by simp);rw[ao.mp J];exact da _
 generalize ac:U'++[z]=U at *;generalize an:y::V'=V at *;have yV:y∈V:=by rw[<- an];exact aj
 have zU:z∈U:=by rw[<- ac];simp
 have bk:1<=U.length:=by rw[<- ac];simp
 have bl:1<=V.length:=by rw[<- an];simp
 have ad:kindOf (SortSt.mk' (kindOf st) (arrOf st) (Z++(P.length,U.length+V.length,p1)::pv).toArray (gallopOf st) (failedOf st))=κ:=hk;show wpS_bind (yj hy ?_);show wpS_bind (zhH (left:=false) (base:=P.length) (n:=U.length) (hint:=0) R (inV _ yV) ha (by lia) (by lia) (by rw[cu];exact su) ad λk k1 k2 k3=>?_);dsimp only;have as:∀x∈U.take k,f x<=f y:=λx F=>by have O:=k2 x (by rw[<- cu,List.take_take,dS k1] at F;exact F);unfold xj at O;rw[if_neg av,dZ,bP] at O;lia
 have ba:∀x∈U.drop k,f y<f x:=λx F=>by have O:=k3 x (by rw[cu];exact F);unfold xj at O;rw[if_neg av,fB,cj] at O;exact O
 clear k2 k3;by_cases e1:(U.length - k==0)=true;rw[if_pos e1];have e1:=cb e1;show wpS_pure (h _ (U++V) hk ag (by rw[az];exact B) (en _) (bm.mpr ⟨su,sv,λa F b hb=>?_⟩) rfl);have h6:=as a (by rw[bt (by lia)];exact F);have h7:=hV b hb;change f a<=f b;lia;rw[if_neg e1];have bo:U.length - k≠0:=λq=>e1 (by rw[q];rfl);rw[show P.length+k+(U.length - k) - 1=P.length+U.length - 1 by lia];show wpS_bind (yj hz ?_);show wpS_bind (zhH (left:=true) (base:=P.length+U.length) (n:=V.length) (hint:=V.length - 1) R (ap _ zU) ha (by lia) (by lia) (by rw[cv];exact sv) ad λj j1 j2 j3=>?_);dsimp only;have bb:∀x∈V.take j,f x<f z:=λx F=>by have O:=j2 x (by rw[<- cv,List.take_take,dS j1] at F;exact F);unfold xj at O;rw[if_pos rfl,cj] at O;exact O
 have a0:∀x∈V.drop j,f z<=f x:=λx F=>by have O:=j3 x (by rw[cv];exact F);unfold xj at O;rw[if_pos rfl,bP] at O;lia
 clear j2 j3;by_cases e2:(j==0)=true;rw[if_pos e2];have e2:=cb e2;subst e2;show wpS_pure (h _ (U++V) hk ag (by rw[az];exact B) (en _) (bm.mpr ⟨su,sv,λa F b hb=>?_⟩) rfl);have h6:=a0 b hb;have h7:=hU a F;change f a<=f b;lia;rw[if_neg e2];have bs:j≠0:=λq=>e2 (by rw[q];rfl);have ex:((arrOf st).extract (P.length+k) (P.length+U.length)).toList=U.drop k:=zir (P:=P++U.take k) (S:=V++S) (by rw[B,az,<- az (U.take k),aV]) (by simp;lia) (by simp;lia);have ey:((arrOf st).extract (P.length+U.length) (P.length+U.length+j)).toList=V.take j:=zir (P:=P++U) (S:=V.drop j++S) (by rw[B,<- az (V.take j),aV,az]) (by simp) (by simp;lia);generalize hX:(arrOf st).extract (P.length+k) (P.length+U.length)=X at ex ⊢;generalize hY:(arrOf st).extract (P.length+U.length) (P.length+U.length+j)=Y at ey ⊢;have bc:X.size=U.length - k:=by rw[<- aH,ex];simp
 have bx:Y.size=j:=by rw[<- aH,ey];simp;lia
 have mX:∀x∈X,x∈U.drop k:=λx F=>by rw[<- ex];exact bR.mpr F
 have mY:∀x∈Y,x∈V.take j:=λx F=>by rw[<- ey];exact bR.mpr F
 have a1:∀x∈X,∀w,Y[0]?=some w->f w<=f x:=λx F w J=>by
  have h8:w=y:=by rw[<- bY,ey,bW (by lia),<- an] at J;exact (cG J).symm
  have:=ba x (mX x F);rw[h8];lia
 have a2:∀x∈Y,∀w,X[X.size - 1]?=some w->f x<=f w:=λx F w J=>by
  have h8:w=z:=by
   have ul:U.length=U'.length+1:=by rw[<- ac];simp
   rw[<- bY,ex,fw,bc,show k+(U.length - k - 1)=U'.length by lia,<- ac] at J;simpa using J.symm
  have:=bb x (mY x F);rw[h8];lia
 have fin:∀ (out:Array Keyed),zcA (leF f) (X.toList++Y.toList) out.toList->(U.take k++(out.toList++V.drop j)).Perm (U++V)/\(U.take k++(out.toList++V.drop j)).Pairwise (leF f)/\(out.toList.zipIdx.foldl (λa (p:Keyed×Nat)=>a.setIfInBounds (P.length+k+p.2) p.1) (arrOf st)).toList=P++((U.take k++(out.toList++V.drop j))++S):=λout tl=>by
  rw[ex,ey] at tl;have a3:out.toList.length=U.length - k+j:=by rw[tl.1.length_eq];simp;lia
  show⟨?_,?_,?_⟩;have h9:(U.take k++(out.toList++V.drop j)).Perm (U.take k++((U.drop k++V.take j)++V.drop j)):=(tl.1.append_right _).append_left _;have bd:U.take k++((U.drop k++V.take j)++V.drop j)=U++V:=by rw[az (U.drop k),aV,<- az,aV]
  rw[bd] at h9;exact h9;have Z:=bm.mp (by rw[aV];exact su:(U.take k++U.drop k).Pairwise (leF f));have pv:=bm.mp (by rw[aV];exact sv:(V.take j++V.drop j).Pairwise (leF f));show bm.mpr ⟨Z.1,bm.mpr ⟨tl.2,pv.2.1,λa h1 b h2=>?_⟩,λa h1 b h2=>?_⟩;rcases au.mp (tl.1.mem_iff.mp h1) with h1 | h1;have q1:=hU a (cA h1);have q2:=a0 b h2;change f a<=f b;lia;exact pv.2.2 a h1 b h2;have q1:=as a h1;change f a<=f b;rcases au.mp h2 with h2 | h2;rcases au.mp (tl.1.mem_iff.mp h2) with h2 | h2;exact Z.2.2 a h1 b h2;have q2:=hV b (bB h2);lia;have q2:=hV b (cA h2);lia;have h9:=zks (P.length+k) out.toList 0 (arrOf st) (by lia);rw[gg] at h9;rw[h9,B];have q1:P++(U++(V++S))=(P++U.take k)++(U.drop k++(V++S)):=by rw[az,<- az (U.take k),aV]
  have q2:P++(U++(V++S))=(P++(U++V.take j))++(V.drop j++S):=by rw[az,az,<- az (V.take j),aV]
  have q3:List.take (P.length+k) (P++(U++(V++S)))=P++U.take k:=by rw[q1];exact eV (by simp;lia)
  have q4:List.drop (P.length+k+out.toList.length) (P++(U++(V++S)))=V.drop j++S:=by rw[q2,a3];exact List.drop_left' (by simp;lia)
  rw[q3,q4];simp
 have a4:∀x∈X,x∈L0:=λx F=>ap x (cA (mX x F));have a5:∀x∈Y,x∈L0:=λx F=>inV x (bB (mY x F));have sX:X.toList.Pairwise (leF f):=by rw[ex];exact su.sublist (ee _ _)
 have sY:Y.toList.Pairwise (leF f):=by rw[ey];exact sv.sublist (cg _ _)
 by_cases e3:U.length - k<=j
 case' pos=>
  rw[if_pos e3];show wpS_bind (zkf R a4 a5 sX sY (by lia) (by lia) a1 a2 ad λout I lk tl=>?_)
 case' neg=>
  rw[if_neg e3];show wpS_bind (zke R a4 a5 sX sY (by lia) (by lia) a1 a2 ad λout I lk tl=>?_)
 all_goals
  obtain⟨r1,r2,r3⟩:=fin out tl;have be:arrOf I=arrOf st:=lk.arr;have a7:failedOf I=none:=lk.fail.trans ag;show wpS_bind (dq (wpS_bind (wpS_get ?_)));have h9:=h (SortSt.mk' (kindOf I) (out.toList.zipIdx.foldl (λa (p:Keyed×Nat)=>a.setIfInBounds (P.length+k+p.2) p.1) (arrOf I)) (pendingOf I) (gallopOf I) (failedOf I)) _ (lk.kind.trans hk) a7 (by rw[<- r3,<- be]) r1 r2 lk.pend;show wpS_pure ?_;change Q (failedOf I).isNone _;rw[a7];exact h9
end
def zbv:Nat->List (List Keyed×Nat)->List (Nat×Nat×Nat)
 | _,[]=>[]
 | s,(l,p)::r=>(s,l.length,p)::zbv (s+l.length) r
def zO (q:List (List Keyed×Nat)):List Keyed:=q.flatMap (·.1)
def zB (r:List Keyed×Nat)(v:List (List Keyed×Nat)):zO (r::v)=r.1++zO v:=by simp[zO]
def yp (u v:List (List Keyed×Nat)):zO (u++v)=zO u++zO v:=by simp[zO]
def xT:∀ (u v:List (List Keyed×Nat)) (s:Nat),zbv s (u++v)=zbv s u++zbv (s+(zO u).length) v
 | [],v,s=>by simp[zbv,zO]
 | (l,p)::u,v,s=>by rw[List.cons_append,zbv,zbv,xT u v,zB,ak,Nat.add_assoc];rfl
def zbw:∀ (u:List (List Keyed×Nat)) (s:Nat),(zbv s u).length=u.length
 | [],_=>rfl
 | (l,p)::u,s=>by rw[zbv,aM,zbw u,aM]
structure SI (κ:SortKind)(f:Keyed->Int)(T:List Keyed)(rs:List (List Keyed×Nat))(zC:List Keyed)(st:SortSt):Prop where
 kind:kindOf st=κ
 fail:failedOf st=none
 arr:(arrOf st).toList=zO rs++zC
 perm:(zO rs++zC).Perm T
 pend:pendingOf st=(zbv 0 rs).toArray
 ne:∀r∈rs,r.1≠[]
 up:∀r∈rs,r.1.Pairwise (leF f)
section
variable {M:Model}{A:Ae}{E:AA}{s:AZ}{κ:SortKind}{T:List Keyed}{f:Keyed->Int}
def SI.size {q:List (List Keyed×Nat)}{zC:List Keyed}{st:SortSt}(h:SI κ f T q zC st):(arrOf st).size=T.length:=by rw[<- aH,h.arr,h.perm.length_eq]
def SI.len {q:List (List Keyed×Nat)}{zC:List Keyed}{st:SortSt}(h:SI κ f T q zC st):(zO q).length+zC.length=T.length:=by rw[<- h.perm.length_eq,ak]
def SI.mem {q:List (List Keyed×Nat)}{zC:List Keyed}{st:SortSt}(h:SI κ f T q zC st):∀x∈arrOf st,x∈T:=λx B=>h.perm.mem_iff.mp (by rw[<- h.arr];exact bR.mpr B)
def SI.psz {q:List (List Keyed×Nat)}{zC:List Keyed}{st:SortSt}(h:SI κ f T q zC st):(pendingOf st).size=q.length:=by rw[h.pend,aU,zbw]
def t_mg (R:zbd M A s κ T f){B:List (List Keyed×Nat)}{zC:List Keyed}{st:SortSt}(h:SI κ f T B zC st){i:Nat}(hi:i+1<B.length){Q:Bool->SortSt->Prop}(k:∀O I,SI κ f T O zC I->O.length+1=B.length->Q true I):wpS M A E s (mergeAt' i) Q st:=by
 obtain⟨u,U,p1,V,p2,v,rfl,hu⟩:∃u U p1 V p2 v,B=u++(U,p1)::(V,p2)::v/\i=u.length:=by show⟨B.take i,B[i].1,B[i].2,B[i+1].1,B[i+1].2,B.drop (i+2),?_,by simp;lia⟩;have e1:B.drop i=B[i]::B.drop (i+1):=ck (by lia);have e2:B.drop (i+1)=B[i+1]::B.drop (i+2):=ck hi;change B=B.take i++B[i]::B[i+1]::B.drop (i+2);rw[<- e2,<- e1,aV]
 have J:=h.arr;have Y:=h.pend;rw[yp,zB,zB,az,az,az] at J;rw[xT,zbv,zbv,gh] at Y;show zkd R h.kind h.fail h.mem J Y (by rw[zbw];exact hu) (h.ne (U,p1) (by simp)) (h.ne (V,p2) (by simp)) (h.up (U,p1) (by simp)) (h.up (V,p2) (by simp)) λI C c1 c2 c3 Z c5 c6=>k (u++(C,p1)::v) I ⟨c1,c2,?_,?_,?_,?_,?_⟩ (by simp;lia);rw[yp,zB,az,az];exact c3;show List.Perm.trans ?_ h.perm;rw[yp,yp,zB,zB,zB];show List.Perm.append_right _ (eA _ ?_);rw[<- az];exact Z.append_right _;rw[c6,xT,zbv,gh,Z.length_eq,ak,Nat.add_assoc];intro r F;rcases au.mp F with F | F;exact h.ne r (by simp[F]);rcases ay.mp F with rfl | F;intro z;have z:C=[]:=z;have q:=Z.length_eq;rw[z,ak] at q;have n1:U≠[]:=h.ne (U,p1) (by simp);have q:0=U.length+V.length:=q;exact n1 (a8 (by lia));exact h.ne r (by simp[F]);intro r F;rcases au.mp F with F | F;exact h.up r (by simp[F]);rcases ay.mp F with rfl | F;exact c5;exact h.up r (by simp[F])
def zlZ {a:Array Keyed}{lo n:Nat}(h:Seg f a lo (lo+n))(I:lo+n<=a.size):((a.toList.drop lo).take n).Pairwise (leF f):=by
 rw[bz];intro i j hi q B;have F:j<n:=by simp at q;lia
 have:=h (lo+i) (lo+j) (by lia) (by lia) (by lia);unfold kA at this;rw[aP (by lia),aP (by lia)] at this;simpa [fM,List.getElem_drop] using this
def SI.next {F:List (List Keyed×Nat)}{zC:List Keyed}{st B:SortSt}(h:SI κ f T F zC st)(l:Lk (zO F).length st B){n:Nat}(hn:1<=n)(hz:(zO F).length+n<=T.length)(U:Seg f (arrOf B) (zO F).length ((zO F).length+n)) :
  ∃L I,SI κ f T F (L++I) B/\L.length=n/\L.Pairwise (leF f)/\L≠[]:=by
 have hs:=h.size;have Y:=l.size
 have Z:(arrOf B).toList.take (zO F).length=zO F:=by
  have q:(arrOf B).toList.take (zO F).length=(arrOf st).toList.take (zO F).length:=by
   show fL λi=>?_;rw[List.getElem?_take,List.getElem?_take];split
   ·rename_i hi;have:=l.low i hi;rw[bY,bY];exact this
   rfl
  rw[q,h.arr,eV rfl]
 have O:(arrOf B).toList=zO F++(((arrOf B).toList.drop (zO F).length).take n++(arrOf B).toList.drop ((zO F).length+n)):=by have q:=aV (zO F).length (arrOf B).toList;rw[Z] at q;rw[zib];exact q.symm
 have J:(((arrOf B).toList.drop (zO F).length).take n).length=n:=by simp;lia
 show⟨_,_,⟨l.kind.trans h.kind,l.fail.trans h.fail,O,?_,l.pend.trans h.pend,h.ne,h.up⟩,J,zlZ U (by lia),λz=>by rw[z] at J;simp at J;lia⟩;rw[<- O];have q:=l.perm.toList;show q.trans ?_;rw[h.arr];exact h.perm
def SI.push {B:List (List Keyed×Nat)}{L zC:List Keyed}{st:SortSt}(h:SI κ f T B (L++zC) st)(F:L≠[])(hs:L.Pairwise (leF f)){lo n:Nat}(h1:(zO B).length=lo)(h2:L.length=n) :
  SI κ f T (B++[(L,0)]) zC (setPending st ((pendingOf st).push (lo,n,0))):=by
 have e:zO (B++[(L,0)])++zC=zO B++(L++zC):=by rw[yp,zB];simp[zO]
 show⟨h.kind,h.fail,by rw[e];exact h.arr,by rw[e];exact h.perm,?_,λr q=>?_,λr q=>?_⟩;change (pendingOf st).push (lo,n,0)=_;rw[h.pend,xT,zbv,zbv,gh,h1,h2];simp;rcases au.mp q with q | q;exact h.ne r q;rw[ao.mp q];exact F;rcases au.mp q with q | q;exact h.up r q;rw[ao.mp q];exact hs
def SI.pow {I:List (List Keyed×Nat)}{zC:List Keyed}{st:SortSt}(h:SI κ f T I zC st)(hn:1<=I.length)(g:Nat×Nat×Nat->Nat×Nat×Nat)(J:Nat)(Y:∀a b c,g (a,b,c)=(a,b,J)) :
  ∃O,SI κ f T O zC (setPending st ((pendingOf st).modify ((pendingOf st).size - 1) g)):=by
 obtain⟨u,U,p,rfl⟩:∃u U p,I=u++[(U,p)]:=by
  rcases eD I with rfl | ⟨u,r,rfl⟩;simp at hn;exact⟨u,r.1,r.2,by simp⟩
 have F:∀q,zO (u++[(U,q)])=zO u++U:=λq=>by rw[yp,zB];simp[zO]
 show⟨u++[(U,J)],h.kind,h.fail,by rw[F,<- F p];exact h.arr,by rw[F,<- F p];exact h.perm,?_,λr B=>?_,λr B=>?_⟩;change (pendingOf st).modify ((pendingOf st).size - 1) g=_;rw[h.psz,h.pend,xT,xT,zbv,zbv,zbv,zbv,gh];apply eI.mp;rw[Array.toList_modify];have e:(u++[(U,p)]).length - 1=(zbv 0 u).length:=by rw[zbw];simp
 rw[e];change List.modify (zbv 0 u++[((zO u).length,U.length,p)]) (zbv 0 u).length g=zbv 0 u++[((zO u).length,U.length,J)];rw[List.modify_eq_take_cons_drop (by simp)];simp[Y];rcases au.mp B with B | B;exact h.ne r (by simp[B]);rw[ao.mp B];exact h.ne (U,p) (by simp);rcases au.mp B with B | B;exact h.up r (by simp[B]);rw[ao.mp B];exact h.up (U,p) (by simp)
def zhI {st:SortSt}(R:zbd M A s κ (arrOf st).toList f)(hk:kindOf st=κ)(hfl:failedOf st=none)(hp:pendingOf st = #[])(h2:1<=(arrOf st).size){Q:Unit->SortSt->Prop}
  (h:∀st',failedOf st'=none->(arrOf st').toList.Perm (arrOf st).toList->(arrOf st').toList.Pairwise (leF f)->Q () st'):wpS M A E s sortRuns' Q st:=by
 rw[sortRuns'_eq];show wpS_bind (wpS_get ?_);dsimp only;have S0:SI κ f (arrOf st).toList [] (arrOf st).toList st:=⟨hk,hfl,rfl,en _,hp,λ_ hr=>by simp at hr,λ_ hr=>by simp at hr⟩;have hT:(arrOf st).toList.length=(arrOf st).size:=aH;generalize (arrOf st).toList=T at R h S0 hT;generalize (arrOf st).size=N at h2 hT ⊢;generalize minRun' N N 0=mr;clear hk hfl hp;show wpS_bind (wpS_mono (bL (I:=λx c st'=>∃rs zC,c=(none,(zO rs).length)/\SI κ f T rs zC st'/\x<=(zO rs).length) (Q:=λc st'=>∃rs lo,c=(none,lo)/\SI κ f T rs [] st') ?_ ?_ ⟨[],T,rfl,S0,aK _⟩) ?_)
 ·rintro x c st1 _ hx ⟨rs,zC,rfl,S1,hx2⟩;have hz1:=S1.size;have hl1:=S1.len;dsimp only;by_cases e1:(zO rs).length ≥ N;rw[if_pos e1];have:zC=[]:=a8 (by lia);subst this;exact wpS_pure ⟨rs,_,rfl,S1⟩;rw[if_neg e1];show wpS_bind (zhG R S1.kind S1.mem (by lia) (by lia) λm st2 l2 m1 m2 sg=>?_);dsimp only;have hz2:=l2.size;by_cases e2:m<mr
  case' pos=>
   rw[if_pos e2];show wpS_bind (wpS_lift (cS ⟨rfl,?_⟩));show wpS_bind (ze1 R (n:=min (N - (zO rs).length) mr) (l2.kind.trans S1.kind) (l2.mem S1.mem) (by lia) (by lia) (by lia) sg λst3 l3 sg3=>?_);rw[if_neg (by simp)];obtain⟨L,rest',S3,hL,sL,nL⟩:=S1.next (l2.trans l3) (n:=min (N - (zO rs).length) mr) (by lia) (by lia) sg3;generalize hn:min (N - (zO rs).length) mr=n at hL ⊢;have hn1:1<=n:=by lia
  case' neg=>
   rw[if_neg e2];obtain⟨L,rest',S3,hL,sL,nL⟩:=S1.next l2 (n:=m) (by lia) (by lia) sg;generalize hn:m=n at hL ⊢;have hn1:1<=n:=by lia
   generalize st2=st3 at S3 ⊢
  all_goals
   show wpS_bind (wpS_get ?_);rcases eD rs with hrs | ⟨u,r,hrs⟩;have hb:(pendingOf st3).back?=none:=by rw[S3.pend,hrs];rfl
   rw[hb];dsimp only;have S4:=S3.push nL sL rfl hL;exact wpS_bind (dq (wpS_pure ⟨_,rest',by rw[yp,ak,zB,ak,hL];rfl,S4,by rw[yp,ak,zB,ak,hL];lia⟩))
   obtain⟨⟨b1,b2,b3⟩,hb⟩:∃b,(pendingOf st3).back?=some b:=by
    rw[S3.pend,hrs,List.concat_eq_append,xT];cases r;exact⟨_,by simp[zbv];rfl⟩
   rw[hb];dsimp only;generalize power' N (2 * b1+b2) (2 * b1+b2+b2+n) N=pw;show wpS_bind (wpS_mono (bL (I:=λx c st'=>∃rs',c=(none,())/\SI κ f T rs' (L++rest') st'/\1<=rs'.length) (Q:=λc st'=>∃rs',c=(none,())/\SI κ f T rs' (L++rest') st'/\1<=rs'.length) ?_ (λc st' q=>q) ⟨rs,rfl,S3,by rw[hrs];simp⟩) ?_);rintro x2 c st4 _ _ ⟨rs',rfl,S4,n4⟩;show wpS_bind (wpS_get ?_);by_cases e3:(pendingOf st4).size > 1;rw[if_pos e3];obtain⟨⟨c1,c2,c3⟩,hc⟩:∃b,(pendingOf st4)[(pendingOf st4).size - 2]?=some b:=⟨_,aP (by lia)⟩;rw[hc];dsimp only;by_cases e4:c3<=pw;rw[if_pos e4];exact wpS_pure ⟨rs',rfl,S4,n4⟩;rw[if_neg e4];rw[S4.psz] at e3;show wpS_bind (t_mg R S4 (by rw[S4.psz];lia) λrs2 st5 S5 h5=>?_);exact wpS_pure ⟨rs2,rfl,S5,by lia⟩;rw[if_neg e3];exact wpS_pure ⟨rs',rfl,S4,n4⟩;rintro c st4 ⟨rs',rfl,S4,n4⟩;dsimp only;show wpS_bind (dq ?_);obtain⟨rs2,S5⟩:=S4.pow n4 (λx=>match x with | (st,len,_)=>(st,len,pw)) pw (λa b c=>rfl);have hl3:=S3.len;have hl5:=S5.len;have S6:=S5.push nL sL (lo:=(zO rs).length) (by lia) hL;exact wpS_bind (dq (wpS_pure ⟨_,rest',by rw[yp,ak,zB,ak,hL,show (zO rs2).length=(zO rs).length by lia];rfl,S6,by rw[yp,ak,zB,ak,hL];lia⟩))
 rintro c st1 ⟨rs,zC,rfl,S1,hx2⟩;have hl1:=S1.len;have:zC=[]:=a8 (by lia);subst this;exact⟨rs,_,rfl,S1⟩
 ·rintro c st1 ⟨rs,lo,rfl,S1⟩;dsimp only;have hl1:=S1.len
  have hlen:rs.length<=(zO rs).length:=by
   have:∀ (rs:List (List Keyed×Nat)),(∀r∈rs,r.1≠[])->rs.length<=(zO rs).length:=λrs=>by
    induction rs with
    | nil=>intro _;exact aK _
    | cons r v ih=>
     intro hn;have h1:=ih λr hr=>hn r (am _ hr);have h2:=List.length_pos_iff.mpr (hn r aj);rw[zB,ak,aM];lia
   exact this rs S1.ne
  have hne:1<=rs.length:=by
   cases rs with
   | nil=>simp[zO] at hl1;lia
   | cons r v=>simp
  rw[List.length_nil,gg] at hl1;show wpS_bind (wpS_mono (bL (I:=λx c st'=>∃rs,c=(none,())/\SI κ f T rs [] st'/\1<=rs.length/\(rs.length<=1\/rs.length+x<=N)) (Q:=λc st'=>∃rs,c=(none,())/\SI κ f T rs [] st'/\rs.length=1) ?_ ?_ ⟨rs,rfl,S1,hne,.inr (by lia)⟩) ?_)
  ·rintro x c st2 _ hx ⟨rs,rfl,S2,n1,n2⟩;show wpS_bind (wpS_get ?_);by_cases e1:(pendingOf st2).size<=1;rw[if_pos e1];exact wpS_pure ⟨rs,rfl,S2,by rw[S2.psz] at e1;lia⟩;rw[if_neg e1];rw[S2.psz] at e1;show wpS_bind (t_mg R S2 ?_ λrs' st3 S3 h3=>?_)
   ·rw[S2.psz];have le1:∀ (b:Bool),(if b=true then rs.length - 2 - 1 else rs.length - 2)+1<rs.length:=λb=>by cases b <;> simp <;> lia
    exact le1 _
   exact wpS_pure ⟨rs',rfl,S3,by lia,by lia⟩
  rintro c st2 ⟨rs,rfl,S2,n1,n2⟩;exact⟨rs,rfl,S2,by lia⟩;rintro c st2 ⟨rs,rfl,S2,n1⟩;obtain⟨r,rfl⟩:∃r,rs=[r]:=List.length_eq_one_iff.mp n1;have ha:=S2.arr;have hq:=S2.perm;rw[cI] at ha hq;rw[<- ha] at hq;rw[zB] at ha;exact wpS_pure (h st2 S2.fail hq (by rw[ha];simpa [zO] using S2.up r (by simp)))
end
open PySem.Calls PySem.W
def zdH {α O:Type}(g:α->O):∀ {out m:List O},out.Perm m->∀l:List α,m=l.map g->∃l':List α,l'.Perm l/\out=l'.map g:=by
 intro out m h
 induction h with
 | nil=>intro l e;exact⟨l,.refl _,e⟩
 | cons x h U=>
  intro l e
  match l,e with
  | a::l,e=>
   obtain⟨B,F⟩:=List.cons.inj e;obtain⟨l',p,q⟩:=U l F;exact⟨a::l',.cons a p,by rw[aC,<- q,B]⟩
 | swap x y l0=>
  intro l e
  match l,e with
  | a::b::l,e=>
   obtain⟨B,F⟩:=List.cons.inj e;obtain⟨Y,Z⟩:=List.cons.inj F;exact⟨b::a::l,.swap _ _ _,by rw[aC,aC,B,Y,Z]⟩
 | trans h1 h2 I J=>
  intro l e;obtain⟨l2,p2,q2⟩:=J l e;obtain⟨l1,p1,q1⟩:=I l2 q2;exact⟨l1,p1.trans p2,q1⟩
def Ask (prog:Aa)(w:Ab)(A:Ae)(κ:SortKind)(vs:AN)(G:Array Nat->Prop)(s:AZ):Prop:=
 ∃f:Nat->Int,zhU vs.length f/\(∀i j,i<vs.length->j<vs.length->vs.getD i .none=vs.getD j .none->i=j)/\
  (∀i j,i<vs.length->j<vs.length->∀ (Q:Bool->AZ->Prop) (E:AA),Q (decide (f i<f j)) s->Ag prog w A (keyLt' κ (vs.getD i .none) (vs.getD j .none)) Q E s)/\∀p:Array Nat,Up vs.length f p vs.length->G p
section
variable {prog:Aa}{w:Ab}{A:Ae}{E:AA}{s:AZ}{h₀:Heap}{L a:Addr}{m:AI}{news:AB}{vs:AN}{κ:SortKind}
def zps(h2:2<=vs.length)(h:Ask prog w A κ vs G s) :
  Ag prog w A ((sortRuns').run (SortSt.mk' κ (vs.toArray.zip vs.toArray) #[] 7 none)) (λr s'=>s'=s/\∃p:Array Nat,p.size=vs.length/\(arrOf r.2).map (·.2)=List.toArray (p.toList.map λi=>vs.getD i .none)/\failedOf r.2=none/\G p) E s:=by
 obtain⟨f,hu,J,hc,hG⟩:=h
 have O:(vs.toArray.zip vs.toArray).toList=(List.range vs.length).map λi=>(vs.getD i .none,vs.getD i .none):=by
  show fL λi=>?_;by_cases hi:i<vs.length;simp[hi];simp[hi,Nat.le_of_not_lt hi]
 let F:Keyed->Int:=λx=>f (Classical.epsilon λi=>i<vs.length/\vs.getD i .none=x.1)
 have U:∀i,i<vs.length->F (vs.getD i .none,vs.getD i .none)=f i:=λi hi=>by have q:(Classical.epsilon λj=>j<vs.length/\vs.getD j .none=vs.getD i .none)<vs.length/\vs.getD (Classical.epsilon λj=>j<vs.length/\vs.getD j .none=vs.getD i .none) .none=vs.getD i .none:=Classical.epsilon_spec (p:=λj=>j<vs.length/\vs.getD j .none=vs.getD i .none) ⟨i,hi,rfl⟩;change f (Classical.epsilon λj=>j<vs.length/\vs.getD j .none=vs.getD i .none)=f i;rw[J _ _ q.1 hi q.2]
 show zhI (E:=E) (st:=SortSt.mk' κ (vs.toArray.zip vs.toArray) #[] 7 none) (f:=F) (κ:=κ) (Q:=λ_ B=>∃p:Array Nat,p.size=vs.length/\(arrOf B).map (·.2)=List.toArray (p.toList.map λi=>vs.getD i .none)/\failedOf B=none/\G p) ?_ rfl rfl rfl ?_ ?_;intro x y Y Z Q E hq;have Y:x∈(vs.toArray.zip vs.toArray).toList:=Y;have Z:y∈(vs.toArray.zip vs.toArray).toList:=Z;rw[O] at Y Z;obtain⟨i,hi,rfl⟩:=aF.mp Y;obtain⟨j,hj,rfl⟩:=aF.mp Z;have hi:=aN.mp hi;have hj:=aN.mp hj;rw[U i hi,U j hj] at hq;exact hc i j hi hj Q E hq;change 1<=(vs.toArray.zip vs.toArray).size;simp;lia;intro B h1 h3 h4;have h3:(arrOf B).toList.Perm (vs.toArray.zip vs.toArray).toList:=h3;obtain⟨p,hp,he⟩:=zdH _ h3 _ O;have I:∀i∈p,i<vs.length:=λi hi=>aN.mp (hp.mem_iff.mp hi);have ac:p.length=vs.length:=by rw[hp.length_eq,aB]
 show⟨p.toArray,by simpa using ac,?_,h1,hG _ ⟨?_,ai _,λk hk=>?_⟩⟩;apply eI.mp;rw[gc,he,aJ];rfl;change p.toArray.Perm (List.range vs.length).toArray;exact List.Perm.toArray hp;have ad:p.Nodup:=hp.nodup_iff.mpr dF;rw[he] at h4;have h5:=bz.mp h4 k (k+1) (by simp;lia) (by simp;lia) (by lia);rw[b9,b9] at h5;have g1:p.toArray.getD k 0=p[k]:=by simp[Array.getD,show k<p.length by lia]
 have g2:p.toArray.getD (k+1) 0=p[k+1]:=by simp[Array.getD,show k+1<p.length by lia]
 have h5:F (vs.getD p[k] .none,vs.getD p[k] .none)<=F (vs.getD p[k+1] .none,vs.getD p[k+1] .none):=h5;rw[U _ (I _ (bO _)),U _ (I _ (bO _))] at h5;unfold key;rw[g1,g2];have h6:f p[k]≠f p[k+1]:=λz=>by have:=hu _ _ (I _ (bO _)) (I _ (bO _)) z;have:=(de ad).mp this;lia
 lia
def zaH {n:Nat}{P:PySem.Fin->AZ->Prop}(F:Fr h₀ L s.heap m)(N:News h₀ L s.heap news)(ho:s.heap.get? a=some (seqObj "list" vs.toArray n))(haL:a≠L)(ha0:h₀.get? a=none)(hna:∀p∈news,p.1≠a)
  (h2:2<=vs.length) (hz:vs.length<=sizeLine)
  (h:∀e1 h',Fr h₀ L h' m->News h₀ L h' ((a,seqObj "list" #[] e1)::news)->
   Ag prog w A (keyKind' vs.toArray) (λκ s'=>Ask prog w A κ vs (λp=>KasFin h₀ L m a e1 (p.toList.map λi=>vs.getD i Value.none) (λs3=>P (.done (.ret .none)) s3) s') s') (λ_ _=>False) { s with heap:=h' }) :
  Ag prog w A (Builtin.«list.sort» ⟨[.ref a],[]⟩) P E s:=by
 have s1:=br s.heap a (Obj.mapSeq λ_=>(#[]:AK));obtain⟨e1,ho1⟩:∃e1,(s.heap.update a (Obj.mapSeq λ_=>(#[]:AK))).get? a=some (seqObj "list" #[] e1):=⟨_,get?_update_seq ho λ_=>#[]⟩;have keep2:∀b x,(s.heap.update a (Obj.mapSeq λ_=>(#[]:AK))).get? b=some x->(((s.heap.update a (Obj.mapSeq λ_=>(#[]:AK))).push (seqObj "tuple" vs.toArray 0)).push (seqObj "list" #[] 0)).get? b=some x:=λb x e=>af _ (af _ e)
 have ask:=h e1 _ (((kas_fr F s1 haL ha0).push (seqObj "tuple" vs.toArray 0)).push (seqObj "list" #[] 0)) (λp hp=>by
  rcases ay.mp hp with rfl | hp;exact⟨keep2 _ _ ho1,haL,ha0⟩;exact (kas_news N s1 hna).grown keep2 p hp)
 rw[list_sort_plain];show aa (listItems_at ho rfl (aa (fV ho rfl ?_ (by rw[aU];exact hz) (aK _))));show aa (seqEpoch_at ho1 rfl (aa (wpAny_newTuple ?_ (by change vs.length<=_;exact hz))));show aa (fW (bJ ?_) (aK _));change Ag prog w A _ P E { s with heap:=((s.heap.update a (Obj.mapSeq λ_=>(#[]:AK))).push (seqObj "tuple" vs.toArray 0)).push (seqObj "list" #[] 0) };dsimp only;have hn2:¬ vs.toArray.size<2:=by rw[aU];lia
 rw[if_neg hn2,if_neg hn2];show aa (bE ask (λκ s0 hk=>?_) λ_ _ x=>x.elim);show aa (bE (zps h2 hk) ?_ λ_ _ e=>e);rintro⟨⟨⟩,st'⟩ s' ⟨rfl,p,hp,hout,hf,news',g,F',N',U,k⟩;dsimp only;obtain⟨pre,post,e0,hg,x1,x2⟩:=U.split;rw[e0] at N';have na:=N' (a,seqObj "list" #[] e1) (aE _ (.head _));have hsz:(List.toArray (p.toList.map λi=>vs.getD i Value.none)).size=vs.length:=by rw[aU,ab,aH,hp]
 rw[hout];have s2:=br s'.heap a (Obj.mapSeq λ_=>List.toArray (p.toList.map λi=>vs.getD i Value.none));obtain⟨c2,hc2⟩:∃c2,(s'.heap.update a (Obj.mapSeq λ_=>List.toArray (p.toList.map λi=>vs.getD i Value.none))).get? a=some (seqObj "list" (List.toArray (p.toList.map λi=>vs.getD i Value.none)) c2):=⟨_,get?_update_seq na.1 λ_=>List.toArray (p.toList.map λi=>vs.getD i Value.none)⟩;show aa (seqEpoch_at na.1 rfl ?_);show aa (fV na.1 rfl ?_ (aK _) (aA (Nat.le_of_eq hsz) (Nat.le_succ_of_le hz)));rw[hf];simp only[fN,aT,if_false];show ae (k _ c2 (kas_fr F' s2 na.2.1 na.2.2) ?_);rw[hg];exact news_set N' x1 x2 s2 hc2
def zhK(F:Fr h₀ L s.heap m)(N:News h₀ L s.heap news)(hl:s.heap.IsList l vs.toArray)(h2:2<=vs.length)(J:vs.length<=sizeLine)(h:∀D Y h',Fr h₀ L h' m->News h₀ L h' ((D,seqObj "list" #[] Y)::news)->(∀q∈news,q.1<D)->
   wpAny (model prog w) A.in1.in1 (keyKind' vs.toArray) (λκ s'=>Ask prog w A.in1.in1 κ vs (λp=>KasFin h₀ L m D Y (p.toList.map λi=>vs.getD i Value.none) (λs3=>Q (.ref D) s3) s') s') (λ_ _=>False) { s with heap:=h' }) :
  Ag prog w A (call (.builtin "sorted") [.ref l]) Q E s:=by
 show Calls.call_function_entry kind_sorted plain_sorted entry_sorted (args_sorted1 _) ?_;unfold Builtin.«sorted»;show aa (m:=checkCount "sorted" 1 1 _) (ae ?_);show aa (collect_list hl ?_ (by first | exact J | (rw[aU];exact J)));show aa (fW ?_ (by first | exact J | (rw[aU];exact J)));generalize O:(s.heap.push (seqObj "list" #[] 0)).update s.heap.objs.size (Obj.mapSeq (·++vs.toArray))=hm;have hsz:hm.objs.size=s.heap.objs.size+1:=by rw[<- O,Heap.size_update,size_push']
 have U:(hm.push (seqObj "list" vs.toArray 0)).get? (s.heap.objs.size+1)=some (seqObj "list" vs.toArray 0):=by rw[<- hsz];exact aq _ rfl
 have B:∀b o,s.heap.get? b=some o->(hm.push (seqObj "list" vs.toArray 0)).get? b=some o:=λb o q=>by have I:b<s.heap.objs.size:=ar q;rw[ef _ _ _ (by rw[hsz];exact aS (cW I)),<- O,dH _ _ _ _ (aS I),ef _ _ _ (aS I)];exact q
 have hL:L<s.heap.objs.size:=F.ns.lt;change wpAny _ _ _ _ _ { s with heap:=hm.push (seqObj "list" vs.toArray 0) };rw[hsz];show aa (bJ (aW fF ⟨_,U,rfl⟩ eW ?body (fG _)))
 case body=>
  show zaH (s:={ s with heap:=hm.push (seqObj "list" vs.toArray 0) })
   (F.kept B) (N.grown B) U (eu (cW hL)) (eL (aA F.above (Nat.le_succ_of_le (cD hL))))
   (λp Z=>aS (cW (ar (N p Z).1))) h2 J λY h' F' N'=>?_
  show bE (h _ Y h' F' N' λq hq=>cW (ar (N q hq).1)) (λκ s' hk=>?_) λ_ _ x=>x;obtain⟨f,k1,k2,k3,k4⟩:=hk;exact⟨f,k1,k2,k3,λp Z=>(k4 p Z).mono λs3 hq=>⟨_,rfl,ae ⟨_,rfl,hq⟩⟩⟩
end
def zdp {prog:Aa}{w:Ab}{A:Ae}{s:AZ}{b:Bool}{Q:Bool->AZ->Prop}:∀ {ns B:AG} {xs ys:AN} (i:Nat),zM (ns.map V.int) xs->zM (B.map V.int) ys->ns.length=B.length->Q (HT.lexLt ns B) s->W.KatLex prog w A b false Q (xs.zip ys) i s
 | [],[],_,_,i,I,J,_,q=>by cases I;cases J;exact W.kat_nil q
 | [],_::_,_,_,_,_,_,h,_=>by simp at h
 | _::_,[],_,_,_,_,_,h,_=>by simp at h
 | a::ns,c::B,_,_,i,I,J,Y,q=>by
  cases I with
  | cons Z O=>
   cases J with
   | cons r2 U=>
    obtain⟨t,rfl⟩:=Z;obtain⟨u,rfl⟩:=r2;rw[List.zip_cons_cons];have F:Q (if a=c then HT.lexLt ns B else decide (a<c)) s:=q;show W.kat_cons (wpAny_eqBool_int ?_);by_cases e:a=c;rw[show (a==c)=true from by lia];rw[if_pos e] at F;exact W.kat_yes (zdp (i+1) O U (by simpa using Y) F);rw[show (a==c)=false from beq_false_of_ne e];rw[if_neg e] at F;show W.kat_no ?_
    cases (b&&i==0) with
    | true=>exact oneLt_int F
    | false=>exact W.kat_one _ _ (P.lt_int F)
def yS:∀s:AG,HT.lexLt s s=false
 | []=>rfl
 | a::s=>by change (if a=a then HT.lexLt s s else _)=false;rw[if_pos rfl];exact yS s
def zar:∀ {a b c:AG},a.length=b.length->b.length=c.length->HT.lexLt a b=true->HT.lexLt b c=true->HT.lexLt a c=true
 | [],[],[],_,_,h,_=>h
 | x::a,y::b,z::c,h1,h2,J,O=>by
  have q:(if x=y then HT.lexLt a b else decide (x<y))=true:=J;have B:(if y=z then HT.lexLt b c else decide (y<z))=true:=O;change (if x=z then HT.lexLt a c else decide (x<z))=true;by_cases F:x=y;by_cases I:y=z;rw[if_pos F] at q;rw[if_pos I] at B;rw[if_pos (F.trans I)];exact zar (by simpa using h1) (by simpa using h2) q B;grind;grind
 | [],_::_,_,h,_,_,_=>by simp at h
 | _::_,[],_,h,_,_,_=>by simp at h
 | [],[],_::_,_,h,_,_=>by simp at h
 | _::_,_::_,[],_,h,_,_=>by simp at h
def uo:∀ {a b:AG},a.length=b.length->a=b\/HT.lexLt a b=true\/HT.lexLt b a=true
 | [],[],_=>.inl rfl
 | [],_::_,h=>by simp at h
 | _::_,[],h=>by simp at h
 | x::a,y::b,h=>by
  change _\/(if x=y then HT.lexLt a b else decide (x<y))=true\/(if y=x then HT.lexLt b a else decide (y<x))=true;by_cases e:x=y
  ·subst e;rw[if_pos rfl,if_pos rfl];rcases uo (a:=a) (b:=b) (by simpa using h) with h1 | h1 | h1
   all_goals right
  ·rw[if_neg e,if_neg (Ne.symm e)];rcases Int.lt_or_gt_of_ne e with h1 | h1
   all_goals right
def zf6 {α:Type}{p q:α->Bool}:∀ {l:List α},(∀x∈l,p x=true->q x=true)->(∃x∈l,p x=false/\q x=true)->l.countP p<l.countP q
 | [],_,h=>by right
 | y::l,h,k=>by
  have J:l.countP p<=l.countP q:=List.countP_mono_left λx B F=>h x (am _ B) F;rw[List.countP_cons,List.countP_cons];obtain⟨x,B,F,I⟩:=k;rcases ay.mp B with rfl | B;rw[F,I];simp;lia;have U:=zf6 (l:=l) (λz O=>h z (am _ O)) ⟨x,B,F,I⟩;grind
def zbO (sts:AF)(i:Nat):Int:=(sts.countP λc=>HT.lexLt c (sts.getD i [])  : Nat)
def yI{sts:AF}(q:∀st∈sts,st.length=m)(hi:i<sts.length)(I:j<sts.length):decide (zbO sts i<zbO sts j)=HT.lexLt (sts.getD i []) (sts.getD j []):=by
 have J:sts.getD i []∈sts:=by rw[bj,aw hi];exact bO hi
 have O:sts.getD j []∈sts:=by rw[bj,aw I];exact bO I
 have U:∀ {a b:AG},a∈sts->b∈sts->HT.lexLt a b=true->(sts.countP λc=>HT.lexLt c a)<(sts.countP λc=>HT.lexLt c b):=λ{a b} F Y B=>
  zf6 (λx Z hp=>zar ((q x Z).trans (q a F).symm) ((q a F).trans (q b Y).symm) hp B) ⟨a,F,yS a,B⟩
 unfold zbO;generalize sts.getD i []=a at J;generalize sts.getD j []=b at O;rcases uo (a:=a) (b:=b) ((q a J).trans (q b O).symm) with h | h | h;subst h;rw[yS];right
 all_goals grind
def zaz (h:Heap)(L:Addr):AB:=(List.range h.objs.size).filterMap λb=>if b=L then none else (h.get? b).map λo=>(b,o)
def zy:(b,o)∈zaz h L↔b≠L/\h.get? b=some o:=by
 unfold zaz;rw[di];constructor;rintro⟨c,F,e⟩;by_cases q:c=L;right;rw[if_neg q] at e;obtain⟨o',B,I⟩:=aI.mp e;grind;rintro⟨q,B⟩;exact⟨b,aN.mpr (ar B),by right⟩
def zqJ {h:Heap}{L:Addr}{m q:AI}(a:h.Ns L m)(b:h.Ns L q):m=q:=by
 obtain⟨o,es,U,Y,Z,hk,hf⟩:=a;obtain⟨o',es',B,F,I,J,O⟩:=b;grind
section
variable {X:Cx}
def ur(x:ya P w H h a o):∃u,h.get? a=some u:=by
 cases o with
 | lst xs=>obtain⟨_,_,_,_,e⟩:=x;exact⟨_,e⟩
 | tup xs=>obtain⟨_,_,_,p⟩:=x;obtain⟨o,e,_⟩:=p;exact⟨o,e⟩
 | dK kvs=>obtain⟨_,_,_,_,o,_,_,e,_⟩:=x;exact⟨_,e⟩
 | dT kvs=>obtain⟨_,_,_,_,o,_,_,e,_⟩:=x;exact⟨_,e⟩
 | set S n=>obtain⟨o,_,_,_,e,_⟩:=x;exact⟨_,e⟩
 | ins C dx fs=>obtain⟨_,_,_,e,_⟩:=x;exact⟨_,e⟩
 | own y=>exact x
 | xd fs=>obtain⟨_,⟨_,_,_,e,_⟩,_⟩:=x;exact⟨_,e⟩
 | met f y=>exact⟨_,x⟩
 | rng lo hi=>obtain⟨_,_,_,e⟩:=x;exact⟨_,e⟩
 | frz o u=>obtain⟨e,_⟩:=x;exact⟨_,e⟩
 | tbl ps=>exact⟨_,x⟩
 | ext q=>obtain⟨_,e,_⟩:=x;exact e
def zbH{pins:AB}{σ:St}{H:Hp}{s:AZ}(I:Inv X pins σ H s)(hm:s.heap.Ns X.env.locals m){h':Heap}{D:Addr}{ys:AT}{B:AN}(Z:∀b o,b≠X.env.locals->s.heap.get? b=some o->h'.get? b=some o)(O:h'.Ns X.env.locals m)(ac:s.heap.get? D=none)(U:H D=none)(ho:h'.get? D=some { cls:=.type "list",data:=.seq B.toArray c })(hv:zM ys B)(hz:ys.length<=sizeLine)(tk:Nat):Inv X pins σ (upd H D (.lst ys)) { s with heap:=h',toks:=tk }:=by
 have nD:∀b o,s.heap.get? b=some o->b≠D:=λb o e z=>by rw[z,ac] at e;cases e
 have nL:∀b u,H b=some u->b≠X.env.locals:=λb u e=>zb e I.free;show Inv.step (ch:=[]) (g':=s.gens) (d':=s.drawn) (t':=tk) I (λb J=>by simp at J) (λb o h1 _ _ F _=>Z b o h1 F) (λb o h1 _ _ F _=>⟨o.slots,Z b o h1 F⟩) (λb o _ F h5=>by rw[ze (nD b o F)];exact h5) (λb o _ F=>?_) (λb ys q=>by rw[ze (zb q U)];exact q) (λb o u q=>by rw[ze (zb q U)];exact q) (λb ps q=>⟨#[],by rw[ze (zb q U),fD];exact q⟩) (λm' ad=>by rw[<- zqJ hm ad];exact O) (λb u J=>?_) I.bare;by_cases hL:b=X.env.locals;obtain⟨o',_,_,h1,_⟩:=O;right;exact⟨o,Z b o hL F⟩;by_cases Y:b=D;subst Y;rw[zg] at J;cases J;exact⟨hz,B,c,hv,ho⟩;rw[ze Y] at J;show (I.hok b u J).stay (λc v ag q=>Z c v ?_ q) (λc q=>by rw[ze (zb q U)];exact q) (λc ys q=>by rw[ze (zb q U)];exact q);grind
def zb5 {pins:AB}{σ:St}{H:Hp}{s:AZ}(I:Inv X pins σ H s):∀ {sts:AF} {vs:AT} {q:AN},IsL H (sts.map stD) vs->zM vs q->∀ {i:Nat},i<sts.length->∃ (a:Addr) (items:AN),vs.getD i .non = .ref a/\q.getD i .none = .ref a/\IsTup s.heap a items.toArray/\zM ((sts.getD i []).map V.int) items/\a≠X.env.locals
 | [],_,_,_,_,i,hi=>by simp at hi
 | st::sts,_,_,h,J,i,hi=>by
  obtain⟨x,r,rfl,⟨a,xs,rfl,F,B⟩,O⟩:=h;obtain rfl:=B.of_ints
  cases J with
  | cons U rr=>
   cases U
   cases i with
   | zero=>
    obtain⟨items,Y,Z,_⟩:=I.tuple (.of F);exact⟨a,items,rfl,rfl,Z,Y,zb F I.free⟩
   | succ i=>
    obtain⟨a',items,e1,e2,e3,e4,e5⟩:=zb5 I (sts:=sts) O rr (i:=i) (by simpa using hi);exact⟨a',items,by simpa using e1,by simpa using e2,e3,by simpa using e4,e5⟩
def zkh {pins:AB}{σ:St}{H:Hp}{s:AZ}(I:Inv X pins σ H s){h':Heap}(U:∀b o,b≠X.env.locals->s.heap.get? b=some o->h'.get? b=some o):∀ {sts:AF} {vs:AT} {q:AN},IsL H (sts.map stD) vs->zM vs q->(∀st∈sts,1<=st.length)->∃fs,W.KatTups h' q fs/\fs.length=sts.length/\∀f∈fs,∃a t,f = .int a t
 | [],_,_,h,B,_=>by cases h;cases B;exact⟨[],trivial,rfl,λ_ h=>by simp at h⟩
 | st::sts,_,_,h,B,h1=>by
  obtain⟨x,r,rfl,⟨a,xs,rfl,Y,F⟩,hr⟩:=h;obtain rfl:=F.of_ints
  cases B with
  | cons r1 rr=>
   cases r1;obtain⟨items,J,pt,_⟩:=I.tuple (.of Y);obtain⟨o,ho,hc,n,hd⟩:=pt;obtain⟨fs,f1,f2,f3⟩:=zkh I U (sts:=sts) hr rr λz hz=>h1 z (am _ hz);have O:=h1 st aj
   match st,J,O with
   | z::zs,J,_=>
    cases J with
    | cons q1 qq=>
     obtain⟨t,rfl⟩:=q1;show⟨_::fs,⟨⟨a,o,_,n,rfl,U a o (zb Y I.free) ho,hc,hd,rfl⟩,f1⟩,by right,λf Z=>?_⟩;rcases ay.mp Z with rfl | Z
     all_goals right
def zrw:AT->Hp->VK->Prop:=λxs H Q=>∃ (l:Addr) (vs:AT) (sts:AF) (m:Nat),xs=[.ref l]/\H l=some (.lst vs)/\IsL H (sts.map stD) vs/\2<=sts.length/\1<=m/\(∀st∈sts,st.length=m)/\sts.Nodup/\
 ∀ (ys:AT) (q:AF),IsL H (q.map stD) ys->q.Perm sts->(q.Pairwise λa b=>HT.lexLt a b=true)->New H (.lst ys) Q
def zgp {H:Hp}{sts:AF}{vs:AT}(h:IsL H (sts.map stD) vs):∀ {p:AR},(∀i∈p,i<sts.length)->IsL H ((p.map λi=>sts.getD i []).map stD) (p.map λi=>vs.getD i .non)
 | [],_=>rfl
 | i::p,q=>by
  have hi:=q i aj;obtain⟨x,F,I⟩:=h.getD (i:=i) (d:=stD (sts.getD i [])) (by simp[hi]);show⟨vs.getD i .non,_,rfl,?_,zgp h λj B=>q j (am _ B)⟩;right
def ze6(h:zM vs q):∀ (p:AR),(∀i∈p,i<vs.length)->zM (p.map λi=>vs.getD i .non) (p.map λi=>q.getD i .none)
 | [],_=>.nil
 | i::p,B=>by
  have hi:=B i aj;obtain⟨u,I,J⟩:=h.get (i:=i) (x:=vs[i]) (aw hi);show .cons ?_ (ze6 h p λj F=>B j (am _ F));right
def uP {α:Type}(d:α)(l:List α):(List.range l.length).map (λi=>l.getD i d)=l:=by show dG (by simp) λi h1 h2=>?_;simp[h2]
def za1:∀ {a b:AG} {q:AN},zM (a.map V.int) q->zM (b.map V.int) q->a=b
 | [],[],_,_,_=>rfl
 | [],_::_,_,h,k=>by cases h;cases k
 | _::_,[],_,h,k=>by cases k;cases h
 | x::a,y::b,_,h,k=>by
  cases h with
  | cons B rr=>
   cases k with
   | cons F I=>
    obtain⟨t,rfl⟩:=B;obtain⟨t',e⟩:=F;cases e;rw[za1 rr I]
def zkP:CallQ X (.builtin "sorted") zrw:=⟨by
 intro pins s σ H xs us Q I r h;obtain⟨l,vs,sts,m,rfl,hl,B,h2,a7,hm,a0,q⟩:=h;obtain⟨u,rfl,ru⟩:=zaJ r;cases ru;obtain⟨ba,rv,pl,hz⟩:=I.list (.of hl);have bb:=B.length;rw[ab] at bb;have bx:=rv.length;obtain⟨m0,a3,_⟩:=id I.loc;show zhK (h₀:=(⟨#[],{}⟩:Heap)) (L:=X.env.locals) (m:=m0) (news:=zaz s.heap X.env.locals) ⟨a3,λb o e=>?_,aK _⟩ (λp hp=>?_) pl.isList (by lia) (by lia) λD e1 h' F N ac=>?_;have:=ar e;simp at this;obtain⟨b,o⟩:=p;have:=zy.mp hp;show⟨this.2,this.1,?_⟩
 cases e:(⟨#[],{}⟩:Heap).get? b with
 | none=>rfl
 | some o'=>
  have:=ar e;simp at this
 ·have kp:∀b o,b≠X.env.locals->s.heap.get? b=some o->h'.get? b=some o:=λb o hb e=>(N (b,o) (am _ (zy.mpr ⟨hb,e⟩))).1;obtain⟨fs,k1,k2,k3⟩:=zkh I kp B rv λst bc=>by rw[hm st bc];exact a7
  show W.kat_kind (T:=.type "int") (s:={ s with heap:=h' }) k1 (by lia) (λf hf=>?_) (by ext) ?_;obtain⟨a,t,rfl⟩:=k3 f hf;intro A' Q' E' s' _ hq;exact dM (typeIs_int s' a t) hq
  ·have hu:zhU sts.length (zbO sts):=λi j hi J e=>by
    have e1:=yI hm hi J;have e2:=yI hm J hi;rw[e,aZ (fX _)] at e1;rw[e,aZ (fX _)] at e2;have gi:sts.getD i []=sts[i]:=by simp[hi]
    have gj:sts.getD j []=sts[j]:=by simp[J]
    rcases uo (a:=sts.getD i []) (b:=sts.getD j []) (by right) with h | h | h;rw[gi,gj] at h;exact (de a0).mp h
    all_goals grind
   have O:ba.length=sts.length:=by lia
   show⟨zbO sts,by rw[O];exact hu,λi j hi J e=>?_,λi j hi J C E hC=>?_,λp U=>?_⟩;rw[O] at hi J;obtain⟨a1,ad,_,b1,c1,d1,_⟩:=zb5 I B rv hi;obtain⟨a2,ag,_,b2,c2,d2,_⟩:=zb5 I B rv J;rw[b1,b2] at e;cases e;obtain⟨o1,al,_,n1,an⟩:=c1;obtain⟨o2,Y,_,n2,Z⟩:=c2;rw[al] at Y;cases Y;rw[an] at Z;have ei:ad=ag:=by injection Z with q1;exact List.toArray_inj q1
   subst ei;have es:=za1 d1 d2;have gi:sts.getD i []=sts[i]:=by simp[hi]
   have gj:sts.getD j []=sts[j]:=by simp[J]
   rw[gi,gj] at es;exact (de a0).mp es;rw[O] at hi J;obtain⟨a1,ad,_,b1,c1,d1,f1⟩:=zb5 I B rv hi;obtain⟨a2,ag,_,b2,c2,d2,f2⟩:=zb5 I B rv J;obtain⟨o1,al,_,n1,an⟩:=c1;obtain⟨o2,Y,_,n2,Z⟩:=c2;rw[b1,b2];have gi:(sts.getD i []).length=m:=by right
   have gj:(sts.getD j []).length=m:=by right
   have l1:=d1.length;have l2:=d2.length;rw[ab] at l1 l2;show W.kat_lt (s:={ s with heap:=h' }) (kp _ _ f1 al) an (kp _ _ f2 Y) Z ?_;rw[show decide (ad.toArray.size<ag.toArray.size)=false from aZ (by simp;lia)];show zdp 0 d1 d2 (by rw[gi,gj]) ?_;rw[yI hm hi J] at hC;exact hC;rw[O] at U;have ap:p.toList.Perm (List.range sts.length):=by have:=U.perm.toList;simpa using this
   have as:∀i∈p.toList,i<sts.length:=λi hi=>aN.mp ((ap.mem_iff).mp hi);show W.KasFin.intro F N (W.UpdF.head λq' bd=>?_) λbe c F'' N''=>?_;exact aS (ac q' bd);have bk:∀b o,b≠X.env.locals->s.heap.get? b=some o->be.get? b=some o:=λb o hb e=>(N'' (b,o) (am _ (zy.mpr ⟨hb,e⟩))).1;have bl:D≠X.env.locals:=(N'' (D,_) aj).2.1
   have bo:s.heap.get? D=none:=by
    cases e:s.heap.get? D with
    | none=>rfl
    | some o=>exact absurd (ac (D,o) (zy.mpr ⟨bl,e⟩)) (cB _)
   have a4:H D=none:=by
    cases e:H D with
    | none=>rfl
    | some o=>
     obtain⟨o',b0⟩:=ur (I.hok D o e);grind
   have a5:=(N'' (D,_) aj).1;have I':=zbH I a3 (ys:=p.toList.map λi=>vs.getD i .non) bk F''.ns bo a4 a5 (ze6 rv p.toList λi hi=>by right) (by rw[ab,ap.length_eq,aB];lia) s.toks;show⟨.ref D,_,I',rfl,(q _ (p.toList.map λi=>sts.getD i []) (zgp B as) ?_ ?_).at a4⟩;have:=ap.map λi=>sts.getD i [];rwa[uP] at this;have b3:p.size=sts.length:=zeN U.perm;rw[bz];intro i j hi J bs;rw[ab,aH] at hi J;have hk:=U.lt_of bs (by lia);rw[b9,b9,dB,dB];have e1:p.getD i 0=p[i]:=by simp[hi]
   have e2:p.getD j 0=p[j]:=by simp[J]
   unfold key at hk;rw[e1,e2] at hk;rw[<- yI hm (as _ (by simp)) (as _ (by simp))];exact a9 hk⟩
end
def uH {prog:Aa}{w:Ab}{A:Ae}{E:AA}{s:AZ}{a:Addr}{vs:AN}{n:Nat}{P:PySem.Fin->AZ->Prop}(ho:s.heap.get? a=some (seqObj "list" vs.toArray n))(h2:vs.length<2)
  (h:∀h' c,(∀b o,b≠a->s.heap.get? b=some o->h'.get? b=some o)->h'.get? a=some (seqObj "list" vs.toArray c)->P (.done (.ret .none)) { s with heap:=h' }) :
  Ag prog w A (Builtin.«list.sort» ⟨[.ref a],[]⟩) P E s:=by
 obtain⟨e1,ho1⟩:∃e1,(s.heap.update a (Obj.mapSeq λ_=>(#[]:AK))).get? a=some (seqObj "list" #[] e1):=⟨_,get?_update_seq ho λ_=>#[]⟩;rw[list_sort_plain];show aa (listItems_at ho rfl ?_);show aa (fV ho rfl ?_ (by rw[aU,b6];lia) (aK _));show aa (seqEpoch_at ho1 rfl ?_);show aa (wpAny_newTuple ?_ (by change vs.length<=_;rw[b6];lia));show aa (fW ?_ (aK _));show bJ ?_;change Ag prog w A _ P E { s with heap:=((s.heap.update a (Obj.mapSeq λ_=>(#[]:AK))).push (seqObj "tuple" vs.toArray 0)).push (seqObj "list" #[] 0) };dsimp only;have hn2:vs.toArray.size<2:=by rw[aU];lia
 rw[if_pos hn2,if_pos hn2];show aa (ae ?_);show aa (m:=(pure ():StateT SortSt _ _).run _) (ae ?_);have hsnd:(arrOf (SortSt.mk' general' (vs.toArray.zip vs.toArray) #[] 7 none)).map (λx=>x.snd)=vs.toArray:=by change (vs.toArray.zip vs.toArray).map (λx=>x.snd)=vs.toArray;apply eI.mp;rw[gc,Array.toList_zip];exact List.map_snd_zip (ai _)
 have ha:a<s.heap.objs.size:=ar ho;have g3:(((s.heap.update a (Obj.mapSeq λ_=>(#[]:AK))).push (seqObj "tuple" vs.toArray 0)).push (seqObj "list" #[] 0)).get? a=some (seqObj "list" #[] e1):=af _ (af _ ho1);show aa (seqEpoch_at g3 rfl ?_);show aa (fV g3 rfl ?_ (aK _) ?_);change wpAny _ _ _ _ _ _;dsimp only;rw[hsnd];simp only[fN,aT,if_false];show ae (h _ _ (λb o hb e=>?_) (get?_update_seq g3 λ_=>vs.toArray));rw[dH _ _ _ _ hb];show af _ (af _ ?_);rw[dH _ _ _ _ hb];exact e;dsimp only;rw[hsnd,aU,b6];lia
def zeW {prog:Aa}{w:Ab}{A:Ae}{E:AA}{s:AZ}{l:Addr}{vs:AN}{Q:AA}(J:s.heap.IsList l vs.toArray)(h2:vs.length<2)
  (h:∀D h' c,(∀b o,s.heap.get? b=some o->h'.get? b=some o)->s.heap.get? D=none->h'.get? D=some (seqObj "list" vs.toArray c)->Q (.ref D) { s with heap:=h' }) :
  Ag prog w A (call (.builtin "sorted") [.ref l]) Q E s:=by
 show Calls.call_function_entry kind_sorted plain_sorted entry_sorted (args_sorted1 _) ?_;unfold Builtin.«sorted»;show aa (m:=checkCount "sorted" 1 1 _) (ae ?_);show aa (collect_list J ?_ (by rw[b6];lia));show aa (fW ?_ (by rw[b6];lia));have hsz:((s.heap.push (seqObj "list" #[] 0)).update s.heap.objs.size (Obj.mapSeq (·++vs.toArray))).objs.size=s.heap.objs.size+1:=by right
 have F:(((s.heap.push (seqObj "list" #[] 0)).update s.heap.objs.size (Obj.mapSeq (·++vs.toArray))).push (seqObj "list" vs.toArray 0)).get? (s.heap.objs.size+1)=some (seqObj "list" vs.toArray 0):=by rw[<- hsz];exact aq _ rfl
 have I:∀b o,s.heap.get? b=some o->(((s.heap.push (seqObj "list" #[] 0)).update s.heap.objs.size (Obj.mapSeq (·++vs.toArray))).push (seqObj "list" vs.toArray 0)).get? b=some o:=λb o q=>by have B:b<s.heap.objs.size:=ar q;rw[ef _ _ _ (by rw[hsz];exact aS (cW B)),dH _ _ _ _ (aS B),ef _ _ _ (aS B)];exact q
 change wpAny _ _ _ _ _ { s with heap:=((s.heap.push (seqObj "list" #[] 0)).update s.heap.objs.size (Obj.mapSeq (·++vs.toArray))).push (seqObj "list" vs.toArray 0) };rw[hsz];show aa (bJ (aW fF ⟨_,F,rfl⟩ eW ?body (fG _)))
 case body=>
  show uH (s:={ s with heap:=((s.heap.push (seqObj "list" #[] 0)).update s.heap.objs.size (Obj.mapSeq (·++vs.toArray))).push (seqObj "list" vs.toArray 0) }) F h2 λh' c O U=>?_;show⟨_,rfl,ae ⟨_,rfl,h _ _ _ (λb o e=>O b o (aS (cW (ar e))) (I b o e)) ?_ U⟩⟩;exact eL (Nat.le_succ _)
section
variable {X:Cx}
def zo1:AT->Hp->VK->Prop:=λxs H Q=>∃ (l:Addr) (vs:AT) (sts:AF) (m:Nat),xs=[.ref l]/\H l=some (.lst vs)/\IsL H (sts.map stD) vs/\1<=m/\(∀st∈sts,st.length=m)/\sts.Nodup/\
 ∀ (ys:AT) (q:AF),IsL H (q.map stD) ys->q.Perm sts->(q.Pairwise λa b=>HT.lexLt a b=true)->New H (.lst ys) Q
def zh8:CallQ X (.builtin "sorted") zo1:=⟨by
 intro pins s σ H xs us Q I r h;obtain⟨l,vs,sts,m,rfl,hl,B,O,hm,U,q⟩:=h;by_cases h2:2<=sts.length;exact zkP.run _ _ _ _ _ _ _ I r ⟨l,vs,sts,m,rfl,hl,B,h2,O,hm,U,q⟩;obtain⟨u,rfl,ru⟩:=zaJ r;cases ru;obtain⟨ac,rv,pl,hz⟩:=I.list (.of hl);have Y:=B.length;rw[ab] at Y;have ad:=rv.length;obtain⟨m0,F,_⟩:=id I.loc;show zeW pl.isList (by lia) λD h' c kp Z hD=>?_
 have J:H D=none:=by
  cases e:H D with
  | none=>rfl
  | some o=>
   obtain⟨o',ag⟩:=ur (I.hok D o e);grind
 have I':=zbH I F (ys:=vs) (λb o _ e=>kp b o e) (by obtain⟨o,es,ep,g,k⟩:=F;exact⟨o,es,ep,kp _ _ g,k⟩) Z J hD rv (by grind) s.toks;show⟨.ref D,_,I',rfl,(q _ sts B (en _) ?_).at J⟩
 match sts,h2 with
 | [],_=>exact .nil
 | [_],_=>exact dR _ _
 | _::_::_,h2=>exact absurd (by simp) h2⟩
end
def Ris (xs:Array Nat):Prop:=∀i j:Nat,i<j->j<xs.size->xs.getD i 0<xs.getD j 0
def zc7 {xs:Array Nat}(F:Ris xs){j:Nat}:∀ (B lo hi:Nat),lo<=hi->hi<=xs.size->hi - lo<=B->(∀i,i<lo->xs.getD i 0<j)->(∀i,hi<=i->i<xs.size->j<=xs.getD i 0)->
  ∃p,SetTable.below.go xs j B lo hi=p/\p<=xs.size/\(∀i,i<p->xs.getD i 0<j)/\(∀i,p<=i->i<xs.size->j<=xs.getD i 0)
 | 0,lo,hi,h1,h2,h3,I,J=>by
  have:lo=hi:=by lia
  subst this;exact⟨lo,rfl,h2,I,J⟩
 | B+1,lo,hi,h1,h2,h3,I,J=>by
  change ∃p,(if lo<hi then if xs.getD ((lo+hi) / 2) j<j then SetTable.below.go xs j B ((lo+hi) / 2+1) hi else SetTable.below.go xs j B lo ((lo+hi) / 2) else lo)=p/\_;by_cases Y:lo<hi;rw[if_pos Y];have Z:(lo+hi) / 2<xs.size:=by lia
  have e:xs.getD ((lo+hi) / 2) j=xs.getD ((lo+hi) / 2) 0:=by simp[Z]
  rw[e];by_cases O:xs.getD ((lo+hi) / 2) 0<j;rw[if_pos O];show zc7 F B _ hi (by lia) h2 (by lia) (λi U=>?_) J;by_cases q:i=(lo+hi) / 2;rw[q];exact O;have:=F i ((lo+hi) / 2) (by lia) Z;lia;rw[if_neg O];show zc7 F B lo _ (by lia) (by lia) (by lia) I (λi U hs=>?_);by_cases q:i=(lo+hi) / 2;rw[q];lia;have:=F ((lo+hi) / 2) i (by lia) hs;lia;rw[if_neg Y];have:lo=hi:=by lia
  subst this;exact⟨lo,rfl,h2,I,J⟩
def xw(q:Ris xs)(j:Nat):SetTable.below xs j<=xs.size/\(∀i,i<SetTable.below xs j->xs.getD i 0<j)/\(∀i,SetTable.below xs j<=i->i<xs.size->j<=xs.getD i 0):=by obtain⟨p,e,h⟩:=zc7 q (j:=j) xs.size 0 xs.size (aK _) (ai _) (ai _) (λi h=>absurd h (cY _)) (λi h1 h2=>by lia);have B:SetTable.below xs j=p:=e;rw[B];exact h
def xn{xs:Array Nat}(h:xs[i]?=some j):i<xs.size/\xs.getD i 0=j:=by
 obtain⟨h1,h2⟩:=cN.mp h;right
def zfp{xs:Array Nat}(h:i<xs.size):xs[i]?=some (xs.getD i 0):=by simp[h]
def zkF(B:Ris xs)(h:xs[i]?=some j):SetTable.below xs j=i:=by
 obtain⟨h1,h2⟩:=xn h;obtain⟨J,F,I⟩:=xw B j;rcases cF (SetTable.below xs j) i with q | q | q;have:=I _ (ai _) (by lia);have:=B _ i q h1;lia;exact q;have:=F i q;lia
def zaD{t:SetTable}(q:Ris t.place)(h:t.place[i]?=some j):t.slot j = .live i:=by unfold SetTable.slot;rw[zkF q h];simp[h]
def zj6 {t:SetTable}(q:t.dummies = #[]){j:Nat}(h:∀i:Nat,t.place[i]?≠some j):t.slot j = .empty:=by
 unfold SetTable.slot;have e:(t.place[SetTable.below t.place j]?==some j)=false:=by grind
 have B:SetTable.has t.dummies j=false:=by rw[q];rfl
 right
def zpg {t:SetTable}(q:Ris t.place)(B:t.dummies = #[])(j:Nat):(t.slot j = .empty/\∀i:Nat,t.place[i]?≠some j)\/∃i,t.slot j = .live i/\t.place[i]?=some j:=by
 by_cases h:∃i:Nat,t.place[i]?=some j;obtain⟨i,hi⟩:=h;exact .inr ⟨i,zaD q hi,hi⟩;have h':∀i:Nat,t.place[i]?≠some j:=λi e=>h ⟨i,e⟩;exact .inl ⟨zj6 B h',h'⟩
def tm (q:Nat):SetTable:=⟨q,#[],#[],0,true,0,true⟩
def stp (q:Nat)(h:Int):Nat->SetTable.Probe
 | 0=>(tm q).probeStart h
 | n+1=>(tm q).advance (stp q h n)
def wk (q:Nat)(h:Int)(n:Nat):Nat:=(stp q h n).j
def zhV (q:Nat)(p:SetTable.Probe):((tm q).advance p).dummy=p.dummy:=by unfold SetTable.advance;split <;> rfl
def ze0 (q:Nat)(h:Int):∀n,(stp q h n).dummy=none
 | 0=>rfl
 | n+1=>by change ((tm q).advance _).dummy=none;rw[zhV,ze0 q h n]
def zfZ (q:Nat)(p:SetTable.Probe)(h:0<p.more):(tm q).advance p={ p with j:=p.j+1,more:=p.more - 1 }:=by unfold SetTable.advance;rw[if_pos h]
def zc6 (q:Nat)(p:SetTable.Probe)(h:p.more=0):(tm q).advance p={ p with j:=(p.i * 5+1+p.perturb / 32) % (q+1),more:=SetTable.runEnd q ((p.i * 5+1+p.perturb / 32) % (q+1)) - (p.i * 5+1+p.perturb / 32) % (q+1),i:=(p.i * 5+1+p.perturb / 32) % (q+1),perturb:=p.perturb / 32 }:=by unfold SetTable.advance;rw[if_neg (by lia)];rfl
def lp (q:Nat)(h:Int):Nat->Nat×Nat
 | 0=>(SetTable.bits h % (q+1),SetTable.bits h)
 | n+1=>SetTable.leap q (lp q h n).1 (lp q h n).2
def zmZ (q i:Nat):SetTable.runEnd q i - i<=9:=by unfold SetTable.runEnd;split <;> lia
def zdY (B:Nat)(h:Int){T i q:Nat}(e:stp B h T=⟨i,SetTable.runEnd B i - i,i,q,none⟩):∀k,k<=SetTable.runEnd B i - i->stp B h (T+k)=⟨i+k,SetTable.runEnd B i - i - k,i,q,none⟩
 | 0,_=>e
 | k+1,F=>by
  change (tm B).advance (stp B h (T+k))=_;rw[zdY B h e k (by lia),zfZ B _ (by lia)];grind
def zi1 (q:Nat)(h:Int):∀k,∃T,T<=10 * k/\stp q h T=⟨(lp q h k).1,SetTable.runEnd q (lp q h k).1 - (lp q h k).1,(lp q h k).1,(lp q h k).2,none⟩
 | 0=>⟨0,ai _,rfl⟩
 | k+1=>by obtain⟨T,B,e⟩:=zi1 q h k;have F:=zmZ q (lp q h k).1;show⟨T+(SetTable.runEnd q (lp q h k).1 - (lp q h k).1)+1,by lia,?_⟩;change (tm q).advance (stp q h (T+_))=_;rw[zdY q h e _ (ai _),zc6 q _ (Nat.sub_self _)];rfl
def zcN (q:Nat)(h:Int):∀k,(lp q h k).2=SetTable.bits h / 32 ^ k
 | 0=>by change SetTable.bits h=_;simp
 | k+1=>by change (lp q h k).2 / 32=_;rw[zcN q h k,Nat.div_div_eq_div_mul,Nat.pow_succ]
def zne (h:Int):SetTable.bits h<2 ^ 64:=by
 unfold SetTable.bits;grind
def lcg (m i:Nat):Nat:=(i * 5+1) % m
def orb (m:Nat):Nat->Nat->Nat
 | 0,i=>i
 | k+1,i=>lcg m (orb m k i)
def zi9 (q:Nat)(h:Int):∀k,(lp q h (13+k)).1=orb (q+1) k (lp q h 13).1
 | 0=>rfl
 | k+1=>by
  change ((lp q h (13+k)).1 * 5+1+(lp q h (13+k)).2 / 32) % (q+1)=lcg (q+1) (orb (q+1) k _);rw[<- zi9 q h k,zcN];have B:=zne h
  have e:SetTable.bits h / 32 ^ (13+k)=0:=by
   show gb (aY B ?_)
   calc 2 ^ 64<=32 ^ 13:=by ext
    _<=32 ^ (13+k):=dz (by ext) (by lia)
  rw[e];rfl
def zb0 (m:Nat)(a:Nat):∀ (b i:Nat),orb m (a+b) i=orb m b (orb m a i)
 | 0,i=>rfl
 | b+1,i=>by change lcg m (orb m (a+b) i)=lcg m (orb m b _);rw[zb0 m a b i]
def zpL (m:Nat):Nat->Nat->AR
 | 0,_=>[]
 | n+1,i=>i::zpL m n (lcg m i)
def zlx (m:Nat)(k i:Nat):orb m (k+1) i=orb m k (lcg m i):=by rw[Nat.add_comm,zb0];rfl
def zdG (m:Nat):∀ (n i k:Nat),k<n->(zpL m n i)[k]?=some (orb m k i)
 | n+1,i,0,_=>rfl
 | n+1,i,k+1,h=>by rw[zlx];exact zdG m n (lcg m i) k (by lia)
def zgH (m:Nat):∀ (n i:Nat),(zpL m n i).length=n
 | 0,_=>rfl
 | n+1,i=>by change (zpL m n _).length+1=n+1;rw[zgH m n]
structure Ring (m:Nat):Prop where
 pos:0<m
 all:∀v,v<m->v∈zpL m m 0
 back:orb m m 0=0
def Ring.reach(r:Ring m)(hi:i<m)(J:j<m):∃k,k<m/\orb m k i=j:=by
 obtain⟨a,F,U⟩:=bS.mp (r.all i hi);obtain⟨b,I,Y⟩:=bS.mp (r.all j J);rw[zgH] at F I
 have q:orb m a 0=i:=by
  have:=zdG m m 0 a F;right
 have B:orb m b 0=j:=by
  have:=zdG m m 0 b I;right
 by_cases O:a<=b;show⟨b - a,by lia,?_⟩;rw[<- q,<- zb0,show a+(b - a)=b by lia];exact B;show⟨b+m - a,by lia,?_⟩;rw[<- q,<- zb0,show a+(b+m - a)=m+b by lia,zb0,r.back];exact B
def zrG (m:Nat):Bool:=((List.range m).all λv=>(zpL m m 0).contains v)&&orb m m 0==0
def zdP(q:0<m)(h:zrG m=true):Ring m:=by
 unfold zrG at h;rw[bC] at h;show⟨q,λv B=>?_,cb h.2⟩;right
def zuf:Ring 8:=zdP (by ext) (by decide +kernel)
def zrF:Ring 32:=zdP (by ext) (by decide +kernel)
def zo4:Ring 128:=zdP (by ext) (by decide +kernel)
def zo5:Ring 512:=zdP (by ext) (by decide +kernel)
def zmg(r:Ring (q+1))(h:Int)(B:j<=q):∃n,n<10 * SetTable.turns q/\wk q h n=j:=by have F:(lp q h 13).1<q+1:=fO _ (fE _);obtain⟨k,J,e⟩:=r.reach F (fP B);obtain⟨T,O,I⟩:=zi1 q h (13+k);show⟨T,by unfold SetTable.turns;lia,?_⟩;change (stp q h T).j=j;rw[I];change (lp q h (13+k)).1=j;rw[zi9,e]
def zo7 {xs:Array Nat}(B:Ris xs){i j a b:Nat}(hi:xs[i]?=some a)(F:xs[j]?=some b)(h:a<b):i<j:=by
 obtain⟨h1,h2⟩:=xn hi;obtain⟨I,J⟩:=xn F;rcases cF i j with q | q | q;exact q;subst q;lia;have:=B j i q h1;lia
def zgS(q:Ris xs):∀ (M:Nat),(∀j,j<M->∃i:Nat,xs[i]?=some j)->∀ (j i:Nat),j<M->xs[i]?=some j->j<=i
 | _,_,0,_,_,_=>aK _
 | M,h,j+1,i,I,e=>by obtain⟨F,B⟩:=h j (by lia);have h1:=zo7 q B e (eF j);have h2:=zgS q M h j F (by lia) B;lia
def zo6(q:Ris xs)(h:xs.size<M):∃j,j<M/\∀i:Nat,xs[i]?≠some j:=by show bU λhn=>?_;have all:∀j,j<M->∃i:Nat,xs[i]?=some j:=λj B=>bU λF=>hn ⟨j,B,λi e=>F ⟨i,e⟩⟩;obtain⟨i,e⟩:=all (M - 1) (by lia);have h1:=zgS q M all (M - 1) i (by lia) e;have h2:=(xn e).1;lia
section
variable {t:SetTable}{hashAt:Nat->Int}{h:Int}
def zgM (F:Ris t.place)(I:t.dummies = #[]):∀ (q n:Nat),(∃N,n<=N/\N<n+q/\∀i:Nat,t.place[i]?≠some (wk t.mask h N))->
  ∃N,n<=N/\(∀m,n<=m->m<N->∃i,t.place[i]?=some (wk t.mask h m)/\hashAt i≠h)/\
   (((∀i:Nat,t.place[i]?≠some (wk t.mask h N))/\SetTable.probe.go t hashAt h q (stp t.mask h n)=some (.empty (wk t.mask h N) none))\/
    ∃i,t.place[i]?=some (wk t.mask h N)/\hashAt i=h/\SetTable.probe.go t hashAt h q (stp t.mask h n)=some (.candidate (wk t.mask h N) i (stp t.mask h (N+1))))
 | 0,n,⟨N,h1,h2,_⟩=>by lia
 | q+1,n,⟨N,h1,h2,J⟩=>by
  rcases zpg F I (wk t.mask h n) with ⟨e,hn⟩ | ⟨i,e,hi⟩;show⟨n,ai _,λm a b=>by lia,.inl ⟨hn,?_⟩⟩;change (match t.slot (wk t.mask h n) with | .empty=>some (SetTable.Met.empty (wk t.mask h n) (stp t.mask h n).dummy) | .dummy=>_ | .live i=>_)=_;rw[e,ze0];by_cases B:hashAt i=h;show⟨n,ai _,λm a b=>by lia,.inr ⟨i,hi,B,?_⟩⟩;change (match t.slot (wk t.mask h n) with | .empty=>_ | .dummy=>_ | .live i=>if hashAt i==h then some (SetTable.Met.candidate (wk t.mask h n) i (t.advance (stp t.mask h n))) else _)=_;rw[e];change (if (hashAt i==h)=true then _ else _)=_;rw[if_pos (beq_iff_eq.mpr B)];rfl;have Z:n≠N:=λz=>by subst z;exact J i hi
  obtain⟨N',a1,O,a3⟩:=zgM F I q (n+1) ⟨N,by lia,by lia,J⟩;have e2:SetTable.probe.go t hashAt h (q+1) (stp t.mask h n)=SetTable.probe.go t hashAt h q (stp t.mask h (n+1)):=by change (match t.slot (wk t.mask h n) with | .empty=>_ | .dummy=>_ | .live i=>if hashAt i==h then _ else SetTable.probe.go t hashAt h q (t.advance (stp t.mask h n)))=_;rw[e];change (if (hashAt i==h)=true then _ else _)=_;rw[if_neg (λz=>B (beq_iff_eq.mp z))];rfl
  show⟨N',by lia,λm b1 U=>?_,?_⟩;by_cases Y:m=n;subst Y;exact⟨i,hi,B⟩;exact O m (by lia) U;right
variable {prog:Aa}{w:Ab}
abbrev tk (prog:Aa)(w:Ab):HeapKind prog w (List Key):=tupleKind (zQ prog w)
def zsQ (t:SetTable)(h:Int)(i:Nat):Prop:=∃n,n<10 * SetTable.turns t.mask/\t.place[i]?=some (wk t.mask h n)/\∀m,m<n->∃q:Nat,t.place[q]?=some (wk t.mask h m)
def uZ (m:Nat):Prop:=m=7\/m=31\/m=127\/m=511
def uZ.ring(h:uZ m):Ring (m+1):=by
 rcases h with rfl | rfl | rfl | rfl;exact zuf;exact zrF;exact zo4;exact zo5
def uZ.le(h:uZ m):7<=m/\m<=511:=by rcases h with rfl | rfl | rfl | rfl <;> lia
def uZ.odd(h:uZ m):(m % 2==0)=false:=by rcases h with rfl | rfl | rfl | rfl <;> rfl
structure Tb (prog:Aa)(w:Ab)(t:SetTable)(es:Array (Int×Value))(xs:List (List Key×Addr)):Prop where
 eq:es.toList=xs.map λq=>((tk prog w).hash q.1,Value.ref q.2)
 nd:(xs.map (·.1)).Nodup
 dm:t.dummies = #[]
 ris:Ris t.place
 le:∀ (i j:Nat),t.place[i]?=some j->j<=t.mask
 sz:t.place.size=xs.length
 msk:uZ t.mask
 few:xs.length<=t.mask
 plain:t.plain=true
 led:t.led = !w.params.followText "set-order"
 reach:∀ (i:Nat) (q:List Key×Addr),xs[i]?=some q->zsQ t ((tk prog w).hash q.1) i
variable {es:Array (Int×Value)}{xs:List (List Key×Addr)}
def Tb.size (T:Tb prog w t es xs):es.size=xs.length:=by rw[<- aH,T.eq,ab]
def Tb.get (T:Tb prog w t es xs){i:Nat}{q:List Key×Addr}(h:xs[i]?=some q):es[i]?=some ((tk prog w).hash q.1,Value.ref q.2):=by rw[<- bY,T.eq,aL,h];rfl
def Tb.at' (T:Tb prog w t es xs){i j:Nat}(h:t.place[i]?=some j):∃q,xs[i]?=some q:=by
 have:=(xn h).1;rw[T.sz] at this;right
def Tb.fits (T:Tb prog w t es xs):t.fits es.size=true:=by unfold SetTable.fits SetTable.fill;rw[T.size,T.sz,T.dm];have:=T.few;simp;lia
def Tb.empty (T:Tb prog w t es xs)(h:Int):∃N,N<10 * SetTable.turns t.mask/\∀i:Nat,t.place[i]?≠some (wk t.mask h N):=by have:=T.few;obtain⟨j,q,hn⟩:=zo6 T.ris (M:=t.mask+1) (by rw[T.sz];lia);obtain⟨N,h1,h2⟩:=zmg T.msk.ring h (cZ q);exact⟨N,h1,by rw[h2];exact hn⟩
variable {A:Ae}{E:AA}{s:AZ}
def zfe(h:(zQ prog w).is k v=true):(∃i t,v = .int i t)\/∃x t,v = .str x t:=by
 rcases zP h with ⟨i,t,_,e⟩ | ⟨x,t,_,e⟩;exact .inl ⟨i,t,e⟩;exact .inr ⟨x,t,e⟩
def zbI:∀ {ks:List Key} {vs:AN},ItemsAre (zQ prog w) ks vs->∀v∈vs,(∃i t,v = .int i t)\/∃x t,v = .str x t
 | _,_,.nil,v,h=>by simp at h
 | _,_,.cons h1 h2,v,h=>by
  rcases ay.mp h with rfl | h;exact zfe h1;exact zbI h2 v h
def zcQ(J:(tk prog w).is s.heap k b)(h:Q false s):Ag prog w A (ofAClassStatement 8 (.ref b)) Q E s:=by
 have B:IsTupleKey (zQ prog w) s.heap k b:=J;have O:=B.typeIs;obtain⟨o,items,n,U,_,Y,hi⟩:=B;unfold ofAClassStatement;show aa (dM O ?_);dsimp only;rw[if_pos (by ext)];show aa (ae ?_);simp only[fY,aT,if_false];show aa (cE U Y ?_);show aa ?_;change wpAny _ _ (forIn items _ _) _ _ s;rw[<- Array.forIn_toList];show gd _ (λzC r s'=>r.1=none/\s'=s/\∀v∈zC,(∃i t,v=Value.int i t)\/∃x t,v=Value.str x t) _ ?_ ?_ _ _ ⟨rfl,rfl,zbI hi⟩
 ·rintro v zC r s' ⟨F,rfl,q⟩;have e:ofAClassStatement 7 v=pure false:=by rcases q v aj with ⟨i,t,rfl⟩ | ⟨x,t,rfl⟩ <;> rfl
  rw[e];show aa (ae ?_);simp only[aT,if_false];exact ae ⟨rfl,rfl,λu I=>q u (am _ I)⟩
 rintro⟨Z,r2⟩ s' ⟨F,rfl,_⟩;simp only at F;subst F;exact ae h
def zsj(U:(tk prog w).is s.heap k b):∀ (l:AN),(∀v∈l,∃F q,v = .ref q/\(tk prog w).is s.heap F q)->Q false s->Ag prog w A (searchCouldBeSeen (.ref b) l) Q E s:=by
 intro l Y h;unfold searchCouldBeSeen;show aa ?_;show gd _ (λzC r s'=>r.1=none/\s'=s/\∀v∈zC,∃F q,v=Value.ref q/\(tk prog w).is s.heap F q) _ ?_ ?_ _ _ ⟨rfl,rfl,Y⟩
 ·rintro v zC r s' ⟨J,rfl,B⟩;obtain⟨F,q,rfl,I⟩:=B v aj;have next:∀u∈zC,∃F q,u=Value.ref q/\(tk prog w).is s'.heap F q:=λu O=>B u (am _ O);dsimp only;split
  ·exact ae ⟨rfl,rfl,next⟩
  ·show aa ((tk prog w).quiet U ?_);simp only[fY,aT,if_false];show aa ((tk prog w).quiet I ?_);simp only[fY,aT,if_false];show aa (zcQ U ?_);simp only[aT,if_false];show aa (zcQ I ?_);simp only[aT,if_false];exact ae ⟨rfl,rfl,next⟩
 rintro⟨Z,r2⟩ s' ⟨J,rfl,_⟩;simp only at J;subst J;exact ae h
def zea (t:SetTable)(xs:List (List Key×Addr))(h:Int)(k:List Key)(n:Nat):Prop:=∀m,m<n->∃ (i:Nat) (q:List Key×Addr),t.place[i]?=some (wk t.mask h m)/\xs[i]?=some q/\q.1≠k
def zeV {a b:Addr}{o:Obj}{ep:Nat}{k:List Key}{adding:Bool}{Q:SetFound->AZ->Prop}(hu:A.units<cLine)(T:Tb prog w t es xs)(hk:(tk prog w).is s.heap k b)(hel:∀q∈xs,(tk prog w).is s.heap q.1 q.2)
  (ho:s.heap.get? a=some o) (hd:o.data = .set es ep t)
  (found:∀r i q,xs[i]?=some q->q.1=k->(r=none/\adding=true\/r=some i)->Q (.there r) s)
  (free:∀N,N<10 * SetTable.turns t.mask->(∀i:Nat,t.place[i]?≠some (wk t.mask ((tk prog w).hash k) N))->zea t xs ((tk prog w).hash k) k N->Q (.free (wk t.mask ((tk prog w).hash k) N) false) s) :
  ∀ (fuel n:Nat) (stand:Option SetTable.Probe),stand.getD (t.probeStart ((tk prog w).hash k))=stp t.mask ((tk prog w).hash k) n->10 * SetTable.turns t.mask<n+fuel->n<=10 * SetTable.turns t.mask->zea t xs ((tk prog w).hash k) k n->
   Ag prog w A (setSearchFrom a (.ref b) ((tk prog w).hash k) adding fuel stand) Q E s
 | 0,n,stand,_,h2,h3,_=>by lia
 | fuel+1,n,stand,h1,h2,h3,h4=>by
  unfold setSearchFrom;show aa (bH ho hd T.fits ?_);dsimp only;rw[show t.gaveWay=false from T.msk.odd];simp only[aT,if_false];rw[h1];obtain⟨N0,hN0,eN0⟩:=T.empty ((tk prog w).hash k)
  have hn0:n<=N0:=by
   rcases Nat.lt_or_ge N0 n with q | q;obtain⟨i,_,e,_⟩:=h4 N0 q;exact absurd e (eN0 i);exact q
  have pass:∀N,n<=N->(∀m,n<=m->m<N->∃i:Nat,t.place[i]?=some (wk t.mask ((tk prog w).hash k) m)/\(es[i]?.map (·.1)).getD 0≠(tk prog w).hash k)->zea t xs ((tk prog w).hash k) k N:=λN hN hh m hm=>by
   rcases Nat.lt_or_ge m n with q | q;exact h4 m q;obtain⟨i,e1,e2⟩:=hh m q hm;obtain⟨q,hq⟩:=T.at' e1;show⟨i,q,e1,hq,λz=>e2 ?_⟩;rw[T.get hq,<- z];rfl
  obtain⟨N,hN,hp,hc⟩:=zgM (t:=t) (hashAt:=λi=>(es[i]?.map (·.1)).getD 0) (h:=(tk prog w).hash k) T.ris T.dm (10 * SetTable.turns t.mask) n ⟨N0,hn0,by lia,eN0⟩
  have hNle:N<=N0:=by
   rcases Nat.lt_or_ge N0 N with q | q;obtain⟨i,e,_⟩:=hp N0 hn0 q;exact absurd e (eN0 i);exact q
  rcases hc with ⟨he,hg⟩ | ⟨i,hi,hh,hg⟩;have hg':t.probe (λi=>(es[i]?.map (·.1)).getD 0) ((tk prog w).hash k) (stp t.mask ((tk prog w).hash k) n)=some (.empty (wk t.mask ((tk prog w).hash k) N) none):=hg;have fin:=free N (by lia) he (pass N hN hp);generalize hm:SetTable.probe t _ _ _=met;have:met=some (.empty (wk t.mask ((tk prog w).hash k) N) none):=hm.symm.trans hg';rw[this];dsimp only;exact ae fin;have hg':t.probe (λi=>(es[i]?.map (·.1)).getD 0) ((tk prog w).hash k) (stp t.mask ((tk prog w).hash k) n)=some (.candidate (wk t.mask ((tk prog w).hash k) N) i (stp t.mask ((tk prog w).hash k) (N+1))):=hg;generalize hm:SetTable.probe t _ _ _=met;have:met=some (.candidate (wk t.mask ((tk prog w).hash k) N) i (stp t.mask ((tk prog w).hash k) (N+1))):=hm.symm.trans hg';rw[this];dsimp only;obtain⟨q,hq⟩:=T.at' hi;have hqe:=T.get hq;have hqk:=hel q (aG hq);have stl:t.slot (wk t.mask ((tk prog w).hash k) N) = .live i:=zaD T.ris hi
  have core:Ag prog w A (do
    let some (_,y):=es[i]? | unsupported "internal:set-entry"
    let equal <- holding [y] (eqBool y (.ref b))
    let (es',_,t') <- setState a
    if adding&&equal then return .there none
    let some smem:=t'.sameMemory t.moves t.mask | unsupported "set.changed-during-lookup:is-the-new-block-at-the-old-address"
    let still <- match (if smem then t'.slot (wk t.mask ((tk prog w).hash k) N) else .empty) with
     | .live i'=>match es'[i']? with
      | some (_,y')=>do pure (if <- isSame y' y then some i' else none)
      | none=>pure none
     | _=>pure none
    match still with
    | none=>rule "set.search.anew";setSearchFrom a (.ref b) ((tk prog w).hash k) adding fuel none
    | some i'=>if equal then return .there (some i') else setSearchFrom a (.ref b) ((tk prog w).hash k) adding fuel (some (stp t.mask ((tk prog w).hash k) (N+1)))) Q E s:=by
   rw[hqe];dsimp only;show aa (bJ ((tk prog w).eqBool hu hqk hk ?_));show aa (bH ho hd T.fits ?_);dsimp only;by_cases hkk:q.1=k;rw[a9 hkk]
   cases adding with
   | true=>
    simp only[Bool.and_self,if_true];exact ae (found none i q hq hkk (.inl ⟨rfl,rfl⟩))
   | false=>
    simp only[Bool.false_and,aT,if_false];have e1:t.sameMemory t.moves t.mask=some true:=by unfold SetTable.sameMemory;simp
    rw[e1];dsimp only;simp only[if_true];rw[stl];dsimp only;rw[hqe];dsimp only;show aa (wpAny_isSame_ref_self (aa (ae ?_)));simp only[if_true];exact ae (found (some i) i q hq hkk (.inr rfl))
   rw[aZ hkk];simp only[Bool.and_false,aT,if_false];have e1:t.sameMemory t.moves t.mask=some true:=by unfold SetTable.sameMemory;simp
   rw[e1];dsimp only;simp only[if_true];rw[stl];dsimp only;rw[hqe];dsimp only;show aa (wpAny_isSame_ref_self (aa (ae ?_)));simp only[if_true];show zeV hu T hk hel ho hd found free fuel (N+1) _ rfl (by lia) (by lia) λm hm=>?_;rcases Nat.lt_succ_iff_lt_or_eq.mp hm with z | z;exact pass N hN hp m z;subst z;exact⟨i,q,hi,hq,hkk⟩
  split;show aa (zsj hk _ (λv hv=>?_) ?_);obtain⟨e,he,rfl⟩:=aF.mp hv;have he':e∈es.toList:=by have:=bR.mp he;exact bR.mpr (Array.mem_filter.mp this).1
  rw[T.eq] at he';obtain⟨q',hq',rfl⟩:=aF.mp he';exact⟨_,_,rfl,hel q' hq'⟩;simp only[aT,if_false];exact core;exact core
end
def zeu {α:Type}(l:List α)(p:Nat)(x:α):List α:=l.take p++x::l.drop p
def zfu {α:Type}{l:List α}{p i:Nat}{x:α}(q:p<=l.length)(h:i<p):(zeu l p x)[i]?=l[i]?:=by unfold zeu;rw[bw (by grind),bW h]
def zfs{α:Type}{l:List α}{x:α}(q:p<=l.length):(zeu l p x)[p]?=some x:=by
 unfold zeu;right
def zft {α:Type}{l:List α}{p i:Nat}{x:α}(q:p<=l.length)(h:p<=i):(zeu l p x)[i+1]?=l[i]?:=by unfold zeu;rw[bi (by grind),bg,show i+1 - min p l.length=(i - p)+1 by lia,db,fw,show p+(i - p)=i by lia]
def zdf {α:Type}{l:List α}{p:Nat}{x:α}(q:p<=l.length):(zeu l p x).length=l.length+1:=by
 unfold zeu;grind
def zk7 {α q:Type}(f:α->q)(l:List α)(p:Nat)(x:α):(zeu l p x).map f=zeu (l.map f) p (f x):=by
 unfold zeu;right
def ziG {α:Type}(l:List α)(p:Nat)(x:α):(zeu l p x).Perm (x::l):=by
 unfold zeu;show List.perm_middle.trans ?_;right
def yg{α:Type}(xs:Array α)(x:α):(SetTable.insertAt xs p x).toList=zeu xs.toList p x:=by
 unfold SetTable.insertAt zeu;rw[bh,bQ,Array.toList_extract,Array.toList_extract,List.extract_eq_take_drop,List.extract_eq_take_drop];rw[Nat.sub_zero,ek,az];congr 1;change x::_=_;congr 1;change []++List.take _ (List.drop p xs.toList)=_;rw[List.nil_append];show bt ?_;right
def zbA {α:Type}(xs:Array α)(i:Nat):xs[i]?=xs.toList[i]?:=by right
def zfv{xs:Array Nat}(B:p<=xs.size)(h:xs[i]?=some v):(SetTable.insertAt xs p j)[if i<p then i else i+1]?=some v:=by
 rw[zbA,yg];rw[zbA] at h;have q:p<=xs.toList.length:=by rw[aH];exact B
 split
 ·rename_i hi;rw[zfu q hi,h]
 ·rename_i hi;rw[zft q (by lia),h]
def zal{xs:Array Nat}(I:p<=xs.size)(h:(SetTable.insertAt xs p j)[i]?=some v):(i=p/\v=j)\/(i<p/\xs[i]?=some v)\/∃B,i=B+1/\p<=B/\xs[B]?=some v:=by
 rw[zbA,yg] at h;have F:p<=xs.toList.length:=by rw[aH];exact I
 rcases cF i p with q | q | q;rw[zfu F q,<- zbA] at h;right;subst q;rw[zfs F] at h;right;obtain⟨B,rfl⟩:∃B,i=B+1:=⟨i - 1,by lia⟩;rw[zft F (by lia),<- zbA] at h;exact .inr (.inr ⟨B,rfl,by lia,h⟩)
def zhx(hr:Ris xs)(hn:∀i:Nat,xs[i]?≠some j):Ris (SetTable.insertAt xs (SetTable.below xs j) j):=by
 obtain⟨O,b2,b3⟩:=xw hr j;intro i I Y h2;have e1:=zfp (xs:=SetTable.insertAt xs (SetTable.below xs j) j) (i:=i) (by lia);have J:=zfp h2;generalize (SetTable.insertAt xs (SetTable.below xs j) j).getD i 0=v at e1;generalize (SetTable.insertAt xs (SetTable.below xs j) j).getD I 0=U at J
 have Z:∀i v,SetTable.below xs j<=i->xs[i]?=some v->j<v:=λi v h e=>by
  obtain⟨a1,a2⟩:=xn e;grind
 have F:∀i v,i<SetTable.below xs j->xs[i]?=some v->v<j:=λi v h e=>by obtain⟨a1,a2⟩:=xn e;have:=b2 i h;lia
 have B:∀i I v U,i<I->xs[i]?=some v->xs[I]?=some U->v<U:=λi I v U h e J=>by
  obtain⟨a1,a2⟩:=xn e;obtain⟨a3,a4⟩:=xn J;have:=hr i I h a3
  omega
 rcases zal O e1 with ⟨rfl,rfl⟩ | ⟨q,e⟩ | ⟨i',rfl,q,e⟩;rcases zal O J with ⟨rfl,rfl⟩ | ⟨q',e'⟩ | ⟨i'',rfl,q',e'⟩;lia;lia;exact Z _ _ q' e';rcases zal O J with ⟨rfl,rfl⟩ | ⟨q',e'⟩ | ⟨i'',rfl,q',e'⟩;exact F _ _ q e;exact B _ _ _ _ Y e e';exact B _ _ _ _ (by lia) e e';rcases zal O J with ⟨rfl,rfl⟩ | ⟨q',e'⟩ | ⟨i'',rfl,q',e'⟩;lia;lia;exact B _ _ _ _ (by lia) e e'
section
variable {prog:Aa}{w:Ab}{t:SetTable}{es:Array (Int×Value)}{xs:List (List Key×Addr)}
def znD:SetTable.has #[] j=false:=rfl
def Tb.put(T:Tb prog w t es xs)(hN:N<10 * SetTable.turns t.mask)(he:∀i:Nat,t.place[i]?≠some (wk t.mask ((tk prog w).hash k) N))(hp:zea t xs ((tk prog w).hash k) k N)(hk:k∉xs.map (·.1))(hf:xs.length+1<=t.mask)(ac:wk t.mask ((tk prog w).hash k) N<=t.mask) :
  ∃O,Tb prog w (t.put (wk t.mask ((tk prog w).hash k) N)).1 (SetTable.insertAt es (t.put (wk t.mask ((tk prog w).hash k) N)).2 ((tk prog w).hash k,.ref b)) O/\O.Perm ((k,b)::xs):=by
 generalize hj:wk t.mask ((tk prog w).hash k) N=j at *;obtain⟨U,b2,b3⟩:=xw T.ris j;have ad:(t.put j).2=SetTable.below t.place j:=rfl
 have ht:(t.put j).1={ t with place:=SetTable.insertAt t.place (SetTable.below t.place j) j }:=by
  unfold SetTable.put;dsimp only;rw[T.dm,znD];grind
 generalize ag:SetTable.below t.place j=p at *;have F:p<=xs.length:=by rw[<- T.sz];exact U
 have B:∀ {i v:Nat},t.place[i]?=some v->∃I:Nat,(SetTable.insertAt t.place p j)[I]?=some v:=λ{i v} h=>⟨_,zfv U h⟩;have Y:=ziG xs p (k,b);show⟨zeu xs p (k,b),?_,Y⟩;rw[ad,ht];show⟨?_,?_,T.dm,?_,?_,?_,T.msk,?_,T.plain,T.led,?_⟩;rw[yg,T.eq,zk7];rw[(Y.map (·.1)).nodup_iff,aC,cU];exact⟨hk,T.nd⟩;have:=zhx T.ris he;right;intro i v e;rcases zal U e with ⟨_,rfl⟩ | ⟨_,e'⟩ | ⟨_,_,_,e'⟩;exact ac;exact T.le _ _ e';exact T.le _ _ e';change (SetTable.insertAt t.place p j).size=_;rw[<- aH,yg,zdf (by right),zdf F,aH,T.sz];change (zeu xs p (k,b)).length<=t.mask;rw[zdf F];exact hf;intro i q J;rcases cF i p with z | z | z;rw[zfu F z] at J;obtain⟨n,h1,h2,h3⟩:=T.reach i q J;show⟨n,h1,?_,λm Z=>?_⟩;have:=zfv (j:=j) U h2;right;obtain⟨I,e⟩:=h3 m Z;exact B e;subst z;rw[zfs F] at J;cases J;show⟨N,hN,?_,λm Z=>?_⟩;change (SetTable.insertAt t.place i j)[i]?=_;rw[zbA,yg,zfs (by right)];right;obtain⟨I,q',e,_⟩:=hp m Z;exact B e;obtain⟨I,rfl⟩:∃I,i=I+1:=⟨i - 1,by lia⟩;rw[zft F (by lia)] at J;obtain⟨n,h1,h2,h3⟩:=T.reach I q J;show⟨n,h1,?_,λm Z=>?_⟩;have:=zfv (j:=j) U h2;rw[if_neg (by lia)] at this;exact this;obtain⟨I,e⟩:=h3 m Z;exact B e
end
def zdw:∀ (n:Nat) {l:AR},l.Nodup->(∀x∈l,x<n)->l.length<=n
 | 0,l,_,h=>by
  cases l with
  | nil=>exact ai _
  | cons a _=>exact absurd (h a aj) (cY _)
 | n+1,l,hn,h=>by
  by_cases B:n∈l
  have h1:=zdw n (hn.erase n) λx q=>by
   grind
  grind
  have:=zdw n hn λx q=>by
   grind
  lia
def zdI {α:Type}[BEq α][LawfulBEq α]:∀ {l l':List α},l.Nodup->l'.Nodup->(∀x,x∈l↔x∈l')->l.Perm l'
 | [],l',_,_,h=>by
  cases l' with
  | nil=>exact .nil
  | cons a _=>exact absurd ((h a).mpr aj) (by simp)
 | a::l,l',hn,q,h=>by grind
def St0 (q:Nat)(h:Int)(K:Nat):SetTable.Probe:=⟨(lp q h K).1,SetTable.runEnd q (lp q h K).1 - (lp q h K).1,(lp q h K).1,(lp q h K).2,none⟩
def zi2 {q:Nat}{h:Int}{T K:Nat}(e:stp q h T=St0 q h K):stp q h (T+(SetTable.runEnd q (lp q h K).1 - (lp q h K).1)+1)=St0 q h (K+1):=by change (tm q).advance (stp q h (T+_))=_;rw[zdY q h e _ (ai _),zc6 q _ (Nat.sub_self _)];rfl
def zqB (q:Nat)(h:Int):∀K,(lp q h K).1<=q
 | 0=>cZ (fO _ (fE _))
 | K+1=>cZ (fO _ (fE _))
def zb6 {q i:Nat}(h:i<=q):SetTable.runEnd q i<=q/\i<=SetTable.runEnd q i:=by unfold SetTable.runEnd;split <;> lia
def zer{h:Int}{owner:Array (Option Nat)}(hs:owner.size=q+1):∀ (B K T:Nat),T<=10 * K->stp q h T=St0 q h K->(∀m,m<T->∃F,owner[wk q h m]?=some (some F))->
  (∃K',K<=K'/\K'<K+B/\owner[(lp q h K').1]?=some none)->
  ∃N,SetTable.layClean.free q owner B (lp q h K).1 (lp q h K).2=some (wk q h N)/\N<10 * (K+B)/\wk q h N<=q/\owner[wk q h N]?=some none/\∀m,m<N->∃F,owner[wk q h m]?=some (some F)
 | 0,K,T,_,_,_,⟨K',h1,h2,_⟩=>by lia
 | B+1,K,T,hT,eT,ad,⟨K',h1,h2,h3⟩=>by
  have as:=zqB q h K;obtain⟨r1,r2⟩:=zb6 as;have r9:=zmZ q (lp q h K).1;have I:∀k,k<=SetTable.runEnd q (lp q h K).1 - (lp q h K).1->wk q h (T+k)=(lp q h K).1+k:=λk Y=>by change (stp q h (T+k)).j=_;rw[zdY q h eT k Y]
  have inR:∀k,k<=SetTable.runEnd q (lp q h K).1 - (lp q h K).1->∃u,owner[(lp q h K).1+k]?=some u/\owner.getD ((lp q h K).1+k) (some 0)=u:=λk Y=>by
   have a4:(lp q h K).1+k<owner.size:=by lia
   right
  change ∃N,(match (List.range (SetTable.runEnd q (lp q h K).1+1 - (lp q h K).1)).find? λk=>(owner.getD ((lp q h K).1+k) (some 0)).isNone with
   | some k=>some ((lp q h K).1+k)
   | none=>SetTable.layClean.free q owner B (lp q h (K+1)).1 (lp q h (K+1)).2)=some (wk q h N)/\_
  cases hf:(List.range (SetTable.runEnd q (lp q h K).1+1 - (lp q h K).1)).find? λk=>(owner.getD ((lp q h K).1+k) (some 0)).isNone with
  | some k=>
   obtain⟨hp,i,hi,ag,al⟩:=List.find?_eq_some_iff_getElem.mp hf;rw[cQ] at ag;subst ag;rw[aB] at hi;have Y:i<=SetTable.runEnd q (lp q h K).1 - (lp q h K).1:=by lia
   obtain⟨u,J,O⟩:=inR i Y;rw[O] at hp
   have a0:u=none:=by
    cases u with
    | none=>rfl
    | some z=>exact absurd hp (by simp)
   subst a0;show⟨T+i,by rw[I i Y],by lia,by rw[I i Y];lia,by rw[I i Y];exact J,λm hm=>?_⟩;by_cases ac:m<T;exact ad m ac;obtain⟨U,rfl⟩:∃U,m=T+U:=⟨m - T,by lia⟩;obtain⟨u,J,O⟩:=inR U (by lia);have:=al U (by lia);rw[cQ,O] at this;rw[I U (by lia),J]
   cases u with
   | none=>simp at this
   | some F=>exact⟨F,rfl⟩
  | none=>
   have an:=List.find?_eq_none.mp hf
   have Z:∀k,k<=SetTable.runEnd q (lp q h K).1 - (lp q h K).1->∃F,owner[(lp q h K).1+k]?=some (some F):=λk Y=>by
    obtain⟨u,J,O⟩:=inR k Y;have:=an k (aN.mpr (by lia));rw[O] at this
    cases u with
    | none=>simp at this
    | some F=>exact⟨F,J⟩
   have a5:K≠K':=λz=>by
    subst z;obtain⟨F,e⟩:=Z 0 (aK _);grind
   have ap:∀m,m<T+(SetTable.runEnd q (lp q h K).1 - (lp q h K).1)+1->∃F,owner[wk q h m]?=some (some F):=λm hm=>by
    by_cases ac:m<T;exact ad m ac;obtain⟨U,rfl⟩:∃U,m=T+U:=⟨m - T,by lia⟩;rw[I U (by lia)];exact Z U (by lia)
   obtain⟨N,a1,a2,a3⟩:=zer hs B (K+1) _ (by lia) (zi2 eT) ap ⟨K',by lia,by lia,h3⟩;exact⟨N,a1,by lia,a3⟩
structure Own (mask:Nat)(hs:AG)(n:Nat)(owner:Array (Option Nat)):Prop where
 size:owner.size=mask+1
 lt:∀ (j i:Nat),owner[j]?=some (some i)->i<n
 inj:∀ (j j' i:Nat),owner[j]?=some (some i)->owner[j']?=some (some i)->j=j'
 reach:∀ (i:Nat) (h:Int),i<n->hs[i]?=some h->∃N,N<10 * SetTable.turns mask/\owner[wk mask h N]?=some (some i)/\∀m,m<N->∃i',owner[wk mask h m]?=some (some i')
def Own.gap{hs:AG}(o:Own q hs n owner)(hn:n<=q):∃j,j<=q/\owner[j]?=some none:=by
 show bU λJ=>?_
 have all:∀j,j<q+1->∃i,owner[j]?=some (some i):=λj F=>by
  have O:j<owner.size:=by rw[o.size];exact F
  cases e:owner[j] with
  | none=>exact absurd ⟨j,cZ F,by right⟩ J
  | some i=>exact⟨i,by right⟩
 have U:=zdw n (l:=(List.range (q+1)).map λj=>((owner[j]?).join).getD 0) ?_ ?_;rw[ab,aB] at U;lia;show bZ.mpr (List.Pairwise.imp_of_mem ?_ dF);intro a b Y Z I e;show I ?_;obtain⟨i,hi⟩:=all a (aN.mp Y);obtain⟨i',B⟩:=all b (aN.mp Z);rw[hi,B] at e;have:i=i':=e;subst this;exact o.inj _ _ _ hi B;intro x hx;obtain⟨j,F,rfl⟩:=aF.mp hx;obtain⟨i,hi⟩:=all j (aN.mp F);rw[hi];exact o.lt _ _ hi
def Own.step{hs:AG}{h:Int}(o:Own B hs n owner)(hr:Ring (B+1))(hn:n<=B)(hh:hs[n]?=some h) :
  ∃j,SetTable.layClean.free B owner (SetTable.turns B) (SetTable.bits h % (B+1)) (SetTable.bits h)=some j/\Own B hs (n+1) (owner.setIfInBounds j (some n)):=by
 obtain⟨g,hg,eg⟩:=o.gap hn;have hb:(lp B h 13).1<B+1:=fP (zqB B h 13);obtain⟨k,hk,e⟩:=hr.reach hb (fP hg);obtain⟨N,h1,h2,h3,h4,h5⟩:=zer o.size (SetTable.turns B) 0 0 (ai _) (h:=h) rfl (λm Y=>absurd Y (cY _)) ⟨13+k,aK _,by unfold SetTable.turns;lia,by rw[zi9,e];exact eg⟩;have hj:wk B h N<owner.size:=by rw[o.size];lia
 have I:(owner.setIfInBounds (wk B h N) (some n))[wk B h N]?=some (some n):=by right
 have F:∀j,j≠wk B h N->(owner.setIfInBounds (wk B h N) (some n))[j]?=owner[j]?:=λj ac=>by rw[Array.getElem?_setIfInBounds];rw[if_neg (λz=>ac z.symm)]
 have J:∀j i,owner[j]?=some (some i)->(owner.setIfInBounds (wk B h N) (some n))[j]?=some (some i):=λj i e=>by
  by_cases q:j=wk B h N;rw[q,h4] at e;cases e;rw[F j q];exact e
 show⟨wk B h N,h1,by simp[o.size],λj i e=>?_,λj j' i e U=>?_,λi h' hi O=>?_⟩;by_cases q:j=wk B h N;right;rw[F j q] at e;have:=o.lt _ _ e;lia;by_cases q:j=wk B h N;subst q;rw[I] at e;cases e;by_cases Z:j'=wk B h N;exact Z.symm;rw[F j' Z] at U;have:=o.lt _ _ U;lia;rw[F j q] at e;by_cases Z:j'=wk B h N;subst Z;rw[I] at U;cases U;have:=o.lt _ _ e;lia;rw[F j' Z] at U;exact o.inj _ _ _ e U;by_cases q:i=n;subst q;rw[hh] at O;cases O;show⟨N,by lia,I,λm Y=>?_⟩;obtain⟨i',e⟩:=h5 m Y;exact⟨i',J _ _ e⟩;obtain⟨M,m1,m2,m3⟩:=o.reach i h' (by lia) O;show⟨M,m1,J _ _ m2,λm Y=>?_⟩;obtain⟨i',e⟩:=m3 m Y;exact⟨i',J _ _ e⟩
def zlz (q:Nat)(hs:AG):Own q hs 0 (Array.replicate (q+1) none):=by
 have B:∀j i,(Array.replicate (q+1) (none:Option Nat))[j]?≠some (some i):=λj i e=>by
  rw[Array.getElem?_replicate] at e;grind
 exact⟨by simp,λj i e=>absurd e (B j i),λj F i e=>absurd e (B j i),λi h hi=>absurd hi (cY _)⟩
def zgg(I:Ring (q+1)):∀ (zC pre:AG) (owner:Array (Option Nat)),(pre++zC).length<=q->Own q (pre++zC) pre.length owner->
  ∃B,zC.foldl (λ(acc:Option (Array (Option Nat)×Nat)) h=>acc.bind λx=>(SetTable.layClean.free q x.1 (SetTable.turns q) (SetTable.bits h % (q+1)) (SetTable.bits h)).bind λj=>some (x.1.setIfInBounds j (some x.2),x.2+1)) (some (owner,pre.length))=some (B,(pre++zC).length)/\Own q (pre++zC) (pre++zC).length B
 | [],pre,owner,_,o=>by right
 | h::zC,pre,owner,F,o=>by
  have O:pre.length+(zC.length+1)<=q:=by rw[ak,aM] at F;exact F
  obtain⟨j,e,o'⟩:=o.step I (by lia) (h:=h) (by simp);have J:pre++h::zC=(pre++[h])++zC:=by rw[az];rfl
  have U:pre.length+1=(pre++[h]).length:=by rw[ak];rfl
  rw[J,U] at o';obtain⟨B,Y,Z⟩:=zgg I zC (pre++[h]) _ (by rw[<- J];exact F) o';grind
def zeD(B:Ring (q+1))(hs:Array Int)(F:hs.size<=q):∃owner,SetTable.layClean q hs=some owner/\Own q hs.toList hs.size owner:=by
 obtain⟨owner,h1,h2⟩:=zgg B hs.toList [] (Array.replicate (q+1) none) (by right) (zlz q _);rw[List.nil_append,aH] at h2;show⟨owner,?_,h2⟩;unfold SetTable.layClean;right
def yJ (q:Nat)(owner:Array (Option Nat)):List (Nat×Nat):=(List.range (q+1)).filterMap λj=>(owner.getD j none).map (j,·)
def y9{hs:AG}(o:Own q hs n owner):(j,i)∈yJ q owner↔owner[j]?=some (some i):=by
 unfold yJ;rw[di];constructor;rintro⟨O,F,e⟩;obtain⟨U,I,J⟩:=aI.mp e;cases J;have B:j<owner.size:=by rw[o.size];exact aN.mp F
 right;intro e;obtain⟨B,I⟩:=cN.mp e;show⟨j,aN.mpr (by rw[<- o.size];exact B),?_⟩;right
def zi5 (q:Nat)(owner:Array (Option Nat)):(yJ q owner).Pairwise λa b=>a.1<b.1:=by
 unfold yJ;show List.pairwise_filterMap.mpr ((List.pairwise_lt_range).imp ?_);right
def zi4{hs:AG}(o:Own q hs hs.length owner):((yJ q owner).map (·.2)).Perm (List.range hs.length):=by
 show zdI ?_ dF λi=>?_;show bZ.mpr (List.Pairwise.imp_of_mem ?_ (zi5 q owner));intro a b B F I e;have h1:=(y9 o).mp B;have h2:=(y9 o).mp F;rw[e] at h1;have:=o.inj _ _ _ h1 h2;lia;rw[aN];constructor;intro h;obtain⟨⟨j,J⟩,h1,rfl⟩:=aF.mp h;exact o.lt _ _ ((y9 o).mp h1);intro h;obtain⟨N,_,e,_⟩:=o.reach i hs[i] h (aw h);exact aF.mpr ⟨(_,i),(y9 o).mpr e,rfl⟩
def zb4 {α:Type}(l:List α):(List.range l.length).filterMap (λi=>l[i]?)=l:=by
 have:∀ (n:Nat) (l:List α),n=l.length->(List.range n).filterMap (λi=>l[i]?)=l:=by
  intro n
  induction n with
  | zero=>intro l h;cases l with | nil=>rfl | cons _ _=>simp at h
  | succ n q=>
   intro l h
   cases l with
   | nil=>simp at h
   | cons a l=>
    rw[List.range_succ_eq_map,ce];change a::_=_;rw[fq];congr 1;exact q l (by simpa using h)
 exact this _ l rfl
section
variable {prog:Aa}{w:Ab}{t:SetTable}{es:Array (Int×Value)}{xs:List (List Key×Addr)}
def Tb.laid(T:Tb prog w t es xs)(hm:uZ B)(hl:xs.length<=B)(O Y:Nat) :
  ∃t' F ac,SetTable.laid B O Y t.led true (es.map (·.1))=some (t',F)/\(F.filterMap (es[·]?)).size=es.size/\Tb prog w t' (F.filterMap (es[·]?)) ac/\ac.Perm xs/\t'.mask=B:=by
 obtain⟨owner,e,o⟩:=zeD hm.ring (es.map (·.1)) (by rw[Array.size_map,T.size];exact hl);have hh:(es.map (·.1)).toList=xs.map λq=>(tk prog w).hash q.1:=by rw[gc,T.eq,aJ];rfl
 have hsz:(es.map (·.1)).size=xs.length:=by rw[Array.size_map,T.size]
 rw[hh,hsz] at o;have o':Own B (xs.map λq=>(tk prog w).hash q.1) (xs.map λq=>(tk prog w).hash q.1).length owner:=by rw[ab];exact o
 have hp:=zi4 o';rw[ab] at hp;have ad:((((yJ B owner).map (·.2)).toArray).filterMap (es[·]?)).toList=((yJ B owner).map (·.2)).filterMap (es.toList[·]?):=by right
 have J:(((yJ B owner).map (·.2)).filterMap (xs[·]?)).Perm xs:=by have:=hp.filterMap (xs[·]?);rw[zb4] at this;exact this
 have ag:((yJ B owner).map (·.2)).filterMap (es.toList[·]?)=(((yJ B owner).map (·.2)).filterMap (xs[·]?)).map λq=>((tk prog w).hash q.1,Value.ref q.2):=by rw[List.map_filterMap];congr 1;funext i;rw[T.eq,aL]
 have Z:∀ {c:Nat} {q:List Key×Addr},(((yJ B owner).map (·.2)).filterMap (xs[·]?))[c]?=some q->∃j i,(yJ B owner)[c]?=some (j,i)/\xs[i]?=some q:=by
  have as:∀ (l:List (Nat×Nat)),(∀p∈l,p.2<xs.length)->∀ {c:Nat} {q:List Key×Addr},((l.map (·.2)).filterMap (xs[·]?))[c]?=some q->∃j i,l[c]?=some (j,i)/\xs[i]?=some q:=by
   intro l
   induction l with
   | nil=>intro _ c q h;simp at h
   | cons p l ih=>
    intro al c q h;have a0:=al p aj;rw[aC,ce,aw a0] at h
    cases c with
    | zero=>
     show⟨p.1,p.2,rfl,?_⟩;right
    | succ c=>exact ih (λp' a1=>al p' (am _ a1)) (by simpa using h)
  intro c q h;show as _ (λp hp=>?_) h;obtain⟨j,i⟩:=p;exact o.lt _ _ ((y9 o).mp hp)
 have I:∀ {c j i:Nat},(yJ B owner)[c]?=some (j,i)->(((yJ B owner).map (·.1)).toArray)[c]?=some j:=λ{c j i} h=>by right
 show⟨_,_,((yJ B owner).map (·.2)).filterMap (xs[·]?),by unfold SetTable.laid;rw[e];rfl,?_,⟨?_,?_,rfl,?_,?_,?_,hm,?_,rfl,by exact T.led,?_⟩,J,rfl⟩;change ((((yJ B owner).map (·.2)).toArray).filterMap (es[·]?)).size=es.size;rw[<- aH,ad,ag,ab,J.length_eq,T.size];exact ad.trans ag;rw[(J.map (·.1)).nodup_iff];exact T.nd;intro i j an hj
 have ap:j<(yJ B owner).length:=by
  have:(((yJ B owner).map (·.1)).toArray).size=(yJ B owner).length:=by simp
  rw[<- this];exact hj
 have a2:i<(yJ B owner).length:=Nat.lt_trans an ap;have:=bz.mp (zi5 B owner) i j a2 ap an;change (((yJ B owner).map (·.1)).toArray).getD i 0<(((yJ B owner).map (·.1)).toArray).getD j 0;right;intro c j hc;have U:((yJ B owner).map (·.1))[c]?=some j:=by rw[zbA] at hc;exact hc
 rw[aL] at U;obtain⟨⟨j',i'⟩,h1,rfl⟩:=aI.mp U;have h2:=(y9 o).mp (aG h1);have:=(cN.mp h2).1;rw[o.size] at this;change j'<=B;lia;change (((yJ B owner).map (·.1)).toArray).size=_;have h1:(((yJ B owner).map (·.1)).toArray).size=(yJ B owner).length:=by simp
 rw[h1,J.length_eq];have:=hp.length_eq;grind;rw[J.length_eq];exact hl;intro c q hq;obtain⟨j,i,h1,h2⟩:=Z hq;have hi:=(ah.mp h2).1;obtain⟨N,n1,n2,n3⟩:=o.reach i ((tk prog w).hash q.1) hi (by right);have hj:=o.inj _ _ _ ((y9 o).mp (aG h1)) n2;subst hj;show⟨N,n1,I h1,λm a3=>?_⟩;obtain⟨i',e'⟩:=n3 m a3;obtain⟨c',U,a4⟩:=bS.mp ((y9 o).mpr e');exact⟨c',I (by rw[aw U,a4])⟩
variable {A:Ae}{E:AA}{s:AZ}
def zbz (prog:Aa)(w:Ab)(h:Heap)(a:Addr)(xs:List (List Key×Addr)):Prop:=∃o es q t,h.get? a=some o/\o.ExactSet/\o.data = .set es q t/\Tb prog w t es xs/\xs.length * 5<t.mask * 3
def zbh{ns:AG}(Z:(tk prog w).is s.heap (ns.map Sum.inl) b)(h:Q true s):Ag prog w A (hashByValue 8 (.ref b)) Q E s:=by
 have I:IsTupleKey (zQ prog w) s.heap (ns.map Sum.inl) b:=Z;have hT:=I.typeIs;obtain⟨o,items,n,ho,_,hd,hi⟩:=I
 have B:∀ {ns:AG} {vs:AN},ItemsAre (zQ prog w) (ns.map Sum.inl) vs->∀v∈vs,∃i t,v=Value.int i t:=by
  intro ns
  induction ns with
  | nil=>intro vs h v J;cases h;simp at J
  | cons n ns ih=>
   intro vs h v J
   cases h with
   | cons h1 h2=>
    rcases ay.mp J with rfl | J
    ·have O:zfz (Sum.inl n) v=true:=h1;rcases zP O with ⟨i,t,_,e⟩ | ⟨x,t,z,_⟩
     all_goals right
    exact ih h2 v J
 unfold hashByValue;show aa (wpAny_specialOf hT F.slot_tuple_hash.lookup ?_);dsimp only;show aa (cE ho hd ?_);show aa ?_;change wpAny _ _ (forIn items _ _) _ _ s;rw[<- Array.forIn_toList];show gd _ (λzC r s'=>r.1=none/\s'=s/\∀v∈zC,∃i t,v=Value.int i t) _ ?_ ?_ _ _ ⟨rfl,rfl,B hi⟩;rintro v zC r s' ⟨U,rfl,q⟩;obtain⟨i,t,rfl⟩:=q v aj;have e:hashByValue 7 (Value.int i t)=pure true:=rfl;rw[e];show aa (ae ?_);simp only[fY,aT,if_false];exact ae ⟨rfl,rfl,λu Y=>q u (am _ Y)⟩;rintro⟨r1,r2⟩ s' ⟨U,rfl,_⟩;simp only at U;subst U;exact ae h
def zcV{h:Heap}{a:Addr}{o:Obj}{es:Array (Int×Value)}{es':Array (Int×Value)}(F:h.get? a=some o)(B:o.data = .set es q t) :
  (h.update a (Obj.putSet es' t')).get? a=some { o with data:=.set es' (q+1) t' }:=by
 have:=bv (Obj.putSet es' t') F (by rw[putSet_of es' t' B];rfl);rw[putSet_of es' t' B] at this;exact this
def zlU(T:Tb prog w t es xs)(ho:s.heap.get? a=some o)(hx:o.ExactSet)(hd:o.data = .set es ep t)(hw:SetTable.sizeAbove wanted=mask+1)(hm:uZ mask)(hl:xs.length * 5<mask * 3)(h:∀h' xs',Heap.SameBut a s.heap h'->zbz prog w h' a xs'->xs'.Perm xs->Q () { s with heap:=h' }):Ag prog w A (setRelay a wanted) Q E s:=by
 unfold setRelay;show aa (bH ho hd T.fits ?_);dsimp only;have:=hm.le;rw[if_neg (by rw[hw,b6];lia)];obtain⟨t',order,xs',e,hsz,T',hp,hmk⟩:=T.laid hm (by lia) t.finger (t.movedTo mask);have e':t.relaid (es.map (·.1)) wanted=some (t',order):=by unfold SetTable.relaid;rw[hw,T.plain];exact e
 have core:∀ {R:Array (Int×Value)×SetTable->AZ->Prop},R (order.filterMap (es[·]?),t') s->Ag prog w A (do
   let some (t,order):=t.relaid (es.map (·.1)) wanted | unsupported "internal:set-table-without-room"
   let es':=order.filterMap (es[·]?)
   if es'.size != es.size then unsupported "internal:set-table-lost-an-element"
   pure (es',t)) R E s:=λ{R} hR=>by
  rw[e'];dsimp only;rw[hsz];simp only[fN,aT,if_false]
  first | exact ae hR | exact aa (by grind)
 show aa (core ?_);show wpAny_storeSet_of ho hd ?_ (by rw[hsz,T.size,b6];lia);show h _ xs' (br _ a _) ⟨_,_,_,t',zcV ho hd,hx,rfl,T',?_⟩ hp;rw[hp.length_eq,hmk];exact hl
def Tb.out(T:Tb prog w t es xs)(Z:N<10 * SetTable.turns t.mask)(J:∀i:Nat,t.place[i]?≠some (wk t.mask ((tk prog w).hash k) N))(O:zea t xs ((tk prog w).hash k) k N):k∉xs.map (·.1):=λz=>by
 obtain⟨q,U,B⟩:=aF.mp z;obtain⟨i,hi⟩:=List.mem_iff_getElem?.mp U;obtain⟨n,h1,h2,I⟩:=T.reach i q hi;rw[B] at h2 I;rcases cF N n with z | z | z;obtain⟨F,e⟩:=I N z;exact J F e;right;obtain⟨F,q',Y,e2,e3⟩:=O n z
 have:F=i:=by
  have a1:=zaD T.ris Y;have a2:=zaD T.ris h2;right
 grind
def zpO{ns:AG}(hu:A.units<cLine)(S:zbz prog w s.heap a xs)(hk:(tk prog w).is s.heap (ns.map Sum.inl) b)(a0:∀q∈xs,(tk prog w).is s.heap q.1 q.2)(hn:xs.length<300)(h:∀r h' n Y,Heap.SameBut a s.heap h'->zbz prog w h' a Y->((ns.map Sum.inl)∈xs.map (·.1)->Y=xs)->((ns.map Sum.inl)∉xs.map (·.1)->Y.Perm ((ns.map Sum.inl,b)::xs))->Q r { s with heap:=h',toks:=n }) :
  Ag prog w A (setAdd a (.ref b)) Q E s:=by
 obtain⟨o,es,ep,t,ho,hx,hd,T,B⟩:=S;unfold setAdd;show bJ (aa ((tk prog w).pyHash hu hk ?_));unfold setAddHashed;show bJ ?_;rw[show (100000:Nat)=99999+1 from rfl];unfold setAddHashedIn;show aa (bH (s:={ s with toks:=s.toks+(tk prog w).draws (ns.map Sum.inl) }) ho hd T.fits ?_);dsimp only;rw[show byScan (.ref b) es=false from rfl];simp only[aT,if_false];unfold setSearch;have hm:=T.msk.le;have ba:t.fill=xs.length:=by unfold SetTable.fill;rw[T.sz,T.dm];rfl
 show aa (zeV (s:={ s with toks:=s.toks+(tk prog w).draws (ns.map Sum.inl) }) hu T hk a0 ho hd ?found ?free 100000 0 none rfl (by unfold SetTable.turns;lia) (aK _) (λm hm=>absurd hm (cY _)))
 case found=>
  intro r i q hq a1 _;dsimp only;have ag:(ns.map Sum.inl)∈xs.map (·.1):=aF.mpr ⟨q,aG hq,a1⟩;exact ae (h false s.heap _ xs (Heap.SameBut.refl a s.heap) ⟨o,es,ep,t,ho,hx,hd,T,B⟩ (λ_=>rfl) (λz=>absurd ag z))
 case free=>
  intro N hN he hp;have Z:=T.out hN he hp;dsimp only;show aa (bH (s:={ s with toks:=s.toks+(tk prog w).draws (ns.map Sum.inl) }) ho hd T.fits ?_);dsimp only
  have al:wk t.mask ((tk prog w).hash (ns.map Sum.inl)) N<=t.mask:=by
   have:∀ (h:Int) (n:Nat),wk t.mask h n<=t.mask/\(stp t.mask h n).j+(stp t.mask h n).more<=t.mask:=by
    intro h n
    induction n with
    | zero=>
     have h0:SetTable.bits h % (t.mask+1)<=t.mask:=cZ (fO _ (fE _));obtain⟨r1,r2⟩:=zb6 h0;show⟨h0,?_⟩;change SetTable.bits h % (t.mask+1)+(SetTable.runEnd t.mask (SetTable.bits h % (t.mask+1)) - SetTable.bits h % (t.mask+1))<=t.mask;lia
    | succ n ih=>
     change ((tm t.mask).advance (stp t.mask h n)).j<=t.mask/\((tm t.mask).advance (stp t.mask h n)).j+((tm t.mask).advance (stp t.mask h n)).more<=t.mask;by_cases a2:0<(stp t.mask h n).more;rw[zfZ _ _ a2];grind;rw[zc6 _ _ (by lia)];have h0:((stp t.mask h n).i * 5+1+(stp t.mask h n).perturb / 32) % (t.mask+1)<=t.mask:=cZ (fO _ (fE _));obtain⟨r1,r2⟩:=zb6 h0;grind
   exact (this _ _).1
  obtain⟨a3,T1,ac⟩:=T.put (b:=b) hN he hp Z (by lia) al;generalize an:t.put (wk t.mask ((tk prog w).hash (ns.map Sum.inl)) N)=tp at T1;obtain⟨J,p⟩:=tp;dsimp only at T1 ⊢
  have ap:J.mask=t.mask:=by
   have:J=(t.put (wk t.mask ((tk prog w).hash (ns.map Sum.inl)) N)).1:=by rw[an]
   rw[this];rfl
  rw[T1.plain];simp only[if_true];show aa (zbh (s:={ s with toks:=s.toks+(tk prog w).draws (ns.map Sum.inl) }) hk ?_);simp only[if_true];have ad:=ac.length_eq;rw[aM] at ad;show aa (wpAny_storeSet_of (s:={ s with toks:=s.toks+(tk prog w).draws (ns.map Sum.inl) }) ho hd ?_ (by rw[T1.size,b6];lia));have g1:=zcV (es':=SetTable.insertAt es p ((tk prog w).hash (ns.map Sum.inl),.ref b)) (t':=J) ho hd;have as:=br s.heap a (Obj.putSet (SetTable.insertAt es p ((tk prog w).hash (ns.map Sum.inl),.ref b)) J);simp only[Bool.not_false,Bool.true_and];have O:J.fill=xs.length+1:=by unfold SetTable.fill;rw[T1.sz,T1.dm,ad];rfl
  by_cases U:J.tooFull=true
  ·rw[if_pos U];unfold SetTable.tooFull at U;rw[O,ap] at U;have I:=bD U;rw[T.size]
   have next:∃F,SetTable.sizeAbove (SetTable.grown (xs.length+1))=F+1/\uZ F/\(xs.length+1) * 5<F * 3:=by
    rcases T.msk with e | e | e | e;rw[e] at I B;have:xs.length=4:=by lia
    rw[this];exact⟨31,by ext,.inr (.inl rfl),by lia⟩;rw[e] at I B;have:xs.length=18:=by lia
    rw[this];exact⟨127,by ext,.inr (.inr (.inl rfl)),by lia⟩;rw[e] at I B;have:xs.length=76:=by lia
    rw[this];exact⟨511,by ext,.inr (.inr (.inr rfl)),by lia⟩;rw[e] at I B;lia
   obtain⟨F,m1,m2,m3⟩:=next;show aa (zlU (s:={ s with heap:=s.heap.update a (Obj.putSet (SetTable.insertAt es p ((tk prog w).hash (ns.map Sum.inl),.ref b)) J),toks:=s.toks+(tk prog w).draws (ns.map Sum.inl) }) T1 g1 hx rfl m1 m2 (by rw[ad];exact m3) λh' a4 a5 S2 a7=>?_);exact ae (h true h' _ a4 (as.trans a5) S2 (λz=>absurd z Z) λ_=>a7.trans ac)
  rw[if_neg U];unfold SetTable.tooFull at U;rw[O,ap] at U;have I:¬ ((xs.length+1) * 5 ≥ t.mask * 3):=λz=>U (a9 z);show ae (h true _ _ a3 as ⟨_,_,_,J,g1,hx,rfl,T1,?_⟩ (λz=>absurd z Z) λ_=>ac);right
end
def zN:Slot "set_iterator" "__next__" "set_iterator.__next__" :=
 .of (owner := "set_iterator") (n := "__next__") (by rw[typeLookup_type,builtinLookup_eq_fast];kernel_rfl) (by decide +kernel) (by decide +kernel) (by decide +kernel)
  (by first | exact .inl (by decide +kernel) | exact .inr (by decide +kernel)) (by rw[isSubtype_type];kernel_rfl)
def xJ:Slot "set_iterator" "__iter__" "set_iterator.__iter__" :=
 .of (owner := "set_iterator") (n := "__iter__") (by rw[typeLookup_type,builtinLookup_eq_fast];kernel_rfl) (by decide +kernel) (by decide +kernel) (by decide +kernel)
  (by first | exact .inl (by decide +kernel) | exact .inr (by decide +kernel)) (by rw[isSubtype_type];kernel_rfl)
def y8:entryFor table "set_iterator.__next__" = some Builtin.«set_iterator.__next__»:=entryFor_of_tree (by kernel_rfl)
def zak:entryFor table "set_iterator.__iter__" = some Builtin.«dict_keyiterator.__iter__»:=entryFor_alias (id' := "dict_keyiterator.__iter__") (by kernel_rfl) rfl (by decide +kernel) (by kernel_rfl)
def zci:entryFor table "set.__iter__" = some Builtin.«frozenset.__iter__»:=entryFor_alias (id' := "frozenset.__iter__") (by kernel_rfl) rfl (by decide +kernel) (by kernel_rfl)
def xu (a:Value):argsOk "set_iterator.__next__" ⟨[a],[]⟩:=by unfold argsOk;kernel_rfl
def zaM (a:Value):argsOk "set_iterator.__iter__" ⟨[a],[]⟩:=by unfold argsOk;kernel_rfl
def ziD {α:Type}(next:Nat->Nat):∀ (n k:Nat) (left:List α) (out:Array α),left.length=n->(pickOrder.go next n k left out).toList.Perm (out.toList++left)
 | 0,k,left,out,h=>by
  have:left=[]:=a8 h;subst this;change out.toList.Perm (out.toList++[]);right
 | n+1,k,left,out,h=>by
  have q:next k % left.length<left.length:=fO _ (by lia)
  change (match left[next k % left.length]? with
   | some x=>pickOrder.go next n (k+1) (left.eraseIdx (next k % left.length)) (out.push x)
   | none=>out).toList.Perm _
  rw[aw q];show (ziD next n (k+1) _ _ (by grind)).trans ?_;rw[bQ,az];show eA _ ?_;have e:left=left.take (next k % left.length)++left[next k % left.length]::left.drop (next k % left.length+1):=by right
  rw[List.eraseIdx_eq_take_drop_succ];show List.Perm.trans ?_ (List.Perm.of_eq e.symm);rw[List.singleton_append];exact List.perm_middle.symm
def zeO {α:Type}(next:Nat->Nat)(xs:Array α):(pickOrder next xs).toList.Perm xs.toList:=by
 change (pickOrder.go next xs.size 0 xs.toList #[]).toList.Perm _;have:=ziD next xs.size 0 xs.toList #[] (aH);grind
section
variable {prog:Aa}{w:Ab}{t:SetTable}{es:Array (Int×Value)}{xs:List (List Key×Addr)}{A:Ae}{E:AA}{s:AZ}
def zly (w:Ab)(a:Addr)(q:Nat)(es:Array (Int×Value)):Array (Int×Value):=if w.params.followText "set-order" then pickOrder (w.params.setOrder a q) es else es
def zeL (a:Addr)(q:Nat):(zly w a q es).toList.Perm es.toList:=by
 unfold zly;split;exact zeO _ _;right
def ye (h:Heap)(B a:Addr)(q i n F:Nat):Prop:=∃o,h.get? B=some o/\o.cls = .type "set_iterator" /\ o.data = .fields #[.int q 0,.int i 0,.ref a,.int n 0,.int F 0]
def ye.typeIs(x:ye s.heap B a q i n F):s.TypeIs (.ref B) "set_iterator" := let ⟨o,ho,hc,_⟩:=x;⟨o,ho,hc⟩
structure SetIs (prog:Aa)(w:Ab)(h:Heap)(a:Addr)(es:Array (Int×Value))(ep:Nat)(t:SetTable)(xs:List (List Key×Addr)):Prop where
 ob:∃o,h.get? a=some o/\o.ExactSet/\o.data = .set es ep t
 tb:Tb prog w t es xs
def zjo{e:Int×Value}(hit:ye s.heap it a slot i es.size ep)(S:SetIs prog w s.heap a es ep t xs)(hs:w.params.followText "set-order" = true\/SetTable.below t.place slot=i)(hx:(zly w a ep es)[i]?=some e)(hQ:∀h' slot',ye h' it a slot' (i+1) es.size ep->(w.params.followText "set-order" = true\/SetTable.below t.place slot'=i+1)->Heap.SameBut it s.heap h'->Q (some e.2) { s with heap:=h' }):Ag prog w A (pyNext (.ref it)) Q E s:=by
 obtain⟨o,ho,hc,hd⟩:=id hit;obtain⟨⟨os,hos,_,hds⟩,T⟩:=S;have hf:=T.fits;unfold pyNext
 show aa (cP (wpAny_callSpecial?_slot (name:=Str.ofString "__next__") hit.typeIs zN
  (aW zN hit.typeIs y8 ?_ (xu _))))
 show aa (ae ?_);show aa (fH ho hd ?_);dsimp only;show aa (eX hos hds hf ?_);rw[if_neg (by simp)]
 have upd2:∀slot':Nat,∃h',ye h' it a slot' (i+1) es.size ep/\Heap.SameBut it s.heap h'/\∀ {A':Ae} {E':AA} {α:Type} {f:Sem α} {R:α->AZ->Prop},Ag prog w A' f R E' { s with heap:=h' }->Ag prog w A' (do setField (.ref it) 0 (rawInt slot');setField (.ref it) 1 (rawInt ((i:Int)+1));f) R E' s:=by
  intro slot';have h1:(s.heap.update it (Obj.mapFields (·.setIfInBounds 0 (rawInt slot')))).get? it=some (Obj.mapFields (·.setIfInBounds 0 (rawInt slot')) o):=bv _ ho (dl (b8 hd _));have hd1:(Obj.mapFields (·.setIfInBounds 0 (rawInt slot')) o).data = .fields #[.int slot' 0,.int i 0,.ref a,.int es.size 0,.int ep 0]:=by rw[b8 hd];simp[rawInt]
  show⟨(s.heap.update it (Obj.mapFields (·.setIfInBounds 0 (rawInt slot')))).update it (Obj.mapFields (·.setIfInBounds 1 (rawInt ((i:Int)+1)))),⟨_,bv _ h1 (dl (b8 hd1 _)),?_,?_⟩,(br ..).trans (br ..),λ{A' E' α f R} hR=>?_⟩;rw[dY,dY];exact hc;rw[b8 hd1];simp[rawInt];exact aa (bN ho hd (by simp) (aa (bN (s:={ s with heap:=s.heap.update it (Obj.mapFields (·.setIfInBounds 0 (rawInt slot'))) }) h1 hd1 (by simp) hR)))
 unfold setNext
 cases hb:w.params.followText "set-order" with
 | true=>
  have hx':(pickOrder (w.params.setOrder a ep) es)[i]?=some e:=by
   unfold zly at hx;right
  obtain⟨h',hi',sb',step⟩:=upd2 slot;show aa ?_;show aa (bH hos hds hf ?_);dsimp only;unfold setsByText;show aa (aa (bV (ae ?_)));rw[show (model prog w).w=w from rfl,hb];simp only[if_true];rw[if_neg (by simp)];unfold setWalk;show aa ?_;show aa (bH hos hds hf ?_);dsimp only;unfold setsByText;show aa (aa (bV (ae ?_)));rw[show (model prog w).w=w from rfl,hb];simp only[if_true];show aa (bV (ae ?_));show ae ?_;rw[show (model prog w).w=w from rfl];simp only[aO];rw[hx'];dsimp only[Option.map];exact step (ae ⟨_,rfl,ae (hQ h' slot hi' (.inl hb) sb')⟩)
 | false=>
  have hx':es[i]?=some e:=by
   unfold zly at hx;grind
  have hsl:SetTable.below t.place slot=i:=by grind
  have hi:i<es.size:=(cN.mp hx').1;have hpl:t.place[i]?=some (t.place.getD i 0):=zfp (by rw[T.sz,<- T.size];exact hi);obtain⟨h',hi',sb',step⟩:=upd2 (t.place.getD i 0+1);show aa ?_;show aa (bH hos hds hf ?_);dsimp only;unfold setsByText;show aa (aa (bV (ae ?_)));rw[show (model prog w).w=w from rfl,hb];simp only[aT,if_false];rw[if_neg (by change ¬ ((!t.plain&&decide (es.size > 1))=true);rw[T.plain];simp)];show aa ?_;change wpAny _ _ (if (!t.led&&!es.isEmpty)=true then unsupported "set:maker-not-led" else pure ()) _ _ s;rw[if_neg (by rw[T.led,hb];simp)];show ae ?_;simp only[aO];rw[hsl,hx',hpl];show ae ?_;dsimp only;show step (ae ⟨_,rfl,ae (hQ h' _ hi' (.inr ?_) sb')⟩);obtain⟨b1,b2,b3⟩:=xw T.ris (t.place.getD i 0+1);have hi2:=(xn hpl).1;rcases cF (SetTable.below t.place (t.place.getD i 0+1)) (i+1) with z | z | z;have:=b3 i (by lia) hi2;lia;exact z;have h1:=b2 (i+1) z;have h2:=T.ris i (i+1) (eF i) (by lia);lia
def zlt(hh:A.handled=none)(B:ye s.heap J a q es.size es.size O)(S:SetIs prog w s.heap a es O t xs)(hs:w.params.followText "set-order" = true\/SetTable.below t.place q=es.size)(hQ:∀h',Heap.ExtBut J s.heap h'->Q none { s with heap:=h' }):Ag prog w A (pyNext (.ref J)) Q E s:=by
 obtain⟨o,U,hc,Y⟩:=id B;obtain⟨⟨os,F,_,I⟩,T⟩:=S;have Z:=T.fits;unfold pyNext
 show aa (cP (wpAny_callSpecial?_slot (name:=Str.ofString "__next__") B.typeIs zN
  (aW zN B.typeIs y8 ?_ (xu _))))
 show aa (ae ?_);show aa (fH U Y ?_);dsimp only;show aa (eX F I Z ?_);rw[if_neg (by simp)];unfold setNext;show aa ?_;show aa (bH F I Z ?_);dsimp only;unfold setsByText;show aa (aa (bV (ae ?_)))
 cases hb:w.params.followText "set-order" with
 | true=>
  rw[show (model prog w).w=w from rfl,hb];simp only[if_true];rw[if_neg (by simp)];unfold setWalk;show aa ?_;show aa (bH F I Z ?_);dsimp only;unfold setsByText;show aa (aa (bV (ae ?_)));rw[show (model prog w).w=w from rfl,hb];simp only[if_true];show aa (bV (ae ?_));show ae ?_;rw[show (model prog w).w=w from rfl];simp only[aO];have hn:(pickOrder (w.params.setOrder a O) es)[es.size]?=none:=by rw[zbA];show List.getElem?_eq_none ?_;rw[(zeO _ es).length_eq,aH];exact ai _
  rw[hn];dsimp only[Option.map];show aa (bN U Y (by simp) ?_);show wpAny _ _ (newExc (.type "StopIteration") [] >>= _) _ _ _;show aa ?_;simp only[newExc,newTuple];show aa (bu ?_ (by size_fits));show aa (m:=firstArgMember _ _) (wpAny_of_eq (a:=Value.none) (by first | rfl | (simp only[firstArgMember];rfl)) ?_);show bu ?_ (by size_fits);simp only[raiseNew];show aa (fU ?_);rw[show A.in1.handled=none from hh];show aa (ae (wpAny_throw ?_));show aa (dg (T := "StopIteration") (b:=true) ⟨_,aq _ rfl,rfl⟩ et ?_);exact ae (hQ _ (((br ..).extBut.push _).push _))
 | false=>
  have ac:SetTable.below t.place q=es.size:=by grind
  rw[show (model prog w).w=w from rfl,hb];simp only[aT,if_false];rw[if_neg (by change ¬ ((!t.plain&&decide (es.size > 1))=true);rw[T.plain];simp)];show aa ?_;change wpAny _ _ (if (!t.led&&!es.isEmpty)=true then unsupported "set:maker-not-led" else pure ()) _ _ s;rw[if_neg (by rw[T.led,hb];simp)];show ae ?_;simp only[aO];rw[ac,Array.getElem?_eq_none (ai _)];show ae ?_;dsimp only;show aa (bN U Y (by simp) ?_);show wpAny _ _ (newExc (.type "StopIteration") [] >>= _) _ _ _;show aa ?_;simp only[newExc,newTuple];show aa (bu ?_ (by size_fits));show aa (m:=firstArgMember _ _) (wpAny_of_eq (a:=Value.none) (by first | rfl | (simp only[firstArgMember];rfl)) ?_);show bu ?_ (by size_fits);simp only[raiseNew];show aa (fU ?_);rw[show A.in1.handled=none from hh];show aa (ae (wpAny_throw ?_));show aa (dg (T := "StopIteration") (b:=true) ⟨_,aq _ rfl,rfl⟩ et ?_);exact ae (hQ _ (((br ..).extBut.push _).push _))
def ziN(q:ye s.heap F a B i n I)(h:Q (.ref F) s):Ag prog w A (pyIter (.ref F)) Q E s:=by show fQ q.typeIs xJ (aW xJ q.typeIs zak ?_ (zaM _));change wpAny _ _ (ret (.ref F)) _ _ s;exact ae ⟨_,rfl,"set_iterator",_,q.typeIs,zN.lookup,h⟩
def SetIs.typeIs(S:SetIs prog w s.heap a es q t xs):s.TypeIs (.ref a) "set" := let ⟨o,ho,hc,_⟩:=S.ob;⟨o,ho,hc.1⟩
def zk9(S:SetIs prog w s.heap a es J t xs)(h:Q (.ref s.heap.objs.size) { s with heap:=s.heap.push { cls:=.type "set_iterator",data:=.fields #[.int 0 0,.int 0 0,.ref a,.int es.size 0,.int J 0] } }):Ag prog w A (pyIter (.ref a)) Q E s:=by
 have O:=S.typeIs;obtain⟨⟨U,q,Y,B⟩,T⟩:=S;have I:=T.fits;show fQ O F.slot_set_iter (aW F.slot_set_iter O zci ?_ (F.args_set_iter_1 _));unfold Builtin.«frozenset.__iter__»;show aa (m:=Builtin.Frozenset.slot0 "__iter__" ⟨[.ref a],[]⟩) (ae ?_);show aa ?_;unfold Builtin.Frozenset.sizeOf;show aa (eX q B I (ae ?_));show aa ?_;unfold setDrawn;show aa (bH q B I ?_);dsimp only;unfold setsByText;show aa (aa (bV (ae ?_)));show ae ?_;rw[if_neg (by change ¬ ((!_&&(!t.plain&&decide (es.size > 1)))=true);rw[T.plain];simp)];show aa (ae ?_);show aa (wpAny_setEpoch_of q B I ?_);show aa (bu (ae ⟨_,rfl,"set_iterator",_,⟨_,aq _ rfl,rfl⟩,zN.lookup,?_⟩));simpa [rawInt] using h
def zl1(I:s.TypeIs (.ref r) "set")(h:Q false s):Ag prog w A (Builtin.List.listLengthHint (.ref r)) Q E s:=by
 unfold Builtin.List.listLengthHint;show aa (wpAny_specialOf I PySem.F.slot_set_len.lookup ?_);generalize B:("set.__len__" : String)=id0
 wp_delta
 rw[show splitId id0=some ("set","__len__") from by subst B;decide +kernel];subst B;show aa (dg (T := "set") (b:=true) I (by rw[isSubtype_type];kernel_rfl) ?_);show wpAny_ite_split (λq=>absurd q (by ext)) (λ_=>?_);show wpAny_ite_split (λ_=>?_) (λq=>absurd (by decide +kernel) q);show aa (dM I ?_);exact ae h
def SetIs.keep(S:SetIs prog w h a es q t xs)(k:∀o,h.get? a=some o->h'.get? a=some o):SetIs prog w h' a es q t xs:=let ⟨⟨o,ho,r⟩,T⟩:=S;⟨⟨o,k o ho,r⟩,T⟩
def ye.keep(S:ye h B a q i n F)(k:∀o,h.get? B=some o->h'.get? B=some o):ye h' B a q i n F:=let ⟨o,ho,r⟩:=S;⟨o,k o ho,r⟩
def SetIs.lt(S:SetIs prog w h a es q t xs):a<h.objs.size:=let ⟨⟨o,ho,_⟩,_⟩:=S;ar ho
def zj5 (hh:A.handled=none)(I a:Addr)(ac:a≠I)(J:Nat) :
  Walks prog w A I [I,a] [I] es.size (λi v=>∃e,(zly w a J es)[i]?=some e/\v=e.2) (λi h=>(∃q,ye h I a q i es.size J/\(w.params.followText "set-order" = true\/SetTable.below t.place q=i))/\SetIs prog w h a es J t xs) where
 sub:=λb O=>by simp at O;simp[O]
 frame:=λ_ _ _ st hk=>⟨let ⟨sl,x,y⟩:=st.1;⟨sl,x.keep λo e=>hk I (by simp) o e,y⟩,st.2.keep λo e=>hk a (by simp) o e⟩
 item:=λi s Q E hi st U=>by
  obtain⟨⟨sl,B,hs⟩,S⟩:=st
  have Y:i<(zly w a J es).size:=by
   have:=(zeL (w:=w) (es:=es) a J).length_eq;grind
  show zjo B S hs (e:=(zly w a J es)[i]) (aP Y) λh' F Z ad sb=>?_;exact U _ h' s.toks ⟨_,aP Y,rfl⟩ ⟨⟨F,Z,ad⟩,S.keep λo e=>(sb.2 a ac).trans e⟩ λb o O e=>sb.extBut b o (λh=>O (by simp[h])) e
 done:=λs Q E st U=>by obtain⟨⟨sl,B,hs⟩,S⟩:=st;exact zlt hh B S hs λh' ag=>U h' s.toks λb o O e=>ag b o (λh=>O (by simp[h])) e
 self:=λ_ _ _ _ st U=>let ⟨sl,x,_⟩:=st.1;ziN x U
def zpd (a:Addr)(q:Nat):KdlSrc prog w "set" a a es.size (λi v=>∃e,(zly w a q es)[i]?=some e/\v=e.2) (λh=>SetIs prog w h a es q t xs) where
 type:=λs S=>S.typeIs
 there:=λ_ S=>⟨S.lt,S.lt⟩
 keep:=λ_ _ S F=>S.keep λo e=>F a (.inl rfl) o e
 notList:=by ext
 notTuple:=by ext
 hint:=λ_ _ _ _ S B=>zl1 S.typeIs B
 iter:=λA s I S=>⟨_,_,(λ_ _ B=>zk9 S B),zj5 I _ a (aS S.lt) q,⟨⟨0,⟨_,aq _ rfl,rfl,rfl⟩,.inr ?_⟩,S.keep λo e=>af _ e⟩⟩
where finally
 have b:=xw S.tb.ris 0;rcases Nat.eq_zero_or_pos (SetTable.below t.place 0) with z | z;exact z;exact absurd (b.2.1 0 z) (cY _)
end
def zch (h:Heap)(L D:Addr)(v:Value)(st:AG):Prop:=∃ (a:Addr) (items:AN),v = .ref a/\IsTup h a items.toArray/\zM (st.map V.int) items/\a≠L/\a≠D
def zch.keep{st:AG}(r:zch h L D v st)(q:∀b o,b≠L->b≠D->h.get? b=some o->h'.get? b=some o):zch h' L D v st:=by obtain⟨a,items,e,⟨o,B,F⟩,I,h1,h2⟩:=r;exact⟨a,items,e,⟨o,q a o h1 h2 B,F⟩,I,h1,h2⟩
def zcK:∀ {vs:AN} {sts:AF},Paired (zch h L D) vs sts->(∀st∈sts,1<=st.length)->∃fs,W.KatTups h vs fs/\fs.length=sts.length/\∀f∈fs,∃a t,f=Value.int a t
 | _,_,.nil,_=>⟨[],trivial,rfl,λ_ h=>by simp at h⟩
 | _,_,.cons (b:=st) r rr,h1=>by
  obtain⟨a,items,rfl,⟨o,I,J,n,O⟩,q,_⟩:=r;obtain⟨fs,U,f2,f3⟩:=zcK rr λz Y=>h1 z (am _ Y);have B:=h1 st aj
  match st,q,B with
  | z::zs,q,_=>
   cases q with
   | cons Z qq=>
    obtain⟨t,rfl⟩:=Z;show⟨_::fs,⟨⟨a,o,_,n,rfl,I,J,O,rfl⟩,U⟩,by right,λf F=>?_⟩;rcases ay.mp F with rfl | F
    all_goals right
def xH {α q:Type}{R:α->q->Prop}:∀ {l:List α} {l':List q},Paired R l l'->∀ {i:Nat} (d:α) (d':q),i<l'.length->R (l.getD i d) (l'.getD i d')
 | _,_,.nil,i,_,_,h=>by simp at h
 | _,_,.cons r _,0,_,_,_=>r
 | _,_,.cons _ t,i+1,d,d',h=>by have:=xH t (i:=i) d d' (by simpa using h);simpa using this
def zcT {α q:Type}{R:α->q->Prop}:∀ {l:List α} {l':List q},Paired R l l'->l.length=l'.length
 | _,_,.nil=>rfl
 | _,_,.cons _ t=>by rw[aM,aM,zcT t]
section
variable {prog:Aa}{w:Ab}{A:Ae}{E:AA}{s:AZ}
def zgy{sts:AF}(ap:s.heap.Ns L m0)(as:D≠L)(ho:s.heap.get? D=some (seqObj "list" vs.toArray n))(hv:Paired (zch s.heap L D) vs sts)(hz:sts.length<=sizeLine)(a5:1<=m)(hm:∀st∈sts,st.length=m)(a0:sts.Nodup)(h:∀h' c p,List.Perm p (List.range sts.length)->((p.map λi=>sts.getD i []).Pairwise λa b=>HT.lexLt a b=true)->(∀b o,b≠L->b≠D->s.heap.get? b=some o->h'.get? b=some o)->h'.Ns L m0->
   h'.get? D=some (seqObj "list" (p.map λi=>vs.getD i .none).toArray c)->Q .none { s with heap:=h' }) :
  Ag prog w A (call (.builtin "list.sort") [.ref D]) Q E s:=by
 have a7:=zcT hv;by_cases h2:2<=sts.length
 ·have B:∀p∈(zaz s.heap L).filter (λq=>decide (q.1≠D)),s.heap.get? p.1=some p.2/\p.1≠L/\p.1≠D:=λp hp=>by
   have h1:=cm.mp hp;have h2:=zy.mp (show (p.1,p.2)∈zaz s.heap L from h1.1);right
  have J:∀b,(⟨#[],{}⟩:Heap).get? b=none:=λb=>by
   cases e:(⟨#[],{}⟩:Heap).get? b with
   | none=>rfl
   | some o'=>
    have:=ar e;simp at this
  show aW fF ⟨_,ho,rfl⟩ eW ?_ (fG _);show zaH (h₀:=(⟨#[],{}⟩:Heap)) (L:=L) (m:=m0) (news:=(zaz s.heap L).filter (λq=>decide (q.1≠D))) ⟨ap,λb o e=>?_,aK _⟩ (λp hp=>?_) ho as (J _) (λp hp=>(B p hp).2.2) (by lia) (by lia) λe1 h' F N=>?_;right;exact⟨(B p hp).1,(B p hp).2.1,J _⟩
  ·have kp:∀b o,b≠L->b≠D->s.heap.get? b=some o->h'.get? b=some o:=λb o hb hD e=>(N (b,o) (am _ (cm.mpr ⟨zy.mpr ⟨hb,e⟩,a9 hD⟩))).1;have O:Paired (zch h' L D) vs sts:=Paired.mapP hv λv st r=>r.keep kp;obtain⟨fs,k1,k2,k3⟩:=zcK O λst ba=>by rw[hm st ba];exact a5
   show W.kat_kind (T:=.type "int") (s:={ s with heap:=h' }) k1 (by lia) (λf hf=>?_) (by ext) ?_;obtain⟨a,t,rfl⟩:=k3 f hf;intro A' Q' E' s' _ hq;exact dM (typeIs_int s' a t) hq
   ·have hu:zhU sts.length (zbO sts):=λi j hi I e=>by
     have e1:=yI hm hi I;have e2:=yI hm I hi;rw[e,aZ (fX _)] at e1;rw[e,aZ (fX _)] at e2;have gi:sts.getD i []=sts[i]:=by simp[hi]
     have gj:sts.getD j []=sts[j]:=by simp[I]
     rcases uo (a:=sts.getD i []) (b:=sts.getD j []) (by right) with h | h | h;rw[gi,gj] at h;exact (de a0).mp h
     all_goals grind
    have U:vs.length=sts.length:=by lia
    show⟨zbO sts,by rw[U];exact hu,λi j hi I e=>?_,λi j hi I C E hC=>?_,λp Y=>?_⟩;rw[U] at hi I;obtain⟨a1,ad,b1,c1,d1,_⟩:=xH O .none [] hi;obtain⟨a2,ag,b2,c2,d2,_⟩:=xH O .none [] I;rw[b1,b2] at e;cases e;obtain⟨o1,al,_,n1,an⟩:=c1;obtain⟨o2,Z,_,n2,ac⟩:=c2;rw[al] at Z;cases Z;rw[an] at ac;have ei:ad=ag:=by injection ac with q1;exact List.toArray_inj q1
    subst ei;have es:=za1 d1 d2;have gi:sts.getD i []=sts[i]:=by simp[hi]
    have gj:sts.getD j []=sts[j]:=by simp[I]
    rw[gi,gj] at es;exact (de a0).mp es;rw[U] at hi I;obtain⟨a1,ad,b1,c1,d1,_⟩:=xH O .none [] hi;obtain⟨a2,ag,b2,c2,d2,_⟩:=xH O .none [] I;obtain⟨o1,al,_,n1,an⟩:=c1;obtain⟨o2,Z,_,n2,ac⟩:=c2;rw[b1,b2];have gi:(sts.getD i []).length=m:=by right
    have gj:(sts.getD j []).length=m:=by right
    have l1:=d1.length;have l2:=d2.length;rw[ab] at l1 l2;show W.kat_lt (s:={ s with heap:=h' }) al an Z ac ?_;rw[show decide (ad.toArray.size<ag.toArray.size)=false from aZ (by simp;lia)];show zdp 0 d1 d2 (by rw[gi,gj]) ?_;rw[yI hm hi I] at hC;exact hC;rw[U] at Y;have a3:p.toList.Perm (List.range sts.length):=by have:=Y.perm.toList;simpa using this
    have a4:∀i∈p.toList,i<sts.length:=λi hi=>aN.mp ((a3.mem_iff).mp hi);show W.KasFin.intro F N (W.UpdF.head λq' bb=>(B q' bb).2.2) λbc c F'' N''=>?_;show⟨_,rfl,h bc c p.toList a3 ?_ (λb o hb hD e=>(N'' (b,o) (am _ (cm.mpr ⟨zy.mpr ⟨hb,e⟩,a9 hD⟩))).1) F''.ns (N'' (D,_) aj).1⟩;have be:p.size=sts.length:=zeN Y.perm;rw[bz];intro i j hi I bd;rw[ab,aH] at hi I;have hk:=Y.lt_of bd (by lia);rw[b9,b9,dB,dB];have e1:p.getD i 0=p[i]:=by simp[hi]
    have e2:p.getD j 0=p[j]:=by simp[I]
    unfold key at hk;rw[e1,e2] at hk;rw[<- yI hm (a4 _ (by simp)) (a4 _ (by simp))];right
 show aW fF ⟨_,ho,rfl⟩ eW ?_ (fG _);show uH ho (by lia) λh' c kp hD=>⟨_,rfl,?_⟩;show h h' c (List.range sts.length) (en _) ?_ (λb o _ hb e=>kp b o hb e) ?_ ?_;grind;obtain⟨o,es,ep,g,k⟩:=ap;exact⟨o,es,ep,kp _ _ (Ne.symm as) g,k⟩;rw[<- a7,uP];exact hD
end
def za5 {α O:Type}{f:α->O}{l m:List O}(h:l.Perm m):∀ {xs:List α},m=xs.map f->∃q:List α,q.Perm xs/\l=q.map f:=by
 induction h with
 | nil=>
  right
 | cons x _ U=>
  intro xs e
  cases xs with
  | nil=>cases e
  | cons y ys=>
   rw[aC] at e;injection e with Y F;obtain⟨q,h1,h2⟩:=U F;exact⟨y::q,h1.cons y,by right⟩
 | swap x y l=>
  intro xs e
  match xs,e with
  | [],e=>cases e
  | [_],e=>cases e
  | a::b::r,e=>
   rw[aC,aC] at e;injection e with Y F;injection F with F e3;exact⟨b::a::r,.swap _ _ _,by grind⟩
 | trans _ _ I J=>
  intro xs e;obtain⟨q,h1,h2⟩:=J e;obtain⟨B,Z,h4⟩:=I h2;exact⟨B,Z.trans h1,h4⟩
def zhQ (P:Aa)(w:Ab)(a:Addr)(xs:List (List Key×Addr)):HO:=.ext λh=>zbz P w h a xs
def um (xs:AE):List (List Key×Addr):=xs.map λq=>(q.1.map Sum.inl,q.2)
def zj4(S:zbz P w h a xs):ya P w H h a (zhQ P w a xs):=by
 show⟨S,?_,λh1 h2 q k=>?_⟩;obtain⟨o,_,_,_,B,_⟩:=S;exact⟨o,B⟩;obtain⟨o,es,F,t,B,r⟩:=q;exact⟨o,es,F,t,k o B,r⟩
def zo3(h:(⟨Array.replicate (n+1) o,{}⟩:Heap).get? d=some u):u=o:=by
 unfold Heap.get? at h;simp only[Array.getElem?_replicate] at h;split at h;cases h;split at h;exact (cG h).symm;cases h
def zpc(hs:∃h:Heap,h.get? d=some ob):(λh=>zbz P w h a xs)≠λh=>h.get? d=some ob:=λe=>by
 obtain⟨B,F⟩:=hs;have h1:zbz P w B a xs:=by rw[show zbz P w B a xs=_ from congrFun e B];exact F
 obtain⟨o,es,O,t,U,I,Y,T,J⟩:=h1;have k:∀q:Nat,({ o with data:=.set es q t }:Obj)=ob:=λq=>by have h2:zbz P w (⟨Array.replicate (a+1) { o with data:=.set es q t },{}⟩:Heap) a xs:=⟨{ o with data:=.set es q t },es,q,t,by simp[Heap.get?],I,rfl,T,J⟩;rw[show zbz P w _ a xs=_ from congrFun e _] at h2;exact (zo3 h2).symm
 have:=congrArg Obj.data ((k 0).trans (k 1).symm);cases this
def zgC:∀kvs,pnK (zhQ P w a xs)=some kvs->xq kvs (Sum.inr "at" : Key)=none:=λkvs e=>by
 unfold zhQ pnK at e;dsimp only at e;rw[if_neg] at e;cases e;rintro⟨d,ob,hs,z⟩;exact zpc hs z
def zd5 (P:Aa)(w:Ab)(H:Hp)(a:Addr)(ks:AF):Prop:=∃xs:AE,H a=some (zhQ P w a (um xs))/\(∀q∈xs,H q.2=some (.tup (q.1.map V.int)))/\ks=xs.map (·.1)/\ks.Nodup
def zd5.stay{ks:AF}(S:zd5 P w H a ks)(h:zq H H'):zd5 P w H' a ks:=by obtain⟨xs,h1,h2,B,F⟩:=S;exact⟨xs,h _ _ h1 zgC,λq I=>h.tup (h2 q I),B,F⟩
def zbF:∀ns:AG,(ns.map Sum.inl).map kV=ns.map V.int
 | []=>rfl
 | n::ns=>by rw[aC,aC,aC,zbF ns];rfl
section
variable {X:Cx}
def ziV{pins:AB}{σ:St}{H:Hp}{s:AZ}(I:Inv X pins σ H s){ns:AG}(h:H b=some (.tup (ns.map V.int))):(tk X.prog X.w).is s.heap (ns.map Sum.inl) b:=by
 obtain⟨q,F,⟨o,J,O,n,U⟩,_⟩:=I.tuple (.of h);show⟨o,q.toArray,n,J,O,U,?_⟩
 have B:∀ {ns:AG} {q:AN},zM (ns.map V.int) q->ItemsAre (zQ X.prog X.w) (ns.map Sum.inl) q:=by
  intro ns
  induction ns with
  | nil=>intro q r;cases r;exact .nil
  | cons n ns Y=>
   intro q r
   cases r with
   | cons Z r2=>
    obtain⟨t,rfl⟩:=Z;exact .cons (zeB n t) (Y r2)
 exact B F
def zrv (P:Aa)(w:Ab):AT->Hp->VK->Prop:=λxs H Q=>∃ (a:Addr) (ks:AF) (m:Nat),xs=[.ref a]/\zd5 P w H a ks/\ks.length<64/\1<=m/\(∀st∈ks,st.length=m)/\
 ∀ (ys:AT) (q:AF),IsL H (q.map stD) ys->q.Perm ks->(q.Pairwise λa b=>HT.lexLt a b=true)->New H (.lst ys) Q
def zbt:∀ {xs:AE},(∀q∈xs,H q.2=some (.tup (q.1.map V.int)))->IsL H ((xs.map (·.1)).map stD) (xs.map λq=>V.ref q.2)
 | [],_=>rfl
 | q::xs,h=>⟨_,_,rfl,⟨q.2,_,rfl,h q aj,IsL.ints⟩,zbt λr B=>h r (am _ B)⟩
def zaK:∀ (xs:AE),zM (xs.map λq=>V.ref q.2) (xs.map λq=>Value.ref q.2)
 | []=>.nil
 | q::xs=>.cons rfl (zaK xs)
def zkO (hc:X.calm=true):CallQ X (.builtin "sorted") (zrv X.prog X.w):=⟨by
 intro pins s σ H xs us Q I r h;obtain⟨a,ks,m,rfl,⟨xs,hH,a5,rfl,a7⟩,ba,bb,hm,q⟩:=h;obtain⟨u,rfl,ru⟩:=zaJ r;cases ru;obtain⟨⟨o,es,ep,t,ho,hx,hd,T,_⟩,_⟩:=(show ya X.prog X.w H s.heap a (zhQ X.prog X.w a (um xs)) from I.hok a _ hH);have S:SetIs X.prog X.w s.heap a es ep t (um xs):=⟨⟨o,ho,hx,hd⟩,T⟩;obtain⟨m0,al,_⟩:=id I.loc;have hsz:es.size=xs.length:=by rw[T.size];unfold um;rw[ab]
 rw[ab] at ba
 have bc:∀b,(⟨#[],{}⟩:Heap).get? b=none:=λb=>by
  cases e:(⟨#[],{}⟩:Heap).get? b with
  | none=>rfl
  | some o'=>
   have:=ar e;simp at this
 have an:=zeL (w:=X.w) (es:=es) a ep;have bd:es.toList=xs.map λq=>((tk X.prog X.w).hash (q.1.map Sum.inl),Value.ref q.2):=by rw[T.eq];unfold um;rw[aJ];rfl
 rw[bd] at an;obtain⟨B,J,be⟩:=za5 an rfl;show kdu_sorted (h₀:=(⟨#[],{}⟩:Heap)) (L:=X.env.locals) (m:=m0) (news:=zaz s.heap X.env.locals) (zpd (t:=t) (xs:=um xs) a ep) (I.ok.hd hc) ⟨al,λb o e=>(by right),aK _⟩ (λp hp=>?_) S (by rw[hsz,b6];lia) λD h' ap vs F N bk hl hP=>?_;obtain⟨b,o⟩:=p;have:=zy.mp hp;right
 have bl:vs=B.map λq=>Value.ref q.2:=by
  have ca:=J.length_eq;show dG (by right) λj h1 h2=>?_;obtain⟨e,he,hv⟩:=hP j vs[j] (aw h1);rw[zbA,be,aL] at he;rw[ab] at h2;rw[aw h2] at he;rw[hv,b9,<- cG he]
 have kp:∀b o,b≠X.env.locals->s.heap.get? b=some o->h'.get? b=some o:=λb o hb e=>(N (b,o) (am _ (zy.mpr ⟨hb,e⟩))).1;have as:D≠X.env.locals:=(N (D,_) aj).2.1
 have bo:s.heap.get? D=none:=by
  cases e:s.heap.get? D with
  | none=>rfl
  | some o=>exact absurd (bk (D,o) (zy.mpr ⟨as,e⟩)) (cB _)
 have Y:H D=none:=by
  cases e:H D with
  | none=>rfl
  | some o=>
   obtain⟨o',a0⟩:=ur (I.hok D o e);grind
 have U:∀q∈B,H q.2=some (.tup (q.1.map V.int)):=λq Z=>a5 q ((J.mem_iff).mp Z)
 have a1:Paired (zch h' X.env.locals D) vs (B.map (·.1)):=by
  rw[bl]
  have bs:∀ (l:AE),(∀q∈l,H q.2=some (.tup (q.1.map V.int)))->Paired (zch h' X.env.locals D) (l.map λq=>Value.ref q.2) (l.map (·.1)):=by
   intro l
   induction l with
   | nil=>intro _;exact .nil
   | cons q l ih=>
    intro hl;have Z:=hl q aj;obtain⟨items,rv,⟨o',a0,bx⟩,_⟩:=I.tuple (.of Z);have a2:=zb Z I.free;exact .cons ⟨q.2,items,rfl,⟨o',kp _ _ a2 a0,bx⟩,rv,a2,zb Z Y⟩ (ih λr hr=>hl r (am _ hr))
  exact bs B U
 have ac:=J.map (·.1);show zgy (s:={ s with heap:=h',toks:=ap }) F.ns as (N (D,_) aj).1 a1 (by rw[ab,J.length_eq,b6];lia) bb (λst b0=>hm st ((ac.mem_iff).mp b0)) (ac.nodup_iff.mpr a7) λcc c p hp a3 b1 b2 a4=>?_;have b3:∀i∈p,i<B.length:=λi hi=>by have:=aN.mp ((hp.mem_iff).mp hi);rwa[ab] at this
 have O:(p.map λi=>(B.map (·.1)).getD i [])=(p.map λi=>B.getD i ([],0)).map (·.1):=by right
 have ad:(p.map λi=>vs.getD i .none)=(p.map λi=>B.getD i ([],0)).map λq=>Value.ref q.2:=by right
 have b4:∀q∈(p.map λi=>B.getD i ([],0)),H q.2=some (.tup (q.1.map V.int)):=λq Z=>by
  obtain⟨i,hi,rfl⟩:=aF.mp Z;have h1:=b3 i hi;have:B.getD i ([],0)=B[i]:=by simp[h1]
  rw[this];exact U _ (bO h1)
 rw[ad] at a4;rw[O] at a3;have ag:p.length=xs.length:=by rw[hp.length_eq,aB,ab,J.length_eq]
 have I':=zbH I al (ys:=(p.map λi=>B.getD i ([],0)).map λq=>V.ref q.2) (λb o hb e=>b1 b o hb (by grind) (kp b o hb e)) b2 bo Y a4 (zaK _) (by rw[ab,ab,ag,b6];lia) ap;show⟨.ref D,_,I',rfl,(q _ ((p.map λi=>B.getD i ([],0)).map (·.1)) (zbt b4) ?_ a3).at Y⟩;show List.Perm.trans ?_ ac;rw[<- O];have:=hp.map λi=>(B.map (·.1)).getD i [];rwa[uP] at this⟩
end
def zej (elt target iter:Expr)(ifs:AO)(scope:Scope)(pos:Pos)(it acc:Value)(env:Env) :
  compTurn (.SetComp elt [⟨target,iter,ifs,0⟩] scope pos) 0 it acc env=(do
   standAt iter.pos
   match <- pyNext it with
   | none=>pure (.done .next)
   | some v=>
    letOwnedTupleGo target it v
    assign target env v
    let mut ok:=true
    for c in ifs do
     if ok then ok <- isTrue c env (eval c env)
    if ok then
     (do let v <- eval elt env;standAt elt.pos;let _ <- call (.builtin "set.add") [acc,v])
    again (.compLoop (.SetComp elt [⟨target,iter,ifs,0⟩] scope pos) 0 it acc env)):=by rfl
section
variable {prog:Aa}{w:Ab}{A:Ae}{E:AA}{R:Result->AZ->Prop}{s:AZ}
def ud {elt target iter ifs zC scope pos it acc env}
  (h0:codeAny (model prog w) A (.compLoop (.SetComp elt (⟨target,iter,ifs,0⟩::zC) scope pos) 0 it acc env) R s)
  (h:Ag prog w A (pyIter it) (λit' s'=>codeAny (model prog w) A (.compLoop (.SetComp elt (⟨target,iter,ifs,0⟩::zC) scope pos) 0 it' acc env) R s')
   (notedBy (model prog w) A env λx s'=>R (.error x) s') s) :
  codeAny (model prog w) A (.compStart (.SetComp elt (⟨target,iter,ifs,0⟩::zC) scope pos) 0 it acc env) R s:=by
 show codeAny_of_tree ?_;change wpAny _ _ ((compStart (.SetComp elt (⟨target,iter,ifs,0⟩::zC) scope pos) 0 it acc env).onRaise (λx=>do noteFrame x env;standAt theWindowsPlace)) _ _ s;show wpAny_notedAt ?_;unfold compStart;change wpAny _ _ (ask >>= _) _ _ s;show aa (bV (wpAny_ite ?_));split
 first
  | exact aa (by grind)
  | exact ae (And.intro rfl h0)
 first
  | exact aa (by grind)
  | (show aa (cS ?_);change wpAny _ _ (standAt iter.pos >>= _) _ _ s;exact aa (c7 (aa (bE h (λit' s' h'=>ae (And.intro rfl h')) λ_ _ x=>x))))
def zbf(I:Nat->AZ->Prop)(turn:∀n s,I n s->Ag prog w A (pyNext it) (λr s₁=>match r with
   | none=>R (.ok .next) s₁
   | some v=>Ag prog w A (letOwnedTupleGo target it v) (λ_ s₂=>Ag prog w A (assign target env v) (λ_ s₃=>
     Ag prog w A (forIn ifs true λc r=>if r=true then do let ok <- isTrue c env (eval c env);pure (ForInStep.yield ok) else pure (ForInStep.yield r)) (λok s₄=>
      if ok=true then Ag prog w A (eval elt env) (λx s₅=>
       Ag prog w A (call (.builtin "set.add") [acc,x]) (λ_ s₆=>∃m,m<n/\I m s₆) (λ_ _=>False) s₅) (λ_ _=>False) s₄
      else ∃m,m<n/\I m s₄) (λ_ _=>False) s₃) (λ_ _=>False) s₂) (λ_ _=>False) s₁) (λ_ _=>False) s)(n:Nat)(h:I n s) :
  codeAny (model prog w) A (.compLoop (.SetComp elt [⟨target,iter,ifs,0⟩] scope pos) 0 it acc env) R s:=by
 show codeAny_loop rfl I (λn s hI=>?_) n h;change wpAny _ A ((compTurn (.SetComp elt [⟨target,iter,ifs,0⟩] scope pos) 0 it acc env).onRaise (λx=>do noteFrame x env;theTreesLotGoes x)) _ _ s;show wpAny_noted ?_;rw[zej];show aa (c7 (aa (bE (turn n s hI) (λr s₁ h₁=>?_) λ_ _ h'=>h'.elim)))
 cases r with
 | none=>exact ae h₁
 | some v=>
  show aa (bE h₁ (λ_ s₂ h₂=>?_) λ_ _ h'=>h'.elim);show aa (bE h₂ (λ_ s₃ h₃=>aa (bE h₃ (λok s₄ h₄=>?_) λ_ _ h'=>h'.elim)) λ_ _ h'=>h'.elim)
  cases ok with
  | false=>exact ae ⟨rfl,h₄⟩
  | true=>
   exact aa (aa (bE h₄ (λx s₅ h₅=>aa (c7 (aa (bE h₅ (λ_ s₆ h₆=>ae (ae ⟨rfl,h₆⟩)) λ_ _ h'=>h'.elim)))) λ_ _ h'=>h'.elim))
def zjl(h:Q (.ref s.heap.objs.size) { s with heap:=s.heap.push { cls:=.type "set",dict:=none,data:=.set #[] 0 (.fresh 0 0 (!w.params.followText "set-order")) } }):Ag prog w A (newSet (.type "set")) Q E s:=by unfold newSet setsByText;show aa (aa (bV (ae ?_)));dsimp only;simp only[newObj];exact aa (wpAny_alloc (ae h))
def zj3 (h:Heap):zbz prog w (h.push { cls:=.type "set",dict:=none,data:=.set #[] 0 (.fresh 0 0 (!w.params.followText "set-order")) }) h.objs.size []:=by
 show⟨_,#[],0,_,aq _ rfl,⟨rfl,rfl,rfl⟩,rfl,⟨rfl,List.nodup_nil,rfl,λi j _ B=>?_,λi j e=>?_,rfl,.inl rfl,aK _,rfl,rfl,λi q e=>?_⟩,by change 0 * 5<7 * 3;decide⟩;exact absurd B (cY _);simp[SetTable.fresh] at e;simp at e
end
def xR:∀ {ns q:AG},ns.map (Sum.inl:Int->Key)=q.map Sum.inl->ns=q
 | [],[],_=>rfl
 | [],_::_,e=>by cases e
 | _::_,[],e=>by cases e
 | n::ns,m::q,e=>by rw[aC,aC] at e;injection e with B F;rw[Sum.inl.inj B,xR F]
section
variable {X:Cx}
def zhB {pins:AB}{σ:St}{H:Hp}{s:AZ}{acc b:Addr}{ns:AG}{ks:AF}{Q:AA}(hu:X.A.units+1<cLine)(I:Inv X pins σ H s)(S:zd5 X.prog X.w H acc ks)(hb:H b=some (.tup (ns.map V.int)))(hn:ks.length<300)
  (h:∀o ks' s',zd5 X.prog X.w (upd H acc o) acc ks'->(∀x,x∈ks'↔x=ns\/x∈ks)->ks'.length<=ks.length+1->Inv X pins σ (upd H acc o) s'->Q .none s') :
  Af X (call (.builtin "set.add") [.ref acc,.ref b]) Q X.xe s:=by
 obtain⟨xs,hH,hel,rfl,hnd⟩:=S;have hS:=(show ya X.prog X.w H s.heap acc (zhQ X.prog X.w acc (um xs)) from I.hok acc _ hH).1;obtain⟨o,es,ep,t,ho,hx,hd,T,hroom⟩:=id hS;show aW F.slot_set_add ⟨o,ho,hx.1⟩ F.entry_set_add ?_ (F.args_set_add_2 _ _);unfold Builtin.«set.add»;show aa (m:=Builtin.Frozenset.oneOther "add" ⟨[.ref acc,.ref b],[]⟩) (ae ?_);have hba:b≠acc:=zls hb hH (by intro z;cases z);have hea:∀q∈xs,q.2≠acc:=λq hq=>zls (hel q hq) hH (by intro z;cases z);rw[ab] at hn;show aa (zpO (A:=X.A.in1) (xs:=um xs) (ns:=ns) (aX (ai _) hu) hS (ziV I hb) (λq hq=>?_) (by unfold um;rw[ab];exact hn) λr h' n xs' sb S' hin hout=>?_);unfold um at hq;obtain⟨q',hq',rfl⟩:=aF.mp hq;exact ziV I (hel q' hq')
 ·
  have mem_key:∀ {l:AE},(ns.map Sum.inl)∈(um l).map (·.1)↔ns∈l.map (·.1):=by
   intro l;unfold um;rw[aJ,aF,aF];constructor;rintro⟨q,hq,e⟩;show⟨q,hq,?_⟩;have e':q.1.map (Sum.inl:Int->Key)=ns.map Sum.inl:=e;exact xR e';rintro⟨q,hq,rfl⟩;exact⟨q,hq,rfl⟩
  have fin:∀xs2:AE,xs'=um xs2->(∀q∈xs2,q∈xs\/q=(ns,b))->(∀x,x∈xs2.map (·.1)↔x=ns\/x∈xs.map (·.1))->(xs2.map (·.1)).Nodup->xs2.length<=xs.length+1->wpAny (model X.prog X.w) X.A.in1 (do ret .none) (λfin s'=>∃v,fin = .done (.ret v)/\Q v s') X.xe { s with heap:=h',toks:=n }:=by
   rintro xs2 rfl hsub hmem hnd2 hlen
   have hel2:∀q∈xs2,H q.2=some (.tup (q.1.map V.int)):=λq hq=>by
    rcases hsub q hq with z | z;exact hel q z;rw[z];exact hb
   have hea2:∀q∈xs2,q.2≠acc:=λq hq=>zls (hel2 q hq) hH (by intro z;cases z);show ae ⟨.none,rfl,h (zhQ X.prog X.w acc (um xs2)) (xs2.map (·.1)) _ ⟨xs2,zg,λq hq=>by rw[ze (hea2 q hq)];exact hel2 q hq,rfl,hnd2⟩ hmem (by right) ?_⟩;show I.write (e:=acc) (by rw[hH];trivial) (.inl rfl) (λc u hc q=>sb.extBut c u hc q) ?_ (zj4 S');obtain⟨o',_,_,_,ho',_⟩:=S';exact⟨o',ho'⟩
  by_cases hm:ns∈xs.map (·.1);have:=hin (mem_key.mpr hm);show fin xs this (λq hq=>.inl hq) (λx=>⟨.inr,λz=>z.elim (λe=>e ▸ hm) id⟩) hnd (Nat.le_succ _);have hp:=hout λz=>hm (mem_key.mp z);have hk:((ns.map Sum.inl,b)::um xs)=um ((ns,b)::xs):=rfl;rw[hk] at hp;obtain⟨xs2,hp2,e2⟩:=za5 hp rfl;show fin xs2 e2 (λq hq=>?_) (λx=>?_) ?_ ?_;grind;rw[(hp2.map (·.1)).mem_iff,aC,ay];rw[(hp2.map (·.1)).nodup_iff,aC,cU];exact⟨hm,hnd⟩;rw[hp2.length_eq,aM];exact ai _
end
def zen(elt gens scope pos):eval (.SetComp elt gens scope pos) env=comprehension (.SetComp elt gens scope pos) scope env (firstIterPos gens pos) (newSet (.type "set")) (firstAsync gens) (firstIter gens env):=rfl
def setT (P:Aa)(w:Ab)(g:TG)(ti:TT)(te:TE)(acc:Addr)(N:St->Hp->Prop)(x:V)(σ:St)(H:Hp):Prop:=
 g x σ H λq H3=>ti q H3 λF H4=>if F=true then te q H4 λv H5=>∃b ns ks,v = .ref b/\H5 b=some (.tup (ns.map V.int))/\zd5 P w H5 acc ks/\ks.length<300/\
  (∀o B,zd5 P w (upd H5 acc o) acc B->(∀x,x∈B↔x=ns\/x∈ks)->B.length<=ks.length+1->N q (upd H5 acc o)) else N q H4
def setG (P:Aa)(w:Ab)(J:It)(g:TG)(ti:TT)(te:TE)(acc:Addr)(Q:VK)(σ:St)(H:Hp):Prop:=∃W:Nat->Nat->St->Hp->Prop,(∃m,W 0 m σ H)/\
 ∀i m q H',W i m q H'->(J.stop i H'/\Q (.ref acc) H')\/(J.go i H'/\∃N:St->Hp->Prop,(∀ B H2,N B H2->∃F,F<m/\W (i+1) F B H2)/\∀x H2,J.yld i H' x H2->setT P w g ti te acc N x q H2)
def zr4 (P:Aa)(w:Ab)(wi:TI)(g:TG)(ti:TT)(te:TE)(cix:List (Option Nat)):TE:=λσ H Q=>wi σ H λJ H1=>∀acc,H1 acc=none->zd5 P w (upd H1 acc (zhQ P w acc [])) acc []->setG P w J g ti te acc Q (zeh σ cix) (upd H1 acc (zhQ P w acc []))
section
variable {X:Cx}{Fam:Cx->Prop}{scope:Scope}{N:AM}{cix:List (Option Nat)}{z:Str}{use:Option (Value->Sem Unit)}{Qp:AA}{elt ke ve tg iter tg2 iter2:Expr}{ifs ifs2:AO}{pos ipos spos px:Pos}{wi wi2:TI}{g g2:TG}{ti ti2:TT}{te tk tv:TE}{pins:AB}{σ:St}{H:Hp}{s:AZ}{Q:VK}{o0:HO}
def zl0 (hu:X.A.units+1<cLine)(O:Opn X scope cix Fam)(hc:X.calm=true)(hi:PI X tg iter wi)(hg:∀X',Fam X'->PG X' tg g)(ht:∀X',Fam X'->PTs X' ifs ti)(he:∀X',Fam X'->PE X' elt te)(hs:∀x,foldedSetIterable iter X.env x=pure x)(I:Inv X pins σ H s)
  (h:zr4 X.prog X.w wi g ti te cix σ H Q) (U:EndK X pins σ use Qp Q) :
  Af X (comprehension (.SetComp elt [⟨tg,iter,ifs,0⟩] scope pos) scope X.env ipos (newSet (.type "set")) false (eval iter X.env) use) Qp X.xe s:=
 zek (ob:={ cls:=.type "set",dict:=none,data:=.set #[] 0 (.fresh 0 0 (!X.w.params.followText "set-order")) }) (o0:=λa=>zhQ X.prog X.w a []) (Fin:=λacc H=>Q (.ref acc) H) (B:=λX' acc P s=>wpAny (model X'.prog X'.w) X'.A (eval elt X'.env) (λx s5=>wpAny (model X'.prog X'.w) X'.A (call (.builtin "set.add") [.ref acc,x]) (λ_ s6=>P s6) (λ_ _=>False) s5) (λ_ _=>False) s) (tb:=λacc Nx σ H=>te σ H λv H5=>∃ (b:Addr) (ns:AG) (ks:AF),v = .ref b/\H5 b=some (.tup (ns.map V.int))/\zd5 X.prog X.w H5 acc ks/\ks.length<300/\(∀o F,zd5 X.prog X.w (upd H5 acc o) acc F->(∀x,x∈F↔x=ns\/x∈ks)->F.length<=ks.length+1->Nx σ (upd H5 acc o))) O hc rfl hs (λ_ _ _ _ _ h0 h1=>ud h0 h1) (λ_ _ _ _ _ _ I Y n h=>zbf I Y n h) (λs Q h=>zjl h) (λ_ _=>zj4 (zj3 _)) hi hg ht (λX' hF pX wX AX _ xX acc pl s σ H Nx P I q k=>by have e9:=he X' hF pl s σ H _ I q;rw[xX] at e9;show thn e9 ?_;rintro u2 ad ⟨v,H10,I10,ac,b,ns,ks,rfl,hb,S,hn,nx⟩;cases ac;have Z:=zhB (X:=X') (Q:=λ_ s'=>P s') (by rw[AX];exact hu) I10 (by right) hb hn λo F s' S' hm hl I'=>k _ _ _ I' (nx o F (by right) hm hl);rw[xX] at Z;exact Z) I h (λJ H1 acc q hn=>q acc hn ⟨[],zg,λq hq=>by simp at hq,rfl,List.nodup_nil⟩) U
end
def zhw(B:X.A.units+1<cLine)(F:X.calm=true)(c:CompOk X scope N cix)(hi:QI X tg iter wi)(J:∀C s H ex,QG (zS X scope N C s H ex) tg g)(O:∀C s H ex,QTs (zS X scope N C s H ex) ifs ti)(U:∀C s H ex,QE (zS X scope N C s H ex) elt te)(hs:∀x,foldedSetIterable iter X.env x=pure x:=by intro _;rfl):QE X (.SetComp elt [⟨tg,iter,ifs,0⟩] scope pos) (zr4 X.prog X.w wi g ti te cix):=⟨λpins s σ H Q I h=>by
 rw[zen];exact zl0 B (zbZ c) F hi.run (zkZ λC s H ex=>(J C s H ex).run) (zkZ λC s H ex=>(O C s H ex).run) (zkZ λC s H ex=>(U C s H ex).run) hs I h λ_ _ _ _ _ Y Z q=>zgf Y Z q⟩
section
variable {P:Aa}{w:Ab}{K:AH}{a acc:Addr}{xs:AT}{g:TG}{ti:TT}{te:TE}{σ:St}{H:Hp}{Q:VK}
def zl3(B:H acc=none)(S0:zd5 P w (upd H acc o) acc [])(Pv:Nat->St->Hp->Prop)(I:∀H',zd5 P w H' acc []->yL H H'->Pv 0 σ H')(J:∀i σ H,i<=xs.length->Pv i σ H->SqT K H a xs)(hs:∀i x σ H,xs[i]?=some x->Pv i σ H->setT P w g ti te acc (Pv (i+1)) x σ H)(O:∀ σ H,Pv xs.length σ H->Q (.ref acc) H):setG P w (Itt K a) g ti te acc Q σ (upd H acc o):=by
 show⟨λi m σ H=>m=xs.length - i/\i<=xs.length/\Pv i σ H,⟨xs.length,by simp,aK _,I _ S0 (yL.upd B)⟩,?_⟩;rintro i m σ H ⟨rfl,hi,p⟩;have q:=J i σ H hi p;by_cases F:i<xs.length;show .inr ⟨⟨xs,xs[i],q,by simp[F]⟩,Pv (i+1),λU H' Y=>⟨xs.length - (i+1),by lia,rfl,F,Y⟩,λx H' y=>?_⟩;obtain⟨e,y⟩:=y;subst e;exact hs i x σ _ (y xs q) p;have e:i=xs.length:=by lia
 subst e;exact .inl ⟨⟨xs,q,ai _⟩,O σ H p⟩
end
def zpz(s:yL A B)(h:A b=some o):B b=some o:=s _ _ h
def zkp(s:zq A B)(h:A b=some (.tup xs)):B b=some (.tup xs):=s.tup h
def zkn(s:zq A B)(h:A b=some (.lst xs)):B b=some (.lst xs):=s.lst h
def x5(s:zq A B)(h:A b=some o)(n:∀kvs,pnK o=some kvs->xq kvs (Sum.inr "at" : Key)=none):B b=some o:=s _ _ h n
def zhN(s:zq A B)(h:Is A d v):Is B d v:=h.stay s
def zc1(s:zq A B)(h:IsL A d v):IsL B d v:=h.stay s
def za0(s:zq A B){rm:AG}(h:RoomAt A ra rm):RoomAt B ra rm:=h.stay s
def zaZ(s:zq A B){rm:AG}(h:BookAt A rm q xs bk):BookAt B rm q xs bk:=h.stay s
def zc0(s:zq A B)(h:zhS A R xs):zhS B R xs:=h.stay s
def zc2(s:zq A B){ks:AF}(h:zd5 P w A a ks):zd5 P w B a ks:=h.stay s
def zko(s:yL A B){ns:AG}(h:Pen A p c ns n):Pen B p c ns n:=h.same s
def yR(h:yL A B):zq A B:=zq.same h
def zn9:∀kvs,pnK (HO.dT xs)=some kvs->xq kvs (Sum.inr "at" : Key)=none:=by grind
def zjp:∀kvs,pnK (zhQ P w a xs)=some kvs->xq kvs (Sum.inr "at" : Key)=none:=zgC
def zjq:∀kvs,pnK (HO.ins C dx fs)=some kvs->xq kvs (Sum.inr "at" : Key)=none:=by grind
def zeU (H:Hp):yL H H:=λ_ _ z=>z
structure FunD (K:AH)(x qual:Str)(st:Stmt)(f:Addr)(fd:Ac):Prop where
 ex:∃ (oc:Value) (od:Option Addr) (dV kV doc pm:Value) (an:Option Addr) (cdv ct:Value) (osl:Array AJ),
  fd=PySem.W.fnOf x qual (z5 st) (zu st) (zd st) dV kV doc pm an cdv ct/\K.lookup f=some ⟨oc,od,.func fd,osl⟩/\PySem.W.codeIn K cdv qual=true
 kp:PySem.W.keepIn K (.ref f)=true
def FunD.okQ{P:Aa}{w:Ab}{K:AH}{mg:AI}{base:Heap}{x I:Str}{st:Stmt}{f:Addr}{fd:Ac}{N ps:AM}{sp:Sp}(F:FunD K x I st f fd)(S:FnScope N ps (zd st))(U:∀vs H Q E,sp vs H Q E->vs.length=ps.length)(O:∀ (J:Value) (A:Ae) (B:List Env) (s:AZ) (H:Hp) (vs:AT) (Q:VK) (E:XK),Room k (A.deeper (envOfC I (zd st) s.heap.objs.size f J))->sp vs H Q E->
   ∃t,QSs (zd6 CX0 P w K mg base N I (zd st) f J A B s H E).nox (zu st) t/\t { nx:=λ_ H'=>Q .non H',rt:=Q } (y6 N vs) H):FnOk P w K mg base CX0 (k+1) f fd ps sp:=by
 obtain⟨oc,od,dV,kV,ac,pm,an,J,ct,ad,rfl,lk,Y⟩:=F.ex;show zqh lk Y S U λA B s H vs Q E hr Z=>?_;obtain⟨t,h,q⟩:=O J A B s H vs Q E hr Z;exact⟨t,h.run.nox,q⟩
structure DfnD (K:AH)(mg:AI)(x:Str)(st:Stmt)(ps:AM)(ds:AN)(f:Addr)(fd:Ac):Prop where
 F:FunD K x x st f fd
 b:uS K fd ps []
 bd:uS K fd ps ds
 m:mg x=some (.ref f)
section
variable {X:Cx}
def zmR{x:Str}{st:Stmt}{ps:AM}{ds:AN}{f:Addr}{fd:Ac}{sp:Sp}{es:AO}{p pos:Pos}(D:DfnD X.K X.mg x st ps ds f fd)(G:FnOk X.prog X.w X.K X.mg X.base CX0 j f fd ps sp)(J:Room k X.A)(O:QA X (e::es) t)(q:j<=k:=by ext)(U:Gl X x:=by rfl)(B:Ah x:=by ext)(Y:starEach (e::es) X.env=(false,eval e X.env)::starEach es X.env:=by rfl)(I:(backTo pos (starEach es X.env)).any (·.1)=false:=by rfl) :
  QE X (.Call (.Name x p) (e::es) [] pos) (zcf sp [] E0 t):=
 ⟨zfG G (J.mono q) U D.m D.F.kp D.b .nil zjz O.run B Y I⟩
def zrq{x:Str}{st:Stmt}{ps:AM}{ds:AN}{dv:AT}{f:Addr}{fd:Ac}{sp:Sp}{es:AO}{p pos:Pos}(D:DfnD X.K X.mg x st ps ds f fd)(J:zM dv ds)(G:FnOk X.prog X.w X.K X.mg X.base CX0 j f fd ps sp)(O:Room k X.A)(U:QA X (e::es) t)(q:j<=k:=by ext)(Y:Gl X x:=by rfl)(B:Ah x:=by ext)(Z:starEach (e::es) X.env=(false,eval e X.env)::starEach es X.env:=by rfl)(I:(backTo pos (starEach es X.env)).any (·.1)=false:=by rfl) :
  QE X (.Call (.Name x p) (e::es) [] pos) (zcf sp dv E0 t):=
 ⟨zfG G (O.mono q) Y D.m D.F.kp D.bd J zjz U.run B Z I⟩
end
def ziB{K:AH}{x q:Str}{st:Stmt}{f:Addr}{Z J:Option Addr}{O kV F U B ct:Value}(l:K.lookup f=some ⟨Y,Z,.func (PySem.W.fnOf x q (z5 st) (zu st) (zd st) O kV F U J B ct),I⟩)(c:PySem.W.codeIn K B q=true)(k:PySem.W.keepIn K (.ref f)=true):FunD K x q st f (PySem.W.fnOf x q (z5 st) (zu st) (zd st) O kV F U J B ct):=⟨⟨Y,Z,O,kV,F,U,J,B,ct,I,rfl,l,c⟩,k⟩
def zf2{K:AH}{fd:Ac}{f:Addr}(l:K.lookup f=some ⟨F,q,.func fd,B⟩){ps:AM}{items:AK}{O:Array AJ}(U:fd.defaults = .ref T)(Y:K.lookup T=some ⟨I,J,.seq items n,O⟩)(h:∀us:AN,(us++ds).length=ps.length->∃k:Option AK->Sem (List (Str×Value)),bindArgs fd ⟨us,[]⟩=seqItems? fd.defaults >>= k/\k (some items)=pure (ps.zip (us++ds))):uS K fd ps ds:=λs us KX Z=>by
 obtain⟨k,h1,h2⟩:=h us Z;exact .of_defaults U (KX _ _ Y) rfl h1 h2
section
variable {prog:Aa}{w:Ab}{A:Ae}{E:AA}{s:AZ}{es:Array DictEntry}
def u8 (h:Heap)(d:Addr)(es:Array DictEntry)(q:Nat):Prop:=∃o,h.get? d=some o/\o.ExactDict/\o.data = .dict es q
def u8.keep(x:u8 h d es q)(k:∀o,h.get? d=some o->h'.get? d=some o):u8 h' d es q:=let ⟨o,ho,r⟩:=x;⟨o,k o ho,r⟩
def u8.typeIs(x:u8 s.heap d es q):s.TypeIs (.ref d) "dict" := let ⟨o,ho,hc,_⟩:=x;⟨o,ho,hc.1⟩
def u8.lt(x:u8 h d es q):d<h.objs.size:=let ⟨o,ho,_⟩:=x;ar ho
def ziM(Y:(d==sysModules)=false)(J:u8 s.heap d es I)(U:Q (.ref s.heap.objs.size) { s with heap:=s.heap.push { cls:=.type "dict_keyiterator",data:=.fields #[.ref d,.int 0 0,.int es.size 0,.int I 0] } }) :
  Ag prog w A (pyIter (.ref d)) Q E s:=by
 obtain⟨o,O,Z,q⟩:=id J;have B:=J.typeIs;show fQ B PySem.F.slot_dict_iter (aW PySem.F.slot_dict_iter B PySem.F.entry_dict_iter ?_ (PySem.F.args_dict_iter_1 _));unfold Builtin.«dict.__iter__»;show aa ?_;unfold Builtin.Dict.dictSlotNone;show aa (wpAny_notOrdered_dict B ?_);change wpAny _ _ (pure (Value.ref d)) _ _ s;show ae ?_;change wpAny _ _ (Builtin.Dict.showsAll d >>= _) _ _ s;unfold Builtin.Dict.showsAll;rw[if_neg (by right)];show aa (ae ?_);show aa (fR O q ?_);show aa (wpAny_dictEpoch O q ?_);show aa (bu (ae ⟨_,rfl,"dict_keyiterator",_,⟨_,aq _ rfl,rfl⟩,PySem.F.slot_dict_keyiterator_next.lookup,?_⟩));simpa [rawInt] using U
def zlg(q:s.heap.IsKeyIter B d i es.size U)(hm:u8 s.heap d es U)(hx:es[i]?=some e)(hQ:∀h',h'.IsKeyIter B d (i+1) es.size U->Heap.SameBut B s.heap h'->Q (.done (.ret e.key)) { s with heap:=h' }):Ag prog w A (Builtin.«dict_keyiterator.__next__» { pos:=[Value.ref B] }) Q E s:=by
 obtain⟨o,Z,hc,Y⟩:=id q;obtain⟨od,I,ac,J⟩:=id hm;show aa (ae ?_);show aa ?_;show aa ?_
 first | show aa (cz q.typeIs (ae ?_)) | show aa (by grind)
 show aa (fH Z Y ?_);have O:Builtin.Dict_items.ownsTuple "dict_keyiterator" = false:=by ext
 simp only[O,aT,if_false];show wpAny _ _ (if (Value.ref d==Value.none)=true then _ else _) _ _ s;rw[if_neg (by grind)];show aa (ae ?_);show aa (fR I J ?_);rw[if_neg (by simp)];show aa (ae ?_);show aa (wpAny_dictEpoch I J ?_);rw[if_neg (by simp)];show ae ?_;simp only[show ¬ ((i:Int)<0) from by lia,if_false,aO,hx];show aa ?_
 first | show aa (cz q.typeIs (ae ?_)) | show aa (by grind)
 show aa (wpAny_isOneOf_keyiter q.typeIs ?_);change wpAny _ _ (setField (.ref B) 1 (rawInt ((i:Int)+1)) >>= _) _ _ s;show aa (bN Z Y (by simp) ?_)
 have F:(s.heap.update B (Obj.mapFields (·.setIfInBounds 1 (rawInt ((i:Int)+1))))).IsKeyIter B d (i+1) es.size U:=
  ⟨_,bv _ Z (dl (b8 Y _)),(dY ..).trans hc,by rw[b8 Y];simp[rawInt]⟩
 show aa (bJ ?_);show aa (wpAny_isOneOf_keyiter (s:={ s with heap:=s.heap.update B (Obj.mapFields (·.setIfInBounds 1 (rawInt ((i:Int)+1)))) }) F.typeIs ?_);change wpAny _ _ (pure e.key) _ _ _;exact ae (ae (hQ _ F (br ..)))
def zhp(q:s.heap.IsKeyIter B d i es.size F)(I:u8 s.heap d es F)(J:es[i]?=some e)(O:∀h',h'.IsKeyIter B d (i+1) es.size F->Heap.SameBut B s.heap h'->Q (some e.key) { s with heap:=h' }):Ag prog w A (pyNext (.ref B)) Q E s:=by
 unfold pyNext
 exact aa (cP (wpAny_callSpecial?_slot (name:=Str.ofString "__next__") q.typeIs b5
  (aW b5 q.typeIs dJ (zlg q I J λh' a b=>⟨_,rfl,ae (O h' a b)⟩) (dC _))))
def znS(Z:A.handled=none)(q:s.heap.IsKeyIter J d es.size es.size O)(hm:u8 s.heap d es O)(hE:∀h' x,Heap.ExtBut J s.heap h'->(∃o,h'.get? x=some o/\o.cls = .type "StopIteration")->E (.ref x) { s with heap:=h' }):Ag prog w A (Builtin.«dict_keyiterator.__next__» { pos:=[Value.ref J] }) Q E s:=by
 obtain⟨o,U,hc,Y⟩:=id q;obtain⟨od,B,ac,F⟩:=id hm;show aa (ae ?_);show aa ?_;show aa ?_
 first | show aa (cz q.typeIs (ae ?_)) | show aa (by grind)
 show aa (fH U Y ?_);have I:Builtin.Dict_items.ownsTuple "dict_keyiterator" = false:=by ext
 simp only[I,aT,if_false];show wpAny _ _ (if (Value.ref d==Value.none)=true then _ else _) _ _ s;rw[if_neg (by grind)];show aa (ae ?_);show aa (fR B F ?_);rw[if_neg (by simp)];show aa (ae ?_);show aa (wpAny_dictEpoch B F ?_);rw[if_neg (by simp)];show ae ?_;simp only[show ¬ ((es.size:Int)<0) from by lia,if_false,aO,Array.getElem?_eq_none (ai es.size)];show aa ?_
 first | show aa (cz q.typeIs (ae ?_)) | show aa (by grind)
 change wpAny _ _ (setField (.ref J) 0 .none >>= _) _ _ s;show aa (bN U Y (by simp) ?_);change wpAny _ _ (newExc (.type "StopIteration") [] >>= _) _ _ _;show aa ?_;simp only[newExc,newTuple];show aa (bu ?_ (by size_fits));show aa (m:=firstArgMember _ _) (wpAny_of_eq (a:=Value.none) (by first | rfl | (simp only[firstArgMember];rfl)) ?_);show bu ?_ (by size_fits);simp only[raiseNew];show aa (fU ?_);rw[Z];show aa (ae (wpAny_throw ?_));exact hE _ _ (((br ..).extBut.push _).push _) ⟨_,aq _ rfl,rfl⟩
def zjm(I:A.handled=none)(q:s.heap.IsKeyIter B d es.size es.size F)(J:u8 s.heap d es F)(O:∀h',Heap.ExtBut B s.heap h'->Q none { s with heap:=h' }):Ag prog w A (pyNext (.ref B)) Q E s:=by
 unfold pyNext
 show aa (cP (wpAny_callSpecial?_slot (name:=Str.ofString "__next__") q.typeIs b5
  (aW b5 q.typeIs dJ (znS I q J λh' x a b=>?_) (dC _))))
 exact aa (dg (T := "StopIteration") (b:=true) b et (ae (O _ a)))
def zhb (hh:A.handled=none)(I d:Addr)(J:d≠I)(U:Nat) :
  Walks prog w A I [I,d] [I] es.size (λi v=>∃e,es[i]?=some e/\v=e.key) (λi h=>h.IsKeyIter I d i es.size U/\u8 h d es U) where
 sub:=λb q=>by simp at q;simp[q]
 frame:=λ_ _ _ st Y=>⟨let ⟨o,ho,r⟩:=st.1;⟨o,Y I (by simp) o ho,r⟩,st.2.keep λo e=>Y d (by simp) o e⟩
 item:=λi s Q E hi st B=>by show zhp st.1 st.2 (aP hi) λh' F Z=>?_;exact B _ h' s.toks ⟨_,aP hi,rfl⟩ ⟨F,st.2.keep λo e=>(Z.2 d J).trans e⟩ λb o q e=>Z.extBut b o (λh=>q (by simp[h])) e
 done:=λs Q E st B=>zjm hh st.1 st.2 λh' O=>B h' s.toks λb o q e=>O b o (λh=>q (by simp[h])) e
 self:=λ_ _ _ _ st B=>wpAny_pyIter_keyiter st.1 B
def zgb (d:Addr)(B:Nat)(lo:(d==sysModules)=false):KdlSrc prog w "dict" d d es.size (λi v=>∃e,es[i]?=some e/\v=e.key) (λh=>u8 h d es B) where
 type:=λs S=>S.typeIs
 there:=λ_ S=>⟨S.lt,S.lt⟩
 keep:=λ_ _ S F=>S.keep λo e=>F d (.inl rfl) o e
 notList:=by ext
 notTuple:=by ext
 hint:=λ_ _ _ _ S q=>kdl_hint_dict S.typeIs q
 iter:=λA s I S=>⟨_,_,(λ_ _ q=>ziM lo S q),zhb I _ d (aS S.lt) B,⟨⟨_,aq _ rfl,rfl,rfl⟩,S.keep λo e=>af _ e⟩⟩
variable {X:Cx}
end
def zcl (kvs:List (AG×V)):List (List Key×V):=kvs.map λq=>(q.1.map Sum.inl,q.2)
def dtO (kvs:List (AG×V)):HO:=.dT (zcl kvs)
def zgu (kvs:List (AG×V))(st:AG):xq (zcl kvs) (st.map Sum.inl)=xq kvs st:=by
 unfold zcl
 induction kvs with
 | nil=>rfl
 | cons q r B=>
  rw[aC];by_cases e:q.1=st;rw[zZ (p:=q) e,zZ (p:=(q.1.map Sum.inl,q.2)) (by rw[e])];rw[zY (p:=q) e,zY (p:=(q.1.map Sum.inl,q.2)) (λz=>e (xR z)),B]
def zlf (kvs:List (AG×V))(st:AG)(v:V):uy (zcl kvs) (st.map Sum.inl) v=zcl (uy kvs st v):=by
 have B:∀q:AG×V,decide ((q.1.map (Sum.inl:Int->Key))=st.map Sum.inl)=decide (q.1=st):=λq=>by rw[dj,cj,cj];exact⟨xR,λz=>by rw[z]⟩
 have F:((zcl kvs).any λkv=>decide (kv.1=st.map Sum.inl))=kvs.any λkv=>decide (kv.1=st):=by unfold zcl;rw[List.any_map];congr 1;funext q;exact B q
 unfold uy;rw[F];by_cases h:(kvs.any λkv=>decide (kv.1=st))=true;rw[if_pos h,if_pos h];unfold zcl;rw[aJ,aJ];show bK λq _=>?_;grind;rw[if_neg h,if_neg h];unfold zcl;right
def zcg.i{kvs:List (AG×V)}{st:AG}(e:H a=some (dtO kvs))(q:H b=some (.tup (st.map V.int))):zcg H a (.ref b) (xq kvs st):=by have:=zcg.t (k:=st.map Sum.inl) e (by rw[zbF];exact q);rwa[zgu] at this
def zd4.i{kvs:List (AG×V)}{st:AG}(e:H a=some (dtO kvs))(q:H b=some (.tup (st.map V.int)))(B:kvs.length<sizeLine):zd4 H a (.ref b) v (upd H a (dtO (uy kvs st v))):=by have:=zd4.t (k:=st.map Sum.inl) (v:=v) e (by rw[zbF];exact q) (by unfold zcl;rw[ab];exact B);rwa[zlf] at this
def zpk:TE:=λ_ H Q=>New H (dtO []) Q
section
variable {X:Cx}
def zlK:QE X (.Dict [] [] pos) zpk:=⟨λpins s σ H Q I h=>zgI pins s σ H Q I λp q=>h.at q⟩
def zgd {pins:AB}{σ:St}{H:Hp}{s:AZ}(I:Inv X pins σ H s){a:Addr}{kvs:List (AG×V)}(h:Rd H a (dtO kvs)) :
  (a==sysModules)=false/\∃ (es:Array DictEntry) (B:Nat) (ys:AE),u8 s.heap a es B/\ys.map (·.1)=kvs.map (·.1)/\(∀q∈ys,H q.2=some (.tup (q.1.map V.int)))/\es.toList.map (·.key)=ys.map (λq=>Value.ref q.2)/\kvs.length<=sizeLine/\(kvs.map (·.1)).Nodup:=by
 obtain⟨z,lo,xs,r,o,es,B,h1,h2,h3,h4,Y⟩:=(show ya X.prog X.w H s.heap a (.dT (zcl kvs)) from zo2 I.hok h)
 have F:∀ {kvs:List (AG×V)} {xs:List (List Key×Addr×Value)},Paired (λ(p:List Key×V) (q:List Key×Addr×Value)=>p.1=q.1/\H q.2.1=some (.tup (p.1.map kV))/\yc p.2 q.2.2) (zcl kvs) xs->
   ∃ys:AE,ys.map (·.1)=kvs.map (·.1)/\(∀q∈ys,H q.2=some (.tup (q.1.map V.int)))/\xs.map (λq=>Value.ref q.2.1)=ys.map (λq=>Value.ref q.2)/\xs.map (·.1)=kvs.map (λq=>q.1.map Sum.inl):=by
  intro kvs
  induction kvs with
  | nil=>intro xs r;cases r;exact⟨[],rfl,λ_ h=>by simp at h,rfl,rfl⟩
  | cons q kvs ih=>
   intro xs r
   cases r with
   | cons r1 r2=>
    rename_i x ac;obtain⟨ys,Z,J,e3,e4⟩:=ih r2;show⟨(q.1,x.2.1)::ys,by right,λy O=>?_,by right,by right⟩;rcases ay.mp O with rfl | O
    have:=r1.2.1;rwa[show ((q.1.map Sum.inl,q.2):List Key×V).1=q.1.map Sum.inl from rfl,zbF] at this;exact J y O
 obtain⟨ys,Z,J,e3,e4⟩:=F r;show⟨lo,es,B,ys,⟨o,h1,h2,h3⟩,Z,J,?_,?_,?_⟩;rw[h4,aJ,<- e3];rfl;unfold zcl at z;right;rw[e4] at Y;have U:((kvs.map (·.1)).map λst:AG=>st.map (Sum.inl:Int->Key)).Nodup:=by rw[aJ];exact Y
 exact (bZ.mp U).imp λh z=>h (by rw[z])
def zjU:AT->Hp->VK->Prop:=λxs H Q=>∃ (a:Addr) (kvs:List (AG×V)),xs=[.ref a]/\H a=some (dtO kvs)/\((kvs.map (·.1)).Nodup->∀ys:AT,IsL H ((kvs.map (·.1)).map stD) ys->New H (.lst ys) Q)
def zf7 (Y:X.calm=true):CallQ X (.type "list") zjU:=⟨by
 intro pins s σ H xs us Q I r h;obtain⟨a,kvs,rfl,Z,q⟩:=h;obtain⟨u,rfl,ru⟩:=zaJ r;cases ru;obtain⟨lo,es,ep,ys,E,O,e2,U,hz,J⟩:=zgd I (.inl Z)
 have hl:es.size=ys.length:=by
  have:=congrArg List.length U;grind
 have ac:ys.length=kvs.length:=by
  have:=congrArg List.length O;grind
 show kdl_call (zgb (es:=es) a ep lo) (I.ok.hd Y) E (by right) λh' tk acc c kp hg B=>?_
 have F:acc.toList=ys.map λq=>Value.ref q.2:=by
  rw[<- U];show dG (by rw[aH,B.1,ab,aH]) λj h1 h2=>?_;obtain⟨e,he,hv⟩:=B.2 j acc.toList[j] (by simp);rw[hv,b9];rw[zbA] at he;rw[ab] at h2;right
 show⟨.ref s.heap.objs.size,_,I.laid (t':=tk) (o:=.lst (ys.map λq=>V.ref q.2)) kp (ai _) ⟨by right,ys.map (λq=>Value.ref q.2),c,zaK ys,?_⟩,rfl,(q J _ ?_).at (I.hok.fresh (ai _))⟩;rw[<- F,Array.toArray_toList];exact hg;rw[<- O];exact zbt e2⟩
end
abbrev Up' (l:AF):Prop:=l.Pairwise λa b=>HT.lexLt a b=true
def znF (x:AG):AF->AF
 | []=>[x]
 | y::r=>if HT.lexLt x y then x::y::r else if x=y then y::r else y::znF x r
def zfR (l:AF):AF:=l.foldr znF []
def zdg {x z:AG}:∀ {l:AF},z∈znF x l↔z=x\/z∈l
 | []=>by change z∈[x]↔_;simp
 | y::r=>by
  unfold znF;split;simp;split;right;rw[ay,zdg,ay];grind
def zaE {z:AG}:∀ {l:AF},z∈zfR l↔z∈l
 | []=>Iff.rfl
 | x::l=>by change z∈znF x (zfR l)↔_;rw[zdg,zaE,ay]
def ziH {x:AG}{m:Nat}(F:x.length=m):∀ {l:AF},(∀y∈l,y.length=m)->Up' l->Up' (znF x l)
 | [],_,_=>dR _ _
 | y::r,I,B=>by
  have J:=I y aj;rw[Up',a6] at B;unfold znF;split
  ·rename_i h;show a6.mpr ⟨λz q=>?_,a6.mpr B⟩;rcases ay.mp q with rfl | q
   exact h;exact zar (F.trans J.symm) (by grind) h (B.1 z q)
  ·rename_i h;split
   exact a6.mpr B
   ·rename_i O;show a6.mpr ⟨λz q=>?_,ziH F (λz q=>I z (am _ q)) B.2⟩;rcases zdg.mp q with rfl | q
    ·rcases uo (a:=z) (b:=y) (F.trans J.symm) with e | e | e
     all_goals right
    exact B.1 z q
def zj7{l:AF}(h:∀y∈l,y.length=m):∀y∈zfR l,y.length=m:=λy q=>h y (zaE.mp q)
def zgV:∀ {l:AF},(∀y∈l,y.length=m)->Up' (zfR l)
 | [],_=>.nil
 | x::l,h=>ziH (h x aj) (zj7 λy q=>h y (am _ q)) (zgV λy q=>h y (am _ q))
def zkq:∀ {l l':AF},(∀y∈l,y.length=m)->Up' l->Up' l'->(∀z,z∈l↔z∈l')->l=l'
 | [],[],_,_,_,_=>rfl
 | [],y::r,_,_,_,h=>absurd ((h y).mpr aj) (by simp)
 | x::l,[],_,_,_,h=>absurd ((h x).mp aj) (by simp)
 | x::l,y::r,F,I,q,h=>by
  rw[Up',a6] at I q;have B:∀z∈y::r,z.length=m:=λz J=>F z ((h z).mpr J)
  have e:x=y:=by
   rcases ay.mp ((h x).mp aj) with e | e;exact e;rcases ay.mp ((h y).mpr aj) with O | O;exact O.symm;have h1:=q.1 x e;have h2:=I.1 y O;have Y:=zar ((F x aj).trans (B y aj).symm) ((B y aj).trans (F x aj).symm) h2 h1;rw[yS] at Y;cases Y
  subst e;have U:∀ {l:AF},(∀z∈l,HT.lexLt x z=true)->x∉l:=λZ z=>by have:=Z x z;rw[yS] at this;cases this
  congr 1;show zkq (λz J=>F z (am _ J)) I.2 q.2 λz=>?_;grind
def zby{l l':AF}(q:∀y∈l,y.length=m)(B:Up' l')(h:∀z,z∈l'↔z∈l):l'=zfR l:=
 zkq (λy F=>q y ((h y).mp F)) B (zgV q) λz=>(h z).trans zaE.symm
def xz (bk:AW)(st hs:AG):AF:=(bk.filter λx=>zaO st x&&!hs.contains x.b).map λx=>chg st x.b x.r
def zaf (bk:AW)(st hs:AG):AF:=zfR (xz bk st hs)
def uf{st hs z:AG}:z∈xz bk st hs↔∃x∈bk,zaO st x=true/\x.b∉hs/\z=chg st x.b x.r:=by
 unfold xz;grind
def zet{rm:AG}{st hs:AG}(q:∀x∈bk,WishOk rm x)(F:st.length=rm.length):∀z∈xz bk st hs,z.length=rm.length:=λz I=>by obtain⟨x,B,_,_,rfl⟩:=uf.mp I;have h1:=(q x B).b1;rw[zh3 (q x B).b0 (by lia)];exact F
def zah (H:Hp)(v:V)(hs:AG):Prop:=(v = .non/\hs=[])\/∃p,v = .ref p/\H p=some (.tup (hs.map V.int))
def zah.stay{hs:AG}(h:zah H v hs)(s:zq H H'):zah H' v hs:=by
 rcases h with h | ⟨p,e,h⟩;exact .inl h;exact .inr ⟨p,e,s.tup h⟩
def uQ(s:zq A B){hs:AG}(h:zah A v hs):zah B v hs:=h.stay s
def zg5 (H:Hp)(l:Addr)(sts:AF):Prop:=∃ys,H l=some (.lst ys)/\IsL H (sts.map stD) ys
def zg5.stay{sts:AF}(h:zg5 H l sts)(s:zq H H'):zg5 H' l sts:=let ⟨ys,h1,h2⟩:=h;⟨ys,s.lst h1,h2.stay s⟩
def uR(s:zq A B){sts:AF}(h:zg5 A l sts):zg5 B l sts:=h.stay s
def zm2:Sp:=λvs H Q _=>∃ (F q:V) (B a:Addr) (rm:AG) (xs:AT) (bk:AW) (st hs:AG),vs=[F,.ref B,.ref a,q]/\1<=rm.length/\rm.length<=8/\BookAt H rm B xs bk/\(∀r∈rm,2<=r/\r<=4)/\H a=some (.tup (st.map V.int))/\st.length=rm.length/\zah H q hs/\
 ∀ (l:Addr) (H':Hp),H l=none->zg5 H' l (zaf bk st hs)->yL H H'->Q (.ref l) H'
def uq {α:Type}[BEq α][LawfulBEq α]:∀ {l l':List α},l.Nodup->(∀x∈l,x∈l')->l.length<=l'.length
 | [],_,_,_=>aK _
 | a::l,l',hn,h=>by
  rw[cU] at hn;have q:=h a aj;have:=uq (l:=l) (l':=l'.erase a) hn.2 λx B=>by grind
  grind
def zes{rm:AG}{st hs:AG}{ks:AF}(q:∀x∈bk,WishOk rm x)(U:rm.length<=8)(B:∀r∈rm,2<=r/\r<=4)(hn:ks.Nodup)(F:∀z∈ks,z∈xz bk st hs):ks.length<=32:=by
 have:=uq (l':=(List.range 32).map λc=>chg st ((c / 4:Nat):Int) ((c % 4:Nat):Int)) hn λz I=>by obtain⟨x,J,_,_,rfl⟩:=uf.mp (F z I);have o:=q x J;have h1:=o.b1;have h2:=o.b0;have O:=o.r0;have Y:=o.r1;have Z:=(xI B h2 h1).2;show aF.mpr ⟨4 * x.b.toNat+x.r.toNat,aN.mpr (by lia),?_⟩;rw[show (4 * x.b.toNat+x.r.toNat) / 4=x.b.toNat by lia,show (4 * x.b.toNat+x.r.toNat) % 4=x.r.toNat by lia,eY h2,eY O]
 right
end L2
namespace L2
open PyProof.Rows PySem.SeqAt
section
variable {X:Cx}
end
def zq0 (bk:AW)(q:Int)(st:AG):AF:=(bk.filter λx=>decide (x.b=q)&&xD st x.g).map λx=>[x.w,x.r]
def lpF (bk:AW)(q:Int)(st:AG):AF:=zfR (zq0 bk q st)
def zma (C:Nat->Nat->Bool)(w j:Nat):AF:=((List.range j).filter (C w)).map λb:Nat=>[(w:Int),(b:Int)]
def zuo (C:Nat->Nat->Bool)(n:Nat):Nat->AF
 | 0=>[]
 | i+1=>zuo C n i++zma C i n
open PySem.W PySem.Calls
section
variable {prog:Aa}{w:Ab}{A:Ae}{E:AA}{s:AZ}{R:Result->AZ->Prop}
variable {X:Cx}
variable {e st:Expr}{te tk:TE}{pos p2:Pos}
end
def unlike (q z hs:AG):AG:=hs.filter λb=>decide (zR q b≠zR z b)
section
variable {X:Cx}{pos:Pos}
end
end L2
namespace L2
open PyProof.Rows
end L2
namespace L2
open PyProof.Rows
section
variable {M:Model}{A:Ae}{E:AA}{s:AZ}
variable {X:Cx}{pins:AB}{σ:St}{H:Hp}{scope:Scope}{N:AM}{z:Str}{cix:List (Option Nat)}
end
end L2
namespace L2
open PyProof.Rows
end L2
namespace L2
open PyProof.Rows
section
variable {prog:Aa}{w:Ab}{A:Ae}{E:AA}{s:AZ}{R:Result->AZ->Prop}{Kt:Type}[DecidableEq Kt]{knd:KeyKind prog w Kt}{κ:Int->Kt}
end
end L2
namespace L2
open PyProof.Rows
def zac {X:Cx}{pins:AB}{σ:St}{H:Hp}{s:AZ}{a:Addr}{xs:AT}(I:Inv X pins σ H s)(h:SqL X.K H a xs):∃q:AN,zM xs q/\s.heap.IsList a q.toArray/\xs.length<=sizeLine:=by obtain⟨q,r,⟨o,n,e,c,_,d⟩,z⟩:=I.list h;exact⟨q,r,⟨o,e,c,n,d⟩,z⟩
def Izl (K:AH)(a b:Addr):It:=
 ⟨λi H=>∃xs ys x y,SqL K H a xs/\SqL K H b ys/\xs[i]?=some x/\ys[i]?=some y,λi H v H'=>∃T x y,v = .ref T/\H T=none/\H'=upd H T (.tup [x,y])/\(∀xs,SqL K H a xs->xs[i]?=some x)/\∀ys,SqL K H b ys->ys[i]?=some y,λi H=>∃xs ys,SqL K H a xs/\SqL K H b ys/\(xs.length<=i\/ys.length<=i)⟩
def zkk{P:Aa}{w:Ab}{K:AH}{a5:AO}{x1}(z TI TO U Y a b:Addr)(D:ZipApart z TI TO U Y a b) :
  Turn P w K (.Tuple a5 x1 tpos) (Izl K a b) [z,TI,TO,U,Y] z (λi h=>IsZip h z TI TO .none/\IsPair h TI (.ref U) (.ref Y)/\(∃c d,IsPair h TO c d)/\h.IsListIter U a i/\h.IsListIter Y b i) where
 mem:=by simp
 obj:=λi h st c J=>by
  obtain⟨hz,Z,⟨u,v,ad⟩,⟨o1,e1,c1,d1⟩,⟨o2,e2,c2,d2⟩⟩:=st;grind
 keep:=λi h h' st k=>by obtain⟨hz,Z,⟨u,v,ad⟩,⟨o1,e1,r1⟩,⟨o2,e2,r2⟩⟩:=st;exact⟨k z (by simp) _ hz,k TI (by simp) _ Z,⟨u,v,k TO (by simp) _ ad⟩,⟨o1,k U (by simp) _ e1,r1⟩,⟨o2,k Y (by simp) _ e2,r2⟩⟩
 item:=by
  intro X hP hw hK J i pins s σ H E I hf st hg;subst hP hw hK;obtain⟨xs,ys,x,y,an,ap,hx,hy⟩:=hg;obtain⟨a7,a1,p1,cn⟩:=zac I an;obtain⟨ba,a2,p2,co⟩:=zac I ap;obtain⟨u1,bs,bx⟩:=a1.get hx;obtain⟨u2,b0,b1⟩:=a2.get hy;have fz:=hf z (by simp);have B:=hf TO (by simp);have f1:=hf U (by simp);have f2:=hf Y (by simp);obtain⟨hz,Z,⟨c0,d0,ad⟩,as,a0⟩:=st;have hT:s.TypeIs (.ref z) "zip" := ⟨_,hz,rfl⟩;unfold pyNext
  show aa (cP (wpAny_callSpecial?_slot (name:=Str.ofString "__next__") hT cJ
   (aW cJ hT eJ (zip_next_item (A:=X.A.in1) D hz Z ad as a0 p1 p2 (x:=u1) (y:=u2) (by simpa using bs) (by simpa using b0) λh' gz b2 b3 b4 gT cp hk=>?_) (eh _))))
  show ae ⟨_,rfl,?_⟩;show wpAny_letOwnedTupleGo_zip (s:={ s with heap:=h' }) gz λal bb ac=>?_;have nz:∀b' o',s.heap.get? b'=some o'->s.heap.objs.size≠b':=λb' o' e=>eu (ar e);have bc:s.heap.objs.size≠z:=nz z _ hz;have bd:s.heap.objs.size≠TO:=nz TO _ ad;have ca:s.heap.objs.size≠U:=by obtain⟨o,ho,_⟩:=as;exact nz U _ ho
  have cc:s.heap.objs.size≠Y:=by obtain⟨o,ho,_⟩:=a0;exact nz Y _ ho
  have be:s.heap.objs.size≠TI:=nz TI _ Z;have F:=I.hok.fresh (ai s.heap.objs.size);have kp:∀c o,c≠z->c≠TO->c≠U->c≠Y->s.heap.get? c=some o->al.get? c=some o:=λc o h1 h2 h3 h4 hb=>(ac.2 c h1).trans (hk c o h1 h2 h3 h4 hb);have bk:al.get? s.heap.objs.size=some { cls:=.type "tuple",data:=.seq #[u1,u2] }:=(ac.2 _ bc).trans gT;have ci:∀b' u',H b'=some u'->b'≠z/\b'≠TO/\b'≠U/\b'≠Y:=λb' u' hb=>⟨zb hb fz.1,zb hb B.1,zb hb f1.1,zb hb f2.1⟩
  have bl:HOk X.prog X.w (upd H s.heap.objs.size (.tup [x,y])) al:=by
   intro b' u' hb;by_cases bo:b'=s.heap.objs.size;subst bo;rw[zg] at hb;cases hb;exact⟨by change 2<=sizeLine;decide,[u1,u2],.cons bx (.cons b1 .nil),_,bk,rfl,⟨0,rfl⟩,rfl⟩
   ·rw[ze bo] at hb;show (I.hok b' u' hb).stay (λc v O q=>?_) (λc q=>?_) (λc ys q=>?_)
    ·have:c≠z/\c≠TO/\c≠U/\c≠Y:=by
      rcases O with rfl | O
      all_goals right
     right
    rw[ze (zb q F)];exact q;rw[ze (zb q F)];exact q
  have ag:∀c o,c∉[z,TO,U,Y]->s.heap.get? c=some o->al.get? c=some o:=λc o J e=>kp c o (λq=>J (by simp[q])) (λq=>J (by simp[q])) (λq=>J (by simp[q])) (λq=>J (by simp[q])) e
  have I1:Inv X pins σ (upd H s.heap.objs.size (.tup [x,y])) { s with heap:=al,toks:=s.toks }:=by
   show Inv.step (ch:=[z,TO,U,Y]) (g':=s.gens) (d':=s.drawn) (t':=s.toks) I (λc J=>?_) (λc o h1 h2 h3 h4 h5=>?_) (λc o h1 h2 h3 h4 h5=>?_) (λc o h3 h4 h5=>?_) (λc o h3 h4=>?_) (λc ys q=>?_) (λc o u' q=>?_) (λc ps q=>?_) (λm hm=>?_) bl I.bare;simp only[ay,bF,or_false] at J;rcases J with rfl | rfl | rfl | rfl;exact⟨fz.2.2.2.1,fz.2.1,fz.2.2.2.2.1,fz.2.2.2.2.2⟩;exact⟨B.2.2.2.1,B.2.1,B.2.2.2.2.1,B.2.2.2.2.2⟩;exact⟨f1.2.2.2.1,f1.2.1,f1.2.2.2.2.1,f1.2.2.2.2.2⟩;exact⟨f2.2.2.2.1,f2.2.1,f2.2.2.2.2.1,f2.2.2.2.2.2⟩;exact ag c o h3 h4;exact⟨o.slots,ag c o h3 h4⟩;rw[ze (aS (ar h4))];exact h5;exact⟨o,ag c o h3 h4⟩;rw[ze (zb q F)];exact q;rw[ze (zb q F)];exact q;exact⟨#[],by rw[ze (zb q F),fD];exact q⟩;obtain⟨o,es,ep,a3,r1⟩:=hm;exact⟨o,es,ep,kp _ o (Ne.symm fz.2.1) (Ne.symm B.2.1) (Ne.symm f1.2.1) (Ne.symm f2.2.1) a3,r1⟩
  show⟨.ref s.heap.objs.size,_,I1,rfl,⟨s.heap.objs.size,x,y,rfl,F,rfl,λzs a4=>by rw[I.list_inj a4 an];exact hx,λzs a4=>by rw[I.list_inj a4 ap];exact hy⟩,⟨bb,?_,⟨_,_,(ac.2 TO D.TOz).trans b2⟩,?_,?_⟩,λc J=>?_⟩;exact kp TI _ D.TIz D.TITO D.TIi1 D.TIi2 Z;obtain⟨o,ho,r⟩:=b3;exact⟨o,(ac.2 U D.i1z).trans ho,r⟩;obtain⟨o,ho,r⟩:=b4;exact⟨o,(ac.2 Y D.i2z).trans ho,r⟩;simp only[ay,bF,or_false] at J;rcases J with rfl | rfl | rfl | rfl | rfl;rw[ze (Ne.symm bc)];exact fz.1;rw[ze (Ne.symm be)];exact (hf _ (by simp)).1;rw[ze (Ne.symm bd)];exact B.1;rw[ze (Ne.symm ca)];exact f1.1;rw[ze (Ne.symm cc)];exact f2.1
 done:=by
  intro X hP hw hK J i pins s σ H E I hf st hg;subst hP hw hK;obtain⟨xs,ys,an,ap,hx⟩:=hg;obtain⟨a7,a1,p1,cs⟩:=zac I an;obtain⟨ba,a2,p2,cl⟩:=zac I ap;have fz:=hf z (by simp);have B:=hf TO (by simp);have f1:=hf U (by simp);have f2:=hf Y (by simp);obtain⟨hz,Z,⟨c0,d0,ad⟩,as,a0⟩:=st;have cu:=a1.length;have cv:=a2.length;have hT:s.TypeIs (.ref z) "zip" := ⟨_,hz,rfl⟩;unfold pyNext
  show aa (cP (wpAny_callSpecial?_slot (name:=Str.ofString "__next__") hT cJ
   (aW cJ hT eJ (zip_next_end (A:=X.A.in1) (I.ok.hd J) D hz Z ad as a0 p1 p2 (hx.elim (λz=>.inl (by simp;lia)) λz=>.inr (by simp;lia)) λh' e ko he=>?_) (eh _))))
  obtain⟨o,ho,cd⟩:=he;show aa (dg (T := "StopIteration") (b:=true) ⟨o,ho,cd⟩ et ?_);show ae ⟨rfl,?_⟩;have ag:∀c o,c∉[z,TO,U,Y]->s.heap.get? c=some o->h'.get? c=some o:=λc o J e=>ko c o (λq=>J (by simp[q])) (λq=>J (by simp[q])) (λq=>J (by simp[q])) (λq=>J (by simp[q])) e;show Inv.step (ch:=[z,TO,U,Y]) (g':=s.gens) (d':=s.drawn) (t':=s.toks) I (λc J=>?_) (λc o h1 h2 h3 h4 h5=>ag c o h3 h4) (λc o h1 h2 h3 h4 h5=>⟨o.slots,ag c o h3 h4⟩) (λc o h3 h4 h5=>h5) (λc o h3 h4=>⟨o,ag c o h3 h4⟩) (λc ys q=>q) (λc o u' q=>q) (λc ps q=>⟨#[],by right⟩) (λm hm=>?_) (λb' u' hb=>?_) I.bare;simp only[ay,bF,or_false] at J;rcases J with rfl | rfl | rfl | rfl;exact⟨fz.2.2.2.1,fz.2.1,fz.2.2.2.2.1,fz.2.2.2.2.2⟩;exact⟨B.2.2.2.1,B.2.1,B.2.2.2.2.1,B.2.2.2.2.2⟩;exact⟨f1.2.2.2.1,f1.2.1,f1.2.2.2.2.1,f1.2.2.2.2.2⟩;exact⟨f2.2.2.2.1,f2.2.1,f2.2.2.2.2.1,f2.2.2.2.2.2⟩;obtain⟨o,es,ep,a3,r1⟩:=hm;exact⟨o,es,ep,ko _ o (Ne.symm fz.2.1) (Ne.symm B.2.1) (Ne.symm f1.2.1) (Ne.symm f2.2.1) a3,r1⟩;show (I.hok b' u' hb).stay (λc v O q=>?_) (λc q=>q) (λc ys q=>q)
  have:c≠z/\c≠TO/\c≠U/\c≠Y:=by
   rcases O with rfl | O;exact⟨zb hb fz.1,zb hb B.1,zb hb f1.1,zb hb f2.1⟩;exact⟨zb O fz.1,zb O B.1,zb O f1.1,zb O f2.1⟩
  exact ko c v this.1 this.2.1 this.2.2.1 this.2.2.2 q
 self:=λA i s Q E st h=>by obtain⟨hz,_⟩:=st;exact eK hz h
def zqm (K:AH)(ta:TA):TI:=λσ H R=>ta σ H λvs H1=>∃a b,vs=[.ref a,.ref b]/\(∃xs,SqL K H1 a xs)/\(∃ys,SqL K H1 b ys)/\R (Izl K a b) H1
def zoy {X:Cx}{F:AO}{x1}{tpos:Pos}{a b:Expr}{ta:TA}{p pos:Pos}(hg:Gl X "zip")(hm:X.mg "zip" = none)(ha:PA X [a,b] ta)(hs:starEach [a,b] X.env=[(false,eval a X.env),(false,eval b X.env)]:=by rfl)(J:starEach [b] X.env=[(false,eval b X.env)]:=by rfl) :
  PI X (.Tuple F x1 tpos) (.Call (.Name "zip" p) [a,b] [] pos) (zqm X.K ta):=by
 intro pins s σ H R I h;show Call_ (zcL I hg hm boot_zip (cH (thn (ha pos pins s σ H _ I h) λus B ⟨vs,H1,I1,r1,q1⟩=>?_) (by rw[hs,J]) (by rw[J];rfl)));obtain⟨c,d,e,⟨xs,Y⟩,⟨ys,Z⟩,q⟩:=q1;subst e
 cases r1 with
 | cons r rr=>
  cases rr with
  | cons r' rr=>
   cases rr;cases r;cases r';obtain⟨O,as,p1,a0⟩:=zac I1 Y;obtain⟨U,a1,p2,a2⟩:=zac I1 Z;have ac:c<B.heap.objs.size:=by obtain⟨o,ho,_⟩:=id p1;exact ar ho
   have ad:d<B.heap.objs.size:=by obtain⟨o,ho,_⟩:=id p2;exact ar ho
   show call_zip_2 (show B.heap.IsList c O.toArray from p1) (show B.heap.IsList d U.toArray from p2) λh' gz ag al an ap hsz hk=>?_;have I2:Inv X pins σ H1 { B with heap:=h',toks:=B.toks }:=I1.kept (t':=B.toks) hk;show eK gz ?_;show⟨B.heap.objs.size+4,[B.heap.objs.size+4,B.heap.objs.size+2,B.heap.objs.size+3,B.heap.objs.size,B.heap.objs.size+1],_,_,H1,rfl,I2,zkk _ _ _ _ _ c d (zipApart_new ac ad),⟨gz,ag,⟨_,_,al⟩,an,ap⟩,λe he=>?_,q⟩;simp only[ay,bF,or_false] at he;rcases he with rfl | rfl | rfl | rfl | rfl;exact I1.fpOk (by lia) (I1.hok.fresh (by lia));exact I1.fpOk (by lia) (I1.hok.fresh (by lia));exact I1.fpOk (by lia) (I1.hok.fresh (by lia));exact I1.fpOk (ai _) (I1.hok.fresh (ai _));exact I1.fpOk (by lia) (I1.hok.fresh (by lia))
def zoU {X:Cx}{q:AO}{x1}{tpos:Pos}{a b:Expr}{ta:TA}{p pos:Pos}(F:Gl X "zip")(I:X.mg "zip" = none)(J:QA X [a,b] ta)(hs:starEach [a,b] X.env=[(false,eval a X.env),(false,eval b X.env)]:=by rfl)(B:starEach [b] X.env=[(false,eval b X.env)]:=by rfl) :
  QI X (.Tuple q x1 tpos) (.Call (.Name "zip" p) [a,b] [] pos) (zqm X.K ta):=⟨zoy F I J.run hs B⟩
abbrev nmS (b:Bool):String:=match b with | true => "tuple" | false => "list"
abbrev nmI (b:Bool):String:=match b with | true => "tuple_iterator" | false => "list_iterator"
def SqH (b:Bool)(h:Heap)(l:Addr)(xs:AK):Prop:=∃o,h.get? l=some o/\o.cls = .type (nmS b)/\∃n,o.data = .seq xs n
def ItH (b:Bool)(h:Heap)(i l:Addr)(k:Nat):Prop:=∃o,h.get? i=some o/\o.cls = .type (nmI b)/\o.data = .fields #[.ref l,.int k 0]
abbrev SqV (b:Bool) (K:AH) (H:Hp) (a:Addr) (xs:AT):Prop:=match b with | true=>SqT K H a xs | false=>SqL K H a xs
def zfH{X:Cx}{pins:AB}{σ:St}{H:Hp}{s:AZ}{a:Addr}{xs:AT}(I:Inv X pins σ H s)(h:SqV b X.K H a xs):∃q:AN,zM xs q/\SqH b s.heap a q.toArray:=by
 cases b;obtain⟨q,r,p,_⟩:=zac I h;exact⟨q,r,p⟩;obtain⟨q,r,p,_⟩:=I.tuple h;exact⟨q,r,p⟩
def ztk{X:Cx}{pins:AB}{σ:St}{H:Hp}{a:Addr}(I:Inv X pins σ H s)(h:SqV b X.K H a xs)(h':SqV b X.K H a ys):xs=ys:=by
 cases b;exact I.list_inj h h';exact I.tuple_inj h h'
section
variable {prog:Aa}{w:Ab}{A:Ae}{E:AA}{s:AZ}
def zhq(q:ItH k s.heap B t i)(F:SqH k s.heap t items)(I:items[i]?=some x)(J:∀h',ItH k h' B t (i+1)->Heap.SameBut B s.heap h'->Q x { s with heap:=h' }):Ag prog w A (Builtin.SmallTypes.nextOf (.ref B)) Q E s:=by
 cases k;exact wpAny_nextOf_list_item q F I J;exact xF q F I J
def zjn(F:A.handled=none)(q:ItH k s.heap B t i)(I:SqH k s.heap t items)(J:items[i]?=none)(O:∀h' e,Heap.ExtBut B s.heap h'->(∃o,h'.get? e=some o/\o.cls = .type "StopIteration")->E (.ref e) { s with heap:=h' }):Ag prog w A (Builtin.SmallTypes.nextOf (.ref B)) Q E s:=by
 cases k;exact wpAny_nextOf_list_end F q I J O;exact zbi F q I J O
def ztl(h:SqH k s.heap l items)(q:Q (.ref s.heap.objs.size) { s with heap:=s.heap.push { cls:=.type (nmI k),data:=.fields #[.ref l,.int 0 0] } }):Ag prog w A (pyIter (.ref l)) Q E s:=by
 cases k;exact wpAny_pyIter_list h q;exact fg h q
def zcu{z TI TO Z F t1 t2:Addr}{xs ys:AK}{x y a b:Value}{Q:AA}(D:ZipApart z TI TO Z F t1 t2)(hz:IsZip s.heap z TI TO .none)(b2:IsPair s.heap TI (.ref Z) (.ref F))(b3:IsPair s.heap TO a b)(h1:ItH kb s.heap Z t1 k1)(h2:s.heap.IsTupleIter F t2 k2)(hx:SqH kb s.heap t1 xs)(hy:s.heap.IsTuple t2 ys)(ex:xs[k1]?=some x)(ey:ys[k2]?=some y)(hQ:∀h',IsZip h' z TI TO (rawInt s.heap.objs.size)->IsPair h' TO x y->ItH kb h' Z t1 (k1+1)->h'.IsTupleIter F t2 (k2+1)->IsPair h' s.heap.objs.size x y->h'.objs.size=s.heap.objs.size+1->
   (∀c o,c≠z->c≠TO->c≠Z->c≠F->s.heap.get? c=some o->h'.get? c=some o)->Q (.ref s.heap.objs.size) { s with heap:=h' }) :
  Ag prog w A (Builtin.«zip.__next__» ⟨[.ref z],[]⟩) (λfin s'=>∃v,fin = .done (.ret v)/\Q v s') E s:=by
 change wpAny _ _ (field (.ref z) 2 >>= _) _ _ s;show aa (b7 hz rfl (x:=.bool false) rfl ?_);change wpAny _ _ (field (.ref z) 3 >>= _) _ _ s;show aa (b7 hz rfl (x:=.ref TI) rfl ?_);change wpAny _ _ (seqItems? (.ref TI) >>= _) _ _ s;show aa (cE b2 rfl ?_);change wpAny _ _ (Builtin.SmallTypes.ownedTupleIsFree (.ref z) >>= _) _ _ s;show aa ?_;change wpAny _ _ (field (.ref z) 0 >>= _) _ _ s;show aa (b7 hz rfl (x:=.none) rfl ?_);show ae ?_;change wpAny _ _ (rule "zip.__next__.owned-tuple-again" >>= _) _ _ s;show aa (cS ?_);change wpAny _ _ (field (.ref z) 4 >>= _) _ _ s;show aa (b7 hz rfl (x:=.ref TO) rfl ?_);change wpAny _ _ (setField (.ref z) 0 .ellipsis >>= _) _ _ s;show aa (bN hz rfl (by simp) ?_);have a3:(s.heap.update z (Obj.mapFields λx=>x.setIfInBounds 0 Value.ellipsis)).get? z=some { cls:=.type "zip",data:=.fields #[.ellipsis,.bool false,.bool false,.ref TI,.ref TO] }:=bv _ hz rfl;have B:∀c,c≠z->(s.heap.update z (Obj.mapFields λx=>x.setIfInBounds 0 Value.ellipsis)).get? c=s.heap.get? c:=λc q=>bI _ _ (Ne.symm q);have a4:(s.heap.update z (Obj.mapFields λx=>x.setIfInBounds 0 Value.ellipsis)).objs.size=s.heap.objs.size:=by simp[Heap.update]
 generalize s.heap.update z (Obj.mapFields λx=>x.setIfInBounds 0 Value.ellipsis)=H1 at a3 B a4;change wpAny _ _ (forIn ([(Value.ref Z,0),(Value.ref F,1)]:List (Value×Nat)) ((none,()):Option PySem.Fin×Unit) _ >>= _) _ _ _;rw[dQ];show aa (aa ?_);show aa (wpAny_onRaise ?_);change wpAny _ _ (if (Value.bool false==Value.bool true)=true then _ else (Builtin.SmallTypes.nextOf (.ref Z) >>= λx=>pure (some x))) _ _ _;rw[if_neg (by ext)];have b4:ItH kb H1 Z t1 k1:=by obtain⟨o,I,r⟩:=h1;exact⟨o,(B _ D.i1z).trans I,r⟩
 have ca:SqH kb H1 t1 xs:=by obtain⟨o,I,r⟩:=hx;exact⟨o,(B _ D.l1z).trans I,r⟩
 show aa (zhq (s:={ s with heap:=H1 }) b4 ca ex λH2 a5 a7=>?_);show ae ?_;have J:∀c,c≠Z->H2.get? c=H1.get? c:=λc q=>a7.2 c q;have ag:IsPair H2 TO a b:=(J _ D.TOi1).trans ((B _ D.TOz).trans b3);change wpAny _ _ (seqItems? (.ref TO) >>= _) _ _ _;show aa (cE (s:={ s with heap:=H2 }) ag rfl ?_);show aa (wpAny_updateSeq_pair (s:={ s with heap:=H2 }) ag λH3 ba bb=>?_);show aa (wpAny_letGo ?_);show ae ?_;have ap:IsPair H3 TO x b:=ba;have O:∀c,c≠TO->H3.get? c=H2.get? c:=λc q=>bb.2 c q;change wpAny _ _ (forIn ([(Value.ref F,1)]:List (Value×Nat)) ((none,()):Option PySem.Fin×Unit) _) _ _ _;rw[dQ];show aa ?_;show aa (wpAny_onRaise ?_);change wpAny _ _ (if (Value.bool false==Value.bool true)=true then _ else (Builtin.SmallTypes.nextOf (.ref F) >>= λx=>pure (some x))) _ _ _;rw[if_neg (by ext)];have cc:H3.IsTupleIter F t2 k2:=by obtain⟨o,I,r⟩:=h2;exact⟨o,(O _ (Ne.symm D.TOi2)).trans ((J _ (Ne.symm D.i12)).trans ((B _ D.i2z).trans I)),r⟩
 have cd:H3.IsTuple t2 ys:=by obtain⟨o,I,r⟩:=hy;exact⟨o,(O _ D.l2TO).trans ((J _ D.l2i1).trans ((B _ D.l2z).trans I)),r⟩
 show aa (xF (s:={ s with heap:=H3 }) cc cd ey λH4 bc bd=>?_);show ae ?_;have ac:∀c,c≠F->H4.get? c=H3.get? c:=λc q=>bd.2 c q;have al:IsPair H4 TO x b:=(ac _ D.TOi2).trans ap;change wpAny _ _ (seqItems? (.ref TO) >>= _) _ _ _;show aa (cE (s:={ s with heap:=H4 }) al rfl ?_);show aa (wpAny_updateSeq_pair (s:={ s with heap:=H4 }) al λH5 be bk=>?_);show aa (wpAny_letGo ?_);show ae ?_;have U:IsPair H5 TO x y:=be;have ad:∀c,c≠TO->H5.get? c=H4.get? c:=λc q=>bk.2 c q;change wpAny _ _ (forIn ([]:List (Value×Nat)) ((none,()):Option PySem.Fin×Unit) _) _ _ _;rw[List.forIn_nil];show ae ?_;change wpAny _ _ (seqItems? (.ref TO) >>= _) _ _ _;show aa (cE (s:={ s with heap:=H5 }) U rfl ?_);show aa (wpAny_newTuple ?_ (by change 2<=sizeLine;decide));have bl:H5.objs.size=s.heap.objs.size:=bk.1.trans (bd.1.trans (bb.1.trans (a7.1.trans a4)));have ko:∀c o,c≠z->c≠TO->c≠Z->c≠F->s.heap.get? c=some o->H5.get? c=some o:=λc o c1 c2 c3 c4 e=>(ad _ c2).trans ((ac _ c4).trans ((O _ c2).trans ((J _ c3).trans ((B _ c1).trans e))));have ch:H5.get? z=some { cls:=.type "zip",data:=.fields #[.ellipsis,.bool false,.bool false,.ref TI,.ref TO] }:=(ad _ (Ne.symm D.TOz)).trans ((ac _ (Ne.symm D.i2z)).trans ((O _ (Ne.symm D.TOz)).trans ((J _ (Ne.symm D.i1z)).trans a3)));have Y:=aq H5 (o:={ cls:=.type "tuple",data:=.seq #[x,y] }) rfl;change wpAny _ _ (Builtin.SmallTypes.ownedTupleHandOut (.ref z) (.ref H5.objs.size) >>= _) _ _ { s with heap:=H5.push { cls:=.type "tuple",data:=.seq #[x,y] } };have as:∀c o,H5.get? c=some o->(H5.push { cls:=.type "tuple",data:=.seq #[x,y] }).get? c=some o:=λc o e=>af _ e;have bo:(H5.push { cls:=.type "tuple",data:=.seq #[x,y] }).objs.size=s.heap.objs.size+1:=by rw[cR,bl]
 rw[bl] at Y ⊢;generalize H5.push { cls:=.type "tuple",data:=.seq #[x,y] }=H6 at Y as bo;have bs:=as _ _ ch;show aa ?_;change wpAny _ _ (setField (.ref z) 0 (rawInt s.heap.objs.size) >>= _) _ _ { s with heap:=H6 };show aa (bN bs rfl (by simp) ?_);have a0:(H6.update z (Obj.mapFields λx=>x.setIfInBounds 0 (rawInt s.heap.objs.size))).get? z=some { cls:=.type "zip",data:=.fields #[rawInt s.heap.objs.size,.bool false,.bool false,.ref TI,.ref TO] }:=bv _ bs rfl;have a1:∀c,c≠z->(H6.update z (Obj.mapFields λx=>x.setIfInBounds 0 (rawInt s.heap.objs.size))).get? c=H6.get? c:=λc q=>bI _ _ (Ne.symm q);have bx:(H6.update z (Obj.mapFields λx=>x.setIfInBounds 0 (rawInt s.heap.objs.size))).objs.size=H6.objs.size:=by simp[Heap.update]
 generalize H6.update z (Obj.mapFields λx=>x.setIfInBounds 0 (rawInt s.heap.objs.size))=H7 at a0 a1 bx;show bN (s:={ s with heap:=H7 }) a0 rfl (by simp) ?_;have b0:(H7.update z (Obj.mapFields λx=>x.setIfInBounds 1 (Value.bool false))).get? z=some { cls:=.type "zip",data:=.fields #[rawInt s.heap.objs.size,.bool false,.bool false,.ref TI,.ref TO] }:=bv _ a0 rfl;have a2:∀c,c≠z->(H7.update z (Obj.mapFields λx=>x.setIfInBounds 1 (Value.bool false))).get? c=H7.get? c:=λc q=>bI _ _ (Ne.symm q);have b1:(H7.update z (Obj.mapFields λx=>x.setIfInBounds 1 (Value.bool false))).objs.size=H7.objs.size:=by simp[Heap.update]
 generalize H7.update z (Obj.mapFields λx=>x.setIfInBounds 1 (Value.bool false))=H8 at b0 a2 b1;have kk:∀c o,c≠z->H5.get? c=some o->H8.get? c=some o:=λc o q e=>(a2 _ q).trans ((a1 _ q).trans (as _ _ e));have an:=ar hz;show ae ⟨_,rfl,hQ H8 b0 (kk _ _ D.TOz U) ?_ ?_ ?_ (by rw[b1,bx,bo]) λc o c1 c2 c3 c4 e=>kk _ _ c1 (ko c o c1 c2 c3 c4 e)⟩;obtain⟨o,I,r⟩:=a5;exact⟨o,kk _ _ D.i1z ((ad _ (Ne.symm D.TOi1)).trans ((ac _ D.i12).trans ((O _ (Ne.symm D.TOi1)).trans I))),r⟩;obtain⟨o,I,r⟩:=bc;exact⟨o,kk _ _ D.i2z ((ad _ (Ne.symm D.TOi2)).trans I),r⟩;exact (a2 _ (eu an)).trans ((a1 _ (eu an)).trans Y)
def zd3{z TI TO B U I t2:Addr}{xs:AK}{Q:PySem.Fin->AZ->Prop}(D:ZipApart z TI TO B U I t2)(hh:A.handled=none)(F:IsZip s.heap z TI TO .none)(Z:IsPair s.heap TI (.ref B) (.ref U))(h1:ItH kb s.heap B I Y)(hx:SqH kb s.heap I xs)(ex:xs[Y]?=none)(hE:∀h' e,(∀c o,c≠z->c≠B->s.heap.get? c=some o->h'.get? c=some o)->(∃o,h'.get? e=some o/\o.cls = .type "StopIteration")->E (.ref e) { s with heap:=h' }) :
  Ag prog w A (Builtin.«zip.__next__» ⟨[.ref z],[]⟩) Q E s:=by
 change wpAny _ _ (field (.ref z) 2 >>= _) _ _ s;show aa (b7 F rfl (x:=.bool false) rfl ?_);change wpAny _ _ (field (.ref z) 3 >>= _) _ _ s;show aa (b7 F rfl (x:=.ref TI) rfl ?_);change wpAny _ _ (seqItems? (.ref TI) >>= _) _ _ s;show aa (cE Z rfl ?_);change wpAny _ _ (Builtin.SmallTypes.ownedTupleIsFree (.ref z) >>= _) _ _ s;show aa ?_;change wpAny _ _ (field (.ref z) 0 >>= _) _ _ s;show aa (b7 F rfl (x:=.none) rfl ?_);show ae ?_;change wpAny _ _ (rule "zip.__next__.owned-tuple-again" >>= _) _ _ s;show aa (cS ?_);change wpAny _ _ (field (.ref z) 4 >>= _) _ _ s;show aa (b7 F rfl (x:=.ref TO) rfl ?_);change wpAny _ _ (setField (.ref z) 0 .ellipsis >>= _) _ _ s;show aa (bN F rfl (by simp) ?_);have J:(s.heap.update z (Obj.mapFields λx=>x.setIfInBounds 0 Value.ellipsis)).get? z=some { cls:=.type "zip",data:=.fields #[.ellipsis,.bool false,.bool false,.ref TI,.ref TO] }:=bv _ F rfl;have q:∀c,c≠z->(s.heap.update z (Obj.mapFields λx=>x.setIfInBounds 0 Value.ellipsis)).get? c=s.heap.get? c:=λc hc=>bI _ _ (Ne.symm hc);generalize s.heap.update z (Obj.mapFields λx=>x.setIfInBounds 0 Value.ellipsis)=H1 at J q;change wpAny _ _ (forIn ([(Value.ref B,0),(Value.ref U,1)]:List (Value×Nat)) ((none,()):Option PySem.Fin×Unit) _ >>= _) _ _ _;rw[dQ];show aa (aa ?_);show aa (wpAny_onRaise ?_);change wpAny _ _ (if (Value.bool false==Value.bool true)=true then _ else (Builtin.SmallTypes.nextOf (.ref B) >>= λx=>pure (some x))) _ _ _;rw[if_neg (by ext)];have ac:ItH kb H1 B I Y:=by obtain⟨o,O,r⟩:=h1;exact⟨o,(q _ D.i1z).trans O,r⟩
 have ad:SqH kb H1 I xs:=by obtain⟨o,O,r⟩:=hx;exact⟨o,(q _ D.l1z).trans O,r⟩
 show aa (zjn (s:={ s with heap:=H1 }) hh ac ad ex λH2 e eb he=>?_);have ag:=eb z _ (Ne.symm D.i1z) J;show bN (s:={ s with heap:=H2 }) ag rfl (by simp) ?_;have al:e≠z:=by grind
 show hE _ e (λc o c1 c2 e1=>?_) ?_;exact (bI _ _ (Ne.symm c1)).trans (eb c o c2 ((q _ c1).trans e1));obtain⟨o,O,hc⟩:=he;exact⟨o,(bI _ _ (Ne.symm al)).trans O,hc⟩
def zg2 (kb:Bool)(h:Heap)(q B:Addr):Heap:=
 ((((h.push { cls:=.type (nmI kb),data:=.fields #[.ref q,.int 0 0] }).push { cls:=.type "tuple_iterator",data:=.fields #[.ref B,.int 0 0] }).push { cls:=.type "tuple",data:=.seq #[.ref h.objs.size,.ref (h.objs.size+1)] }).push { cls:=.type "tuple",data:=.seq #[.none,.none] }).push
  { cls:=.type "zip",data:=.fields #[.none,.bool false,.bool false,.ref (h.objs.size+2),.ref (h.objs.size+3)] }
def zcm (kb:Bool)(q B:Addr)(xs ys:AK) :
  Meets (Builtin.«zip.__new__» ⟨[.type "zip",.ref q,.ref B],[]⟩) (λ_ R s=>SqH kb s.heap q xs/\s.heap.IsTuple B ys/\R (.ok (.ret (.ref (s.heap.objs.size+4)))) { s with heap:=zg2 kb s.heap q B }):=
 .of_wp λprog w A R s h=>by
  obtain⟨J,g,d,tk,O⟩:=s;obtain⟨h1,h2,h⟩:=h;have I:=sub_zip;have F:Heap.IsTuple (Shared.heap ⟨J.push { cls:=.type (nmI kb),data:=.fields #[.ref q,.int 0 0] },g,d,tk,O⟩) B ys:=by obtain⟨o,U,r⟩:=h2;exact⟨o,af _ U,r⟩
  wp_walk using ztl h1,fg F
  show⟨_,rfl,?_⟩;unfold zg2 at h;simpa [cR,Builtin.SmallTypes.ownedTupleFields] using h
def zh1(h1:SqH kb s.heap q xs)(h2:s.heap.IsTuple I ys)(h:∀h',IsZip h' (s.heap.objs.size+4) (s.heap.objs.size+2) (s.heap.objs.size+3) .none->IsPair h' (s.heap.objs.size+2) (.ref s.heap.objs.size) (.ref (s.heap.objs.size+1))->IsPair h' (s.heap.objs.size+3) .none .none->
   ItH kb h' s.heap.objs.size q 0->h'.IsTupleIter (s.heap.objs.size+1) I 0->h'.objs.size=s.heap.objs.size+5->(∀b o,s.heap.get? b=some o->h'.get? b=some o)->Q (.ref (s.heap.objs.size+4)) { s with heap:=h' }) :
  Ag prog w A (call (.type "zip") [.ref q,.ref I]) Q E s:=by
 show callType_new F.called_zip (by ext) (F.typeCall_zip_2 _ _) (F.newCall_zip_2 _ _) (λJ=>F.args_object_init_3 J _ _) F.entry_zip_new (zcm kb q I xs ys) ⟨h1,h2,?_⟩;generalize ac:({ cls:=.type (nmI kb),data:=.fields #[.ref q,.int 0 0] }:Obj)=o0;have z1:∀o,(s.heap.push o).objs.size=s.heap.objs.size+1:=λo=>cR ..;have z2:∀o o',((s.heap.push o).push o').objs.size=s.heap.objs.size+2:=λo o'=>by rw[cR,z1]
 have z3:∀o o' B,(((s.heap.push o).push o').push B).objs.size=s.heap.objs.size+3:=λo o' B=>by rw[cR,z2]
 have z4:∀o o' B p,((((s.heap.push o).push o').push B).push p).objs.size=s.heap.objs.size+4:=λo o' B p=>by rw[cR,z3]
 have gz:(zg2 kb s.heap q I).get? (s.heap.objs.size+4)=some { cls:=.type "zip",data:=.fields #[.none,.bool false,.bool false,.ref (s.heap.objs.size+2),.ref (s.heap.objs.size+3)] }:=by unfold zg2;rw[<- z4];exact aq _ rfl
 have O:(zg2 kb s.heap q I).get? (s.heap.objs.size+3)=some { cls:=.type "tuple",data:=.seq #[.none,.none] }:=by unfold zg2;show af _ ?_;rw[<- z3];exact aq _ rfl
 have U:(zg2 kb s.heap q I).get? (s.heap.objs.size+2)=some { cls:=.type "tuple",data:=.seq #[.ref s.heap.objs.size,.ref (s.heap.objs.size+1)] }:=by unfold zg2;show af _ (af _ ?_);rw[<- z2];exact aq _ rfl
 have Y:(zg2 kb s.heap q I).get? (s.heap.objs.size+1)=some { cls:=.type "tuple_iterator",data:=.fields #[.ref I,.int 0 0] }:=by unfold zg2;show af _ (af _ (af _ ?_));rw[<- z1];exact aq _ rfl
 have Z:(zg2 kb s.heap q I).get? s.heap.objs.size=some { cls:=.type (nmI kb),data:=.fields #[.ref q,.int 0 0] }:=by unfold zg2;exact af _ (af _ (af _ (af _ (aq _ rfl))))
 show⟨⟨_,gz,rfl⟩,h _ gz U O ⟨_,Z,rfl,rfl⟩ ⟨_,Y,rfl,rfl⟩ ?_ λb o x=>?_⟩;unfold zg2;rw[cR,z4];unfold zg2;exact af _ (af _ (af _ (af _ (af _ x))))
end
def Izg (kb:Bool)(K:AH)(a b:Addr):It:=
 ⟨λi H=>∃xs ys x y,SqV kb K H a xs/\SqT K H b ys/\xs[i]?=some x/\ys[i]?=some y,λi H v H'=>∃T x y,v = .ref T/\H T=none/\H'=upd H T (.tup [x,y])/\(∀xs,SqV kb K H a xs->xs[i]?=some x)/\∀ys,SqT K H b ys->ys[i]?=some y,λi H=>∃xs,SqV kb K H a xs/\xs.length<=i⟩
def zkj{P:Aa}{w:Ab}{K:AH}{a2:AO}{x1}(z TI TO J i2 a b:Addr)(D:ZipApart z TI TO J i2 a b) :
  Turn P w K (.Tuple a2 x1 tpos) (Izg kb K a b) [z,TI,TO,J,i2] z (λi h=>IsZip h z TI TO .none/\IsPair h TI (.ref J) (.ref i2)/\(∃c d,IsPair h TO c d)/\ItH kb h J a i/\h.IsTupleIter i2 b i) where
 mem:=by simp
 obj:=λi h st c F=>by
  obtain⟨hz,O,⟨u,v,al⟩,⟨o1,e1,c1,d1⟩,⟨o2,e2,c2,d2⟩⟩:=st;grind
 keep:=λi h h' st k=>by obtain⟨hz,O,⟨u,v,al⟩,⟨o1,e1,r1⟩,⟨o2,e2,r2⟩⟩:=st;exact⟨k z (by simp) _ hz,k TI (by simp) _ O,⟨u,v,k TO (by simp) _ al⟩,⟨o1,k J (by simp) _ e1,r1⟩,⟨o2,k i2 (by simp) _ e2,r2⟩⟩
 item:=by
  intro X hP hw hK F i pins s σ H E I hf st hg;subst hP hw hK;obtain⟨xs,ys,x,y,a3,a4,hx,hy⟩:=hg;obtain⟨cd,bk,p1⟩:=zfH I a3;obtain⟨ci,bl,p2,cn⟩:=I.tuple a4;obtain⟨u1,bo,bs⟩:=bk.get hx;obtain⟨u2,bx,b0⟩:=bl.get hy;have Z:=hf z (by simp);have ac:=hf TO (by simp);have f1:=hf J (by simp);have f2:=hf i2 (by simp);obtain⟨hz,O,⟨c0,d0,al⟩,ap,as⟩:=st;have hT:s.TypeIs (.ref z) "zip" := ⟨_,hz,rfl⟩;unfold pyNext
  show aa (cP (wpAny_callSpecial?_slot (name:=Str.ofString "__next__") hT cJ
   (aW cJ hT eJ (zcu (A:=X.A.in1) D hz O al ap as p1 p2 (x:=u1) (y:=u2) (by simpa using bo) (by simpa using bx) λh' gz b1 b2 b3 gT co hk=>?_) (eh _))))
  show ae ⟨_,rfl,?_⟩;show wpAny_letOwnedTupleGo_zip (s:={ s with heap:=h' }) gz λan a5 U=>?_;have nz:∀b' o',s.heap.get? b'=some o'->s.heap.objs.size≠b':=λb' o' e=>eu (ar e);have a7:s.heap.objs.size≠z:=nz z _ hz;have ba:s.heap.objs.size≠TO:=nz TO _ al;have b4:s.heap.objs.size≠J:=by obtain⟨o,ho,_⟩:=ap;exact nz J _ ho
  have ca:s.heap.objs.size≠i2:=by obtain⟨o,ho,_⟩:=as;exact nz i2 _ ho
  have bb:s.heap.objs.size≠TI:=nz TI _ O;have B:=I.hok.fresh (ai s.heap.objs.size);have kp:∀c o,c≠z->c≠TO->c≠J->c≠i2->s.heap.get? c=some o->an.get? c=some o:=λc o h1 h2 h3 Y hb=>(U.2 c h1).trans (hk c o h1 h2 h3 Y hb);have bc:an.get? s.heap.objs.size=some { cls:=.type "tuple",data:=.seq #[u1,u2] }:=(U.2 _ a7).trans gT;have cl:∀b' u',H b'=some u'->b'≠z/\b'≠TO/\b'≠J/\b'≠i2:=λb' u' hb=>⟨zb hb Z.1,zb hb ac.1,zb hb f1.1,zb hb f2.1⟩
  have bd:HOk X.prog X.w (upd H s.heap.objs.size (.tup [x,y])) an:=by
   intro b' u' hb;by_cases be:b'=s.heap.objs.size;subst be;rw[zg] at hb;cases hb;exact⟨by change 2<=sizeLine;decide,[u1,u2],.cons bs (.cons b0 .nil),_,bc,rfl,⟨0,rfl⟩,rfl⟩
   ·rw[ze be] at hb;show (I.hok b' u' hb).stay (λc v ad q=>?_) (λc q=>?_) (λc ys q=>?_)
    ·have:c≠z/\c≠TO/\c≠J/\c≠i2:=by
      rcases ad with rfl | ad
      all_goals right
     right
    rw[ze (zb q B)];exact q;rw[ze (zb q B)];exact q
  have ag:∀c o,c∉[z,TO,J,i2]->s.heap.get? c=some o->an.get? c=some o:=λc o F e=>kp c o (λq=>F (by simp[q])) (λq=>F (by simp[q])) (λq=>F (by simp[q])) (λq=>F (by simp[q])) e
  have I1:Inv X pins σ (upd H s.heap.objs.size (.tup [x,y])) { s with heap:=an,toks:=s.toks }:=by
   show Inv.step (ch:=[z,TO,J,i2]) (g':=s.gens) (d':=s.drawn) (t':=s.toks) I (λc F=>?_) (λc o h1 h2 h3 Y h5=>?_) (λc o h1 h2 h3 Y h5=>?_) (λc o h3 Y h5=>?_) (λc o h3 Y=>?_) (λc ys q=>?_) (λc o u' q=>?_) (λc ps q=>?_) (λm hm=>?_) bd I.bare;simp only[ay,bF,or_false] at F;rcases F with rfl | rfl | rfl | rfl;exact⟨Z.2.2.2.1,Z.2.1,Z.2.2.2.2.1,Z.2.2.2.2.2⟩;exact⟨ac.2.2.2.1,ac.2.1,ac.2.2.2.2.1,ac.2.2.2.2.2⟩;exact⟨f1.2.2.2.1,f1.2.1,f1.2.2.2.2.1,f1.2.2.2.2.2⟩;exact⟨f2.2.2.2.1,f2.2.1,f2.2.2.2.2.1,f2.2.2.2.2.2⟩;exact ag c o h3 Y;exact⟨o.slots,ag c o h3 Y⟩;rw[ze (aS (ar Y))];exact h5;exact⟨o,ag c o h3 Y⟩;rw[ze (zb q B)];exact q;rw[ze (zb q B)];exact q;exact⟨#[],by rw[ze (zb q B),fD];exact q⟩;obtain⟨o,es,ep,a0,r1⟩:=hm;exact⟨o,es,ep,kp _ o (Ne.symm Z.2.1) (Ne.symm ac.2.1) (Ne.symm f1.2.1) (Ne.symm f2.2.1) a0,r1⟩
  show⟨.ref s.heap.objs.size,_,I1,rfl,⟨s.heap.objs.size,x,y,rfl,B,rfl,λzs a1=>by rw[ztk I a1 a3];exact hx,λzs a1=>by rw[I.tuple_inj a1 a4];exact hy⟩,⟨a5,?_,⟨_,_,(U.2 TO D.TOz).trans b1⟩,?_,?_⟩,λc F=>?_⟩;exact kp TI _ D.TIz D.TITO D.TIi1 D.TIi2 O;obtain⟨o,ho,r⟩:=b2;exact⟨o,(U.2 J D.i1z).trans ho,r⟩;obtain⟨o,ho,r⟩:=b3;exact⟨o,(U.2 i2 D.i2z).trans ho,r⟩;simp only[ay,bF,or_false] at F;rcases F with rfl | rfl | rfl | rfl | rfl;rw[ze (Ne.symm a7)];exact Z.1;rw[ze (Ne.symm bb)];exact (hf _ (by simp)).1;rw[ze (Ne.symm ba)];exact ac.1;rw[ze (Ne.symm b4)];exact f1.1;rw[ze (Ne.symm ca)];exact f2.1
 done:=by
  intro X hP hw hK F i pins s σ H E I hf st hg;subst hP hw hK;obtain⟨xs,hq,hx⟩:=hg;obtain⟨cp,rv,p⟩:=zfH I hq;have Z:=hf z (by simp);have f1:=hf J (by simp);obtain⟨hz,O,⟨c0,d0,al⟩,ap,as⟩:=st;have hl:=rv.length;have hT:s.TypeIs (.ref z) "zip" := ⟨_,hz,rfl⟩;unfold pyNext
  show aa (cP (wpAny_callSpecial?_slot (name:=Str.ofString "__next__") hT cJ
   (aW cJ hT eJ (zd3 (A:=X.A.in1) D (I.ok.hd F) hz O ap p (by simp;lia) λh' e ko he=>?_) (eh _))))
  obtain⟨o,ho,cc⟩:=he;show aa (dg (T := "StopIteration") (b:=true) ⟨o,ho,cc⟩ et ?_);show ae ⟨rfl,?_⟩;have ag:∀c o,c∉[z,J]->s.heap.get? c=some o->h'.get? c=some o:=λc o F e=>ko c o (λq=>F (by simp[q])) (λq=>F (by simp[q])) e;show Inv.step (ch:=[z,J]) (g':=s.gens) (d':=s.drawn) (t':=s.toks) I (λc F=>?_) (λc o h1 h2 h3 Y h5=>ag c o h3 Y) (λc o h1 h2 h3 Y h5=>⟨o.slots,ag c o h3 Y⟩) (λc o h3 Y h5=>h5) (λc o h3 Y=>⟨o,ag c o h3 Y⟩) (λc ys q=>q) (λc o u' q=>q) (λc ps q=>⟨#[],by right⟩) (λm hm=>?_) (λb' u' hb=>?_) I.bare;simp only[ay,bF,or_false] at F;rcases F with rfl | rfl;exact⟨Z.2.2.2.1,Z.2.1,Z.2.2.2.2.1,Z.2.2.2.2.2⟩;exact⟨f1.2.2.2.1,f1.2.1,f1.2.2.2.2.1,f1.2.2.2.2.2⟩;obtain⟨o,es,ep,a0,r1⟩:=hm;exact⟨o,es,ep,ko _ o (Ne.symm Z.2.1) (Ne.symm f1.2.1) a0,r1⟩;show (I.hok b' u' hb).stay (λc v ad q=>?_) (λc q=>q) (λc ys q=>q)
  have:c≠z/\c≠J:=by
   rcases ad with rfl | ad;exact⟨zb hb Z.1,zb hb f1.1⟩;exact⟨zb ad Z.1,zb ad f1.1⟩
  exact ko c v this.1 this.2 q
 self:=λA i s Q E st h=>by obtain⟨hz,_⟩:=st;exact eK hz h
def zql (kb:Bool)(K:AH)(ta:TA):TI:=λσ H R=>ta σ H λvs H1=>∃a b,vs=[.ref a,.ref b]/\(∃xs,SqV kb K H1 a xs)/\(∃ys,SqT K H1 b ys)/\R (Izg kb K a b) H1
def zox (kb:Bool){X:Cx}{F:AO}{x1}{tpos:Pos}{a b:Expr}{ta:TA}{p pos:Pos}(hg:Gl X "zip")(hm:X.mg "zip" = none)(ha:PA X [a,b] ta)(hs:starEach [a,b] X.env=[(false,eval a X.env),(false,eval b X.env)]:=by rfl)(J:starEach [b] X.env=[(false,eval b X.env)]:=by rfl) :
  PI X (.Tuple F x1 tpos) (.Call (.Name "zip" p) [a,b] [] pos) (zql kb X.K ta):=by
 intro pins s σ H R I h;show Call_ (zcL I hg hm boot_zip (cH (thn (ha pos pins s σ H _ I h) λus B ⟨vs,H1,I1,r1,q1⟩=>?_) (by rw[hs,J]) (by rw[J];rfl)));obtain⟨c,d,e,⟨xs,U⟩,⟨ys,Y⟩,q⟩:=q1;subst e
 cases r1 with
 | cons r rr=>
  cases rr with
  | cons r' rr=>
   cases rr;cases r;cases r';obtain⟨ap,as,p1⟩:=zfH I1 U;obtain⟨O,a0,p2,a1⟩:=I1.tuple Y;have Z:c<B.heap.objs.size:=by obtain⟨o,ho,_⟩:=id p1;exact ar ho
   have ac:d<B.heap.objs.size:=by obtain⟨o,ho,_⟩:=id p2;exact ar ho
   show zh1 p1 (show B.heap.IsTuple d O.toArray from p2) λh' gz ad ag al an hsz hk=>?_;have I2:Inv X pins σ H1 { B with heap:=h',toks:=B.toks }:=I1.kept (t':=B.toks) hk;show eK gz ?_;show⟨B.heap.objs.size+4,[B.heap.objs.size+4,B.heap.objs.size+2,B.heap.objs.size+3,B.heap.objs.size,B.heap.objs.size+1],_,_,H1,rfl,I2,zkj _ _ _ _ _ c d (zipApart_new Z ac),⟨gz,ad,⟨_,_,ag⟩,al,an⟩,λe he=>?_,q⟩;simp only[ay,bF,or_false] at he;rcases he with rfl | rfl | rfl | rfl | rfl;exact I1.fpOk (by lia) (I1.hok.fresh (by lia));exact I1.fpOk (by lia) (I1.hok.fresh (by lia));exact I1.fpOk (by lia) (I1.hok.fresh (by lia));exact I1.fpOk (ai _) (I1.hok.fresh (ai _));exact I1.fpOk (by lia) (I1.hok.fresh (by lia))
def zoT (kb:Bool){X:Cx}{q:AO}{x1}{tpos:Pos}{a b:Expr}{ta:TA}{p pos:Pos}(F:Gl X "zip")(I:X.mg "zip" = none)(J:QA X [a,b] ta)(hs:starEach [a,b] X.env=[(false,eval a X.env),(false,eval b X.env)]:=by rfl)(B:starEach [b] X.env=[(false,eval b X.env)]:=by rfl) :
  QI X (.Tuple q x1 tpos) (.Call (.Name "zip" p) [a,b] [] pos) (zql kb X.K ta):=⟨zox kb F I J.run hs B⟩
section
variable {X:Cx}
def zo0:V->AT->Hp->VK->Prop:=λx vs H Q=>∃l xs k y,x = .ref l/\vs=[.int k,y]/\H l=some (.lst xs)/\0<=k/\k<=xs.length/\xs.length<sizeLine/\Q .non (upd H l (.lst (xs.take k.toNat++y::xs.drop k.toNat)))
def zjk:MtM X "list.insert" zo0:=by
 intro pins s σ H x vs v us Q I O U h;obtain⟨l,xs,k,y,rfl,rfl,J,h0,h1,Y,q⟩:=h;cases O
 cases U with
 | cons Z rr=>
  cases rr with
  | cons r2 rn=>
   cases rn;obtain⟨t,rfl⟩:=Z;obtain⟨z,B,n,r,hl,e⟩:=I.lstM J
   have hk:k<2 ^ 63:=by
    have:(xs.length:Int)<=2 ^ 40:=by have h2:xs.length<=2 ^ 40:=aA (cD Y) (by ext);lia
    lia
   show gk PySem.F.slot_list_insert ⟨_,e,rfl⟩ PySem.F.entry_list_insert (PySem.F.args_list_insert_3 _ _ _)
    (AutoSeq1.list_insert_list_int_val_1 l B.toArray n k t _ (by rw[fitsIndex_both (by lia) hk];decide) (by grind)) ⟨e,?_⟩
   show⟨.non,_,I.lset (its':=B.take k.toNat++_::B.drop k.toNat) J e ?_ ((r.take _).append (.cons r2 (r.drop _))) ?_,rfl,q⟩;change (B.toArray.extract 0 (if k<0 then (k+(B.toArray.size:Int)).toNat else min k.toNat B.toArray.size)).push _++B.toArray.extract (if k<0 then (k+(B.toArray.size:Int)).toNat else min k.toNat B.toArray.size)=_;rw[if_neg (by lia),aU,dS (by lia)];apply eI.mp;simp;rw[bt (by simp)];grind
def zmQ{T:String}{name:Str}{id:String}{r:V->AT->Hp->VK->Prop}{es:AO}{to:TE}{t:TA}{apos cpos:Pos}(U:PlainAttrs T)(I:Slot T name id)(O:typeOf (.builtin id)=pure (.type "method_descriptor"))(Y:MtR X id r)(Z:QE X o to)(ha:QA X (e::es) t)(B:attributeBase o name X.env (eval o X.env)=eval o X.env:=by rfl)(J:((backTo cpos (starEach (e::es) X.env)).all (λx=>!x.1)&&(backToKw cpos (keywordEach [] X.env)).all (λx=>x.1.isSome)
   && decide ((e::es).length+([]:List Keyword).length+(if ([]:List Keyword).isEmpty then 0 else 1)<30))=true:=by rfl)(F:(apos.endLine==cpos.line)=true:=by rfl)(hs:starEach (e::es) X.env=(false,eval e X.env)::starEach es X.env:=by rfl)(q:(backTo cpos (starEach es X.env)).any (·.1)=false:=by rfl) :
  QE X (.Call (.Attribute o name apos) (e::es) [] cpos) (tBM X.K T r to t):=⟨zq3 U I O Y Z.run ha.run B J F hs q⟩
def zjW:AT->Hp->VK->Prop:=λxs H Q=>∃ (l:Addr) (ns:AG),xs=[.ref l]/\H l=some (.lst (ns.map V.int))/\ns.length<64/\∀q:AG,q.Perm ns->q.Pairwise (·<=·)->New H (.lst (q.map V.int)) Q
def zgn:∀ {ns:AG} {q:AN},zM (ns.map V.int) q->IntsAre q ns
 | [],_,h=>by cases h;exact .nil
 | n::ns,_,h=>by
  cases h with
  | cons B F=>
   obtain⟨t,rfl⟩:=B;exact .cons _ _ (zgn F)
def zkD{ns:AG}(h:IntsAre q ns):zM (ns.map V.int) q:=by
 induction h with
 | nil=>exact .nil
 | cons _ _ _ B=>exact .cons ⟨_,rfl⟩ B
def zkN:CallQ X (.builtin "sorted") zjW:=⟨by
 intro pins s σ H xs us Q I r h;obtain⟨l,ns,rfl,hl,Z,q⟩:=h;obtain⟨u,rfl,ru⟩:=zaJ r;cases ru;obtain⟨an,rv,pl,hz⟩:=I.list (.of hl);obtain⟨m0,B,_⟩:=id I.loc;show PySem.W.kso_sorted (h₀:=(⟨#[],{}⟩:Heap)) (L:=X.env.locals) (m:=m0) (news:=zaz s.heap X.env.locals) ⟨B,λb o e=>?_,aK _⟩ (λp hp=>?_) pl.isList (zgn rv) Z λD ap J c h' F N O hi al hp hs _=>?_;have:=ar e;simp at this;obtain⟨b,o⟩:=p;have:=zy.mp hp;show⟨this.2,this.1,?_⟩
 cases e:(⟨#[],{}⟩:Heap).get? b with
 | none=>rfl
 | some o'=>
  have:=ar e;simp at this
 have ac:∀b o,b≠X.env.locals->s.heap.get? b=some o->h'.get? b=some o:=λb o hb e=>(N (b,o) (am _ (zy.mpr ⟨hb,e⟩))).1;have ad:D≠X.env.locals:=(N (D,_) aj).2.1
 have ag:s.heap.get? D=none:=by
  cases e:s.heap.get? D with
  | none=>rfl
  | some o=>exact absurd (O (D,o) (zy.mpr ⟨ad,e⟩)) (cB _)
 have U:H D=none:=by
  cases e:H D with
  | none=>rfl
  | some o=>
   obtain⟨o',as⟩:=ur (I.hok D o e);grind
 have Y:=(N (D,_) aj).1;have I':=zbH I B (ys:=J.map V.int) ac F.ns ag U Y (zkD hi) (by grind) s.toks;exact⟨.ref D,_,I',rfl,(q J hp hs).at U⟩⟩
end
end L2
namespace L3
open L2
abbrev zsP:=Addr×Addr×List Int
abbrev imm:HO->Bool
 | .lst _=>false
 | .dK _=>false
 | .dT _=>false
 | .ext _=>false
 | _=>true
def Mt (o:HO):Prop:=imm o=false
def Mt.tup(h:Mt o):∀xs,o≠.tup xs:=λ_ e=>by subst e;cases h
def NP (o:HO):Prop:=∀kvs,pnK o=some kvs->xq kvs (Sum.inr "at" : Key)=none
def NP.lst:NP (.lst xs):=λ_ e=>by cases e
structure Jv where
 K:(AL)->Hp->Prop
 same:∀ {A:AL} {H H':Hp},K A H->yL H H'->K A H'
 grow:∀ {A A':AL} {H:Hp},K A' H->(∀a,A a->A' a\/∃o,H a=some o/\NP o/\Mt o)->K A H
 upd:∀ {A:AL} {H:Hp} {p:Addr} {o:HO},K A H->A p->K A (L2.upd H p o)
 frz:∀ {A:AL} {H:Hp} {p:Addr} {o o':HO},K A H->H p=some o->NP o->Mt o->K A (L2.upd H p o')
structure PN where
 pn:Option zsP
 J:Jv
def J0:Jv:=⟨λ_ _=>True,λ_ _=>trivial,λ_ _=>trivial,λ_ _=>trivial,λ_ _ _ _=>trivial⟩
inductive W where
 | d (x:Dt) | pen (p:Addr) | dk (kvs:List (Key×Dt)) | dt (kvs:List (AG×Dt)) | ss (P:Aa) (w:Ab) (ks:AF) | df (kvs:List (AG×Dt)) | kf (kvs:List (Key×Dt)) | fl (l:AS) | ad (a:Addr) (x:Dt) | tz (kvs:List (AG×Dt)) (x:Dt)
abbrev AV:=W->Nat->Prop
abbrev AU:=List W
abbrev Mo (α:Type):=Nat->(α->Nat->Prop)->Prop
abbrev Ev:=List (Option W)
abbrev AD:=Ev->Mo W
abbrev AC:=Ev->Mo AU
open Classical in
noncomputable def zV (A:AL)(H:Hp):Hp:=λb=>if A b then none else H b
section
variable {A A0:AL}{H H' G G' T T':Hp}{a b:Addr}{o:HO}
def zA:zV A H b=some o↔¬ A b/\H b=some o:=by
 unfold zV;grind
def zm (h:¬ A b)(e:H b=some o):zV A H b=some o:=zA.mpr ⟨h,e⟩
def zl:yL (zV A H) H:=λb o e=>(zA.mp e).2
def yq (s:zq H H'):zq (zV A H) (zV A H'):=λb o e n=>zm (zA.mp e).1 (s b o (zA.mp e).2 n)
def ug (s:yL H H'):yL (zV A H) (zV A H'):=λb o e=>zm (zA.mp e).1 (s b o (zA.mp e).2)
def yU (h:∀b,A0 b->A b):yL (zV A H) (zV A0 H):=λb o e=>zm (λz=>(zA.mp e).1 (h b z)) (zA.mp e).2
def yd (h:A a):zV A (upd H a o)=zV A H:=by
 funext b;unfold zV;by_cases q:A b;simp[q];have:b≠a:=λe=>q (e ▸ h);simp[q,ze this]
end
def DAt (T G:Hp):Dt->V->Prop
 | .lst l,v=>∃a xs,v = .ref a/\T a=some (.lst xs)/\IsL G l xs
 | .dct,v=>∃a kvs,v = .ref a/\T a=some (.dK kvs)/\xq kvs (Sum.inr "at" : Key)=none
 | .non,v=>Is G .non v
 | .bl b,v=>Is G (.bl b) v
 | .int i,v=>Is G (.int i) v
 | .str x,v=>Is G (.str x) v
 | .tup l,v=>Is G (.tup l) v
def DAt.is(h:DAt G G x v):Is G x v:=by cases x <;> exact h
def DAt.of(h:Is G x v):DAt G G x v:=by cases x <;> exact h
def DAt.up(t:zq T T')(g:zq G G')(h:DAt T G x v):DAt T' G' x v:=by
 cases x with
 | lst l=>obtain⟨a,xs,e,h1,h2⟩:=h;exact⟨a,xs,e,t.lst h1,h2.stay g⟩
 | dct=>obtain⟨a,kvs,e,h1,h2⟩:=h;exact⟨a,kvs,e,t _ _ h1 λk q=>by cases q;exact h2,h2⟩
 | _=>exact Is.stay g h
def DAt.full(t:yL T H)(g:yL G H)(h:DAt T G x v):Is H x v:=(DAt.up (zq.same t) (zq.same g) h).is
def x9 {κ:Type}(G:Hp):List (κ×Dt)->List (κ×V)->Prop
 | [],ks=>ks=[]
 | q::r,ks=>∃v s,ks=(q.1,v)::s/\Is G q.2 v/\x9 G r s
def x9.stay {κ:Type}{G G':Hp}(s:zq G G'):∀ {kvs:List (κ×Dt)} {ks:List (κ×V)},x9 G kvs ks->x9 G' kvs ks
 | [],_,h=>h
 | q::r,ks,⟨v,t,e,h1,h2⟩=>⟨v,t,e,h1.stay s,x9.stay s h2⟩
def SIs (G:Hp)(ks:AF)(xs:AE):Prop:=ks=xs.map (·.1)/\(∀q∈xs,G q.2=some (.tup (q.1.map V.int)))/\ks.Nodup
def SIs.stay{ks:AF}{xs:AE}(h:SIs G ks xs)(s:zq G G'):SIs G' ks xs:=⟨h.1,λq B=>s _ _ (h.2.1 q B) (λ_ e=>by cases e),h.2.2⟩
noncomputable def zoc (a:Addr)(H:Hp):Hp:=zV (λb=>b≠a/\∃xs,H b=some (.lst xs)) H
def zcS(s:zq H H'):zq (zoc a H) (zoc a H'):=λb o e n=>by obtain⟨h1,h2⟩:=zA.mp e;have q:=s b o h2 n;show zm (λz=>h1 ⟨z.1,?_⟩) q;obtain⟨xs,B⟩:=z.2;rw[q] at B;cases B;exact⟨_,h2⟩
def WAt (T G:Hp):W->V->Prop
 | .d x,v=>DAt T G x v
 | .pen p,v=>v = .ref p
 | .dk kvs,v=>∃a ks,v = .ref a/\T a=some (.dK ks)/\x9 G kvs ks/\xq ks (Sum.inr "at" : Key)=none
 | .dt kvs,v=>∃a ks,v = .ref a/\T a=some (dtO ks)/\x9 G kvs ks
 | .ss P w ks,v=>∃a xs,v = .ref a/\T a=some (zhQ P w a (um xs))/\SIs G ks xs
 | .df kvs,v=>∃a ob ks,v = .ref a/\T a=some (.frz ob (dtO ks))/\x9 G kvs ks
 | .kf kvs,v=>∃a ob ks,v = .ref a/\T a=some (.frz ob (.dK ks))/\x9 G kvs ks
 | .fl l,v=>∃a ob xs,v = .ref a/\T a=some (.frz ob (.lst xs))/\IsL G l xs
 | .ad a x,v=>(∃b,v = .ref b)/\Is (zoc a G) x v
 | .tz kvs x,v=>∃a b ob ks y,v = .ref a/\G a=some (.tup [.ref b,y])/\G b=some (.frz ob (dtO ks))/\x9 G kvs ks/\Is G x y
def WAt.up(t:zq T T')(g:zq G G')(h:WAt T G w v):WAt T' G' w v:=by
 cases w with
 | d x=>exact DAt.up t g h
 | pen p=>exact h
 | dk kvs=>
  obtain⟨a,ks,e,h1,h2,B⟩:=h;exact⟨a,ks,e,t _ _ h1 λk q=>by cases q;exact B,h2.stay g,B⟩
 | dt kvs=>
  obtain⟨a,ks,e,h1,h2⟩:=h;exact⟨a,ks,e,t _ _ h1 (λk q=>by cases q),h2.stay g⟩
 | ss P w kvs=>
  obtain⟨a,ks,e,h1,h2⟩:=h;exact⟨a,ks,e,t _ _ h1 zgC,h2.stay g⟩
 | df kvs=>
  obtain⟨a,ob,ks,e,h1,h2⟩:=h;exact⟨a,ob,ks,e,t _ _ h1 (λk q=>by cases q),h2.stay g⟩
 | kf kvs=>
  obtain⟨a,ob,ks,e,h1,h2⟩:=h;exact⟨a,ob,ks,e,t _ _ h1 (λk q=>by cases q),h2.stay g⟩
 | fl kvs=>
  obtain⟨a,ob,ks,e,h1,h2⟩:=h;exact⟨a,ob,ks,e,t _ _ h1 (λk q=>by cases q),h2.stay g⟩
 | ad a x=>exact⟨h.1,Is.stay (zcS g) h.2⟩
 | tz kvs x=>
  obtain⟨a,b,ob,ks,y,e,h1,h2,B,F⟩:=h;exact⟨a,b,ob,ks,y,e,g.tup h1,g _ _ h2 (λk q=>by cases q),B.stay g,F.stay g⟩
abbrev W.mut:W->Bool
 | .d (.lst _)=>true
 | .d .dct=>true
 | .dk _=>true
 | .dt _=>true
 | .ss _ _ _=>true
 | _=>false
abbrev Val (A:AL)(H:Hp)(w:W)(v:V):Prop:=WAt (zV A H) (zV A H) w v
abbrev Bor (A:AL)(H:Hp)(w:W)(v:V):Prop:=WAt H (zV A H) w v
def Val.bor(h:Val A H w v):Bor A H w v:=WAt.up (zq.same zl) (zq.refl _) h
def Val.stay(h:Val A H w v)(s:zq H H'):Val A H' w v:=WAt.up (yq s) (yq s) h
def Bor.stay(h:Bor A H w v)(s:zq H H'):Bor A H' w v:=WAt.up s (yq s) h
def Bor.is(h:Bor A H (.d x) v):Is H x v:=DAt.full (zeU _) zl h
def Val.is(h:Val A H (.d x) v):Is (zV A H) x v:=DAt.is h
def Val.of(h:Is (zV A H) x v):Val A H (.d x) v:=DAt.of h
mutual
def zmv {A:AL}{H:Hp}(hA:∀a xs,A a->H a≠some (.tup xs)):∀ {x:Dt} {v:V},x.noL=true->Is H x v->Is (zV A H) x v
 | .non,_,_,h=>h
 | .bl _,_,_,h=>h
 | .int _,_,_,h=>h
 | .str _,_,_,h=>h
 | .tup l,_,n,h=>by obtain⟨p,xs,e,hp,hl⟩:=h;exact⟨p,xs,e,zm (λz=>hA p xs z hp) hp,xP hA (by simpa [Dt.noL] using n) hl⟩
 | .lst l,_,n,_=>by simp[Dt.noL] at n
 | .dct,_,n,_=>by simp[Dt.noL] at n
def xP {A:AL}{H:Hp}(hA:∀a xs,A a->H a≠some (.tup xs)):∀ {ds:AS} {xs:AT},Dt.noLs ds=true->IsL H ds xs->IsL (zV A H) ds xs
 | [],_,_,h=>h
 | d::ds,xs,n,h=>by
  obtain⟨x,r,e,h1,h2⟩:=h;have n':(d.noL&&Dt.noLs ds)=true:=by simpa [Dt.noLs] using n
  rw[bC] at n';exact⟨x,r,e,zmv hA n'.1 h1,xP hA n'.2 h2⟩
end
def x6 (Pn:PN)(A:AL)(n:Nat)(H:Hp):Prop:=
 (match Pn.pn with
 | none=>True
 | some (p,c,ns)=>Pen H p c ns n/\(∀r,ns=0::r->¬ A c)/\¬ A p)/\Pn.J.K A H
def Own (A:AL)(H:Hp)(w:W)(v:V):Prop:=∃a,v = .ref a/\A a/\Bor A H w v/\w.mut=true
def Al (A:AL)(H:Hp):Prop:=∀a,A a->∃o,H a=some o/\NP o/\Mt o
structure EnvR (A:AL)(M:AR)(σ:St)(H:Hp)(ρ:Ev):Prop where
 len:σ.length=ρ.length
 val:∀i w,ρ[i]?=some (some w)->∃v,σ[i]?=some (some v)/\(i∉M->Val A H w v)/\(i∈M->Own A H w v)
 dis:∀i j w u a,i∈M->j∈M->i≠j->ρ[i]?=some (some w)->ρ[j]?=some (some u)->σ[i]?=some (some (.ref a))->σ[j]?≠some (some (.ref a))
 al:Al A H
def EnvR.stay(E:EnvR A M σ H ρ)(s:zq H H'):EnvR A M σ H' ρ where
 len:=E.len
 val:=λi w e=>by obtain⟨v,h1,h2,q⟩:=E.val i w e;show⟨v,h1,λz=>(h2 z).stay s,λz=>?_⟩;obtain⟨a,e,B,F,I⟩:=q z;exact⟨a,e,B,F.stay s,I⟩
 dis:=E.dis
 al:=λa h=>by obtain⟨o,h1,h2,q⟩:=E.al a h;exact⟨o,s _ _ h1 h2,h2,q⟩
def EnvR.new(E:EnvR A M σ H ρ)(h:H p=none):¬ A p:=λz=>by
 obtain⟨o,h1,_⟩:=E.al p z;grind
def Fr (H:Hp)(a:Addr):Prop:=∀o,H a=some o->¬ NP o
def Fr.of(h:H a=none):Fr H a:=λo e=>by rw[h] at e;cases e
def Fr.back(h:Fr H1 a)(s:zq H H1):Fr H a:=λo e n=>h o (s _ _ e n) n
def FrV (A:AL)(H H':Hp)(w:W)(v:V):Prop:=∃a,v = .ref a/\Fr H a/\WAt H' (zV (λb=>A b\/b=a) H') w v
def FrV.back(h:FrV A H1 H' w v)(s:zq H H1):FrV A H H' w v:=let ⟨a,e,f,g⟩:=h;⟨a,e,f.back s,g⟩
def FrV.less(h:FrV A H H' w v)(s:∀a,A0 a->A a):FrV A0 H H' w v:=let ⟨a,e,f,g⟩:=h;⟨a,e,f,WAt.up (zq.refl _) (zq.same (yU λb z=>z.elim (λz=>.inl (s b z)) .inr)) g⟩
def EnvR.newF(E:EnvR A M σ H ρ)(h:Fr H p):¬ A p:=λz=>by obtain⟨o,h1,h2,_⟩:=E.al p z;exact h o h1 h2
def xA(s:zq H H')(n:Fr H p):zq (zV A H) (zV (λb=>A b\/b=p) H'):=λb o e q=>by obtain⟨h1,h2⟩:=zA.mp e;exact zm (λz=>z.elim h1 λz=>by subst z;exact n o h2 q) (s b o h2 q)
structure Go (Pn:PN)(A:AL)(H:Hp)(n:Nat)(H':Hp):Prop where
 st:zq H H'
 pn:x6 Pn A n H'
def Go.trans(a:Go Pn A H n H1)(b:Go Pn A H1 m H2):Go Pn A H m H2:=⟨a.st.trans b.st,b.pn⟩
structure RE (Pn:PN)(M:AR)(fr:Bool)(te:TE)(f:AD):Prop where
 run:∀A σ H ρ n Q R,EnvR A M σ H ρ->x6 Pn A n H->f ρ n R->(∀w m v H',R w m->Val A H' w v->Go Pn A H m H'->(fr=true->FrV A H H' w v)->Q v H')->te σ H Q
structure RB (Pn:PN)(M:AR)(te:TE)(f:AD):Prop where
 run:∀A σ H ρ n Q R,EnvR A M σ H ρ->x6 Pn A n H->f ρ n R->(∀w m v H',R w m->Bor A H' w v->Go Pn A H m H'->Q v H')->te σ H Q
structure RT (Pn:PN)(M:AR)(te:TT)(f:Ev->Mo Bool):Prop where
 run:∀A σ H ρ n Q R,EnvR A M σ H ρ->x6 Pn A n H->f ρ n R->(∀b m H',R b m->Go Pn A H m H'->Q b H')->te σ H Q
def zpH (A:AL)(H:Hp):AU->AT->Prop
 | [],vs=>vs=[]
 | w::q,vs=>∃v r,vs=v::r/\Bor A H w v/\zpH A H q r
def zai (A:AL)(H:Hp):AU->AT->Prop
 | [],vs=>vs=[]
 | w::q,vs=>∃v r,vs=v::r/\Val A H w v/\zai A H q r
def zai.bor:∀ {q:AU} {vs:AT},zai A H q vs->zpH A H q vs
 | [],_,h=>h
 | _::_,_,⟨v,r,e,h1,h2⟩=>⟨v,r,e,h1.bor,zai.bor h2⟩
structure RA (Pn:PN)(M:AR)(ta:TA)(f:AC):Prop where
 run:∀A σ H ρ n Q R,EnvR A M σ H ρ->x6 Pn A n H->f ρ n R->(∀ws m vs H',R ws m->zai A H' ws vs->Go Pn A H m H'->Q vs H')->ta σ H Q
structure RAB (Pn:PN)(M:AR)(ta:TA)(f:AC):Prop where
 run:∀A σ H ρ n Q R,EnvR A M σ H ρ->x6 Pn A n H->f ρ n R->(∀ws m vs H',R ws m->zpH A H' ws vs->Go Pn A H m H'->Q vs H')->ta σ H Q
structure Kt where
 nx:Ev->Nat->Prop
 rt:AV
 bk:Ev->Nat->Prop:=λ_ _=>False
 ct:Ev->Nat->Prop:=λ_ _=>False
abbrev Ms:=Ev->Nat->Kt->Prop
def StX (q:AL)(H0 H:Hp):Prop:=∀b o,H0 b=some o->NP o->¬ q b->H b=some o
def StX.of(s:zq H0 H):StX q H0 H:=λb o e n _=>s b o e n
def StX.stay(s:StX (λ_=>False) H0 H):zq H0 H:=λb o e n=>s b o e n λz=>z
structure Frm (A0:AL)(H0:Hp)(ca:AL)(A:AL)(H:Hp):Prop where
 sub:∀a,A0 a->A a
 new:∀a,A a->A0 a\/Fr H0 a\/ca a
 st:StX ca H0 H
 al:Al A0 H0
 cn:∀a,ca a->¬ A0 a
 cs:∀a,ca a->∃o,H a=some o/\NP o
def Frm.back(f:Frm A0 H0 B A H)(h:Fr H a)(n:¬ A a):Fr H0 a:=λo e q=>h o (f.st a o e q λz=>let ⟨o2,e2,n2⟩:=f.cs a z;h o2 e2 n2) q
structure Bs where
 ca:AL:=λ_=>False
 A0:AL
 H0:Hp
 G0:Hp
 σ0:St
def NoL (G:Hp):Prop:=∀a xs,G a≠some (.lst xs)
structure At3 (Pn:PN)(B:Bs)(S M:AR)(A:AL)(σ:St)(H:Hp)(ρ:Ev)(n:Nat):Prop where
 env:EnvR A M σ H ρ
 frm:Frm B.A0 B.H0 B.ca A H
 pn:x6 Pn A n H
 prot:zq B.G0 (zV A H)
 fix:(∀i∈S,σ[i]?=B.σ0[i]?)/\(9999∈S->NoL B.G0/\NoL B.H0)
 mine:∀i w a,i∈M->ρ[i]?=some (some w)->σ[i]?=some (some (.ref a))->Fr B.H0 a\/B.ca a
structure KOk (Pn:PN)(B:Bs)(S M:AR)(fr:Bool)(k:Kt)(D:Ends):Prop where
 nx:∀A σ H ρ n,At3 Pn B S M A σ H ρ n->k.nx ρ n->D.nx σ H
 bk:∀A σ H ρ n,At3 Pn B S M A σ H ρ n->k.bk ρ n->D.bk σ H
 ct:∀A σ H ρ n,At3 Pn B S M A σ H ρ n->k.ct ρ n->D.ct σ H
 fc:∀a,¬ B.ca a
 rt:∀w n v H,Val B.A0 H w v->StX B.ca B.H0 H->x6 Pn B.A0 n H->(fr=true->FrV B.A0 B.H0 H w v)->k.rt w n->D.rt v H
structure RS (Pn:PN)(S M:AR)(fr:Bool)(ts:TS)(fs:Ms):Prop where
 run:∀B A σ H ρ n k D,At3 Pn B S M A σ H ρ n->KOk Pn B S M fr k D->fs ρ n k->ts D σ H
structure RG (S M:AR)(g:TG)(mg:W->Ev->(Ev->Prop)->Prop):Prop where
 run:∀A σ H ρ v w Q R,EnvR A M σ H ρ->Val A H w v->mg w ρ R->(∀ σ' ρ',R ρ'->EnvR A M σ' H ρ'->(∀i∈S,σ'[i]?=σ[i]?/\ρ'[i]?=ρ[i]?)->Q σ' H)->g v σ H Q
structure RGs (S M:AR)(g:TGs)(mg:AS->Ev->(Ev->Prop)->Prop):Prop where
 run:∀A σ H ρ vs ds Q R,EnvR A M σ H ρ->IsL (zV A H) ds vs->mg ds ρ R->(∀ σ' ρ',R ρ'->EnvR A M σ' H ρ'->(∀i∈S,σ'[i]?=σ[i]?/\ρ'[i]?=ρ[i]?)->Q σ' H)->g vs σ H Q
structure ItV (ow:Bool)(A:AL)(H:Hp)(J:It)(l:AU):Prop where
 one:∀i w A2 H2,l[i]?=some w->zq (zV A H) (zV A2 H2)->(ow=true->zq H H2)->(∀p,H2 p=none->¬ A2 p)->J.go i H2/\∀x H3,J.yld i H2 x H3->yL H2 H3/\Val A2 H3 w x
 stop:∀A2 H2,zq (zV A H) (zV A2 H2)->(ow=true->zq H H2)->J.stop l.length H2
structure RI (Pn:PN)(M:AR)(ow:Bool)(wi:TI)(f:AC):Prop where
 run:∀A σ H ρ n Q R,EnvR A M σ H ρ->x6 Pn A n H->f ρ n R->(∀l m J H',R l m->ItV ow A H' J l->Go Pn A H m H'->Q J H')->wi σ H Q
def RE.rb(h:RE Pn M fr te f):RB Pn M te f:=
 ⟨λA σ H ρ n Q R E P q k=>h.run A σ H ρ n Q R E P q λw m v H' r a g _=>k w m v H' r a.bor g⟩
def RA.rab(h:RA Pn M te f):RAB Pn M te f:=
 ⟨λA σ H ρ n Q R E P q k=>h.run A σ H ρ n Q R E P q λw m v H' r a g=>k w m v H' r a.bor g⟩
def x6.same(h:x6 Pn A n H)(s:yL H H'):x6 Pn A n H':=by
 show⟨?_,Pn.J.same h.2 s⟩;have h:=h.1;split at h;trivial;exact⟨h.1.same s,h.2⟩
def Go.same(h:x6 Pn A n H)(s:yL H H'):Go Pn A H n H':=⟨zq.same s,h.same s⟩
def Go.refl(h:x6 Pn A n H):Go Pn A H n H:=⟨zq.refl _,h⟩
structure JE (X:Cx)(Pn:PN)(M:AR)(fr:Bool)(e:Expr)(f:AD):Prop where
 ex:∃te,QE X e te/\RE Pn M fr te f
structure JB (X:Cx)(Pn:PN)(M:AR)(e:Expr)(f:AD):Prop where
 ex:∃te,QE X e te/\RB Pn M te f
structure JT (X:Cx)(Pn:PN)(M:AR)(e:Expr)(f:Ev->Mo Bool):Prop where
 ex:∃te,QT X e te/\RT Pn M te f
structure JW (X:Cx)(Pn:PN)(M:AR)(e:Expr)(f:Ev->Mo Bool):Prop where
 ex:∃te,QW X e te/\RT Pn M te f
structure JA (X:Cx)(Pn:PN)(M:AR)(es:AO)(f:AC):Prop where
 ex:∃te,QA X es te/\RA Pn M te f
structure JAB (X:Cx)(Pn:PN)(M:AR)(es:AO)(f:AC):Prop where
 ex:∃te,QA X es te/\RAB Pn M te f
structure JO (X:Cx)(Pn:PN)(M:AR)(e:Option Expr)(f:Ev->Mo AQ):Prop where
 ex:∃t,QO X e t/\∀A σ H ρ n Q R,EnvR A M σ H ρ->x6 Pn A n H->f ρ n R->(∀o m H',R o m->Go Pn A H m H'->Q o H')->t σ H Q
section
variable {X:Cx}{Pn:PN}{M:AR}{fr:Bool}{e a b c:Expr}{es:AO}{f fa fb fc:AD}{pos p:Pos}
def zqE (i:Nat):AD:=λρ n Q=>∃w,ρ[i]?=some (some w)/\Q w n
abbrev mC (w:W):AD:=λ_ n Q=>Q w n
abbrev zmD (F:W->W->Mo W) (fa fb:AD):AD:=λρ n Q=>fa ρ n λx q=>fb ρ q λy B=>F x y B Q
abbrev mUn (F:W->Mo W) (fa:AD):AD:=λρ n Q=>fa ρ n λx q=>F x q Q
def zn7 (fa:AD):Ev->Mo Bool:=λρ n Q=>fa ρ n λx q=>∃c,x = .d (.bl c)/\Q c q
def zsz (t u:Ev->Mo Bool):Ev->Mo Bool:=λρ n Q=>t ρ n λc q=>if c=true then u ρ q Q else Q false q
def mOr (t u:Ev->Mo Bool):Ev->Mo Bool:=λρ n Q=>t ρ n λc q=>if c=true then Q true q else u ρ q Q
def ztH (t:Ev->Mo Bool):Ev->Mo Bool:=λρ n Q=>t ρ n λc q=>Q (!c) q
abbrev mNil:AC:=λ_ n Q=>Q [] n
abbrev zqC (fa:AD) (fr:AC):AC:=λρ n Q=>fa ρ n λx q=>fr ρ q λxs B=>Q (x::xs) B
abbrev zty (F:AU->Mo W) (fa:AC):AD:=λρ n Q=>fa ρ n λxs q=>F xs q Q
def JE.bo (h:JE X Pn M fr e f):JB X Pn M e f:=let ⟨te,h1,h2⟩:=h.ex;⟨te,h1,h2.rb⟩
def JA.bo {f:AC}(h:JA X Pn M es f):JAB X Pn M es f:=let ⟨te,h1,h2⟩:=h.ex;⟨te,h1,h2.rab⟩
def zrD(hi:i∉M):RE Pn M false (zaL i) (zqE i):=⟨λA σ H ρ n Q R E P q k=>by obtain⟨w,e,r⟩:=q;obtain⟨v,h1,h2,_⟩:=E.val i w e;exact⟨v,h1,k w n v H r (h2 hi) (Go.refl P) λz=>by cases z⟩⟩
def zrx:RB Pn M (zaL i) (zqE i):=⟨λA σ H ρ n Q R E P q k=>by
 obtain⟨w,e,r⟩:=q;obtain⟨v,h1,h2,B⟩:=E.val i w e;show⟨v,h1,k w n v H r ?_ (Go.refl P)⟩;by_cases hi:i∈M;obtain⟨a,_,_,h,_⟩:=B hi;exact h;exact (h2 hi).bor⟩
def ztr (i:Nat){x:Str}(hi:i∉M:=by ext)(B:X.N[i]?=some x:=by rfl)(F:Vis X.env.scope x:=by walk_at "v")(I:Ah x:=by ext)
  (q:(x==("__classdict__" : Str))=false:=by ext):JE X Pn M false (.Name x pos) (zqE i):=⟨_,qv i B F I q,zrD hi⟩
def ztm(i:Nat)(B:X.N[i]?=some x:=by rfl)(F:Vis X.env.scope x:=by walk_at "v")(I:Ah x:=by ext)(q:(x==("__classdict__" : Str))=false:=by ext):JB X Pn M (.Name x pos) (zqE i):=⟨_,qv i B F I q,zrx⟩
def zue(h:∀G,Is G x v):RE Pn M false (tC v) (mC (.d x)):=⟨λA σ H ρ n Q R E P q k=>k _ n v H q (Val.of (h _)) (Go.refl P) λz=>by cases z⟩
def zj{i:Int}:JE X Pn M false (.Constant (.int i) j pos) (mC (.d (.int i))):=⟨_,yo,zue λ_=>rfl⟩
def zlc:JE X Pn M false (.Constant (.bool k) j pos) (mC (.d (.bl k))):=⟨_,zoI,zue λ_=>rfl⟩
def ziQ:JE X Pn M false (.Constant .none j pos) (mC (.d .non)):=⟨_,zrr,zue λ_=>rfl⟩
def Al.new {A:AL}{H:Hp}(h:Al A H){p:Addr}(e:H p=none):¬ A p:=λz=>by
 obtain⟨o,h1,_⟩:=h p z;grind
def Al.stay(h:Al A H)(s:zq H H'):Al A H':=λa z=>by obtain⟨o,h1,h2,q⟩:=h a z;exact⟨o,s _ _ h1 h2,h2,q⟩
def Al.noT(h:Al A H):∀a xs,A a->H a≠some (.tup xs):=λa xs z e=>by
 obtain⟨o,h1,_,q⟩:=h a z;have:=q.tup;grind
def Al.noT' {A:AL}{H H':Hp}(h:Al A H)(s:zq H H'){p:Addr}{xs:AT}(e:H' p=some (.tup xs)):¬ A p:=λz=>(h.stay s).noT p xs z e
structure F2 (Pn:PN)(fr:Bool)(r:R2)(F:W->W->Mo W):Prop where
 run:∀A H x y wx wy n Q R,Al A H->Bor A H wx x->Bor A H wy y->x6 Pn A n H->F wx wy n R->(∀w m v H',R w m->Val A H' w v->Go Pn A H m H'->(fr=true->FrV A H H' w v)->Q v H')->r x y H Q
structure FL (Pn:PN)(fr:Bool)(r:AT->Hp->VK->Prop)(F:AU->Mo W):Prop where
 run:∀A H xs ws n Q R,Al A H->zpH A H ws xs->x6 Pn A n H->F ws n R->(∀w m v H',R w m->Val A H' w v->Go Pn A H m H'->(fr=true->FrV A H H' w v)->Q v H')->r xs H Q
def zlT(B:F2 Pn fr r F)(I:RB Pn M ta fa)(J:RB Pn M tb fb):RE Pn M fr (tOp r ta tb) (zmD F fa fb):=⟨λA σ H ρ n Q R E P O k=>by show I.run A σ H ρ n _ _ E P O λx U Y H1 Z b1 q=>?_;show J.run A σ H1 ρ U _ _ (E.stay q.st) q.pn Z λy n2 v2 H2 r2 b2 g2=>?_;have g:=q.trans g2;exact B.run A H2 Y v2 x y n2 _ _ (E.stay g.st).al (b1.stay g2.st) b2 g2.pn r2 λw m v H' h1 h2 h3 h4=>k w m v H' h1 h2 (g.trans h3) λz=>(h4 z).back g.st⟩
def zry {r:AT->Hp->VK->Prop}{F:AU->Mo W}{ta:TA}{fa:AC}(B:FL Pn fr r F)(I:RAB Pn M ta fa):RE Pn M fr (tCB r ta) (zty F fa):=⟨λA σ H ρ n Q R E P J k=>by show I.run A σ H ρ n _ _ E P J λx O U H1 Y Z q=>?_;exact B.run A H1 U x O _ _ (E.stay q.st).al Z q.pn Y λw m v H' h1 h2 h3 h4=>k w m v H' h1 h2 (q.trans h3) λz=>(h4 z).back q.st⟩
def zag(B:OpQ X (binaryOp q) r)(I:F2 Pn fr r F)(J:JB X Pn M a fa)(O:JB X Pn M b fb):JE X Pn M fr (.BinOp a q b pos) (zmD F fa fb):=by obtain⟨ta,U,ra⟩:=J.ex;obtain⟨tb,Y,rb⟩:=O.ex;exact⟨_,yx B U Y,zlT I ra rb⟩
def ztn(B:OpQ X (compareOp q) r)(I:F2 Pn fr r F)(J:JB X Pn M a fa)(O:JB X Pn M b fb)(U:behindInMarks q b=false):JE X Pn M fr (.Compare a [q] [b] pos) (zmD F fa fb):=by obtain⟨ta,Y,ra⟩:=J.ex;obtain⟨tb,Z,rb⟩:=O.ex;exact⟨_,zoK B Y Z U,zlT I ra rb⟩
def zmX(h:RB Pn M ta fa):RT Pn M (zpq ta) (zn7 fa):=⟨λA σ H ρ n Q R E P B k=>by show h.run A σ H ρ n _ _ E P B  ?_;rintro x F I H1 ⟨c,e,r⟩ J O;subst e;have q:I = .bl c:=J;exact⟨c,q,k c F H1 r O⟩⟩
def zJ(B:OpQ X (compareOp q) r)(I:F2 Pn fr r F)(J:JB X Pn M a fa)(O:JB X Pn M b fb)(U:behindInMarks q b=false):JT X Pn M (.Compare a [q] [b] pos) (zn7 (zmD F fa fb)):=by obtain⟨ta,Y,ra⟩:=J.ex;obtain⟨tb,Z,rb⟩:=O.ex;exact⟨_,uC B Y Z U,zmX (zlT I ra rb).rb⟩
def zcI (h:JB X Pn M e f)(he:∀whole,isTrue e X.env whole=(do let v <- whole;standAt e.pos;holding [v] (truthy v)):=by intro _;rfl):JT X Pn M e (zn7 f):=by obtain⟨ta,qa,ra⟩:=h.ex;exact⟨_,zmT qa he,zmX ra⟩
def zez(h:JT X Pn M a t):JT X Pn M (.UnaryOp .Not a pos) (ztH t):=by obtain⟨ta,q,ra⟩:=h.ex;exact⟨_,zrt q,⟨λA σ H ρ n Q R E P B k=>ra.run A σ H ρ n _ _ E P B λb m H' r g=>k _ m H' r g⟩⟩
def zan(B:q = .And\/q = .Or)(h:JT X Pn M a t):JW X Pn M (.BoolOp q [a] pos) t:=by
 obtain⟨ta,F,ra⟩:=h.ex;rcases B with rfl | rfl;exact⟨_,zfL F,ra⟩;exact⟨_,zru F,ra⟩
def zrM(h:RT Pn M t q)(h':RT Pn M u B):RT Pn M (zui t u) (zsz q B):=⟨λA σ H ρ n Q R E P F k=>by
 show h.run A σ H ρ n _ _ E P F λc m H1 r g=>?_
 cases c with
 | true=>exact h'.run A σ H1 ρ m _ _ (E.stay g.st) g.pn (by simpa using r) λb I H' J g'=>k b I H' J (g.trans g')
 | false=>exact k false m H1 (by simpa using r) g⟩
def zug(h:RT Pn M t q)(h':RT Pn M u B):RT Pn M (tOr t u) (mOr q B):=⟨λA σ H ρ n Q R E P F k=>by
 show h.run A σ H ρ n _ _ E P F λc m H1 r g=>?_
 cases c with
 | false=>exact h'.run A σ H1 ρ m _ _ (E.stay g.st) g.pn (by simpa using r) λb I H' J g'=>k b I H' J (g.trans g')
 | true=>exact k true m H1 (by simpa using r) g⟩
def zcJ {zC:AO}{t u:Ev->Mo Bool}(h:JT X Pn M a t)(h':JW X Pn M (.BoolOp .And (b::zC) pos) u):JW X Pn M (.BoolOp .And (a::b::zC) pos) (zsz t u):=by obtain⟨ta,q,ra⟩:=h.ex;obtain⟨tb,B,rb⟩:=h'.ex;exact⟨_,zgQ q B,zrM ra rb⟩
def znR {zC:AO}{t u:Ev->Mo Bool}(h:JT X Pn M a t)(h':JW X Pn M (.BoolOp .Or (b::zC) pos) u):JW X Pn M (.BoolOp .Or (a::b::zC) pos) (mOr t u):=by obtain⟨ta,q,ra⟩:=h.ex;obtain⟨tb,B,rb⟩:=h'.ex;exact⟨_,zua q B,zug ra rb⟩
def JW.t {t:Ev->Mo Bool}(h:JW X Pn M e t):JT X Pn M e t:=let ⟨te,h1,h2⟩:=h.ex;⟨te,h1.pt,h2⟩
abbrev isNon:W->Bool
 | .d .non=>true
 | _=>false
def Bor.isNon(h:Bor A H w v):decide (v = .non)=isNon w:=by
 cases w with
 | d x=>
  cases x with
  | non=>have:v = .non:=h;subst this;rfl
  | bl c=>have:v = .bl c:=h;subst this;rfl
  | int c=>have:v = .int c:=h;subst this;rfl
  | str c=>have:v = .str c:=h;subst this;rfl
  | tup l=>obtain⟨a,_,rfl,_⟩:=h;rfl
  | lst l=>obtain⟨a,_,rfl,_⟩:=h;rfl
  | dct=>obtain⟨a,_,rfl,_⟩:=h;rfl
 | pen p=>have:v = .ref p:=h;subst this;rfl
 | dk k=>obtain⟨a,_,rfl,_⟩:=h;rfl
 | dt k=>obtain⟨a,_,rfl,_⟩:=h;rfl
 | ss P w k=>obtain⟨a,_,rfl,_⟩:=h;rfl
 | df k=>obtain⟨a,_,_,rfl,_⟩:=h;rfl
 | kf k=>obtain⟨a,_,_,rfl,_⟩:=h;rfl
 | fl k=>obtain⟨a,_,_,rfl,_⟩:=h;rfl
 | ad a x=>obtain⟨⟨b,rfl⟩,_⟩:=h;rfl
 | tz k x=>obtain⟨a,_,_,_,_,rfl,_⟩:=h;rfl
abbrev mIsN (fa:AD):AD:=λρ n Q=>fa ρ n λx q=>Q (.d (.bl (isNon x))) q
abbrev mNotN (fa:AD):AD:=λρ n Q=>fa ρ n λx q=>Q (.d (.bl (!isNon x))) q
def zrC(h:RB Pn M ta fa):RE Pn M false (zun ta) (mIsN fa):=⟨λA σ H ρ n Q R E P q k=>by show h.run A σ H ρ n _ _ E P q λx m v H1 r B g=>?_;exact k _ m _ H1 r (Val.of (by rw[B.isNon];rfl)) g λz=>by cases z⟩
def zrN(h:RB Pn M ta fa):RT Pn M (tB ta) (zn7 fa):=⟨λA σ H ρ n Q R E P B k=>by show h.run A σ H ρ n _ _ E P B  ?_;rintro x F I H1 ⟨c,e,r⟩ J O;subst e;have q:I = .bl c:=J;exact⟨c,q,k c F H1 r O⟩⟩
def zqv(h:JB X Pn M a fa):JT X Pn M (.Compare a [.Is] [.Constant .none j pos'] pos) (zn7 (mIsN fa)):=by obtain⟨ta,q,ra⟩:=h.ex;exact⟨_,zjS (zmP q),zrN (zrC ra).rb⟩
def zf:JA X Pn M [] mNil:=⟨_,yw,⟨λA σ H ρ n Q R E P q k=>k [] n [] H q rfl (Go.refl P)⟩⟩
def za(B:JE X Pn M fr e f)(F:JA X Pn M es fs)(hs:starEach (e::es) X.env=(false,eval e X.env)::starEach es X.env:=by rfl):JA X Pn M (e::es) (zqC f fs):=by obtain⟨ta,I,ra⟩:=B.ex;obtain⟨tb,J,rb⟩:=F.ex;show⟨_,zz I J hs,⟨λA σ H ρ n Q R E P O k=>?_⟩⟩;show ra.run A σ H ρ n _ _ E P O λx U Y H1 Z b1 q _=>?_;exact rb.run A σ H1 ρ U _ _ (E.stay q.st) q.pn Z λxs n2 vs H2 r2 b2 g2=>k _ n2 _ H2 r2 ⟨Y,vs,rfl,b1.stay g2.st,b2⟩ (q.trans g2)
def zk:JAB X Pn M [] mNil:=zf.bo
def zh(B:JB X Pn M e f)(F:JAB X Pn M es fs)(hs:starEach (e::es) X.env=(false,eval e X.env)::starEach es X.env:=by rfl):JAB X Pn M (e::es) (zqC f fs):=by obtain⟨ta,I,ra⟩:=B.ex;obtain⟨tb,J,rb⟩:=F.ex;show⟨_,zz I J hs,⟨λA σ H ρ n Q R E P O k=>?_⟩⟩;show ra.run A σ H ρ n _ _ E P O λx U Y H1 Z b1 q=>?_;exact rb.run A σ H1 ρ U _ _ (E.stay q.st) q.pn Z λxs n2 vs H2 r2 b2 g2=>k _ n2 _ H2 r2 ⟨Y,vs,rfl,b1.stay g2.st,b2⟩ (q.trans g2)
def lim:Nat:=500000
def zcM(h:n<=lim):n<=sizeLine:=aA h (by ext)
def zgw(h:n<=lim):n<sizeLine:=aX h (by ext)
def dts:AU->Option AS
 | []=>some []
 | .d x::r=>(dts r).map (x::·)
 | _::_=>none
def zai.dts:∀ {q:AU} {vs:AT} {l:AS},zai A H q vs->dts q=some l->IsL (zV A H) l vs
 | [],vs,l,h,e=>by cases e;exact h
 | .d x::q,vs,l,⟨v,r,B,h1,h2⟩,e=>by obtain⟨l',F,rfl⟩:=aI.mp e;exact⟨v,r,B,h1.is,zai.dts h2 F⟩
 | .pen _::_,_,_,_,e=>by cases e
 | .dk _::_,_,_,_,e=>by cases e
 | .dt _::_,_,_,_,e=>by cases e
 | .ss _ _ _::_,_,_,_,e=>by cases e
 | .df _::_,_,_,_,e=>by cases e
 | .kf _::_,_,_,_,e=>by cases e
 | .fl _::_,_,_,_,e=>by cases e
 | .ad _ _::_,_,_,_,e=>by cases e
 | .tz _ _::_,_,_,_,e=>by cases e
def zai.len:∀ {q:AU} {vs:AT},zai A H q vs->vs.length=q.length
 | [],_,h=>by cases h;rfl
 | _::q,vs,⟨v,r,e,_,h2⟩=>by rw[e,aM,aM,zai.len h2]
def zd2 {A:AL}{H H':Hp}{p:Addr}{xs:AT}{l:AS}(q:IsL (zV A H) l xs)(s:zq H H')(n:¬ A p)(g:H' p=some (.tup xs)):Val A H' (.d (.tup l)) (.ref p):=
 Val.of ⟨p,xs,rfl,zm n g,q.stay (yq s)⟩
def xY {A:AL}{H H':Hp}{p:Addr}{xs:AT}{l:AS}(q:IsL (zV A H) l xs)(s:zq H H')(n:¬ A p)(g:H' p=some (.lst xs)):Val A H' (.d (.lst l)) (.ref p):=
 Val.of ⟨p,xs,rfl,zm n g,q.stay (yq s)⟩
def xO {A:AL}{H H':Hp}{p:Addr}{xs:AT}{l:AS}(q:IsL (zV A H) l xs)(s:yL H H')(n:H p=none)(g:H' p=some (.lst xs)):FrV A H H' (.d (.lst l)) (.ref p):=
 ⟨p,rfl,.of n,p,xs,rfl,g,q.stay (xA (zq.same s) (.of n))⟩
abbrev zsG:Nat->AU->(AS->Prop)->Prop
 | _,[],P=>P []
 | k+1,.d x::r,P=>zsG k r λl=>P (x::l)
 | _,_,_=>False
def zdD:∀ {k:Nat} {l:AU} {P:AS->Prop},zsG k l P->∃ds,dts l=some ds/\P ds/\l.length<=k
 | 0,[],P,h=>⟨[],rfl,h,aK _⟩
 | k+1,[],P,h=>⟨[],rfl,h,aK _⟩
 | 0,.d x::r,P,h=>h.elim
 | k+1,.d x::r,P,h=>by obtain⟨ds,e,h2,q⟩:=zdD (k:=k) (l:=r) (P:=λl=>P (x::l)) h;exact⟨x::ds,by simp[dts,e],h2,dE q⟩
 | 0,.pen _::r,P,h=>h.elim
 | k+1,.pen _::r,P,h=>h.elim
 | 0,.dk _::r,P,h=>h.elim
 | k+1,.dk _::r,P,h=>h.elim
 | 0,.dt _::r,P,h=>h.elim
 | 0,.ss _ _ _::r,P,h=>h.elim
 | 0,.df _::r,P,h=>h.elim
 | 0,.kf _::r,P,h=>h.elim
 | 0,.fl _::r,P,h=>h.elim
 | 0,.ad _ _::r,P,h=>h.elim
 | 0,.tz _ _::r,P,h=>h.elim
 | k+1,.dt _::r,P,h=>h.elim
 | k+1,.ss _ _ _::r,P,h=>h.elim
 | k+1,.df _::r,P,h=>h.elim
 | k+1,.kf _::r,P,h=>h.elim
 | k+1,.fl _::r,P,h=>h.elim
 | k+1,.ad _ _::r,P,h=>h.elim
 | k+1,.tz _ _::r,P,h=>h.elim
abbrev ztN (fa:AC):AD:=λρ n Q=>fa ρ n λq m=>zsG 200 q λl=>Q (.d (.tup l)) m
def yC{x1}(h:JA X Pn M es fs):JE X Pn M false (.Tuple es x1 pos) (ztN fs):=by obtain⟨ta,q,ra⟩:=h.ex;show⟨_,zdK q,⟨λA σ H ρ n Q R E P B k=>?_⟩⟩;show ra.run A σ H ρ n _ _ E P B λU m vs H1 F b g=>?_;obtain⟨l,e,r,I⟩:=zdD F;show⟨zcM (by rw[b.len];exact aA I (by ext)),λp H2 J O S=>?_⟩;exact k _ m _ H2 r (zd2 (b.dts e) (zq.same S) ((E.stay g.st).new J) O) (g.trans (Go.same g.pn S)) λz=>by cases z
abbrev ztG (fa:AC):AD:=λρ n Q=>fa ρ n λq m=>zsG 200 q λl=>Q (.d (.lst l)) m
def uT(h:JA X Pn M es fs):JE X Pn M true (.List es pos) (ztG fs):=by obtain⟨ta,F,ra⟩:=h.ex;show⟨_,zoN F,⟨λA σ H ρ n Q R E P I k=>?_⟩⟩;show ra.run A σ H ρ n _ _ E P I λU m vs H1 J b g=>?_;obtain⟨l,e,r,O⟩:=zdD J;show⟨zcM (by rw[b.len];exact aA O (by ext)),λp H2 q B S=>?_⟩;exact k _ m _ H2 r (xY (b.dts e) (zq.same S) ((E.stay g.st).new q) B) (g.trans (Go.same g.pn S)) λ_=>(xO (b.dts e) S q B).back g.st
def z6 {id:String}{r:AT->Hp->VK->Prop}{F:AU->Mo W}{x:Str}{fs:AC}(I:CallQ X (.builtin id) r)(J:FL Pn fr r F)(O:Gl X x)(U:X.mg x=none)(Y:bootBuiltins x=some (.builtin id))(Z:JAB X Pn M (e::es) fs)(hn:x ≠ "__name__" := by ext)(q:Ah x:=by ext)
  (he:starEach (e::es) X.env=(false,eval e X.env)::starEach es X.env:=by rfl) (B:(backTo pos (starEach es X.env)).any (·.1)=false:=by rfl):JE X Pn M fr (.Call (.Name x p) (e::es) [] pos) (zty F fs):=by
 obtain⟨ta,qa,ra⟩:=Z.ex;exact⟨_,yP I O U Y qa hn q he B,zry J ra⟩
def ym(I:CallQ X (.type T) r)(J:FL Pn fr r F)(O:Gl X x)(U:X.mg x=none)(Y:bootBuiltins x=some (.type T))(Z:JAB X Pn M (e::es) fs)(hn:x ≠ "__name__" := by ext)(q:Ah x:=by ext)(he:starEach (e::es) X.env=(false,eval e X.env)::starEach es X.env:=by rfl)(B:(backTo pos (starEach es X.env)).any (·.1)=false:=by rfl):JE X Pn M fr (.Call (.Name x p) (e::es) [] pos) (zty F fs):=by
 obtain⟨ta,qa,ra⟩:=Z.ex;exact⟨_,zb2 I O U Y qa hn q he B,zry J ra⟩
end
section
variable {Pn:PN}{K:AH}{A:AL}{H:Hp}
def yB{i:Int}(h:Bor A H (.d (.int i)) v):v = .int i:=h
def zpU(h:Bor A H (.d (.bl i)) v):v = .bl i:=h
def uc(h:Bor A H (.d (.tup l)) v):∃a xs,v = .ref a/\H a=some (.tup xs)/\IsL (zV A H) l xs:=by obtain⟨a,xs,e,h1,h2⟩:=h;exact⟨a,xs,e,zl _ _ h1,h2⟩
def xl(h:Bor A H (.d (.lst l)) v):∃a xs,v = .ref a/\H a=some (.lst xs)/\IsL (zV A H) l xs:=h
def zhZ(h:Bor A H (.d (.lst l)) v\/Bor A H (.d (.tup l)) v):∃a xs,v = .ref a/\(SqL K H a xs\/SqT K H a xs)/\IsL (zV A H) l xs:=by
 rcases h with h | h;obtain⟨a,xs,e,h1,h2⟩:=xl h;exact⟨a,xs,e,.inl (.of h1),h2⟩;obtain⟨a,xs,e,h1,h2⟩:=uc h;exact⟨a,xs,e,.inr (.of h1),h2⟩
def fI (C:Int->Int->Prop)(g:Int->Int->Dt):W->W->Mo W:=λx y n Q=>∃i j,x = .d (.int i)/\y = .d (.int j)/\C i j/\Q (.d (g i j)) n
def fI0 (g:Int->Int->Dt):W->W->Mo W:=λx y n Q=>∃i j,x = .d (.int i)/\y = .d (.int j)/\Q (.d (g i j)) n
def ztb {C:Int->Int->Prop}{g:Int->Int->V}{g':Int->Int->Dt}(B:∀i j G,Is G (g' i j) (g i j)):F2 Pn false (rI C g) (fI C g'):=⟨by
 rintro A H x y O U n Q R Y F q P ⟨i,j,I,J,c,r⟩ k;subst I J;exact⟨i,j,yB F,yB q,c,k _ n _ H r (Val.of (B _ _ _)) (Go.refl P) λz=>by cases z⟩⟩
def zit {g:Int->Int->V}{g':Int->Int->Dt}(B:∀i j G,Is G (g' i j) (g i j)):F2 Pn false (rI0 g) (fI0 g'):=⟨by
 rintro A H x y O U n Q R Y F q P ⟨i,j,I,J,r⟩ k;subst I J;exact⟨i,j,yB F,yB q,k _ n _ H r (Val.of (B _ _ _)) (Go.refl P) λz=>by cases z⟩⟩
abbrev fAdd:=fI0 λi j=>.int (i+j)
abbrev fSub:=fI0 λi j=>.int (i - j)
abbrev fMul:=fI zmi λi j=>.int (i * j)
abbrev fDiv:=fI zpI λi j=>.int (i / j)
abbrev fMod:=fI (λ_ j=>0<j) λi j=>.int (i % j)
abbrev fLt:=fI0 λi j=>.bl (decide (i<j))
abbrev fLe:=fI0 λi j=>.bl (decide (i<=j))
abbrev fGt:=fI0 λi j=>.bl (decide (j<i))
def zus:F2 Pn false (rI0 λi j=>.int (i+j)) fAdd:=zit λ_ _ _=>rfl
def zuA:F2 Pn false (rI0 λi j=>.int (i - j)) fSub:=zit λ_ _ _=>rfl
def zuy:F2 Pn false (rI zmi λi j=>.int (i * j)) fMul:=ztb λ_ _ _=>rfl
def zsm:F2 Pn false (rI zpI λi j=>.int (i / j)) fDiv:=ztb λ_ _ _=>rfl
def zux:F2 Pn false (rI (λ_ j=>0<j) λi j=>.int (i % j)) fMod:=ztb λ_ _ _=>rfl
def v_lt:F2 Pn false (rI0 λi j=>.bl (decide (i<j))) fLt:=zit λ_ _ _=>rfl
def v_le:F2 Pn false (rI0 λi j=>.bl (decide (i<=j))) fLe:=zit λ_ _ _=>rfl
def v_gt:F2 Pn false (rI0 λi j=>.bl (decide (j<i))) fGt:=zit λ_ _ _=>rfl
abbrev sEq:Dt->Dt->Option Bool
 | .int i,.int j=>some (decide (i=j))
 | .bl i,.bl j=>some (decide (i=j))
 | .str i,.str j=>some (decide (i=j))
 | .non,.non=>some true
 | .non,.int _=>some false
 | .int _,.non=>some false
 | .non,.bl _=>some false
 | .bl _,.non=>some false
 | .non,.str _=>some false
 | .str _,.non=>some false
 | .int _,.str _=>some false
 | .str _,.int _=>some false
 | _,_=>none
def plain:Dt->Option V
 | .int i=>some (.int i)
 | .bl i=>some (.bl i)
 | .str i=>some (.str i)
 | .non=>some .non
 | _=>none
def zm0(h:sEq a b=some r):∃x y,plain a=some x/\plain b=some y/\zuh x y=true/\decide (x=y)=r:=by cases a <;> cases b <;> cases h <;> show⟨_,_,rfl,rfl,rfl,?_⟩ <;> first | rfl | exact aZ (by lia) | exact decide_eq_decide.mpr (by simp)
def zaj(h:Bor A H (.d a) v)(e:plain a=some x):v=x:=by cases a <;> cases e <;> exact h
def fEq:W->W->Mo W:=λx y n Q=>∃a b r,x = .d a/\y = .d b/\sEq a b=some r/\Q (.d (.bl r)) n
def fNe:W->W->Mo W:=λx y n Q=>∃a b r,x = .d a/\y = .d b/\sEq a b=some r/\Q (.d (.bl (!r))) n
def v_eq:F2 Pn false rEq fEq:=⟨by
 rintro A H x y J O n Q R U B q P ⟨a,b,r,F,I,e,h⟩ k;subst F I;obtain⟨Y,Z,p1,p2,s,d⟩:=zm0 e;obtain rfl:=zaj B p1;obtain rfl:=zaj q p2;exact⟨s,k _ n _ H h (Val.of (by rw[d];rfl)) (Go.refl P) λz=>by cases z⟩⟩
def v_ne:F2 Pn false rNe fNe:=⟨by
 rintro A H x y J O n Q R U B q P ⟨a,b,r,F,I,e,h⟩ k;subst F I;obtain⟨Y,Z,p1,p2,s,d⟩:=zm0 e;obtain rfl:=zaj B p1;obtain rfl:=zaj q p2;exact⟨s,k _ n _ H h (Val.of (by rw[d];rfl)) (Go.refl P) λz=>by cases z⟩⟩
def ztc:W->W->Mo W:=λx y n Q=>∃a b,x = .d a/\y = .d b/\a.eqOk/\b.eqOk/\∀r:Bool,(r=true↔a=b)->Q (.d (.bl r)) n
def ztg:W->W->Mo W:=λx y n Q=>∃a b,x = .d a/\y = .d b/\a.eqOk/\b.eqOk/\∀r:Bool,(r=true↔a=b)->Q (.d (.bl (!r))) n
def zut:F2 Pn false zsI ztc:=⟨by
 rintro A H x y Y Z n Q R al B q P ⟨a,b,F,I,J,O,h⟩ k;subst F I;exact⟨a,b,B.is,q.is,J,O,λr U=>k _ n _ H (h r U) (Val.of rfl) (Go.refl P) λz=>by cases z⟩⟩
def zuz:F2 Pn false zsK ztg:=⟨by
 rintro A H x y Y Z n Q R al B q P ⟨a,b,F,I,J,O,h⟩ k;subst F I;exact⟨a,b,B.is,q.is,J,O,λr U=>k _ n _ H (h r U) (Val.of rfl) (Go.refl P) λz=>by cases z⟩⟩
def zfo:W->W->Mo W:=λx y n Q=>∃ (b:Int) (ns:AG),x = .d (.int b)/\(y = .d (.lst (ns.map .int))\/y = .d (.tup (ns.map .int)))/\Q (.d (.bl (!ns.contains b))) n
def zmd:F2 Pn false (rIn K true) zfo:=⟨by
 rintro A H x y O U n Q R Y q B P ⟨b,ns,F,Z,h⟩ k;subst F;have I:Bor A H (.d (.lst (ns.map .int))) y\/Bor A H (.d (.tup (ns.map .int))) y:=by grind
 obtain⟨a,xs,e,hs,J⟩:=zhZ (K:=K) I;obtain rfl:=J.of_ints;obtain rfl:=yB q;exact⟨a,_,e,hs,rfl,zep ns,k _ n _ H h (Val.of (by rw[zgm];rfl)) (Go.refl P) λz=>by cases z⟩⟩
def zmu{i:Int}(h:IsL G l xs)(e:atI l i=some d):∃v,atI xs i=some v/\Is G d v:=by
 unfold atI at e ⊢;rw[h.length];obtain⟨j,h1,h2⟩:=dW.mp e;obtain⟨v,q,B⟩:=h.getD h2;right
def zte:W->W->Mo W:=λx y n Q=>∃l i d,x = .d (.tup l)/\y = .d (.int i)/\atI l i=some d/\Q (.d d) n
def ztd:W->W->Mo W:=λx y n Q=>∃l i d,x = .d (.lst l)/\y = .d (.int i)/\atI l i=some d/\Q (.d d) n
def zuv:F2 Pn false (zpM K) zte:=⟨by
 rintro A H x y Y Z n Q R al B q P ⟨l,i,d,F,I,e,h⟩ k;subst F I;obtain⟨a,xs,J,O,U⟩:=uc B;obtain⟨v,h1,h2⟩:=zmu U e;exact⟨a,xs,i,v,J,yB q,.of O,h1,k _ n _ H h (Val.of h2) (Go.refl P) λz=>by cases z⟩⟩
def zuu:F2 Pn false (zsJ K) ztd:=⟨by
 rintro A H x y Y Z n Q R al B q P ⟨l,i,d,F,I,e,h⟩ k;subst F I;obtain⟨a,xs,J,O,U⟩:=xl B;obtain⟨v,h1,h2⟩:=zmu U e;exact⟨a,xs,i,v,J,yB q,.of O,h1,k _ n _ H h (Val.of h2) (Go.refl P) λz=>by cases z⟩⟩
def zfn:W->W->Mo W:=λx y n Q=>∃l m,x = .d (.tup l)/\y = .d (.tup m)/\l.length+m.length<=lim/\Q (.d (.tup (l++m))) n
def zsl:F2 Pn false (zlO K) zfn:=⟨by
 rintro A H x y wx wy n Q R I J q P ⟨l,m,O,U,z,h⟩ k;subst O U;obtain⟨a,xs,Y,Z,B⟩:=uc J;obtain⟨b,ys,eb,hb,F⟩:=uc q;show⟨a,b,xs,ys,Y,eb,Z,hb,zcM (by rw[B.length,F.length];exact z),λp H' g S=>?_⟩;exact k _ n _ H' h (zd2 (B.append F) (zq.same S) (I.noT' (zq.same S) g) g) (Go.same P S) λz=>by cases z⟩
def zno:W->W->Mo W:=λx y n Q=>∃l m,x = .d (.lst l)/\y = .d (.lst m)/\l.length+m.length<=lim/\Q (.d (.lst (l++m))) n
def zsk:F2 Pn true zoY zno:=⟨by
 rintro A H x y wx wy n Q R J O q P ⟨l,m,U,Y,z,h⟩ k;subst U Y;obtain⟨a,xs,Z,ha,B⟩:=xl O;obtain⟨b,ys,eb,hb,F⟩:=xl q;show⟨a,b,xs,ys,Z,eb,ha,hb,zcM (by rw[B.length,F.length];exact z),λp H' I g S=>?_⟩;exact k _ n _ H' h (xY (B.append F) (zq.same S) (J.new I) g) (Go.same P S) λz=>xO (B.append F) S I g⟩
abbrev lenD:W->Option Nat
 | .d (.lst l)=>some l.length
 | .d (.tup l)=>some l.length
 | _=>none
def ztf:AU->Mo W:=λq n Q=>∃x k,q=[x]/\lenD x=some k/\Q (.d (.int (k:Int))) n
def zbe(h:zpH A H [w] vs):∃v,vs=[v]/\Bor A H w v:=by obtain⟨v,r,e,h1,h2⟩:=h;cases h2;exact⟨v,e,h1⟩
def zuw:FL Pn false (λxs H Q=>∃x n,xs=[x]/\zss K x H n/\Q (.int n) H) ztf:=⟨by
 rintro A H xs O n Q R U b P ⟨x,j,J,q,h⟩ k;subst J;obtain⟨v,rfl,I⟩:=zbe b;show⟨v,j,rfl,?_,k _ n _ H h (Val.of rfl) (Go.refl P) λz=>by cases z⟩
 cases x with
 | d x=>
  cases x with
  | lst l=>
   cases q;obtain⟨a,ys,rfl,B,F⟩:=xl I;exact .inl ⟨ys,.of B,F.length.symm⟩
  | tup l=>
   cases q;obtain⟨a,ys,rfl,B,F⟩:=uc I;exact .inr ⟨ys,.of B,F.length.symm⟩
  | _=>cases q
 | _=>cases q⟩
def zqf:AU->Mo W:=λq n Q=>∃l,(q=[.d (.lst l)]\/q=[.d (.tup l)])/\Q (.d (.lst l)) n
def zso:FL Pn true (zjV K) zqf:=⟨by
 rintro A H xs O n Q R F b P ⟨l,I,h⟩ k
 obtain⟨v,rfl,J⟩:∃v,xs=[v]/\(Bor A H (.d (.lst l)) v\/Bor A H (.d (.tup l)) v):=by
  rcases I with rfl | rfl;obtain⟨v,e,h⟩:=zbe b;exact⟨v,e,.inl h⟩;obtain⟨v,e,h⟩:=zbe b;exact⟨v,e,.inr h⟩
 obtain⟨a,ys,rfl,hs,q⟩:=zhZ (K:=K) J;exact⟨a,ys,rfl,hs,λp H' B g S=>k _ n _ H' h (xY q (zq.same S) (F.new B) g) (Go.same P S) λz=>xO q S B g⟩⟩
def zms:AU->Mo W:=λq n Q=>∃l,(q=[.d (.lst l)]\/q=[.d (.tup l)])/\Q (.d (.tup l)) n
def zpD:FL Pn false (zfN K) zms:=⟨by
 rintro A H xs U n Q R I b P ⟨l,J,h⟩ k;rcases J with rfl | rfl;obtain⟨v,rfl,B⟩:=zbe b;obtain⟨a,ys,rfl,q,F⟩:=xl B;exact⟨a,ys,rfl,.inl ⟨.of q,λp H' O g S=>k _ n _ H' h (zd2 F (zq.same S) (I.new O) g) (Go.same P S) λz=>by cases z⟩⟩;obtain⟨v,rfl,B⟩:=zbe b;obtain⟨a,ys,e,q,F⟩:=id B;subst e;exact⟨a,ys,rfl,.inr ⟨.of (zl _ _ q),k _ n _ H h (Val.of ⟨a,ys,rfl,q,F⟩) (Go.refl P) λz=>by cases z⟩⟩⟩
def xZ {α:Type}(xs:List α)(lo hi:AQ):List α:=(xs.drop (HT.sIx xs.length 0 lo)).take (HT.sIx xs.length xs.length hi - HT.sIx xs.length 0 lo)
def zfx{lo hi:AQ}(h:IsL G l xs):IsL G (xZ l lo hi) (zcF xs lo hi):=by unfold xZ zcF;rw[h.length];exact (h.drop _).take _
def xE {κ:Type}[DecidableEq κ](kvs:List (κ×Dt))(k:κ):Option Dt:=(kvs.find? λq=>decide (q.1=k)).map (·.2)
def x9.look {κ:Type}[DecidableEq κ]{G:Hp}{k:κ}:∀ {kvs:List (κ×Dt)} {ks:List (κ×V)},x9 G kvs ks->(xE kvs k=none->xq ks k=none)/\∀d,xE kvs k=some d->∃v,xq ks k=some v/\Is G d v
 | [],_,h=>by cases h;exact⟨λ_=>rfl,λd e=>by cases e⟩
 | q::r,ks,⟨v,s,e,h1,h2⟩=>by
  subst e;have F:=x9.look (k:=k) h2;by_cases B:q.1=k;show⟨λz=>?_,λd z=>?_⟩;simp[xE,cq,B] at z;simp[xE,cq,B] at z;subst z;exact⟨v,zZ B,h1⟩;have I:xE (q::r) k=xE r k:=by simp[xE,cq,B]
  rw[I,zY B];exact F
end
section
variable {X:Cx}{Pn:PN}{M S:AR}{fr:Bool}{e a b c:Expr}{es:AO}{f fa fb fc:AD}{pos p:Pos}
def uY(q:IxQ X r)(B:F2 Pn fr r F)(I:JB X Pn M a fa)(J:JB X Pn M b fb)(hs:zfb b):JE X Pn M fr (.Subscript a b pos) (zmD F fa fb):=by obtain⟨ta,O,ra⟩:=I.ex;obtain⟨tb,U,rb⟩:=J.ex;exact⟨_,zlN q O U hs,zlT B ra rb⟩
abbrev zn2:Ev->Mo AQ:=λ_ n Q=>Q none n
def zn4 (fa:AD):Ev->Mo AQ:=λρ n Q=>fa ρ n λx m=>∃i,x = .d (.int i)/\Q (some i) m
def ui:JO X Pn M none zn2:=⟨_,zfJ,λA σ H ρ n Q R E P q k=>k none n H q (Go.refl P)⟩
def uj (h:JB X Pn M e f):JO X Pn M (some e) (zn4 f):=by obtain⟨te,q,r⟩:=h.ex;show⟨_,zfK q,λA σ H ρ n Q R E P B k=>?_⟩;show r.run A σ H ρ n _ _ E P B  ?_;rintro w m v H' ⟨i,e,r⟩ F g;subst e;exact⟨i,yB F,k (some i) m H' r g⟩
def ztL (fa:AD)(fl q:Ev->Mo AQ):AD:=λρ n Q=>fa ρ n λx B=>fl ρ B λlo F=>q ρ F λhi I=>∃l,x = .d (.tup l)/\Q (.d (.tup (xZ l lo hi))) I
def ztK (fa:AD)(fl q:Ev->Mo AQ):AD:=λρ n Q=>fa ρ n λx B=>fl ρ B λlo F=>q ρ F λhi I=>∃l,x = .d (.lst l)/\Q (.d (.lst (xZ l lo hi))) I
def zqs{fl I:Ev->Mo AQ}(O:JB X Pn M e f)(B:JO X Pn M lo fl)(U:JO X Pn M hi I):JE X Pn M false (.Subscript e (.Slice lo hi none p2) pos) (ztL f fl I):=by obtain⟨te,Y,Z⟩:=O.ex;obtain⟨tl,ql,rl⟩:=B.ex;obtain⟨th,qh,rh⟩:=U.ex;show⟨_,zbx zfS Y ql qh,⟨λA σ H ρ n Q R E P hf k=>?_⟩⟩;show Z.run A σ H ρ n _ _ E P hf λw m v H1 r1 bb q=>?_;show rl A σ H1 ρ m _ _ (E.stay q.st) q.pn r1 λo m2 H2 r2 g2=>?_;show rh A σ H2 ρ m2 _ _ ((E.stay q.st).stay g2.st) g2.pn r2  ?_;rintro o3 m3 H3 ⟨l,e,r3⟩ F;subst e;have g:=(q.trans g2).trans F;obtain⟨ad,xs,rfl,ha,B⟩:=uc (bb.stay (g2.trans F).st);exact⟨ad,xs,rfl,ha,λp H' J S=>k _ m3 _ H' r3 (zd2 (zfx B) (zq.same S) (Al.noT' (E.stay g.st).al (zq.same S) J) J) (g.trans (Go.same F.pn S)) λz=>by cases z⟩
def zhh{fl J:Ev->Mo AQ}(O:JB X Pn M e f)(q:JO X Pn M lo fl)(U:JO X Pn M hi J):JE X Pn M true (.Subscript e (.Slice lo hi none p2) pos) (ztK f fl J):=by obtain⟨te,Y,Z⟩:=O.ex;obtain⟨tl,ql,rl⟩:=q.ex;obtain⟨th,qh,rh⟩:=U.ex;show⟨_,zbx zph Y ql qh,⟨λA σ H ρ n Q R E P hf k=>?_⟩⟩;show Z.run A σ H ρ n _ _ E P hf λw m v H1 r1 bb B=>?_;show rl A σ H1 ρ m _ _ (E.stay B.st) B.pn r1 λo m2 H2 r2 g2=>?_;show rh A σ H2 ρ m2 _ _ ((E.stay B.st).stay g2.st) g2.pn r2  ?_;rintro o3 m3 H3 ⟨l,e,r3⟩ F;subst e;have g:=(B.trans g2).trans F;obtain⟨ad,xs,rfl,ha,q⟩:=xl (bb.stay (g2.trans F).st);show⟨ad,xs,rfl,.of ha,λp I=>?_⟩;have S:=yL.upd (o:=.lst (zcF xs o o3)) I;exact k _ m3 _ _ r3 (xY (zfx q) (zq.same S) ((E.stay g.st).new I) zg) (g.trans (Go.same F.pn S)) λz=>(xO (zfx q) S I zg).back g.st
def zdj:∀ {ds:AS} {xs:AT},IsL G ds xs->IsL G ds.reverse xs.reverse
 | [],_,h=>by cases h;rfl
 | d::ds,xs,h=>by obtain⟨x,r,rfl,h1,h2⟩:=h;rw[bX,bX];exact (zdj h2).append (IsL.one h1)
def zn6 (fa:AD):AD:=λρ n Q=>fa ρ n λx m=>∃l,x = .d (.lst l)/\Q (.d (.lst l.reverse)) m
def zmx(I:JB X Pn M e f):JE X Pn M true (.Subscript e (.Slice none none (some (.UnaryOp .USub (.Constant (.int 1) j p4) p3)) p2) pos) (zn6 f):=by obtain⟨te,J,O⟩:=I.ex;show⟨_,zoQ J,⟨λA σ H ρ n Q R E P U k=>?_⟩⟩;show O.run A σ H ρ n _ _ E P U  ?_;rintro w m v H1 ⟨l,e,r⟩ Y g;subst e;obtain⟨Z,xs,rfl,ha,q⟩:=xl Y;exact⟨Z,xs,rfl,ha,λp H' B F S=>k _ m _ H' r (xY (zdj q) (zq.same S) ((E.stay g.st).new B) F) (g.trans (Go.same g.pn S)) λz=>(xO (zdj q) S B F).back g.st⟩
abbrev zsy:W->Option Key
 | .d (.int i)=>some (Sum.inl i)
 | .d (.str x)=>some (Sum.inr x)
 | _=>none
abbrev prD (q:Int×Dt):Dt:=.tup [.int q.1,q.2]
def kvD (q:Int×Dt):Key×Dt:=(Sum.inl q.1,q.2)
def spV (k:Nat)(fr:Bool)(F:PN->AU->Mo W):Sp:=λvs H Q _=>∃Pn A q n R,Al A H/\zai A H q vs/\q.length=k/\x6 Pn A n H/\F Pn q n R/\∀w m v H',R w m->Val A H' w v->Go Pn A H m H'->(fr=true->FrV A H H' w v)->Q v H'
def mFn (k:Nat)(F:AU->Mo W)(fa:AC):AD:=λρ n Q=>fa ρ n λq m=>q.length=k/\F q m Q
def zrz(q:RA Pn M ta fs):RE Pn M fr (zcf (spV k fr F) [] E0 ta) (mFn k (F Pn) fs):=⟨λA σ H ρ n Q R E P B I=>by show q.run A σ H ρ n _ _ E P B  ?_;rintro J m vs H1 ⟨O,r⟩ b g;rw[cI];exact⟨Pn,A,J,m,R,(E.stay g.st).al,b,O,g.pn,r,λw U v H' h1 h2 Y Z=>I w U v H' h1 h2 (g.trans Y) λz=>(Z z).back g.st⟩⟩
def yM(D:Dfn X.K X.mg x st ps fA fd)(G:FnOk X.prog X.w X.K X.mg X.base CX0 j fA fd ps (spV k fr F))(O:Room J X.A)(U:JA X Pn M (e::es) fs)(q:j<=J:=by ext)(Y:Gl X x:=by rfl)(B:Ah x:=by ext)(Z:starEach (e::es) X.env=(false,eval e X.env)::starEach es X.env:=by rfl)(I:(backTo pos (starEach es X.env)).any (·.1)=false:=by rfl) :
  JE X Pn M fr (.Call (.Name x p) (e::es) [] pos) (mFn k (F Pn) fs):=by
 obtain⟨ta,qa,ra⟩:=U.ex;exact⟨_,zhv D G O qa q Y B Z I,zrz ra⟩
abbrev W.flat (fr:Bool):W->Bool
 | .d (.lst l)=>fr&&Dt.noLs l
 | .d x=>x.noL
 | .pen _=>true
 | .dk _=>false
 | .dt _=>false
 | .ss _ _ _=>false
 | .df _=>false
 | .kf _=>false
 | .fl _=>false
 | .ad _ _=>false
 | .tz _ _=>false
def zk1(F:Al A H)(s:zq H H')(h:Val A' H' w v)(I:fr=true->FrV A' H H' w v)(fl:w.flat fr=true):Val A H' w v:=by
 have q:=F.stay s
 cases w with
 | d x=>
  cases x with
  | lst l=>
   rw[show W.flat fr (.d (.lst l))=(fr&&Dt.noLs l) from rfl,bC] at fl;obtain⟨ad,xs,rfl,B,J⟩:=h;obtain⟨a2,O,U,_⟩:=I fl.1;cases O;have hn:¬ A ad:=λz=>by obtain⟨o,Y,Z,_⟩:=F ad z;exact U o Y Z
   exact⟨ad,xs,rfl,zm hn (zl _ _ B),xP q.noT fl.2 (J.stay (zq.same zl))⟩
  | dct=>cases fl
  | non=>exact h
  | bl c=>exact h
  | int c=>exact h
  | str c=>exact h
  | tup l=>exact Val.of (zmv q.noT fl ((Val.is h).stay (zq.same zl)))
 | pen p=>exact h
 | dk kvs=>cases fl
 | dt kvs=>cases fl
 | ss P w kvs=>cases fl
 | df kvs=>cases fl
 | kf kvs=>cases fl
 | fl kvs=>cases fl
 | ad a x=>cases fl
 | tz kvs x=>cases fl
def zk0(J:Al A H)(s:zq H H')(h:Val A' H' w v)(O:FrV A' H H' w v)(fl:w.flat true=true):FrV A H H' w v:=by
 obtain⟨I,B,U,h2⟩:=O;show⟨I,B,U,?_⟩;have F:=J.stay s
 cases w with
 | d x=>
  cases x with
  | lst l=>
   obtain⟨ad,xs,e,q,Y⟩:=h2;rw[B] at e;cases e;show⟨I,xs,B,q,xP (λb ys z g=>?_) (by lia) (Y.stay (zq.same zl))⟩;rcases z with z | z;exact F.noT b ys z g;grind
  | tup l=>
   obtain⟨ad,xs,e,q,_⟩:=h2;rw[B] at e;cases e;exact absurd rfl (λz=>(zA.mp q).1 (.inr z))
  | dct=>cases fl
  | non=>exact h2
  | bl c=>exact h2
  | int c=>exact h2
  | str c=>exact h2
 | pen p=>exact h2
 | dk kvs=>cases fl
 | dt kvs=>cases fl
 | ss P w kvs=>cases fl
 | df kvs=>cases fl
 | kf kvs=>cases fl
 | fl kvs=>cases fl
 | ad a x=>cases fl
 | tz kvs x=>cases fl
def ztx (A:AL)(vs:AT):AL:=λb=>A b/\V.ref b∉vs
def zf3 {A:AL}{H:Hp}{all:AT}:∀ {J:AU} {vs:AT},(∀v∈vs,v∈all)->zpH A H J vs->zai (ztx A all) H J vs
 | [],vs,_,h=>h
 | w::J,vs,hs,⟨v,r,e,h1,h2⟩=>by
  subst e;show⟨v,r,rfl,?_,zf3 (by grind) h2⟩;have I:=hs v aj;have q:yL (zV A H) (zV (ztx A all) H):=yU λb z=>z.1
  cases w with
  | d x=>
   cases x with
   | lst l=>obtain⟨ad,xs,rfl,B,F⟩:=h1;exact⟨ad,xs,rfl,zm (λz=>z.2 I) B,F.stay (zq.same q)⟩
   | dct=>obtain⟨ad,xs,rfl,B,F⟩:=h1;exact⟨ad,xs,rfl,zm (λz=>z.2 I) B,F⟩
   | non=>exact h1
   | bl c=>exact h1
   | int c=>exact h1
   | str c=>exact h1
   | tup l=>exact Is.stay (zq.same q) h1
  | pen p=>exact h1
  | dk kvs=>obtain⟨ad,xs,rfl,B,F,hn⟩:=h1;exact⟨ad,xs,rfl,zm (λz=>z.2 I) B,F.stay (zq.same q),hn⟩
  | dt kvs=>obtain⟨ad,xs,rfl,B,F⟩:=h1;exact⟨ad,xs,rfl,zm (λz=>z.2 I) B,F.stay (zq.same q)⟩
  | ss P w kvs=>obtain⟨ad,xs,rfl,B,F⟩:=h1;exact⟨ad,xs,rfl,zm (λz=>z.2 I) B,F.stay (zq.same q)⟩
  | df kvs=>obtain⟨ad,ob,xs,rfl,B,F⟩:=h1;exact⟨ad,ob,xs,rfl,zm (λz=>z.2 I) B,F.stay (zq.same q)⟩
  | kf kvs=>obtain⟨ad,ob,xs,rfl,B,F⟩:=h1;exact⟨ad,ob,xs,rfl,zm (λz=>z.2 I) B,F.stay (zq.same q)⟩
  | fl kvs=>obtain⟨ad,ob,xs,rfl,B,F⟩:=h1;exact⟨ad,ob,xs,rfl,zm (λz=>z.2 I) B,F.stay (zq.same q)⟩
  | ad a x=>exact⟨h1.1,Is.stay (zcS (zq.same q)) h1.2⟩
  | tz kvs x=>obtain⟨a,b,ob,ks,y,e,O,U,Y,Z⟩:=h1;exact⟨a,b,ob,ks,y,e,q _ _ O,q _ _ U,Y.stay (zq.same q),Z.stay (zq.same q)⟩
def x6.more(h:x6 Pn A n H)(h':x6 Pn A' m H')(q:∀a,A a->A' a\/∃o,H' a=some o/\NP o/\Mt o):x6 Pn A m H':=by
 show⟨?_,Pn.J.grow h'.2 q⟩;have h:=h.1;have h':=h'.1;split at h
 all_goals right
def x6.less(h:x6 Pn A n H)(s:∀a,A' a->A a):x6 Pn A' n H:=by
 show⟨?_,Pn.J.grow h.2 λa z=>.inl (s a z)⟩;have h:=h.1;split at h;trivial;exact⟨h.1,λr e z=>h.2.1 r e (s _ z),λz=>h.2.2 (s _ z)⟩
def zsB (k:Nat)(fr:Bool)(F:AU->Mo W)(fa:AC):AD:=λρ n Q=>fa ρ n λq m=>q.length=k/\F q m λw B=>w.flat fr=true/\Q w B
def zrA(J:RAB Pn M ta fs):RE Pn M fr (zcf (spV k fr F) [] E0 ta) (zsB k fr (F Pn) fs):=⟨λA σ H ρ n Q R E P O U=>by show J.run A σ H ρ n _ _ E P O  ?_;rintro Y m vs H1 ⟨Z,r⟩ b g;rw[cI];have B:=(E.stay g.st).al;show⟨Pn,ztx A vs,Y,m,_,λa z=>B a z.1,zf3 (λ_ z=>z) b,Z,g.pn.less λa z=>z.1,r,?_⟩;rintro w m' v H' ⟨fl,h1⟩ h2 q I;show U w m' v H' h1 (zk1 B q.st h2 I fl) (g.trans ⟨q.st,g.pn.more q.pn λa z=>let ⟨o,o1,o2,o3⟩:=B a z;.inr ⟨o,q.st _ _ o1 o2,o2,o3⟩⟩) λz=>?_;subst z;exact (zk0 B q.st h2 (I rfl) fl).back g.st⟩
def zto(D:Dfn X.K X.mg x st ps fA fd)(G:FnOk X.prog X.w X.K X.mg X.base CX0 j fA fd ps (spV k fr F))(O:Room J X.A)(U:JAB X Pn M (e::es) fs)(q:j<=J:=by ext)(Y:Gl X x:=by rfl)(B:Ah x:=by ext)(Z:starEach (e::es) X.env=(false,eval e X.env)::starEach es X.env:=by rfl)(I:(backTo pos (starEach es X.env)).any (·.1)=false:=by rfl) :
  JE X Pn M fr (.Call (.Name x p) (e::es) [] pos) (zsB k fr (F Pn) fs):=by
 obtain⟨ta,qa,ra⟩:=U.ex;exact⟨_,zhv D G O qa q Y B Z I,zrA ra⟩
end
structure JG (X:Cx)(S M:AR)(e:Expr)(mg:W->Ev->(Ev->Prop)->Prop):Prop where
 ex:∃g,QG X e g/\RG S M g mg
structure JGs (X:Cx)(S M:AR)(es:AO)(mg:AS->Ev->(Ev->Prop)->Prop):Prop where
 ex:∃g,QGs X es g/\RGs S M g mg
structure JI (X:Cx)(Pn:PN)(M:AR)(ow:Bool)(tg e:Expr)(f:AC):Prop where
 ex:∃wi,QI X tg e wi/\RI Pn M ow wi f
structure JTs (X:Cx)(Pn:PN)(M:AR)(es:AO)(f:Ev->Mo Bool):Prop where
 ex:∃t,QTs X es t/\RT Pn M t f
section
variable {X:Cx}{Pn:PN}{M S:AR}{fr:Bool}{e a b c:Expr}{es:AO}{f fa fb fc:AD}{pos p:Pos}
def gN (i:Nat):W->Ev->(Ev->Prop)->Prop:=λw ρ Q=>Q (ρ.set i (some w))
def gNl:AS->Ev->(Ev->Prop)->Prop:=λds ρ Q=>ds=[]/\Q ρ
def gCn (g:W->Ev->(Ev->Prop)->Prop)(u:AS->Ev->(Ev->Prop)->Prop):AS->Ev->(Ev->Prop)->Prop:=λds ρ Q=>∃d r,ds=d::r/\g (.d d) ρ λq=>u r q Q
def gTp (n:Nat)(u:AS->Ev->(Ev->Prop)->Prop):W->Ev->(Ev->Prop)->Prop:=λw ρ Q=>∃ds,w = .d (.tup ds)/\ds.length=n/\u ds ρ Q
def EnvR.set(E:EnvR A M σ H ρ)(hi:i∉M)(h:Val A H w v):EnvR A M (σ.set i (some v)) H (ρ.set i (some w)) where
 len:=by rw[bM,bM];exact E.len
 val:=λj u e=>by
  by_cases q:j=i;subst q
  have J:j<ρ.length:=by
   have:=(ah.mp e).1;right
  rw[aR J] at e;cases e;exact⟨v,aR (by rw[E.len];exact J),λ_=>h,λz=>absurd z hi⟩;rw[ax (Ne.symm q)] at e ⊢;exact E.val j u e
 dis:=λj k u u' ad q O B U Y Z=>by have F:i≠j:=λz=>hi (z ▸ q);have I:i≠k:=λz=>hi (z ▸ O);rw[ax F] at U Z;rw[ax I] at Y ⊢;exact E.dis j k u u' ad q O B U Y Z
 al:=E.al
def zdO(hi:i∉M)(hs:i∉S):RG S M (zbg i) (gN i):=⟨λA σ H ρ v w Q R E h r k=>k _ _ r (E.set hi h) λj q=>⟨ax λ(z:i=j)=>hs (by rw[z];exact q),ax λ(z:i=j)=>hs (by rw[z];exact q)⟩⟩
def zt(q:X.N.Nodup)(B:X.N[i]?=some x:=by rfl)(F:Loc X.env.scope x:=by first | exact Or.inl rfl | exact Or.inr rfl)(hi:i∉M:=by ext)(hs:i∉S:=by ext)(I:X.fn x=true\/X.env.scope.names.lookup x=some .local:=by walk_at "l"):JG X S M (.Name x pos) (gN i):=⟨_,zad q B F I,zdO hi hs⟩
def zdm:JGs X S M [] gNl:=⟨_,zfI,⟨by
 rintro A σ H ρ vs ds Q R E h ⟨e,r⟩ k;subst e;exact⟨h,k σ ρ r E λ_ _=>⟨rfl,rfl⟩⟩⟩⟩
def yF(h1:JG X S M e g)(h2:JGs X S M es u)(hs:(assignEach (e::es) X.env).map (·.2)=assign e X.env::(assignEach es X.env).map (·.2):=by rfl):JGs X S M (e::es) (gCn g u):=by obtain⟨t1,U,Y⟩:=h1.ex;obtain⟨t2,Z,r2⟩:=h2.ex;show⟨_,xU U Z hs,⟨ ?_⟩⟩;rintro A σ H ρ vs ds Q R E h ⟨d,r,e,hg⟩ k;subst e;obtain⟨v,s,rfl,hv,hr⟩:=h;show⟨v,s,rfl,?_⟩;show Y.run A σ H ρ v _ _ _ E (Val.of hv) hg λq B hu E' J=>?_;exact r2.run A q H B s _ _ _ E' hr hu λF I hR E2 O=>k F I hR E2 λi hi=>⟨(O i hi).1.trans (J i hi).1,(O i hi).2.trans (J i hi).2⟩
def zgr {k n:Nat}{u:AS->Ev->(Ev->Prop)->Prop}(K:AH)(I:X.K=K)(J:X.calm=true)(h:JGs X S M es u)(hn:(assignEach es X.env).length=n:=by rfl)(q:(assignEach es X.env).findIdx? (·.1)=none:=by rfl):JG X S M (.Tuple es k pos) (gTp n u):=by obtain⟨t1,O,U⟩:=h.ex;show⟨_,zjM K I J O hn q,⟨ ?_⟩⟩;rintro A σ H ρ v w Q R E h ⟨ds,e,Y,Z⟩ kk;subst e;obtain⟨ad,xs,rfl,B,F⟩:=h;exact⟨ad,xs,rfl,.of (zl _ _ B),by rw[F.length];exact Y,U.run A σ H ρ xs ds _ _ E F Z kk⟩
def zsC (fa:AD):AC:=λρ n Q=>fa ρ n λx m=>∃l,x = .d (.lst l)/\Q (l.map W.d) m
def zsD (fa:AD):AC:=λρ n Q=>fa ρ n λx m=>∃l,x = .d (.tup l)/\Q (l.map W.d) m
def zfy {G G':Hp}{l:AS}{xs:AT}{i:Nat}{w:W}(h:IsL G l xs)(e:(l.map W.d)[i]?=some w)(s:zq G G'):∃d x,w = .d d/\xs[i]?=some x/\Is G' d x:=by rw[aL] at e;obtain⟨d,h1,rfl⟩:=aI.mp e;obtain⟨x,h2,q⟩:=h.getD h1;exact⟨d,x,rfl,h2,q.stay s⟩
def zgq(h:zV A H q=some (.lst xs))(B:IsL (zV A H) l xs):ItV false A H (Itl K q) (l.map W.d) where
 one:=λi w A2 H2 e s _ _=>by obtain⟨d,x,rfl,F,I⟩:=zfy B e s;have g:=zl _ _ (s.lst h);show⟨⟨xs,x,.of g,F⟩,?_⟩;rintro y H3 ⟨J,O⟩;subst J;have:=O xs (.of g);rw[F] at this;cases this;exact⟨λ_ _ z=>z,Val.of I⟩
 stop:=λA2 H2 s _=>⟨xs,.of (zl _ _ (s.lst h)),by rw[ab,B.length];exact ai _⟩
def znJ(h:zV A H q=some (.tup xs))(B:IsL (zV A H) l xs):ItV false A H (Itt K q) (l.map W.d) where
 one:=λi w A2 H2 e s _ _=>by obtain⟨d,x,rfl,F,I⟩:=zfy B e s;have g:=zl _ _ (s.tup h);show⟨⟨xs,x,.of g,F⟩,?_⟩;rintro y H3 ⟨J,O⟩;subst J;have:=O xs (.of g);rw[F] at this;cases this;exact⟨λ_ _ z=>z,Val.of I⟩
 stop:=λA2 H2 s _=>⟨xs,.of (zl _ _ (s.tup h)),by rw[ab,B.length];exact ai _⟩
def zbJ(K:AH)(F:X.K=K)(h:JE X Pn M fr e f):JI X Pn M false tg e (zsC f):=by obtain⟨te,q,r⟩:=h.ex;show⟨_,zgP K F q,⟨λA σ H ρ n Q R E P I k=>?_⟩⟩;show r.run A σ H ρ n _ _ E P I  ?_;rintro w m v H1 ⟨l,e,r⟩ J g _;subst e;obtain⟨O,xs,rfl,B,U⟩:=J;exact⟨O,rfl,⟨xs,.of (zl _ _ B)⟩,k _ m _ H1 r (zgq B U) g⟩
def zcH(K:AH)(F:X.K=K)(h:JE X Pn M fr e f):JI X Pn M false tg e (zsD f):=by obtain⟨te,q,r⟩:=h.ex;show⟨_,zoS K F q,⟨λA σ H ρ n Q R E P I k=>?_⟩⟩;show r.run A σ H ρ n _ _ E P I  ?_;rintro w m v H1 ⟨l,e,r⟩ J g _;subst e;obtain⟨O,xs,rfl,B,U⟩:=J;exact⟨O,rfl,⟨xs,.of (zl _ _ B)⟩,k _ m _ H1 r (znJ B U) g⟩
def zhy (lo:Int)(n:Nat):AU:=(List.range n).map λi:Nat=>W.d (.int (lo+i))
def znI{lo:Int}:ItV false A H (Itr lo n) (zhy lo n) where
 one:=λi w A2 H2 e s _ _=>by unfold zhy at e;rw[aL] at e;obtain⟨j,h1,rfl⟩:=aI.mp e;obtain⟨hi,h2⟩:=ah.mp h1;rw[cQ] at h2;subst h2;rw[aB] at hi;show⟨hi,?_⟩;rintro y H3 ⟨q,B⟩;subst q B;exact⟨λ_ _ z=>z,Val.of rfl⟩
 stop:=λA2 H2 s _=>by
  change n<=(zhy lo n).length;unfold zhy;right
def ztE (fa:AC):AC:=λρ n Q=>fa ρ n λq m=>∃j:Int,q=[.d (.int j)]/\j<=1000000/\-1000000<=j/\Q (zhy 0 j.toNat) m
def z7(B:Gl X "range")(F:X.mg "range" = none)(I:JAB X Pn M [a] fs)(hs:starEach [a] X.env=[(false,eval a X.env)]:=by rfl):JI X Pn M false tg (.Call (.Name "range" p) [a] [] pos) (ztE fs):=by obtain⟨te,q,r⟩:=I.ex;show⟨_,zjO B F q hs,⟨λA σ H ρ n Q R E P J k=>?_⟩⟩;show r.run A σ H ρ n _ _ E P J  ?_;rintro Y m vs H1 ⟨j,e,Z,j2,r⟩ O g;subst e;obtain⟨v,rfl,U⟩:=zbe O;obtain rfl:=yB U;exact⟨j,rfl,by lia,by lia,k _ m _ H1 r znI g⟩
def enW:Nat->AS->AU
 | _,[]=>[]
 | k,x::r=>.d (.tup [.int k,x])::enW (k+1) r
def ziW:AS->AS->AU
 | x::r,y::s=>.d (.tup [x,y])::ziW r s
 | _,_=>[]
def zku:∀ (l k:AS) (i:Nat),l.length=k.length->(ziW l k)[i]?=(l[i]?).bind λx=>(k[i]?).map λy=>W.d (.tup [x,y])
 | [],[],_,_=>by simp[ziW]
 | [],_::_,_,h=>by simp at h
 | _::_,[],_,h=>by simp at h
 | x::r,y::s,0,_=>by simp[ziW]
 | x::r,y::s,i+1,h=>by have:=zku r s i (by simpa using h);simp only[ziW,db,this]
def zkv:∀ (l k:AS),l.length=k.length->(ziW l k).length=l.length
 | [],[],_=>rfl
 | [],_::_,h=>by simp at h
 | _::_,[],h=>by simp at h
 | x::r,y::s,h=>by rw[ziW,aM,aM,zkv r s (by simpa using h)]
def zla(q:l.length=k.length)(h:∀ {A2:AL} {H2:Hp},zq (zV A H) (zV A2 H2)->SqV kb K H2 J xs)(U:IsL (zV A H) l xs)(h':zV A H O=some (.tup ys))(hk:IsL (zV A H) k ys):ItV false A H (Izg kb K J O) (ziW l k) where
 one:=λi w A2 H2 e s _ hA=>by rw[zku _ _ _ q] at e;obtain⟨d,h1,e⟩:=dW.mp e;obtain⟨d',B,rfl⟩:=aI.mp e;obtain⟨x,Y,hd⟩:=U.getD h1;obtain⟨y,Z,F⟩:=hk.getD B;have g:=h s;have g':=zl _ _ (s.tup h');show⟨⟨xs,ys,x,y,g,.of g',Y,Z⟩,?_⟩;rintro v H3 ⟨T,z,z',e1,hT,e3,hz,I⟩;subst e1 e3;have q1:=hz xs g;have q2:=I ys (.of g');rw[Y] at q1;rw[Z] at q2;cases q1;cases q2;have S:=yL.upd (o:=.tup [x,y]) hT;exact⟨S,Val.of ⟨T,_,rfl,zm (hA T hT) zg,_,_,rfl,(hd.stay s).stay (zq.same (ug S)),_,_,rfl,(F.stay s).stay (zq.same (ug S)),rfl⟩⟩
 stop:=λA2 H2 s _=>⟨xs,h s,by rw[zkv _ _ q,U.length];exact ai _⟩
def zhP (ρ:Ev)(cix:List (Option Nat)):Ev:=cix.map λo=>match o with
 | none=>none
 | some i=>(ρ[i]?).join
def zbr (M:AR)(cix:List (Option Nat)):AR:=(List.range cix.length).filter λk=>match cix[k]? with
 | some (some i)=>M.contains i
 | _=>false
def zbu:k∈zbr M cix↔∃i,cix[k]?=some (some i)/\i∈M:=by
 unfold zbr;rw[cm,aN];constructor;rintro⟨h1,h2⟩;rw[aw h1] at h2 ⊢
 cases e:cix[k] with
 | none=>rw[e] at h2;cases h2
 | some i=>rw[e] at h2;exact⟨i,rfl,by simpa using h2⟩
 rintro⟨i,h1,h2⟩;exact⟨(ah.mp h1).1,by right⟩
def zaN {α:Type}{l:List (Option α)}{cix:List (Option Nat)}{k:Nat}{x:α}:(cix.map λo=>match o with | none=>none | some i=>(l[i]?).join)[k]?=some (some x)↔∃i,cix[k]?=some (some i)/\l[i]?=some (some x):=by
 rw[aL]
 cases e:cix[k]? with
 | none=>simp
 | some o=>
  cases o with
  | none=>simp
  | some i=>
   simp only[Option.map_some,Option.some.injEq];constructor;intro h;show⟨i,rfl,?_⟩
   cases q:l[i]? with
   | none=>rw[q] at h;cases h
   | some z=>rw[q] at h;cases z with
    | none=>cases h
    | some y=>cases h;rfl
   right
def EnvR.cap(E:EnvR A M σ H ρ)(hn:(cix.filterMap id).Nodup):EnvR A (zbr M cix) (zeh σ cix) H (zhP ρ cix) where
 len:=by unfold zeh zhP;rw[ab,ab]
 val:=λk w e=>by
  obtain⟨i,h1,h2⟩:=zaN.mp e;obtain⟨v,Y,Z,s3⟩:=E.val i w h2;show⟨v,zaN.mpr ⟨i,h1,Y⟩,λz=>Z λy=>z (zbu.mpr ⟨i,h1,y⟩),λz=>?_⟩;obtain⟨j,h3,h4⟩:=zbu.mp z;right
 dis:=λk k' w u ad hk ac ag e1 e2 Y Z=>by
  obtain⟨i,h1,h2⟩:=zaN.mp e1;obtain⟨i',q,an⟩:=zaN.mp e2;obtain⟨j,h3,h4⟩:=zaN.mp Y;obtain⟨j',F,ap⟩:=zaN.mp Z;rw[h1] at h3;cases h3;rw[q] at F;cases F;obtain⟨m,m1,m2⟩:=zbu.mp hk;rw[h1] at m1;cases m1;obtain⟨m',I,as⟩:=zbu.mp ac;rw[q] at I;cases I;show E.dis _ _ w u ad m2 as (λz=>?_) h2 an h4 ap;subst z
  have key:∀ (l:List (Option Nat)) (a b:Nat) (x:Nat),(l.filterMap id).Nodup->l[a]?=some (some x)->l[b]?=some (some x)->a=b:=by
   intro l
   induction l with
   | nil=>intro a b x _ h;simp at h
   | cons o l ih=>
    intro a b x hn J O;have U:∀ (l:List (Option Nat)) (a:Nat),l[a]?=some (some x)->x∈l.filterMap id:=λl a h=>di.mpr ⟨some x,aG h,rfl⟩
    cases o with
    | none=>
     have a0:(l.filterMap id).Nodup:=by simpa using hn
     cases a with
     | zero=>simp at J
     | succ a=>
      cases b with
      | zero=>simp at O
      | succ b=>rw[ih a b x a0 (by simpa using J) (by simpa using O)]
    | some y=>
     have B:y∉l.filterMap id/\(l.filterMap id).Nodup:=by right
     cases a with
     | zero=>
      have a1:y=x:=by simpa using J
      subst a1
      cases b with
      | zero=>rfl
      | succ b=>exact absurd (U l b (by simpa using O)) B.1
     | succ a=>
      cases b with
      | zero=>
       have a2:y=x:=by simpa using O
       subst a2;exact absurd (U l a (by simpa using J)) B.1
      | succ b=>rw[ih a b x B.2 (by simpa using J) (by simpa using O)]
  exact ag (key cix k k' _ hn h1 q)
 al:=E.al
def EnvR.more {A:AL}{σ:St}{H H':Hp}{ρ:Ev}(E:EnvR A M σ H ρ){p:Addr}{o:HO}(s:zq H H')(n:Fr H p)(g:H' p=some o)(B:NP o)(F:Mt o):EnvR (λb=>A b\/b=p) M σ H' ρ where
 len:=E.len
 val:=λi w e=>by obtain⟨v,h1,h2,q⟩:=E.val i w e;show⟨v,h1,λz=>WAt.up (xA s n) (xA s n) (h2 z),λz=>?_⟩;obtain⟨a,e,I,J,O⟩:=q z;exact⟨a,e,.inl I,WAt.up s (xA s n) J,O⟩
 dis:=E.dis
 al:=λa h=>by
  rcases h with h | h;obtain⟨o,h1,h2,q⟩:=E.al a h;exact⟨o,s _ _ h1 h2,h2,q⟩;subst h;exact⟨o,g,B,F⟩
def EnvR.upd{A:AL}{σ:St}{H:Hp}{ρ:Ev}(E:EnvR A M σ H ρ){p:Addr}(Z:A p)(hn:∀i w,i∈M->ρ[i]?=some (some w)->σ[i]?≠some (some (.ref p)))(np:NP o)(nt:Mt o):EnvR A M σ (L2.upd H p o) ρ where
 len:=E.len
 val:=λi w e=>by
  obtain⟨v,h1,h2,h3⟩:=E.val i w e;show⟨v,h1,λz=>?_,λz=>?_⟩;change WAt _ _ _ _;rw[yd Z];exact h2 z;obtain⟨a,F,h4,O,Y⟩:=h3 z;have J:a≠p:=λq=>hn i w z e (by rw[h1,F,q]);show⟨a,F,h4,?_,Y⟩;change WAt _ _ _ _;rw[yd Z]
  cases w with
  | d x=>
   cases x with
   | lst l=>obtain⟨U,xs,B,I,g2⟩:=O;rw[F] at B;cases B;exact⟨a,xs,F,by rw[ze J];exact I,g2⟩
   | dct=>obtain⟨U,xs,B,I,g2⟩:=O;rw[F] at B;cases B;exact⟨a,xs,F,by rw[ze J];exact I,g2⟩
   | _=>cases Y
  | pen p=>cases Y
  | dk k=>obtain⟨U,xs,B,I,g2⟩:=O;rw[F] at B;cases B;exact⟨a,xs,F,by rw[ze J];exact I,g2⟩
  | dt k=>obtain⟨U,xs,B,I,g2⟩:=O;rw[F] at B;cases B;exact⟨a,xs,F,by rw[ze J];exact I,g2⟩
  | ss P w k=>obtain⟨U,xs,B,I,g2⟩:=O;rw[F] at B;cases B;exact⟨a,xs,F,by rw[ze J];exact I,g2⟩
  | df k=>obtain⟨U,ob,xs,B,I,g2⟩:=O;rw[F] at B;cases B;exact⟨a,ob,xs,F,by right,g2⟩
  | kf k=>obtain⟨U,ob,xs,B,I,g2⟩:=O;rw[F] at B;cases B;exact⟨a,ob,xs,F,by right,g2⟩
  | ad a x=>cases Y
  | tz kvs x=>cases Y
  | fl k=>obtain⟨U,ob,xs,B,I,g2⟩:=O;rw[F] at B;cases B;exact⟨a,ob,xs,F,by right,g2⟩
 dis:=E.dis
 al:=λa h=>by
  by_cases ha:a=p;subst ha;exact⟨o,zg,np,nt⟩;rw[ze ha];exact E.al a h
def x6.upd{A:AL}{H:Hp}{p:Addr}(h:x6 Pn A n H)(B:A p):x6 Pn A n (L2.upd H p o):=by
 show⟨?_,Pn.J.upd h.2 B⟩;have h:=h.1;split at h;trivial
 ·show⟨?_,h.2⟩;rename_i q c ns _;obtain⟨h1,h2,F⟩:=h;have I:∀r,ns=0::r->c≠p:=λr e z=>h2 r e (z ▸ B);have O:q≠p:=λz=>F (z ▸ B);obtain⟨a,l,U,g2,Y,Z⟩:=h1.ob;exact⟨⟨a,l,by rw[ze O];exact U,g2,Y,Z⟩,h1.ls.upd I,h1.len⟩
end
structure JS (X:Cx)(Pn:PN)(S M:AR)(fr:Bool)(st:Stmt)(fs:Ms):Prop where
 ex:∃ts,QS X st ts/\RS Pn S M fr ts fs
structure JSs (X:Cx)(Pn:PN)(S M:AR)(fr:Bool)(st:List Stmt)(fs:Ms):Prop where
 ex:∃ts,QSs X st ts/\RS Pn S M fr ts fs
section
variable {X:Cx}{Pn:PN}{M S:AR}{fr fr':Bool}{e a b c:Expr}{es:AO}{f fa fb fc:AD}{pos p:Pos}
def x6.grow'(h:x6 Pn A n H)(h':x6 Pn A m H')(I:Fr H q)(g:H' q=some o)(B:NP o)(O:Mt o):x6 Pn (λb=>A b\/b=q) m H':=by
 show⟨?_,Pn.J.grow h'.2 λa z=>z.imp_right λe=>⟨o,by rw[e];exact g,B,O⟩⟩;have h:=h.1;have h':=h'.1;revert h h'
 cases Pn.pn with
 | none=>exact λ_ _=>trivial
 | some x=>
  obtain⟨p,c,ns⟩:=x;intro h h';show⟨h'.1,λr F z=>z.elim (h'.2.1 r F) λz=>?_,λz=>z.elim h'.2.2 λz=>?_⟩;subst z;rcases h.1.ls with ⟨r',e',o,z⟩ | ⟨r',e'⟩;exact I _ z (λ_ e=>by cases e);rw[F] at e';cases e';subst z;obtain⟨a,l,e,_⟩:=h'.1.ob;rw[e] at g;cases g;have:=B _ rfl;rw[zot] at this;cases this
def zsg(h:∀C s H ex,JE (zS X scope N C s H ex) Pn M fr e f):∃te,(∀C s H ex,QE (zS X scope N C s H ex) e te)/\RE Pn M fr te f:=
 ⟨λσ H Q=>∀C s H0 ex,(h C s H0 ex).ex.choose σ H Q,λC s H0 ex=>⟨λpins s' σ H Q I z=>(h C s H0 ex).ex.choose_spec.1.run pins s' σ H Q I (z C s H0 ex)⟩,
  ⟨λA σ H ρ n Q R E P q k C s H0 ex=>(h C s H0 ex).ex.choose_spec.2.run A σ H ρ n Q R E P q k⟩⟩
def zsi(h:∀C s H ex,JTs (zS X scope N C s H ex) Pn M es q):∃te,(∀C s H ex,QTs (zS X scope N C s H ex) es te)/\RT Pn M te q:=
 ⟨λσ H Q=>∀C s H0 ex,(h C s H0 ex).ex.choose σ H Q,λC s H0 ex=>⟨λpins s' σ H Q I z=>(h C s H0 ex).ex.choose_spec.1.run pins s' σ H Q I (z C s H0 ex)⟩,
  ⟨λA σ H ρ n Q R E P B k C s H0 ex=>(h C s H0 ex).ex.choose_spec.2.run A σ H ρ n Q R E P B k⟩⟩
def zsh(h:∀C s H ex,JG (zS X scope N C s H ex) S M e mg):∃g,(∀C s H ex,QG (zS X scope N C s H ex) e g)/\RG S M g mg:=
 ⟨λv σ H Q=>∀C s H0 ex,(h C s H0 ex).ex.choose v σ H Q,λC s H0 ex=>⟨λpins s' σ H v u Q I q z=>(h C s H0 ex).ex.choose_spec.1.run pins s' σ H v u Q I q (z C s H0 ex)⟩,
  ⟨λA σ H ρ v w Q R E B F k C s H0 ex=>(h C s H0 ex).ex.choose_spec.2.run A σ H ρ v w Q R E B F k⟩⟩
def zdb (mg:W->Ev->(Ev->Prop)->Prop)(U:Ev->Mo Bool)(Y:AD)(J:Ev)(Q:AV):AU->Nat->Prop:=λl Z=>l.length<=lim/\∃I:Nat->Ev->Nat->AS->Prop,I 0 J Z []/\
 (∀i w q F acc,l[i]?=some w->I i q F acc->mg w q λB=>U B F λb O=>if b=true then Y B O λx n3=>∃d,x = .d d/\I (i+1) B n3 (acc++[d]) else I (i+1) B O acc)/\
 ∀ q F acc,I l.length q F acc->Q (.d (.lst acc)) F
abbrev znX (q:AC) (mg:W->Ev->(Ev->Prop)->Prop) (B:Ev->Mo Bool) (F:AD) (cix:List (Option Nat)):AD:=λρ n Q=>q ρ n (zdb mg B F (zhP ρ cix) Q)
def zjY(hn:(cix.filterMap id).Nodup)(hi:RI Pn M ow wi fi)(hg:RG (zbr M cix) (zbr M cix) g mg)(ht:RT Pn (zbr M cix) ti ft)(he:RE Pn (zbr M cix) fr' te fe):RE Pn M true (zka wi g ti te cix) (znX fi mg ft fe cix):=⟨λA σ H ρ n Q R E P hf k=>by
 show hi.run A σ H ρ n _ _ E P hf λl m J H1 ⟨hz,I,i0,it,ie⟩ iv g1=>λacc B=>?_;have E1:=E.stay g1.st;have E2:=(E1.cap hn).more (zq.upd (o:=.lst []) B) (Fr.of B) zg NP.lst rfl;have P2:x6 Pn (λb=>A b\/b=acc) m (L2.upd H1 acc (.lst [])):=g1.pn.grow' (g1.pn.same (yL.upd B)) (Fr.of B) zg NP.lst rfl;have a3:∀k w,k∈zbr M cix->(zhP ρ cix)[k]?=some (some w)->(zeh σ cix)[k]?≠some (some (.ref acc)):=λk w hk hw z=>by obtain⟨v,s1,_,s3⟩:=(E1.cap hn).val k w hw;obtain⟨a,e,hA,_⟩:=s3 hk;rw[z] at s1;cases s1;cases e;exact E1.new B hA
 have key:∀ O F H',EnvR (λb=>A b\/b=acc) (zbr M cix) O H' F->(∀k∈zbr M cix,O[k]?=(zeh σ cix)[k]?/\F[k]?=(zhP ρ cix)[k]?)->∀k w,k∈zbr M cix->F[k]?=some (some w)->O[k]?≠some (some (.ref acc)):=λO F H' E' ap k w hk hw z=>by right
 show⟨λi mm O H'=>mm=l.length - i/\i<=l.length/\∃ F n' q xs,EnvR (λb=>A b\/b=acc) (zbr M cix) O H' F/\x6 Pn (λb=>A b\/b=acc) n' H'/\I i F n' q/\H' acc=some (.lst xs)/\IsL (zV (λb=>A b\/b=acc) H') q xs/\q.length<=i/\zq (zV A H1) (zV (λb=>A b\/b=acc) H')/\zq H1 H'/\(∀k∈zbr M cix,O[k]?=(zeh σ cix)[k]?/\F[k]?=(zhP ρ cix)[k]?),
  ⟨l.length,by simp,aK _,_,m,[],[],E2,P2,i0,zg,rfl,ai _,xA (zq.upd B) (Fr.of B),zq.upd B,λk hk=>⟨rfl,rfl⟩⟩,?_⟩
 rintro i mm O H' ⟨rfl,a4,F,n',q,xs,E',P',hI,ad,Y,a5,st,s1,ap⟩;by_cases a0:i<l.length
 show Or.inr ?_;have an:l[i]?=some l[i]:=aw a0;obtain⟨go,yl⟩:=iv.one i l[i] _ H' an st (λ_=>s1) λp hp=>E'.new hp
 show⟨go,λas H2=>∃ F n' q xs,EnvR (λb=>A b\/b=acc) (zbr M cix) as H2 F/\x6 Pn (λb=>A b\/b=acc) n' H2/\I (i+1) F n' q/\H2 acc=some (.lst xs)/\IsL (zV (λb=>A b\/b=acc) H2) q xs/\q.length<=i+1/\zq (zV A H1) (zV (λb=>A b\/b=acc) H2)/\zq H1 H2/\(∀k∈zbr M cix,as[k]?=(zeh σ cix)[k]?/\F[k]?=(zhP ρ cix)[k]?),
  λas H2 h=>⟨l.length - (i+1),by lia,rfl,a0,h⟩,λx H2 hy=>?_⟩
 obtain⟨S2,V2⟩:=yl x H2 hy;show hg.run _ O H2 F x l[i] _ _ (E'.stay (zq.same S2)) V2 (it i l[i] F n' q an hI) λag U r3 E3 f3=>?_;have Z:∀k∈zbr M cix,ag[k]?=(zeh σ cix)[k]?/\U[k]?=(zhP ρ cix)[k]?:=λk hk=>⟨(f3 k hk).1.trans (ap k hk).1,(f3 k hk).2.trans (ap k hk).2⟩;show ht.run _ ag H2 U n' _ _ E3 (P'.same S2) r3 λb m3 H4 r4 g4=>?_;have ac:=(zq.same S2).trans g4.st
 cases b with
 | false=>
  rw[if_neg (by ext)] at r4 ⊢;exact⟨U,m3,q,xs,E3.stay g4.st,g4.pn,r4,ac.lst ad,Y.stay (yq ac),by lia,st.trans (yq ac),s1.trans ac,Z⟩
 | true=>
  rw[if_pos rfl] at r4 ⊢;show he.run _ ag H4 U m3 _ _ (E3.stay g4.st) g4.pn r4  ?_;rintro w5 m5 v5 H5 ⟨d,e5,r5⟩ V5 g5 _;subst e5;have al:=ac.trans g5.st;have E5:=(E3.stay g4.st).stay g5.st;have a1:=al.lst ad;show⟨xs,a1,zgw (by rw[Y.length];lia),U,m5,q++[d],xs++[v5],E5.upd (.inr rfl) (key ag U H5 E5 Z) NP.lst rfl,g5.pn.upd (.inr rfl),r5,zg,?_,by right,?_,?_,Z⟩;rw[yd (.inr rfl)];exact (Y.stay (yq al)).append (IsL.one V5.is);rw[yd (.inr rfl)];exact st.trans (yq al);exact λb o e nn=>by rw[ze (zb e B)];exact s1.trans al b o e nn
 show Or.inl ?_;have a2:i=l.length:=by lia
 subst a2;show⟨iv.stop _ H' st (λ_=>s1),k _ n' _ H' (ie F n' q hI) (Val.of ⟨acc,xs,rfl,zm (E1.new B) ad,Y.stay (zq.same (yU λb z=>.inl z))⟩) (g1.trans ⟨s1,P'.less λa z=>.inl z⟩) λ_=>⟨acc,rfl,(Fr.of B).back g1.st,acc,xs,rfl,ad,Y⟩⟩⟩
abbrev zsF:Ev->Mo Bool:=λ_ n Q=>Q true n
def xQ:JTs X Pn M [] zsF:=⟨_,zoX,⟨λA σ H ρ n Q R E P q k=>k true n H q (Go.refl P)⟩⟩
def zbK(h:JT X Pn M c q):JTs X Pn M [c] q:=let ⟨t,h1,h2⟩:=h.ex;⟨t,zjT h1,h2⟩
def uh(J:X.calm=true)(O:CompOk X scope N cix)(hi:JI X Pn M I tg iter q)(U:∀C s H ex,JG (zS X scope N C s H ex) (zbr M cix) (zbr M cix) tg mg)(Y:∀C s H ex,JTs (zS X scope N C s H ex) Pn (zbr M cix) ifs B)(Z:∀C s H ex,JE (zS X scope N C s H ex) Pn (zbr M cix) fr' elt F)(hn:(cix.filterMap id).Nodup:=by ext)(hs:∀x,foldedSetIterable iter X.env x=pure x:=by intro _;rfl):JE X Pn M true (.ListComp elt [⟨tg,iter,ifs,0⟩] scope pos) (znX q mg B F cix):=by
 obtain⟨ti,qi,ri⟩:=hi.ex;obtain⟨g,qg,rg⟩:=zsh U;obtain⟨tt,qt,rt⟩:=zsi Y;obtain⟨te,qe,re⟩:=zsg Z;exact⟨_,zlI J O qi qg qt qe hs,zjY hn ri rg rt re⟩
def zdn{ifs:AO}{scope:Scope}{N:AM}{cix:List (Option Nat)}{O:AC}{mg:W->Ev->(Ev->Prop)->Prop}{U:Ev->Mo Bool}{Y:AD}{nx:Str}{px spos:Pos}(q:X.N.Nodup)(B:X.N[ix]?=some nx)(F:X.env.scope.names.lookup nx=some .local)(hc:X.calm=true)(cc:CompOk X scope N cix)(hi:JI X Pn M Z tg iter O)(hg:∀C s H ex,JG (zS X scope N C s H ex) (zbr M cix) (zbr M cix) tg mg)(ht:∀C s H ex,JTs (zS X scope N C s H ex) Pn (zbr M cix) ifs U)(he:∀C s H ex,JE (zS X scope N C s H ex) Pn (zbr M cix) fr' elt Y)(hn:(cix.filterMap id).Nodup:=by ext)(I:swapsWithSole [.Name nx px] (.ListComp elt [⟨tg,iter,ifs,0⟩] scope pos) spos.line X.env=pure true:=by rfl)(hs:∀x,foldedSetIterable iter X.env x=pure x:=by intro _;rfl)(J:(assignEach [.Name nx px] X.env).map (·.2)=[assign (.Name nx px) X.env]:=by rfl):∃te,QS X (.Assign [.Name nx px] (.ListComp elt [⟨tg,iter,ifs,0⟩] scope pos) spos) (zhR te (zbg ix))/\RE Pn M true te (znX O mg U Y cix):=by
 obtain⟨ti,qi,ri⟩:=hi.ex;obtain⟨g,qg,rg⟩:=zsh hg;obtain⟨tt,qt,rt⟩:=zsi ht;obtain⟨te,qe,re⟩:=zsg he;exact⟨_,zoW q B F hc cc qi qg qt qe I hs J,zjY hn ri rg rt re⟩
def At3.step(h:At3 Pn B S M A σ H ρ n)(g:Go Pn A H m H'):At3 Pn B S M A σ H' ρ m where
 env:=h.env.stay g.st
 frm:=⟨h.frm.sub,h.frm.new,λb o e n c=>g.st b o (h.frm.st b o e n c) n,h.frm.al,h.frm.cn,λa z=>let ⟨o,e,n⟩:=h.frm.cs a z;⟨o,g.st a o e n,n⟩⟩
 pn:=g.pn
 prot:=h.prot.trans (yq g.st)
 fix:=h.fix
 mine:=h.mine
abbrev mRet (f:AD):Ms:=λρ n k=>f ρ n k.rt
def zrK(h:RE Pn M fr te f):RS Pn S M fr (zr2 te) (mRet f):=⟨λB A σ H ρ n k D a F I=>by
 show h.run A σ H ρ n _ _ a.env a.pn I λw m v H' r J g O=>?_;have U:=a.step g;exact F.rt w m v H' (WAt.up (zq.same (yU a.frm.sub)) (zq.same (yU a.frm.sub)) J) U.frm.st (g.pn.less a.frm.sub) (λz=>by obtain⟨b,e,q,Y⟩:=O z;exact FrV.less ⟨b,e,a.frm.back q (a.env.newF q),Y⟩ a.frm.sub) r⟩
def zX (h:JE X Pn M fr e f):JS X Pn S M fr (.Return (some e) pos) (mRet f):=let ⟨te,q,r⟩:=h.ex;⟨_,uA q,zrK r⟩
def zn5 (i:Nat):Ms:=λρ n k=>∃w,ρ[i]?=some (some w)/\k.rt w n
def zo9(hi:i∈M):RS Pn S M fr (zr2 (zaL i)) (zn5 i):=⟨by
 rintro B A σ H ρ n k D a kk ⟨w,e,r⟩;obtain⟨v,s1,_,s3⟩:=a.env.val i w e;obtain⟨ad,rfl,hA,J,Z⟩:=s3 hi;have Y:=a.mine i w ad hi e s1
 have hn:¬ B.A0 ad:=λz=>by
  rcases Y with Y | Y;obtain⟨o,o1,o2,_⟩:=a.frm.al ad z;exact Y o o1 o2;exact a.frm.cn ad Y z
 have q:yL (zV A H) (zV B.A0 H):=yU a.frm.sub;have O:yL (zV A H) (zV (λb=>B.A0 b\/b=ad) H):=yU λb z=>z.elim (a.frm.sub b) λz=>z ▸ hA;show⟨.ref ad,s1,kk.rt w n (.ref ad) H ?_ a.frm.st (a.pn.less a.frm.sub) (λz=>⟨ad,rfl,Y.resolve_right (kk.fc ad),WAt.up (zq.refl _) (zq.same O) J⟩) r⟩
 cases w with
 | d x=>
  cases x with
  | lst l=>obtain⟨U,xs,F,I,g2⟩:=J;cases F;exact⟨ad,xs,rfl,zm hn I,g2.stay (zq.same q)⟩
  | dct=>obtain⟨U,xs,F,I,g2⟩:=J;cases F;exact⟨ad,xs,rfl,zm hn I,g2⟩
  | _=>cases Z
 | pen p=>cases Z
 | dk kvs=>obtain⟨U,xs,F,I,g2,g3⟩:=J;cases F;exact⟨ad,xs,rfl,zm hn I,g2.stay (zq.same q),g3⟩
 | dt kvs=>obtain⟨U,xs,F,I,g2⟩:=J;cases F;exact⟨ad,xs,rfl,zm hn I,g2.stay (zq.same q)⟩
 | ss P w kvs=>obtain⟨U,xs,F,I,g2⟩:=J;cases F;exact⟨ad,xs,rfl,zm hn I,g2.stay (zq.same q)⟩
 | kf kvs=>obtain⟨U,ob,xs,F,I,g2⟩:=J;cases F;exact⟨ad,ob,xs,rfl,zm hn I,g2.stay (zq.same q)⟩
 | ad a x=>cases Z
 | tz kvs x=>cases Z
 | fl kvs=>obtain⟨U,ob,xs,F,I,g2⟩:=J;cases F;exact⟨ad,ob,xs,rfl,zm hn I,g2.stay (zq.same q)⟩
 | df kvs=>obtain⟨U,ob,xs,F,I,g2⟩:=J;cases F;exact⟨ad,ob,xs,rfl,zm hn I,g2.stay (zq.same q)⟩⟩
def ziS (i:Nat){x:Str}(hi:i∈M:=by ext)(B:X.N[i]?=some x:=by rfl)(F:Vis X.env.scope x:=by walk_at "v")(I:Ah x:=by ext)
  (q:(x==("__classdict__" : Str))=false:=by ext) {pos':Pos}:JS X Pn S M fr (.Return (some (.Name x pos)) pos') (zn5 i):=⟨_,uA (qv i B F I q),zo9 hi⟩
abbrev zpK (f:AD) (mg:W->Ev->(Ev->Prop)->Prop):Ms:=λρ n k=>f ρ n λw m=>mg w ρ λq=>k.nx q m
def EnvR.mineG(a:At3 Pn B S M A σ H ρ n)(E:EnvR A M q H F)(f:∀i∈S++M,q[i]?=σ[i]?/\F[i]?=ρ[i]?):At3 Pn B S M A q H F n where
 env:=E
 frm:=a.frm
 pn:=a.pn
 prot:=a.prot
 fix:=⟨λi hi=>(f i (au.mpr (.inl hi))).1.trans (a.fix.1 i hi),a.fix.2⟩
 mine:=λi w I hi e s=>by obtain⟨J,O⟩:=f i (au.mpr (.inr hi));rw[J] at s;rw[O] at e;exact a.mine i w I hi e s
def zmV(h:RE Pn M fr' te f)(J:RG (S++M) M g mg):RS Pn S M fr (zhR te g) (zpK f mg):=⟨λB A σ H ρ n k D a O U=>by show h.run A σ H ρ n _ _ a.env a.pn U λw m v H' r Y g' _=>?_;have I:=a.step g';exact J.run A σ H' ρ v w _ _ I.env Y r λq F Z E2 f2=>O.nx A q H' F m (EnvR.mineG I E2 f2) Z⟩
def zD {i:Nat}{x:Str}{pos':Pos}(I:X.N.Nodup)(J:JE X Pn M fr' e f)(hi:X.N[i]?=some x:=by rfl)(O:Loc X.env.scope x:=by first | exact Or.inl rfl | exact Or.inr rfl)(B:i∉M:=by ext)(F:i∉S++M:=by ext)(hs:swapsWith e (some (.Name x pos')) pos.line X.env=pure false:=by rfl)(U:X.fn x=true\/X.env.scope.names.lookup x=some .local:=by walk_at "l") :
  JS X Pn S M fr (.Assign [.Name x pos'] e pos) (zpK f (gN i)):=let ⟨te,q,r⟩:=J.ex;⟨_,uB I hi O q hs U,zmV r (zdO B F)⟩
def znQ{st:Stmt}(h:∃te,QS X st (zhR te (zbg i))/\RE Pn M true te f)(B:i∉M:=by ext)(F:i∉S++M:=by ext):JS X Pn S M fr st (zpK f (gN i)):=let ⟨te,q,r⟩:=h;⟨_,q,zmV r (zdO B F)⟩
def zqD (i:Nat)(f:AD):Ms:=λρ n k=>f ρ n λw m=>w.mut=true/\k.nx (ρ.set i (some w)) m
def zn8(h:WAt T G w v)(hm:w.mut=true):∃a o,v = .ref a/\T a=some o/\NP o/\Mt o:=by
 cases w with
 | d x=>
  cases x with
  | lst l=>obtain⟨a,xs,e,g1,_⟩:=h;exact⟨a,_,e,g1,NP.lst,rfl⟩
  | dct=>obtain⟨a,xs,e,g1,g2⟩:=h;exact⟨a,_,e,g1,λk z=>by cases z;exact g2,rfl⟩
  | _=>cases hm
 | pen p=>cases hm
 | dk kvs=>obtain⟨a,xs,e,g1,_,g3⟩:=h;exact⟨a,_,e,g1,λk z=>by cases z;exact g3,rfl⟩
 | dt kvs=>obtain⟨a,xs,e,g1,_⟩:=h;exact⟨a,_,e,g1,(λk z=>by cases z),rfl⟩
 | ss P w kvs=>obtain⟨a,xs,e,g1,_⟩:=h;exact⟨a,_,e,g1,zgC,rfl⟩
 | df kvs=>cases hm
 | kf kvs=>cases hm
 | ad a x=>cases hm
 | tz kvs x=>cases hm
 | fl kvs=>cases hm
def zmW(h:RE Pn M true te f)(hi:i∈M)(hs:i∉S):RS Pn S M fr (zhR te (zbg i)) (zqD i f):=⟨λB A σ H ρ n k D a kk hf=>by
 show h.run A σ H ρ n _ _ a.env a.pn hf  ?_;rintro w m v H' ⟨hm,r⟩ hv g' ag;obtain⟨Z,rfl,U,hb⟩:=ag rfl;obtain⟨a2,o,Y,ho,np,nt⟩:=zn8 hb hm;cases Y;have E1:=a.env.more g'.st U ho np nt;have ac:¬ A Z:=a.env.newF U;show kk.nx (λb=>A b\/b=Z) _ H' _ m ⟨⟨?_,?_,?_,E1.al⟩,⟨λb z=>.inl (a.frm.sub b z),λb z=>?_,λb o e n c=>g'.st b o (a.frm.st b o e n c) n,a.frm.al,a.frm.cn,λb z=>let ⟨o,e,n⟩:=a.frm.cs b z;⟨o,g'.st b o e n,n⟩⟩,a.pn.grow' g'.pn U ho np nt,a.prot.trans (xA g'.st U),⟨λj I=>?_,a.fix.2⟩,λj u b I e s=>?_⟩ r;rw[bM,bM];exact a.env.len;intro j u e;by_cases I:j=i;subst I
 have J:j<ρ.length:=by
  have:=(ah.mp e).1;right
 rw[aR J] at e;cases e;exact⟨.ref Z,aR (by rw[a.env.len];exact J),λz=>absurd hi z,λ_=>⟨Z,rfl,.inr rfl,hb,hm⟩⟩;rw[ax (Ne.symm I)] at e ⊢;exact E1.val j u e;intro j l u u' b I J O e1 Y s1 s2
 have an:∀q u,q∈M->q≠i->ρ[q]?=some (some u)->σ[q]?≠some (some (.ref Z)):=λq u hq a0 eq sq=>by
  obtain⟨v,s,_,s3⟩:=a.env.val q u eq;obtain⟨c,ec,hc,_⟩:=s3 hq;right
 have ap:∀q (u:W),(ρ.set i (some w))[q]?=some (some u)->q<σ.length:=λq u e=>by have:=(ah.mp e).1;rw[bM] at this;rw[a.env.len];exact this
 by_cases F:j=i;subst F;rw[aR (ap _ _ e1)] at s1;cases s1;rw[ax O] at Y s2;exact an l u' J (Ne.symm O) Y s2;rw[ax (Ne.symm F)] at e1 s1;by_cases as:l=i;right;rw[ax (Ne.symm as)] at Y s2;exact a.env.dis j l u u' b I J O e1 Y s1 s2;rcases z with z | z;exact a.frm.new b z;subst z;exact .inr (.inl (a.frm.back U ac));rw[ax λ(z:i=j)=>hs (by rw[z];exact I)];exact a.fix.1 j I;by_cases F:j=i;subst F
 have J:j<σ.length:=by
  have:=(ah.mp s).1;right
 rw[aR J] at s;cases s;exact .inl (a.frm.back U ac);rw[ax (Ne.symm F)] at e s;exact a.mine j u b I e s⟩
def xC {i:Nat}{x:Str}{pos':Pos}(I:X.N.Nodup)(J:JE X Pn M true e f)(hi:X.N[i]?=some x:=by rfl)(O:Loc X.env.scope x:=by first | exact Or.inl rfl | exact Or.inr rfl)(B:i∈M:=by ext)(F:i∉S:=by ext)(hs:swapsWith e (some (.Name x pos')) pos.line X.env=pure false:=by rfl)(U:X.fn x=true\/X.env.scope.names.lookup x=some .local:=by walk_at "l") :
  JS X Pn S M fr (.Assign [.Name x pos'] e pos) (zqD i f):=let ⟨te,q,r⟩:=J.ex;⟨_,uB I hi O q hs U,zmW r B F⟩
def ziR{st:Stmt}(h:∃te,QS X st (zhR te (zbg i))/\RE Pn M true te f)(B:i∈M:=by ext)(F:i∉S:=by ext):JS X Pn S M fr st (zqD i f):=let ⟨te,q,r⟩:=h;⟨_,q,zmW r B F⟩
variable {st:Stmt}{sts:List Stmt}{fs gs:Ms}
abbrev mNx:Ms:=λρ n k=>k.nx ρ n
structure blk (g:Ms)(ρ:Ev)(n:Nat)(k:Kt):Prop where
 go:g ρ n k
def zpT(h:g ρ n k):blk g ρ n k:=⟨h⟩
def zpS:blk g ρ n k=g ρ n k:=propext ⟨λh=>h.go,λh=>⟨h⟩⟩
abbrev mSeq (f g:Ms):Ms:=λρ n k=>f ρ n { k with nx:=λq B=>blk g q B k }
def ztC (t:Ev->Mo Bool)(f g:Ms):Ms:=λρ n k=>t ρ n λc m=>if c=true then blk f ρ m k else blk g ρ m k
def zG:JSs X Pn S M fr [] mNx:=⟨_,zb3,⟨λB A σ H ρ n k D a q F=>q.nx A σ H ρ n a F⟩⟩
def zrL(h1:RS Pn S M fr t fs)(h2:RS Pn S M fr u gs):RS Pn S M fr (zpp t u) (mSeq fs gs):=⟨λB A σ H ρ n k D a F O=>
 h1.run B A σ H ρ n { k with nx:=λq I=>blk gs q I k } _ a ⟨λA' J H' q I U r=>h2.run B A' J H' q I k D U F r.go,F.bk,F.ct,F.fc,F.rt⟩ O⟩
def zc (h1:JS X Pn S M fr st fs)(h2:JSs X Pn S M fr sts gs):JSs X Pn S M fr (st::sts) (mSeq fs gs):=let ⟨t,q,r⟩:=h1.ex;let ⟨u,q2,r2⟩:=h2.ex;⟨_,z8 q q2,zrL r r2⟩
def zi (h1:JS X Pn S M fr st fs):JSs X Pn S M fr [st] fs:=let ⟨t,q,r⟩:=h1.ex;⟨_,yY q,r⟩
def yH(I:JT X Pn M c t)(J:JSs X Pn S M fr body fs)(O:JSs X Pn S M fr q gs):JS X Pn S M fr (.If c body q pos) (ztC t fs gs):=by
 obtain⟨tc,U,Y⟩:=I.ex;obtain⟨ta,Z,ra⟩:=J.ex;obtain⟨tb,qb,rb⟩:=O.ex;show⟨_,zjR U Z qb,⟨λB A σ H ρ n k D a F hf=>?_⟩⟩;show Y.run A σ H ρ n _ _ a.env a.pn hf λc m H1 r g=>?_
 cases c with
 | true=>rw[if_pos rfl] at r ⊢;exact ra.run B A σ H1 ρ m k D (a.step g) F r.go
 | false=>rw[if_neg (by ext)] at r ⊢;exact rb.run B A σ H1 ρ m k D (a.step g) F r.go
abbrev mDrop (f:AD):Ms:=λρ n k=>f ρ n λ_ m=>k.nx ρ m
def At3.wr(h:At3 Pn B S M A σ H ρ n)(hi:i∈M)(e:ρ[i]?=some (some w))(s:σ[i]?=some (some (.ref ad)))(hl:IsL (zV A H) l xs):At3 Pn B S M A σ (L2.upd H ad (.lst xs)) (ρ.set i (some (.d (.lst l)))) n:=by
 obtain⟨v,s1,_,s3⟩:=h.env.val i w e;rw[s] at s1;cases s1;obtain⟨Y,F,hA,_,_⟩:=s3 hi;cases F;have ac:i<ρ.length:=(ah.mp e).1
 have hE:EnvR A M σ (L2.upd H ad (.lst xs)) (ρ.set i (some (.d (.lst l)))):=by
  show⟨by rw[bM];exact h.env.len,λj u Z=>?_,λj q u u' b hj hq I e1 F=>?_,λb hb=>?_⟩;by_cases hj:j=i;subst hj;rw[aR ac] at Z;cases Z;exact⟨.ref ad,s,λz=>absurd hi z,λ_=>⟨ad,rfl,hA,⟨ad,xs,rfl,zg,by rw[yd hA];exact hl⟩,rfl⟩⟩;rw[ax (Ne.symm hj)] at Z;obtain⟨v,t1,t2,t3⟩:=h.env.val j u Z;show⟨v,t1,λz=>?_,λz=>?_⟩;change WAt _ _ _ _;rw[yd hA];exact t2 z;obtain⟨b,rfl,hb,J,hm⟩:=t3 z;have I:b≠ad:=λq=>h.env.dis i j w u ad hi z (Ne.symm hj) e Z s (by rw[t1,q]);show⟨b,rfl,hb,?_,hm⟩;change WAt _ _ _ _;rw[yd hA]
  cases u with
  | d x=>
   cases x with
   | lst l=>obtain⟨Y,xs,F,O,g2⟩:=J;cases F;exact⟨b,xs,rfl,by rw[ze I];exact O,g2⟩
   | dct=>obtain⟨Y,xs,F,O,g2⟩:=J;cases F;exact⟨b,xs,rfl,by rw[ze I];exact O,g2⟩
   | _=>cases hm
  | pen p=>cases hm
  | dk k=>obtain⟨Y,xs,F,O,g2⟩:=J;cases F;exact⟨b,xs,rfl,by rw[ze I];exact O,g2⟩
  | dt k=>obtain⟨Y,xs,F,O,g2⟩:=J;cases F;exact⟨b,xs,rfl,by rw[ze I];exact O,g2⟩
  | ss P w k=>obtain⟨Y,xs,F,O,g2⟩:=J;cases F;exact⟨b,xs,rfl,by rw[ze I];exact O,g2⟩
  | df k=>obtain⟨Y,ob,xs,F,O,g2⟩:=J;cases F;exact⟨b,ob,xs,rfl,by right,g2⟩
  | kf k=>obtain⟨Y,ob,xs,F,O,g2⟩:=J;cases F;exact⟨b,ob,xs,rfl,by right,g2⟩
  | ad a x=>cases hm
  | tz kvs x=>cases hm
  | fl k=>obtain⟨Y,ob,xs,F,O,g2⟩:=J;cases F;exact⟨b,ob,xs,rfl,by right,g2⟩
  have ag:∀q (u:W),(ρ.set i (some (.d (.lst l))))[q]?=some (some u)->∃u',ρ[q]?=some (some u'):=λq u z=>by
   by_cases hq:q=i;subst hq;exact⟨w,e⟩;rw[ax (Ne.symm hq)] at z;exact⟨u,z⟩
  obtain⟨v1,f1⟩:=ag j u e1;obtain⟨v2,f2⟩:=ag q u' F;exact h.env.dis j q v1 v2 b hj hq I f1 f2;by_cases U:b=ad;subst U;exact⟨_,zg,NP.lst,rfl⟩;rw[ze U];exact h.env.al b hb
 show⟨hE,⟨h.frm.sub,h.frm.new,λb o eb nn nc=>?_,h.frm.al,h.frm.cn,λb z=>(by
  by_cases U:b=ad;subst U;exact⟨_,zg,NP.lst⟩;rw[ze U];exact h.frm.cs b z)⟩,h.pn.upd hA,by rw[yd hA];exact h.prot,h.fix,λj u b hj Z sj=>?_⟩
 have I:b≠ad:=λq=>by
  subst q;rcases h.mine i w b hi e s with z | z;exact z o eb nn;exact nc z
 rw[ze I];exact h.frm.st b o eb nn nc;by_cases an:j=i;subst an;exact h.mine j w b hj e sj;rw[ax (Ne.symm an)] at Z;exact h.mine j u b hj Z sj
def zsA (i:Nat)(f:AD):Ms:=λρ n k=>(∃l,ρ[i]?=some (some (.d (.lst l))))/\f ρ n λw m=>∃l d,ρ[i]?=some (some (.d (.lst l)))/\w = .d d/\l.length<lim/\k.nx (ρ.set i (some (.d (.lst (l++[d]))))) m
def zrI(h:RE Pn M fr' te f)(hi:i∈M):RS Pn S M fr (zpl (tBM K "list" zfM (zaL i) (zbo te zpo))) (zsA i f):=⟨by
 rintro B A σ H ρ n k D a Y ⟨⟨l0,Z⟩,hf⟩;obtain⟨v,q,_,s3⟩:=a.env.val i _ Z;obtain⟨I,rfl,hA,hb,_⟩:=s3 hi;obtain⟨a2,ac,e2,g0,_⟩:=hb;cases e2;show⟨.ref I,q,.inl ⟨rfl,_,SqL.of g0⟩,?_⟩;show h.run A σ H ρ n _ _ a.env a.pn hf  ?_;rintro w m v H' ⟨l,d,e,ed,hz,r⟩ hv g _;subst ed;have J:=a.step g;obtain⟨v2,O,_,t3⟩:=J.env.val i _ e;rw[q] at O;cases O;obtain⟨a3,e3,ag,F,_⟩:=t3 hi;cases e3;obtain⟨a4,xs,e4,g4,U⟩:=F;cases e4;exact⟨I,xs,v,rfl,rfl,g4,zgw (by rw[U.length];exact cD hz),Y.nx A σ _ _ m (J.wr hi e q (U.append (IsL.one hv.is))) r⟩⟩
def zgs (i:Nat){x:Str}{Z J sp O:Pos}(he:JE X Pn M fr' e f)(hi:i∈M:=by ext)(hN:X.N[i]?=some x:=by rfl)(hv:Vis X.env.scope x:=by walk_at "v")(hd:Ah x:=by ext)
  (ac:(x==("__classdict__" : Str))=false:=by ext) (U:starEach (e::[]) X.env=(false,eval e X.env)::starEach [] X.env:=by rfl) (hs:swapsWith (.Call (.Attribute (.Name x O) "append" Z) [e] [] J) none sp.line X.env=pure false:=by rfl) (F:attributeBase (.Name x O) "append" X.env (eval (.Name x O) X.env)=eval (.Name x O) X.env:=by rfl) (I:(Z.endLine==J.line)=true:=by rfl)
  (Y:((backTo J (starEach [e] X.env)).all (λx=>!x.1)&&(backToKw J (keywordEach [] X.env)).all (λx=>x.1.isSome)&&decide (([e]:AO).length+([]:List Keyword).length+(if ([]:List Keyword).isEmpty then 0 else 1)<30))=true:=by rfl) (B:(backTo J (starEach [] X.env)).any (·.1)=false:=by rfl) :
  JS X Pn S M fr (.Expr (.Call (.Attribute (.Name x O) "append" Z) [e] [] J) sp) (zsA i f):=by
 obtain⟨te,q,r⟩:=he.ex;exact⟨_,zdN (zrp (qv i hN hv hd ac) (zz q yw U) F Y I U B) hs,zrI r hi⟩
def znw (mg:W->Ev->(Ev->Prop)->Prop)(fb:Ms)(ρ:Ev)(k:Kt):AU->Nat->Prop:=λl J=>∃I:Nat->Ev->Nat->Prop,I 0 ρ J/\
 (∀i w q B,l[i]?=some w->I i q B->mg w q λF=>fb F B { k with nx:=I (i+1),ct:=I (i+1),bk:=k.nx })/\∀ q B,I l.length q B->k.nx q B
abbrev mFor (q:AC) (mg:W->Ev->(Ev->Prop)->Prop) (fb:Ms):Ms:=λρ n k=>q ρ n (znw mg fb ρ k)
def zgh{B:Bs}{A:AL}{σ:St}{H1:Hp}{ρ:Ev}{k:Kt}{D:Ends}{J:It}{l:AU}{g:TG}{tb:TS}{mg:W->Ev->(Ev->Prop)->Prop}{fb:Ms}(hg:RG (S++M) M g mg)(hb:RS Pn S M fr tb fb)(hS:9999∉S)(a1:At3 Pn B S M A σ H1 ρ m)(kk:KOk Pn B S M fr k D)(iv:ItV false A H1 J l)(hf:znw mg fb ρ k l m) :
  ∃W:Nat->Nat->St->Hp->Prop,(∃m,W 0 m σ H1)/\∀i m σ H,W i m σ H->(J.stop i H/\D.nx σ H)\/(J.go i H/\∃N:St->Hp->Prop,(∀ O H',N O H'->∃m',m'<m/\W (i+1) m' O H')/\∀x H',J.yld i H x H'->g x σ H' λZ H2=>tb { D with nx:=N,ct:=N,bk:=D.nx } Z H2):=by
 obtain⟨I,i0,it,ie⟩:=hf;have out:∀ {A':AL} {O:St} {H':Hp} {F:Ev} {U:Nat},At3 Pn { B with G0:=zV A H1 } S M A' O H' F U->At3 Pn B S M A' O H' F U:=λ{A' O H' F U} q=>⟨q.env,q.frm,q.pn,a1.prot.trans q.prot,⟨q.fix.1,a1.fix.2⟩,q.mine⟩;show⟨λi mm O H'=>mm=l.length - i/\i<=l.length/\∃A' F U,At3 Pn { B with G0:=zV A H1 } S M A' O H' F U/\I i F U,⟨l.length,by simp,aK _,A,ρ,m,⟨a1.env,a1.frm,a1.pn,zq.refl _,⟨a1.fix.1,λz=>absurd z hS⟩,a1.mine⟩,i0⟩,?_⟩;rintro i mm O H' ⟨rfl,as,A',F,U,a',hI⟩;by_cases ag:i<l.length
 show Or.inr ?_;have ac:l[i]?=some l[i]:=aw ag;obtain⟨go,yl⟩:=iv.one i l[i] A' H' ac a'.prot (λz=>by cases z) λp hp=>a'.env.new hp;show⟨go,λZ H2=>∃A' F U,At3 Pn { B with G0:=zV A H1 } S M A' Z H2 F U/\I (i+1) F U,λZ H2 h=>⟨l.length - (i+1),by lia,rfl,ag,h⟩,λx H2 hy=>?_⟩;obtain⟨S2,V2⟩:=yl x H2 hy;have a2:=a'.step (Go.same a'.pn S2);show hg.run A' O H2 F x l[i] _ _ a2.env V2 (it i l[i] F U ac hI) λal an r3 E3 f3=>?_;show hb.run { B with G0:=zV A H1 } A' al H2 an U _ _ (EnvR.mineG a2 E3 f3) ⟨?_,?_,?_,kk.fc,?_⟩ r3
 exact λA4 ad H4 Y n4 a4 r4=>⟨A4,Y,n4,a4,r4⟩;exact λA4 ad H4 Y n4 a4 r4=>kk.nx A4 ad H4 Y n4 (out a4) r4;exact λA4 ad H4 Y n4 a4 r4=>⟨A4,Y,n4,a4,r4⟩;exact kk.rt;show Or.inl ?_;have ap:i=l.length:=by lia
 subst ap;exact⟨iv.stop A' H' a'.prot (λz=>by cases z),kk.nx A' O H' F U (out a') (ie F U hI)⟩
def zrJ {wi:TI}{g:TG}{tb:TS}{q:AC}{mg:W->Ev->(Ev->Prop)->Prop}{fb:Ms}(hi:RI Pn M false wi q)(F:RG (S++M) M g mg)(I:RS Pn S M fr tb fb)(O:9999∉S):RS Pn S M fr (zul wi g tb) (mFor q mg fb):=⟨λB A σ H ρ n k D a U Y=>hi.run A σ H ρ n _ _ a.env a.pn Y λl m J H1 Z iv g1=>zgh F I O (a.step g1) U iv Z⟩
def xB {tg iter:Expr}{body:List Stmt}{q:AC}{mg:W->Ev->(Ev->Prop)->Prop}{fb:Ms}(B:PassesOwn (model X.prog X.w) X.A X.env X.xe)(F:X.calm=true)(hi:JI X Pn M false tg iter q)(I:JG X (S++M) M tg mg)(J:JSs X Pn S M fr body fb)(hs:∀x,foldedSetIterable iter X.env x=pure x:=by intro _;rfl)(O:9999∉S:=by ext) :
  JS X Pn S M fr (.For tg iter body [] pos) (mFor q mg fb):=by
 obtain⟨ti,U,Y⟩:=hi.ex;obtain⟨Z,qg,rg⟩:=I.ex;obtain⟨tb,qb,rb⟩:=J.ex;exact⟨_,zjQ B F U qg qb hs,zrJ Y rg rb O⟩
def zaF (N:AM)(q:AU):Ev:=q.map some++List.replicate (N.length - q.length) none
def zai.get:∀ {q:AU} {vs:AT} {i:Nat} {w:W},zai A H q vs->q[i]?=some w->∃v,vs[i]?=some v/\Val A H w v
 | [],_,_,_,_,e=>by simp at e
 | x::q,vs,0,w,⟨v,r,B,h1,_⟩,e=>by right
 | x::q,vs,i+1,w,⟨v,r,B,_,h2⟩,e=>by
  subst B;obtain⟨u,F,I⟩:=zai.get (i:=i) h2 (by simpa using e);right
def zio {A:AL}{H:Hp}{N:AM}{ws:AU}{vs:AT}(al:Al A H)(h:zai A H ws vs)(hM:∀i∈M,ws.length<=i):EnvR A M (L2.y6 N vs) H (zaF N ws) where
 len:=by unfold L2.y6 zaF;rw[ak,ak,ab,ab,List.length_replicate,List.length_replicate,h.len]
 val:=λi w e=>by
  unfold zaF at e
  have hi:i<ws.length:=by
   apply bU;intro z;rw[bi (by right)] at e;obtain⟨_,q⟩:=ah.mp e;right
  rw[bw (by right),aL] at e;obtain⟨w',e1,e2⟩:=aI.mp e;cases e2;obtain⟨v,h1,h2⟩:=h.get e1;show⟨v,?_,λ_=>h2,λz=>absurd (hM i z) (by lia)⟩;unfold L2.y6;have hi':i<vs.length:=by rw[h.len];exact hi
  rw[bw (by right),aL,h1];rfl
 dis:=λi j w u ad hi hj hne e1=>by
  unfold zaF at e1;have:=hM i hi;rw[bi (by right)] at e1;obtain⟨_,q⟩:=ah.mp e1;right
 al:=al
def zqK{P:Aa}{w:Ab}{K:AH}{mg:AI}{base:Heap}{J:Str}{f:Addr}{fd:Ac}{N ps:AM}{F:PN->AU->Mo W}(M:AR)(ac:(∀vs H Q E,spV m fr F vs H Q E->vs.length=ps.length)->(∀ (I:Value) (A:Ae) (B:List Env) (s:AZ) (H:Hp) (vs:AT) (Q:VK) (E:XK),Room k (A.deeper (PyProof.Rows.envOfC J (zd st) s.heap.objs.size f I))->spV m fr F vs H Q E->
   ∃t,QSs (zd6 CX0 P w K mg base N J (zd st) f I A B s H E).nox (zu st) t/\t { nx:=λ_ H'=>Q .non H',rt:=Q } (L2.y6 N vs) H)->FnOk P w K mg base CX0 (k+1) f fd ps (spV m fr F))(hm:m=ps.length)(hM:∀i∈M,m<=i)(O:∀ (I:Value) (A:Ae) (B:List Env) (s:AZ) (H:Hp) (E:XK) (Pn:PN),Room k (A.deeper (PyProof.Rows.envOfC J (zd st) s.heap.objs.size f I))->
   ∃fs,JSs (zd6 CX0 P w K mg base N J (zd st) f I A B s H E).nox Pn [] M fr (zu st) fs/\∀U n R,U.length=m->F Pn U n R->fs (zaF N U) n { nx:=λ_ Z=>fr=false/\R (.d .non) Z,rt:=R }):FnOk P w K mg base CX0 (k+1) f fd ps (spV m fr F):=by
 show ac (λvs H Q E h=>?_) (λI A B s H vs Q E hr h=>?_);obtain⟨Pn,A,U,n,R,_,hv,hl,_⟩:=h;rw[hv.len,hl,hm];obtain⟨Pn,A3,U,n,R,al,hv,hl,hp,hF,q⟩:=h;obtain⟨fs,⟨t,qs,rs⟩,ad⟩:=O I A B s H E Pn hr;show⟨t,qs,rs.run { A0:=A3,H0:=H,G0:=zV A3 H,σ0:=L2.y6 N vs } A3 (L2.y6 N vs) H (zaF N U) n _ _ ⟨zio al hv (λi hi=>by right),⟨λ_ z=>z,λ_ z=>.inl z,.of (zq.refl _),al,λ_ z=>z.elim,λ_ z=>z.elim⟩,hp,zq.refl _,⟨λi hi=>rfl,λz=>by cases z⟩,λi w a hi e=>?_⟩ ⟨?_,?_,?_,λ_ z=>z,?_⟩ (ad U n R hl hF)⟩;exact absurd e (by unfold zaF;have:=hM i hi;rw[bi (by right)];intro z;obtain⟨_,q⟩:=ah.mp z;rw[List.getElem_replicate] at q;cases q);intro A' an H' ap Z a' ⟨Y,r⟩;exact q _ Z .non H' r (Val.of (show Is _ .non .non from rfl)) ⟨a'.frm.st.stay,a'.pn.less a'.frm.sub⟩ λz=>by rw[Y] at z;cases z
 right;right;intro w Z v H' ag st pn Y r;exact q w Z v H' r ag ⟨st.stay,pn⟩ Y
end
section
variable {X:Cx}{Pn:PN}{M S:AR}{fr fr':Bool}{e a b c:Expr}{es:AO}{f fa fb fc:AD}{pos p p2:Pos}
def zmE (B:Dt->Bool)(f:AD):AD:=λρ n Q=>f ρ n λw m=>∃d,w = .d d/\Q (.d (.bl (B d))) m
def zjZ(q:∀d:Dt,PySem.W.kitOne K (.type d.ty) (.type T)=some (B d))(h:RB Pn M te f):RE Pn M false (tCB (λxs H Q=>∃x T t b,xs=[x,.ty T]/\TyOf K H x t/\PySem.W.kitOne K t (.type T)=some b/\Q (.bl b) H) (zbo te (zbo (tC (.ty T)) zpo))) (zmE B f):=⟨λA σ H ρ n Q R E P F k=>by show h.run A σ H ρ n _ _ E P F  ?_;rintro w m v H' ⟨d,e,r⟩ I g;subst e;exact⟨v,T,_,_,rfl,I.is.ty,q d,k _ m _ H' r (Val.of rfl) g λz=>by cases z⟩⟩
abbrev isStr:Dt->Bool
 | .str _=>true
 | _=>false
abbrev isDct:Dt->Bool
 | .dct=>true
 | _=>false
def zld(Y:∀d:Dt,PySem.W.kitOne X.K (.type d.ty) (.type T)=some (B d))(Z:bootBuiltins x=some (.type T))(I:Gl X x)(hn:x ≠ "__name__")(hd:(x==("__debug__" : Str))=false)(hg:Gl X "isinstance")(hm:X.mg "isinstance" = none)(J:X.mg x=none)(h:JB X Pn M e f)(F:starEach (e::[.Name x p2]) X.env=(false,eval e X.env)::starEach [.Name x p2] X.env)(O:starEach (.Name x p2::[]) X.env=(false,eval (.Name x p2) X.env)::starEach [] X.env)(U:(backTo pos (starEach [.Name x p2] X.env)).any (·.1)=false):JE X Pn M false (.Call (.Name "isinstance" p) [e,.Name x p2] [] pos) (zmE B f):=by
 obtain⟨te,q,r⟩:=h.ex;exact⟨_,yP zh7 hg hm PyProof.Rows.boot_isinstance (zz q (zz (zoJ (v:=.ty T) I J Z rfl hn hd) yw O) F) (by ext) (by ext) F U,zjZ Y r⟩
def zck (O:Gl X "isinstance")(U:X.mg "isinstance" = none)(q:X.mg "tuple" = none)(h:JB X Pn M e f)(B:Gl X "tuple" := by rfl)(F:starEach (e::[.Name "tuple" p2]) X.env=(false,eval e X.env)::starEach [.Name "tuple" p2] X.env:=by rfl)(I:starEach (.Name "tuple" p2::[]) X.env=(false,eval (.Name "tuple" p2) X.env)::starEach [] X.env:=by rfl)(J:(backTo pos (starEach [.Name "tuple" p2] X.env)).any (·.1)=false:=by rfl) :
  JE X Pn M false (.Call (.Name "isinstance" p) [e,.Name "tuple" p2] [] pos) (zmE Dt.isTup f):=zld (znV _) bq B (by ext) (by ext) O U q h F I J
def zdl (O:Gl X "isinstance")(U:X.mg "isinstance" = none)(q:X.mg "list" = none)(h:JB X Pn M e f)(B:Gl X "list" := by rfl)(F:starEach (e::[.Name "list" p2]) X.env=(false,eval e X.env)::starEach [.Name "list" p2] X.env:=by rfl)(I:starEach (.Name "list" p2::[]) X.env=(false,eval (.Name "list" p2) X.env)::starEach [] X.env:=by rfl)(J:(backTo pos (starEach [.Name "list" p2] X.env)).any (·.1)=false:=by rfl) :
  JE X Pn M false (.Call (.Name "isinstance" p) [e,.Name "list" p2] [] pos) (zmE Dt.isLst f):=zld (znU _) cK B (by ext) (by ext) O U q h F I J
def zex (O:Gl X "isinstance")(U:X.mg "isinstance" = none)(q:X.mg "int" = none)(h:JB X Pn M e f)(B:Gl X "int" := by rfl)(F:starEach (e::[.Name "int" p2]) X.env=(false,eval e X.env)::starEach [.Name "int" p2] X.env:=by rfl)(I:starEach (.Name "int" p2::[]) X.env=(false,eval (.Name "int" p2) X.env)::starEach [] X.env:=by rfl)(J:(backTo pos (starEach [.Name "int" p2] X.env)).any (·.1)=false:=by rfl) :
  JE X Pn M false (.Call (.Name "isinstance" p) [e,.Name "int" p2] [] pos) (zmE Dt.isInt f):=zld (znT _) PyProof.Rows.boot_int B (by ext) (by ext) O U q h F I J
def zdk (O:Gl X "isinstance")(U:X.mg "isinstance" = none)(q:X.mg "bool" = none)(h:JB X Pn M e f)(B:Gl X "bool" := by rfl)(F:starEach (e::[.Name "bool" p2]) X.env=(false,eval e X.env)::starEach [.Name "bool" p2] X.env:=by rfl)(I:starEach (.Name "bool" p2::[]) X.env=(false,eval (.Name "bool" p2) X.env)::starEach [] X.env:=by rfl)(J:(backTo pos (starEach [.Name "bool" p2] X.env)).any (·.1)=false:=by rfl) :
  JE X Pn M false (.Call (.Name "isinstance" p) [e,.Name "bool" p2] [] pos) (zmE Dt.isBl f):=zld (zqA _) PyProof.Rows.boot_bool B (by ext) (by ext) O U q h F I J
def zlV (n:Nat):AS:=(List.range n).map λi:Nat=>Dt.int i
def ziJ(n:Nat):IsL G (zlV n) ((List.range n).map λi:Nat=>V.int i):=by
 have q:zlV n=(((List.range n).map λi:Nat=>(i:Int))).map Dt.int:=by unfold zlV;rw[aJ];rfl
 have B:((List.range n).map λi:Nat=>V.int i)=(((List.range n).map λi:Nat=>(i:Int))).map V.int:=by rw[aJ];rfl
 rw[q,B];exact IsL.ints
def zds (fa:AC):AD:=λρ n Q=>fa ρ n λq m=>∃j:Nat,q=[.d (.int (j:Int))]/\j<=1000/\Q (.d (.lst (zlV j))) m
def zey{q:Pos}{J:Pos}(hm:X.mg "list" = none)(O:X.mg "range" = none)(ha:JAB X Pn M [a] fs)(hc:X.calm=true:=by rfl)(hg:Gl X "list" := by rfl)(U:Gl X "range" := by rfl)(hs:starEach (a::[]) X.env=(false,eval a X.env)::starEach [] X.env:=by rfl)(F:starEach (.Call (.Name "range" J) [a] [] q::[]) X.env=(false,eval (.Call (.Name "range" J) [a] [] q) X.env)::starEach [] X.env:=by rfl)(Y:(backTo q (starEach [] X.env)).any (·.1)=false:=by rfl)(Z:(backTo pos (starEach [] X.env)).any (·.1)=false:=by rfl):JE X Pn M true (.Call (.Name "list" p) [.Call (.Name "range" J) [a] [] q] [] pos) (zds fs):=by
 obtain⟨ta,qa,ra⟩:=ha.ex;show⟨_,zb2 (zfh hc) hg hm cK (zz (zb2 zkM U O PyProof.Rows.boot_range qa (by ext) (by ext) hs Y) yw F) (by ext) (by ext) F Z,⟨λA σ H ρ n Q R E P hf k=>?_⟩⟩;show ra.run A σ H ρ n _ _ E P hf  ?_;rintro ws m vs H1 ⟨j,e,hj,r⟩ bb g;subst e;obtain⟨v,rfl,b1⟩:=zbe bb;obtain rfl:=yB b1;show⟨_,rfl,λp1 H2 np g2 S2=>⟨p1,j,rfl,g2,hj,λp3 H3 I g3 S3=>?_⟩⟩;have B:=g.trans (Go.same g.pn S2);exact k _ m _ H3 r (xY (H:=H2) (ziJ j) (zq.same S3) ((E.stay B.st).new I) g3) (B.trans (Go.same B.pn S3)) λ_=>(xO (H:=H2) (ziJ j) S3 I g3).back B.st
abbrev truD:W->Option Bool
 | .d (.lst l)=>some (!l.isEmpty)
 | .d (.tup l)=>some (!l.isEmpty)
 | .d (.bl b)=>some b
 | .d (.int i)=>some (i != 0)
 | .d .non=>some false
 | _=>none
def At3.own(h:At3 Pn B S M A σ H ρ n)(hi:i∈M)(e:ρ[i]?=some (some (.d (.lst l)))):∃q xs,σ[i]?=some (some (.ref q))/\A q/\H q=some (.lst xs)/\IsL (zV A H) l xs:=by
 obtain⟨v,J,_,F⟩:=h.env.val i _ e;obtain⟨q,rfl,O,I,_⟩:=F hi;obtain⟨U,xs,Y,Z,hl⟩:=I;right
def zdt (i:Nat):Ms:=λρ n k=>∃l,ρ[i]?=some (some (.d (.lst l)))/\k.nx (ρ.set i (some (.d (.lst l.reverse)))) n
def zhi (i:Nat){x:Str}{J O sp I:Pos}(hi:i∈M:=by ext)(hN:X.N[i]?=some x:=by rfl)(hv:Vis X.env.scope x:=by walk_at "v")(hd:Ah x:=by ext)
  (U:(x==("__classdict__" : Str))=false:=by ext) (hs:swapsWith (.Call (.Attribute (.Name x I) "reverse" J) [] [] O) none sp.line X.env=pure false:=by rfl) (q:attributeBase (.Name x I) "reverse" X.env (eval (.Name x I) X.env)=eval (.Name x I) X.env:=by rfl) (F:(J.endLine==O.line)=true:=by rfl) :
  JS X Pn S M fr (.Expr (.Call (.Attribute (.Name x I) "reverse" J) [] [] O) sp) (zdt i):=by
 show⟨_,zdN (zoP (qv i hN hv hd U) q F) hs,⟨ ?_⟩⟩;rintro B A σ H ρ n k D a kk ⟨l,e,r⟩;obtain⟨Y,xs,Z,hA,g0,hl⟩:=a.own hi e;exact⟨.ref Y,Z,.inl ⟨rfl,_,SqL.of g0⟩,Y,xs,rfl,rfl,g0,kk.nx A σ _ _ n (a.wr hi e Z (zdj hl)) r⟩
def ziK(q:Is G d v):∀ {ds:AS} {xs:AT} (k:Nat),IsL G ds xs->IsL G (ds.set k d) (xs.set k v)
 | [],_,_,h=>by cases h;rfl
 | x::ds,xs,0,⟨y,r,e,h1,h2⟩=>by subst e;exact⟨v,r,rfl,q,h2⟩
 | x::ds,xs,k+1,⟨y,r,e,h1,h2⟩=>by subst e;exact⟨y,_,rfl,h1,ziK q k h2⟩
def ztJ (i:Nat)(fk f:AD):Ms:=λρ n k=>(∃l,ρ[i]?=some (some (.d (.lst l))))/\f ρ n λw m=>fk ρ m λy q=>∃l d j,ρ[i]?=some (some (.d (.lst l)))/\w = .d d/\y = .d (.int j)/\0<=j/\j<l.length/\k.nx (ρ.set i (some (.d (.lst (l.set j.toNat d))))) q
def zmB (i:Nat){x:Str}{np sp:Pos}(hk:JB X Pn M c fc)(he:JE X Pn M fr' e f)(hi:i∈M:=by ext)(hN:X.N[i]?=some x:=by rfl)(hv:Vis X.env.scope x:=by walk_at "v")(hd:Ah x:=by ext)
  (hcd:(x==("__classdict__" : Str))=false:=by ext) (hs:swapsWithSole [.Subscript (.Name x np) c p] e sp.line X.env=pure false:=by rfl) (hw:swappedStores [.Subscript (.Name x np) c p] e X.env=pure none:=by rfl)
  (h1:(assignEach [.Subscript (.Name x np) c p] X.env).map (·.2)=[assign (.Subscript (.Name x np) c p) X.env]:=by rfl) (ha:∀v,assign (.Subscript (.Name x np) c p) X.env v=(do
   let ov <- holding [v] (eval (.Name x np) X.env)
   let iv <- holding [v,ov] (eval c X.env)
   standAt p
   holding [v,ov,iv] (setItem ov iv v)
   release [v,ov,iv] []):=by intro _;rfl) :
  JS X Pn S M fr (.Assign [.Subscript (.Name x np) c p] e sp) (ztJ i fc f):=by
 obtain⟨te,q,r⟩:=he.ex;obtain⟨tk,qk,rk⟩:=hk.ex;show⟨_,zrs q (zoR (qv i hN hv hd hcd) qk ha) hs hw h1,⟨ ?_⟩⟩;rintro B A σ H ρ n k D a kk ⟨⟨l0,e0⟩,hf⟩;obtain⟨ad,xs0,s0,hA,_⟩:=a.own hi e0;show r.run A σ H ρ n _ _ a.env a.pn hf λw m v H1 r1 hv1 g1 _=>⟨.ref ad,s0,?_⟩;have a1:=a.step g1;show rk.run A σ H1 ρ m _ _ a1.env a1.pn r1  ?_;rintro y m2 v2 H2 ⟨l,d,j,e,ed,ey,j0,j1,r2⟩ b2 g2;subst ed ey;have a2:=a1.step g2;obtain⟨ad2,xs,s2,_,g,hl⟩:=a2.own hi e;rw[s0] at s2;cases s2;exact⟨ad,xs,j,rfl,yB b2,g,j0,by rw[hl.length];exact j1,kk.nx A σ _ _ m2 (a2.wr hi e s0 (ziK (hv1.stay g2.st).is _ hl)) r2⟩
end
section
variable {A:AL}{H:Hp}
def zuB(h:zai A H [w] vs):∃v,vs=[v]/\Val A H w v:=by obtain⟨v,r,e,h1,h2⟩:=h;cases h2;exact⟨v,e,h1⟩
def zpE(h:zai A H [w,u] vs):∃v y,vs=[v,y]/\Val A H w v/\Val A H u y:=by obtain⟨v,r,e,h1,h2⟩:=h;obtain⟨y,rfl,q⟩:=zuB h2;exact⟨v,y,e,h1,q⟩
def zuC(h:zai A H [w,u,z] vs):∃v y x,vs=[v,y,x]/\Val A H w v/\Val A H u y/\Val A H z x:=by obtain⟨v,r,e,h1,h2⟩:=h;obtain⟨y,x,rfl,q,B⟩:=zpE h2;exact⟨v,y,x,e,h1,q,B⟩
def zsp{st:AG}(h:Val A H (.d (stD st)) v):∃a,v = .ref a/\H a=some (.tup (st.map V.int)):=by obtain⟨a,xs,e,h1,h2⟩:=h;obtain rfl:=h2.of_ints;exact⟨a,e,zl _ _ h1⟩
end
structure RoomOk (rm:AG):Prop where
 ne:rm≠[]
 few:rm.length<=8
 box:∀r∈rm,2<=r/\r<=4
def RoomOk.pos {rm:AG}(h:RoomOk rm):1<=rm.length:=by
 cases rm with
 | nil=>exact absurd rfl h.ne
 | cons _ _=>simp
abbrev FV:=PN->AU->Mo W
def Lift (k:Nat)(fr:Bool)(F:FV)(sp:Sp):Prop:=∀vs H Q E,spV k fr F vs H Q E->sp vs H Q E
def FnOk.lift(h:FnOk P w K mg base CX j f fd ps sp)(l:Lift k fr F sp):FnOk P w K mg base CX j f fd ps (spV k fr F):=h.imp l
def xK (K:AH)(Pn:PN)(p:Addr):Prop:=∃c ns,Pn=⟨some (p,c,ns),J0⟩/\KL K c ns
def zhT (K:AH):FV:=λPn q n R=>∃p zR,xK K Pn p/\q=[.pen p,.d (.int zR)]/\n<=1000000/\1<=zR/\zR<1073741824/\∀r,0<=r->r<zR->R (.d (.int r)) (n+1)
def zi3:Lift 2 false (zhT K) (zm3 K):=by rintro vs H Q E ⟨Pn,A,ws,n,R,al,F,hl,B,⟨p,zR,⟨c,ns,rfl,I⟩,rfl,h1,h2,J,O⟩,q⟩;obtain⟨v,y,rfl,U,Y⟩:=zpE F;have Z:v = .ref p:=U;have e2:y = .int zR:=Y;subst Z e2;exact⟨p,c,ns,n,zR,rfl,I,B.1.1,h1,h2,J,λr H' r0 r1 P' S'=>q _ (n+1) _ H' (O r r0 r1) (Val.of rfl) ⟨S',⟨P',B.1.2⟩,trivial⟩ λz=>by cases z⟩
abbrev zsr:FV:=λPn B n R=>∃p c ns q,Pn=⟨some (p,c,ns),J0⟩/\B=[.pen p,.d (.int q)]/\n+20<=1000000/\4<=q/\q<=256/\∀rm,RoomOk rm->zL rm<=q->R (.d (stD rm)) (n+10)
abbrev zmj:FV:=λPn q n R=>∃p c ns rm,Pn=⟨some (p,c,ns),J0⟩/\q=[.pen p,.d (stD rm)]/\n+20<=1000000/\RoomOk rm/\∀st,st.length=rm.length->(∀b:Int,0<=b->b<rm.length->0<=zR st b/\zR st b<zR rm b)->R (.d (stD st)) (n+10)
def zoa (g:List (Int×Int)):(Dt.tup (g.map xo)).noL=true:=by
 have:∀g:List (Int×Int),Dt.noLs (g.map xo)=true:=by
  intro g
  induction g with
  | nil=>rfl
  | cons q g B=>simp only[aC,Dt.noLs,B,eP];rfl
 exact this g
abbrev zqj (g:List (Int×Int)):Dt:=.tup (g.map xo)
abbrev zpN:FV:=λPn F n R=>∃p c ns rm B,Pn=⟨some (p,c,ns),J0⟩/\F=[.pen p,.d (stD rm),.d (.int B)]/\n+40<=1000000/\RoomOk rm/\∀g,Giv rm g->(∀q∈g,q.1≠B)->g.length<=8->R (.d (zqj g)) (n+30)
abbrev zsN:FV:=λ_ q n R=>∃d,q=[.d d]/\R (.d (.bl d.isWhole)) n
abbrev zsM:FV:=λ_ q n R=>∃a b,q=[.d (.bl a),.d (.bl b)]/\R (.d (.bl (a==b))) n
abbrev F_prod:FV:=λ_ q n R=>∃ns:AG,q=[.d (stD ns)]/\(∀n∈ns,2<=n/\n<=4)/\R (.d (.int (zL ns))) n
abbrev zsL:FV:=λ_ B n R=>∃st g,B=[.d (stD st),.d (zqj g)]/\(∀q∈g,0<=q.1/\q.1<st.length)/\R (.d (.bl (xD st g))) n
abbrev x8 (sts:AF):Dt:=.lst (sts.map stD)
abbrev F_all:FV:=λ_ q n R=>∃rm,q=[.d (stD rm)]/\RoomOk rm/\zL rm<=256/\R (.d (x8 (uL (rm.map zE)))) n
abbrev lsD (c:AG):Dt:=.lst (c.map .int)
abbrev zpJ:FV:=λ_ q n R=>∃cs:AF,q=[.d (.lst (cs.map lsD))]/\cs.length<=8/\(∀c∈cs,c.length<=4)/\R (.d (x8 (uL cs))) n
def ztS {P:Aa}{w:Ab}{K:AH}{mg:AI}{base:Heap}{x F:Str}{st:Stmt}{f:Addr}{fd:Ac}{N ps:AM}{k r:Nat}{S:AR}(M:AR)(Fu:Fun K x F st f fd)(Sc:FnScope N ps (zd st))(ag:ps.length=1)(hN:N.length=r+2)(hM:∀i∈M,2<=i)
  (Y:∀ (J:Value) (A:Ae) (B:List Env) (s:AZ) (H:Hp) (E:XK) (Pn:PN),Room k (A.deeper (PyProof.Rows.envOfC F (zd st) s.heap.objs.size f J))->
   ∃U zC fs,zu st=U::zC/\QS (zd6 CX0 P w K mg base N F (zd st) f J A B s H E).nox U (zhR (zcf (zl6 K) [] E0 (zbo (zaL 0) zpo)) (zbg 1))/\
    JSs (zd6 CX0 P w K mg base N F (zd st) f J A B s H E).nox Pn S M false zC fs/\∀p c ns,Pn=⟨some (p,c,ns),J0⟩->KL K c ns->fs (none::some (.pen p)::List.replicate r none) 0 { nx:=λ_ _=>False,rt:=λw _=>w = .d (.bl true) }):FnOk P w K mg base CX0 (k+1) f fd ps (zhF K):=by
 show Fun.okQ Fu Sc (λvs H Q E h=>?_) (λJ A B s H vs Q E hr h=>?_);obtain⟨a,ns,rfl,_⟩:=h;exact ag.symm;obtain⟨a,ns,rfl,hK,hS,hl,q⟩:=h;have Z:=λ(Pn:PN)=>Y J A B s H E Pn hr;have ad:L2.y6 N [.ref a]=some (.ref a)::none::List.replicate r none:=by unfold L2.y6;rw[hN];rfl
 have hd:∃U zC,zu st=U::zC:=let ⟨U,zC,_,e,_⟩:=Z ⟨none,J0⟩;⟨U,zC,e⟩;obtain⟨U,zC,e0⟩:=hd;rw[e0];have c2:∀Pn,∃fs,JSs (zd6 CX0 P w K mg base N F (zd st) f J A B s H E).nox Pn S M false zC fs/\∀p c ns,Pn=⟨some (p,c,ns),J0⟩->KL K c ns->fs (none::some (.pen p)::List.replicate r none) 0 { nx:=λ_ _=>False,rt:=λw _=>w = .d (.bl true) }:=λPn=>by obtain⟨al,ac,fs,e,_,h1,h2⟩:=Z Pn;rw[e0] at e;cases e;exact⟨fs,h1,h2⟩
 have q1:QS (zd6 CX0 P w K mg base N F (zd st) f J A B s H E).nox U (zhR (zcf (zl6 K) [] E0 (zbo (zaL 0) zpo)) (zbg 1)):=by
  obtain⟨al,ac,fs,e,h0,_⟩:=Z ⟨none,J0⟩;right
 show⟨_,z8 q1 (u:=λD σ H=>∃Pn,(c2 Pn).choose_spec.1.ex.choose D σ H) ⟨λpins s' σ H D I ⟨Pn,z⟩=>(c2 Pn).choose_spec.1.ex.choose_spec.1.run pins s' σ H D I z⟩,?_⟩;show⟨.ref a,by rw[ad];rfl,a,ns,rfl,hK,hS,hl,λp H1 P1 S1=>⟨⟨some (p,a,ns),J0⟩,?_⟩⟩;have hs:=(c2 ⟨some (p,a,ns),J0⟩).choose_spec.2 p a ns rfl hK;have e1:(L2.y6 N [.ref a]).set 1 (some (.ref p))=some (.ref a)::some (.ref p)::List.replicate r none:=by rw[ad];rfl
 rw[e1]
 have O:∀i (u:W),(none::some (.pen p)::List.replicate r none:Ev)[i]?=some (some u)->i=1/\u = .pen p:=λi u e=>by
  match i,e with
  | 0,e=>simp at e
  | 1,e=>exact⟨rfl,by simpa using e.symm⟩
  | i+2,e=>
   simp only[db] at e;obtain⟨_,q⟩:=ah.mp e;right
 show (c2 ⟨some (p,a,ns),J0⟩).choose_spec.1.ex.choose_spec.2.run { A0:=λ_=>False,H0:=λ_=>none,G0:=λ_=>none,σ0:=some (.ref a)::some (.ref p)::List.replicate r none } (λ_=>False) _ H1 _ 0 _ _ ⟨⟨?_,?_,?_,λ_ z=>z.elim⟩,⟨λ_ z=>z,λ_ z=>z.elim,(λb o (z:(none:Option HO)=some o)=>nomatch z),λ_ z=>z.elim,λ_ z=>z.elim,λ_ z=>z.elim⟩,⟨⟨P1,λ_ _ z=>z,λz=>z⟩,trivial⟩,(λb o (z:(none:Option HO)=some o)=>nomatch z),⟨λi hi=>rfl,λ_=>⟨λb xs (z:(none:Option HO)=some (.lst xs))=>(nomatch z),λb xs (z:(none:Option HO)=some (.lst xs))=>(nomatch z)⟩⟩,?_⟩ ⟨?_,?_,?_,λ_ z=>z,?_⟩ hs;simp;intro i u e;obtain⟨rfl,rfl⟩:=O i u e;exact⟨.ref p,rfl,λ_=>rfl,λz=>absurd (hM 1 z) (by lia)⟩;intro i j u u' b hi hj an e1;obtain⟨rfl,rfl⟩:=O i u e1;exact absurd (hM 1 hi) (by lia);intro i u b hi e;obtain⟨rfl,rfl⟩:=O i u e;exact absurd (hM 1 hi) (by lia);intro _ _ _ _ _ _ z;exact z.elim;intro _ _ _ _ _ _ z;exact z.elim;intro _ _ _ _ _ _ z;exact z.elim;intro w n' v H' hv st pn _ r;have r':w = .d (.bl true):=r;subst r';have:v = .bl true:=hv;subst this;exact q H'
def zh5 {α:Type}{l:AU}{F:Ev}{n:Nat}{mg:W->Ev->(Ev->Prop)->Prop}{Z:Ev->Mo Bool}{fe:AD}{Q:AV}(xs:List α)(I:α->W)(hl:l=xs.map I)(J:Ev->Prop)(P:α->Bool)(E:α->Dt)(ac:xs.length<=lim)(j0:J F)
  (h:∀a∈xs,∀ B,J B->∀C:Ev->Nat->Option Dt->Prop,(∀ q,J q->C q n (if P a then some (E a) else none))->mg (I a) B λq=>Z q n λb n2=>if b=true then fe q n2 λx O=>∃d,x = .d d/\C q O (some d) else C q n2 none)
  (fin:Q (.d (.lst ((xs.filter P).map E))) n):zdb mg Z fe F Q l n:=by
 subst hl;show⟨by right,λi B U acc=>J B/\U=n/\acc=((xs.take i).filter P).map E,⟨j0,rfl,by simp⟩,?_,?_⟩;rintro i w B U acc hw ⟨hj,rfl,rfl⟩;rw[aL] at hw;obtain⟨a,ha,rfl⟩:=aI.mp hw
 have:=h a (aG ha) B hj (λq O o=>match o with
  | some d=>J q/\O=U/\((xs.take i).filter P).map E++[d]=((xs.take (i+1)).filter P).map E
  | none=>J q/\O=U/\((xs.take i).filter P).map E=((xs.take (i+1)).filter P).map E) (λq Y=>by
   rw[zn ha,List.filter_append,aD];by_cases hp:P a=true;right;rw[if_neg hp];exact⟨Y,rfl,by simp[hp]⟩)
 exact this;grind
def zkL {α:Type}{l:AU}{F:Ev}{n:Nat}{mg:W->Ev->(Ev->Prop)->Prop}{Z:AD}{Q:AV}(xs:List α)(I:α->W)(hl:l=xs.map I)(J:Ev->Prop)(E:α->Dt)(ac:xs.length<=lim)(j0:J F)
  (h:∀a∈xs,∀ B,J B->∀C:Ev->Nat->Dt->Prop,(∀ q,J q->C q n (E a))->mg (I a) B λq=>Z q n λx O=>∃d,x = .d d/\C q O d)
  (fin:Q (.d (.lst (xs.map E))) n):zdb mg zsF Z F Q l n:=by
 subst hl;show⟨by right,λi B U acc=>J B/\U=n/\acc=(xs.take i).map E,⟨j0,rfl,by simp⟩,?_,?_⟩;rintro i w B U acc hw ⟨hj,rfl,rfl⟩;rw[aL] at hw;obtain⟨a,ha,rfl⟩:=aI.mp hw;exact h a (aG ha) B hj (λq O d=>J q/\O=U/\(xs.take i).map E++[d]=(xs.take (i+1)).map E) λq Y=>⟨Y,rfl,by rw[zn ha,aD];rfl⟩;grind
def znx(I:Nat->Ev->Nat->Prop)(U:I 0 ρ n)(h:∀i q B,i<r->I i q B->mg (.d (.int (i:Int))) q λF=>fb F B { k with nx:=I (i+1),ct:=I (i+1),bk:=k.nx })(Y:∀ q B,I r q B->k.nx q B):znw mg fb ρ k (zhy 0 r) n:=by
 show⟨I,U,λi w q B J O=>?_,λq B O=>Y q B ?_⟩;unfold zhy at J;rw[aL] at J;obtain⟨j,h1,rfl⟩:=aI.mp J;obtain⟨hi,h2⟩:=ah.mp h1;rw[cQ] at h2;right;unfold zhy at O;right
def ziA{α:Type}(xs:List α)(F:α->W)(Y:l=xs.map F)(I:Nat->Ev->Nat->Prop)(Z:I 0 ρ n)(h:∀i a q B,xs[i]?=some a->I i q B->mg (F a) q λJ=>fb J B { k with nx:=I (i+1),ct:=I (i+1),bk:=k.nx })(hd:∀ q B,I xs.length q B->k.nx q B):znw mg fb ρ k l n:=by
 subst Y;show⟨I,Z,λi w q B O U=>?_,λq B U=>hd q B (by right)⟩;rw[aL] at O;obtain⟨a,ha,rfl⟩:=aI.mp O;exact h i a q B ha U
def zeq(I:Nat->Ev->Nat->Prop)(O:I 0 ρ n)(h:∀i q F,i<r->I i q F->∀ (C B:Ev->Nat->Prop) (E:AV),(∀ {ρ m},I (i+1) ρ m->C ρ m)->(∀ {ρ m},k.nx ρ m->B ρ m)->(∀ {w m},k.rt w m->E w m)->mg (.d (.int (i:Int))) q λJ=>fb J F { rt:=E,nx:=C,ct:=C,bk:=B })(U:∀ q F,I r q F->k.nx q F):znw mg fb ρ k (zhy 0 r) n:=
 znx I O (λi q F hi Y=>h i q F hi Y (I (i+1)) k.nx k.rt (λz=>z) (λz=>z) λz=>z) U
def yN{α:Type}(xs:List α)(F:α->W)(U:l=xs.map F)(I:Nat->Ev->Nat->Prop)(Y:I 0 ρ n)(h:∀i a q J,xs[i]?=some a->I i q J->∀ (C B:Ev->Nat->Prop) (E:AV),(∀ {ρ m},I (i+1) ρ m->C ρ m)->(∀ {ρ m},k.nx ρ m->B ρ m)->(∀ {w m},k.rt w m->E w m)->mg (F a) q λO=>fb O J { rt:=E,nx:=C,ct:=C,bk:=B })(Z:∀ q J,I xs.length q J->k.nx q J):znw mg fb ρ k l n:=
 ziA xs F U I Y (λi a q J ha hI=>h i a q J ha hI (I (i+1)) k.nx k.rt (λz=>z) (λz=>z) λz=>z) Z
def zkK{α:Type}(xs:List α)(O:α->W)(hl:l=xs.map O)(Z:xs.length<=lim)(I:Nat->Ev->Nat->AS->Prop)(h0:I 0 J n [])(h:∀i a q B acc,xs[i]?=some a->I i q B acc->∀C:Ev->Nat->AS->Prop,(∀ {ρ m l},I (i+1) ρ m l->C ρ m l)->mg (O a) q λF=>U F B λb n2=>if b=true then Y F n2 λx n3=>∃d,x = .d d/\C F n3 (acc++[d]) else C F n2 acc)(fin:∀ q B acc,I xs.length q B acc->Q (.d (.lst acc)) B):zdb mg U Y J Q l n:=by
 subst hl;show⟨by right,I,h0,λi w q B acc hw hI=>?_,λq B acc hI=>fin q B acc (by right)⟩;rw[aL] at hw;obtain⟨a,ha,rfl⟩:=aI.mp hw;exact h i a q B acc ha hI (I (i+1)) λz=>z
def zeb {α:Type}{l:List α}{i:Nat}{x:α}(h:l[i]?=some x):atI l (i:Int)=some x:=by
 have:=(ah.mp h).1;unfold atI ixN;right
def zpQ {α:Type}{l:List α}{i:Int}(B:0<=i)(h1:i<l.length):∃d,atI l i=some d/\d∈l:=by
 obtain⟨j,rfl⟩:∃j:Nat,i=j:=⟨i.toNat,by lia⟩;have q:j<l.length:=by lia
 exact⟨l[j],zeb (aw q),bO q⟩
def zsS {a b:Dt}:atI [a,b] 0=some a:=rfl
def zsT {a b:Dt}:atI [a,b] 1=some b:=rfl
def znc {st:AG}{b:Int}(B:0<=b)(h1:b<st.length):atI (st.map Dt.int) b=some (.int (zR st b)):=by
 obtain⟨j,rfl⟩:∃j:Nat,b=j:=⟨b.toNat,by lia⟩;have q:j<st.length:=by lia
 show zeb ?_;rw[aL,aw q,zK];simp[q]
def gw (g:List (Int×Int))(i:Nat):AQ:=(g.find? λq=>decide (q.1=(i:Int))).map (·.2)
def cho (rm:AG)(g:List (Int×Int))(i:Nat):AG:=match gw g i with
 | some w=>[w]
 | none=>zE (rm.getD i 0)
def chs (rm:AG)(g:List (Int×Int)):AF:=(List.range rm.length).map (cho rm g)
def ztv (rm:AG)(g:List (Int×Int)):AF:=uL (chs rm g)
section
variable {X:Cx}{Pn:PN}{M S:AR}{fr fr':Bool}{e a b c:Expr}{es:AO}{f fa fb fc:AD}{pos p p2:Pos}
def zgZ:∀ (l k:AS) (i:Nat),(ziW l k)[i]?=(l[i]?).bind λx=>(k[i]?).map λy=>W.d (.tup [x,y])
 | [],_,_=>by simp[ziW]
 | _::_,[],_=>by simp[ziW]
 | x::r,y::s,0=>by simp[ziW]
 | x::r,y::s,i+1=>by have:=zgZ r s i;simp only[ziW,db,this]
def zg0:∀ (l k:AS),(ziW l k).length=min l.length k.length
 | [],_=>by simp[ziW]
 | _::_,[]=>by simp[ziW]
 | x::r,y::s=>by rw[ziW,aM,aM,aM,zg0 r s];lia
def znZ (fa:AC):AC:=λρ n Q=>fa ρ n λq m=>∃l k,q=[.d (.lst l),.d (.lst k)]/\Q (ziW l k) m
def zlb(h:zV A H I=some (.lst xs))(O:IsL (zV A H) l xs)(h':zV A H J=some (.lst ys))(U:IsL (zV A H) k ys):ItV false A H (Izl K I J) (ziW l k) where
 one:=λi w A2 H2 e s _ hA=>by rw[zgZ] at e;obtain⟨d,h1,e⟩:=dW.mp e;obtain⟨d',q,rfl⟩:=aI.mp e;obtain⟨x,Y,hd⟩:=O.getD h1;obtain⟨y,Z,B⟩:=U.getD q;have g:=zl _ _ (s.lst h);have g':=zl _ _ (s.lst h');show⟨⟨xs,ys,x,y,.of g,.of g',Y,Z⟩,?_⟩;rintro v H3 ⟨T,z,z',e1,hT,e3,hz,F⟩;subst e1 e3;have q1:=hz xs (.of g);have q2:=F ys (.of g');rw[Y] at q1;rw[Z] at q2;cases q1;cases q2;have S:=yL.upd (o:=.tup [x,y]) hT;exact⟨S,Val.of ⟨T,_,rfl,zm (hA T hT) zg,_,_,rfl,(hd.stay s).stay (zq.same (ug S)),_,_,rfl,(B.stay s).stay (zq.same (ug S)),rfl⟩⟩
 stop:=λA2 H2 s _=>⟨xs,ys,.of (zl _ _ (s.lst h)),.of (zl _ _ (s.lst h')),by rw[zg0,O.length,U.length];lia⟩
def znN {B:AO}{x1}{tpos:Pos}{fs:AC}(O:Gl X "zip")(U:X.mg "zip" = none)(Y:JA X Pn M [a,b] fs)(hs:starEach [a,b] X.env=[(false,eval a X.env),(false,eval b X.env)]:=by rfl)(J:starEach [b] X.env=[(false,eval b X.env)]:=by rfl):JI X Pn M false (.Tuple B x1 tpos) (.Call (.Name "zip" p) [a,b] [] pos) (znZ fs):=by obtain⟨te,q,r⟩:=Y.ex;show⟨_,zoU O U q hs J,⟨λA σ H ρ n Q R E P Z k=>?_⟩⟩;show r.run A σ H ρ n _ _ E P Z  ?_;rintro ws m vs H1 ⟨l,kk,e,r⟩ hv g;subst e;obtain⟨v,s,rfl,⟨ad,xs,rfl,F,hl⟩,v2,s2,rfl,⟨bd,ys,rfl,I,hk⟩,hs⟩:=hv;cases hs;exact⟨ad,bd,rfl,⟨xs,.of (zl _ _ F)⟩,⟨ys,.of (zl _ _ I)⟩,k _ m _ H1 r (zlb F hl I hk) g⟩
def ztB (i:Nat)(f:AD):Ms:=λρ n k=>(∃l,ρ[i]?=some (some (.d (.lst l))))/\f ρ n λw m=>∃l q,ρ[i]?=some (some (.d (.lst l)))/\w = .d (.lst q)/\l.length+q.length<=lim/\k.nx (ρ.set i (some (.d (.lst (l++q))))) m
def zmz (i:Nat){x:Str}{ap U sp Y:Pos}(he:JE X Pn M fr' e f)(hi:i∈M:=by ext)(hN:X.N[i]?=some x:=by rfl)(hv:Vis X.env.scope x:=by walk_at "v")(hd:Ah x:=by ext)
  (al:(x==("__classdict__" : Str))=false:=by ext) (Z:starEach (e::[]) X.env=(false,eval e X.env)::starEach [] X.env:=by rfl) (hs:swapsWith (.Call (.Attribute (.Name x Y) "extend" ap) [e] [] U) none sp.line X.env=pure false:=by rfl) (J:attributeBase (.Name x Y) "extend" X.env (eval (.Name x Y) X.env)=eval (.Name x Y) X.env:=by rfl) (O:(ap.endLine==U.line)=true:=by rfl)
  (ac:((backTo U (starEach [e] X.env)).all (λx=>!x.1)&&(backToKw U (keywordEach [] X.env)).all (λx=>x.1.isSome)&&decide (([e]:AO).length+([]:List Keyword).length+(if ([]:List Keyword).isEmpty then 0 else 1)<30))=true:=by rfl) (I:(backTo U (starEach [] X.env)).any (·.1)=false:=by rfl) :
  JS X Pn S M fr (.Expr (.Call (.Attribute (.Name x Y) "extend" ap) [e] [] U) sp) (ztB i f):=by
 obtain⟨te,q,r⟩:=he.ex;show⟨_,zdN (zmQ cC PySem.F.slot_list_extend PySem.F.type_list_extend zjj (qv i hN hv hd al) (zz q yw Z) J ac O Z I) hs,⟨ ?_⟩⟩;rintro B A σ H ρ n k D a kk ⟨⟨l0,e0⟩,hf⟩;obtain⟨ad,as,s1,hA,g0,_⟩:=a.own hi e0;show⟨.ref ad,s1,.inl ⟨rfl,_,SqL.of g0⟩,?_⟩;show r.run A σ H ρ n _ _ a.env a.pn hf  ?_;rintro w m v H' ⟨l,l2,e,ed,hz,r⟩ hv g _;subst ed;have a':=a.step g;obtain⟨a0,xs,s2,_,g4,hl⟩:=a'.own hi e;rw[s1] at s2;cases s2;obtain⟨b2,ys,rfl,an,ag⟩:=hv;exact⟨ad,b2,xs,ys,rfl,rfl,g4,zl _ _ an,zcM (by rw[hl.length,ag.length];exact hz),kk.nx A σ _ _ m (a'.wr hi e s1 (hl.append ag)) r⟩
def zmt {α:Type}(l:List α)(k:Nat)(x:α):List α:=l.take k++x::l.drop k
def ztD (i:Nat)(fk f:AD):Ms:=λρ n k=>(∃l,ρ[i]?=some (some (.d (.lst l))))/\fk ρ n λy m=>f ρ m λw q=>∃l d j,ρ[i]?=some (some (.d (.lst l)))/\w = .d d/\y = .d (.int j)/\0<=j/\j<=l.length/\l.length<lim/\k.nx (ρ.set i (some (.d (.lst (zmt l j.toNat d))))) q
def zmA(i:Nat){x:Str}{ap U sp Y:Pos}(hc:JE X Pn M ag c fc)(he:JE X Pn M fr' e f)(hi:i∈M:=by ext)(hN:X.N[i]?=some x:=by rfl)(hv:Vis X.env.scope x:=by walk_at "v")(hd:Ah x:=by ext)(al:(x==("__classdict__" : Str))=false:=by ext)(Z:starEach (c::[e]) X.env=(false,eval c X.env)::starEach [e] X.env:=by rfl)(an:starEach (e::[]) X.env=(false,eval e X.env)::starEach [] X.env:=by rfl)(hs:swapsWith (.Call (.Attribute (.Name x Y) "insert" ap) [c,e] [] U) none sp.line X.env=pure false:=by rfl)(J:attributeBase (.Name x Y) "insert" X.env (eval (.Name x Y) X.env)=eval (.Name x Y) X.env:=by rfl)(O:(ap.endLine==U.line)=true:=by rfl)(ac:((backTo U (starEach [c,e] X.env)).all (λx=>!x.1)&&(backToKw U (keywordEach [] X.env)).all (λx=>x.1.isSome)&&decide (([c,e]:AO).length+([]:List Keyword).length+(if ([]:List Keyword).isEmpty then 0 else 1)<30))=true:=by rfl)(I:(backTo U (starEach [e] X.env)).any (·.1)=false:=by rfl) :
  JS X Pn S M fr (.Expr (.Call (.Attribute (.Name x Y) "insert" ap) [c,e] [] U) sp) (ztD i fc f):=by
 obtain⟨te,q,r⟩:=he.ex;obtain⟨tc,qc,rc⟩:=hc.ex;show⟨_,zdN (zmQ cC PySem.F.slot_list_insert PySem.F.type_list_insert zjk (qv i hN hv hd al) (zz qc (zz q yw an) Z) J ac O Z I) hs,⟨ ?_⟩⟩;rintro B A σ H ρ n k D a kk ⟨⟨l0,e0⟩,hf⟩;obtain⟨ad,a0,s1,hA,g0,_⟩:=a.own hi e0;show⟨.ref ad,s1,.inl ⟨rfl,_,SqL.of g0⟩,?_⟩;show rc.run A σ H ρ n _ _ a.env a.pn hf λw1 m1 v1 H1 r1 as g1 _=>?_;have a1:=a.step g1;show r.run A σ H1 ρ m1 _ _ a1.env a1.pn r1  ?_;rintro w m v H' ⟨l,d,j,e,ed,ey,j0,j1,hz,r⟩ hv g _;subst ed ey;have e1:v1 = .int j:=as;subst e1;have a':=a1.step g;obtain⟨a2,xs,s2,_,g4,hl⟩:=a'.own hi e;rw[s1] at s2;cases s2;show⟨ad,xs,j,v,rfl,rfl,g4,j0,by rw[hl.length];exact j1,zgw (by rw[hl.length];exact cD hz),kk.nx A σ _ _ m (a'.wr hi e s1 ?_) r⟩;exact (hl.take _).append ⟨v,_,rfl,hv.is,hl.drop _⟩
def znr:AU->Mo W:=λq n Q=>(∃i,q=[.d (.int i)]/\Q (.d (.int i)) n)\/∃b,q=[.d (.bl b)]/\Q (.d (.int (if b then 1 else 0))) n
def zsn:FL Pn false (λxs H Q=>(∃i,xs=[.int i]/\Q (.int i) H)\/∃k,xs=[.bl k]/\Q (.int (if k then 1 else 0)) H) znr:=⟨λA H xs B n Q R F b P h k=>by
 rcases h with ⟨i,e,h⟩ | ⟨i,e,h⟩;subst e;obtain⟨v,rfl,q⟩:=zbe b;exact .inl ⟨i,by rw[yB q],k _ n _ H h (Val.of rfl) (Go.refl P) λz=>by cases z⟩;subst e;obtain⟨v,rfl,q⟩:=zbe b;exact .inr ⟨i,by rw[zpU q],k _ n _ H h (Val.of rfl) (Go.refl P) λz=>by cases z⟩⟩
def ziw:AU->Mo W:=λB n Q=>∃ns:AG,B=[.d (.lst (ns.map .int))]/\ns.length<64/\∀q:AG,q.Perm ns->q.Pairwise (·<=·)->Q (.d (.lst (q.map .int))) n
def zpB:FL Pn true zjW ziw:=⟨by
 rintro A H xs Z n Q R I b P ⟨ns,e,q,h⟩ k;subst e;obtain⟨v,rfl,J⟩:=zbe b;obtain⟨a,ys,rfl,O,U⟩:=xl J;obtain rfl:=U.of_ints;exact⟨a,ns,rfl,O,q,λB Y hs p H' F g S=>k _ n _ H' (h B Y hs) (xY (H:=H) IsL.ints (zq.same S) (I.new F) g) (Go.same P S) λz=>xO (H:=H) IsL.ints S F g⟩⟩
def ziy:AU->Mo W:=λB n Q=>∃ (sts:AF) (m:Nat),B=[.d (.lst (sts.map stD))]/\1<=m/\(∀st∈sts,st.length=m)/\sts.Nodup/\∀q:AF,q.Perm sts->(q.Pairwise λa b=>HT.lexLt a b=true)->Q (.d (x8 q)) n
def zpC:FL Pn true zo1 ziy:=⟨by
 rintro A H xs ws n Q R J b P ⟨sts,m,e,h1,U,F,h⟩ k;subst e;obtain⟨v,rfl,Y⟩:=zbe b;obtain⟨a,ys,rfl,Z,hl⟩:=xl Y;show⟨a,ys,sts,m,rfl,Z,hl.stay (zq.same zl),h1,U,F,λI q hy hp hs p H' O g S=>?_⟩;have B:IsL (zV A H) (q.map stD) I:=xP J.noT (yO q) hy;exact k _ n _ H' (h q hp hs) (xY B (zq.same S) (J.new O) g) (Go.same P S) λz=>xO B S O g⟩
def znM:JE X Pn M true (.Dict [] [] pos) (mC (.dt [])):=⟨_,zlK,⟨λA σ H ρ n Q R E P B k=>λp H' q g S=>k _ n _ H' B ⟨p,[],rfl,zm (E.new q) g,rfl⟩ (Go.same P S) λ_=>⟨p,rfl,.of q,p,[],rfl,g,rfl⟩⟩⟩
def zgO {κ:Type}[DecidableEq κ](kvs:List (κ×Dt))(k:κ)(d:Dt):List (κ×Dt):=
 if (kvs.any λkv=>decide (kv.1=k))=true then kvs.map (λkv=>if kv.1=k then (kv.1,d) else kv) else kvs++[(k,d)]
def x9.any {κ:Type}[DecidableEq κ]{G:Hp}{k:κ}:∀ {kvs:List (κ×Dt)} {ks:List (κ×V)},x9 G kvs ks->(ks.any λkv=>decide (kv.1=k))=kvs.any λkv=>decide (kv.1=k)
 | [],_,h=>by cases h;rfl
 | q::r,ks,⟨v,s,e,h1,h2⟩=>by subst e;rw[c9,c9,x9.any h2]
def x9.map1 {κ:Type}[DecidableEq κ]{G:Hp}{k:κ}{d:Dt}{x:V}(F:Is G d x):∀ {kvs:List (κ×Dt)} {ks:List (κ×V)},x9 G kvs ks->x9 G (kvs.map λkv=>if kv.1=k then (kv.1,d) else kv) (ks.map λkv=>if kv.1=k then (kv.1,x) else kv)
 | [],_,h=>by cases h;rfl
 | q::r,ks,⟨v,s,e,h1,h2⟩=>by
  subst e;rw[aC,aC];by_cases B:q.1=k;rw[if_pos B,if_pos B];exact⟨x,_,rfl,F,x9.map1 F h2⟩;rw[if_neg B,if_neg B];exact⟨v,_,rfl,h1,x9.map1 F h2⟩
def x9.snoc {κ:Type}{G:Hp}{k:κ}{d:Dt}{x:V}(B:Is G d x):∀ {kvs:List (κ×Dt)} {ks:List (κ×V)},x9 G kvs ks->x9 G (kvs++[(k,d)]) (ks++[(k,x)])
 | [],_,h=>by cases h;exact⟨x,[],rfl,B,rfl⟩
 | q::r,ks,⟨v,s,e,h1,h2⟩=>by subst e;exact⟨v,_,rfl,h1,x9.snoc B h2⟩
def x9.put{κ:Type}[DecidableEq κ]{k:κ}{kvs:List (κ×Dt)}{ks:List (κ×V)}(h:x9 G kvs ks)(q:Is G d x):x9 G (zgO kvs k d) (uy ks k x):=by
 unfold zgO uy;rw[h.any];split;exact h.map1 q;exact h.snoc q
def x9.len {κ:Type}{G:Hp}:∀ {kvs:List (κ×Dt)} {ks:List (κ×V)},x9 G kvs ks->ks.length=kvs.length
 | [],_,h=>by cases h;rfl
 | q::r,ks,⟨v,s,e,h1,h2⟩=>by subst e;rw[aM,aM,x9.len h2]
def At3.wrX(h:At3 Pn B S M A σ H ρ n)(hi:i∈M)(e:ρ[i]?=some (some w))(s:σ[i]?=some (some (.ref ad)))(hw:WAt (L2.upd H ad o) (zV A H) w' (.ref ad))(hm':w'.mut=true)(np:NP o)(nt:Mt o):At3 Pn B S M A σ (L2.upd H ad o) (ρ.set i (some w')) n:=by
 obtain⟨v,s1,_,s3⟩:=h.env.val i w e;rw[s] at s1;cases s1;obtain⟨a2,e2,hA,_,_⟩:=s3 hi;cases e2;have hlen:i<ρ.length:=(ah.mp e).1
 have hE:EnvR A M σ (L2.upd H ad o) (ρ.set i (some w')):=by
  show⟨by rw[bM];exact h.env.len,λj u ej=>?_,λj q u u' b hj hq hne e1 e2=>?_,λb hb=>?_⟩;by_cases hj:j=i;subst hj;rw[aR hlen] at ej;cases ej;exact⟨.ref ad,s,λz=>absurd hi z,λ_=>⟨ad,rfl,hA,by change WAt _ _ _ _;rw[yd hA];exact hw,hm'⟩⟩;rw[ax (Ne.symm hj)] at ej;obtain⟨v,t1,t2,t3⟩:=h.env.val j u ej;show⟨v,t1,λz=>?_,λz=>?_⟩;change WAt _ _ _ _;rw[yd hA];exact t2 z;obtain⟨b,rfl,hb,hbb,hm⟩:=t3 z;have hne:b≠ad:=λq=>h.env.dis i j w u ad hi z (Ne.symm hj) e ej s (by rw[t1,q]);show⟨b,rfl,hb,?_,hm⟩;change WAt _ _ _ _;rw[yd hA]
  cases u with
  | d x=>
   cases x with
   | lst l=>obtain⟨a2,xs,e2,g1,g2⟩:=hbb;cases e2;exact⟨b,xs,rfl,by rw[ze hne];exact g1,g2⟩
   | dct=>obtain⟨a2,xs,e2,g1,g2⟩:=hbb;cases e2;exact⟨b,xs,rfl,by rw[ze hne];exact g1,g2⟩
   | _=>cases hm
  | pen p=>cases hm
  | dk k=>obtain⟨a2,xs,e2,g1,g2⟩:=hbb;cases e2;exact⟨b,xs,rfl,by rw[ze hne];exact g1,g2⟩
  | dt k=>obtain⟨a2,xs,e2,g1,g2⟩:=hbb;cases e2;exact⟨b,xs,rfl,by rw[ze hne];exact g1,g2⟩
  | ss P w k=>obtain⟨a2,xs,e2,g1,g2⟩:=hbb;cases e2;exact⟨b,xs,rfl,by rw[ze hne];exact g1,g2⟩
  | df k=>obtain⟨a2,ob,xs,e2,g1,g2⟩:=hbb;cases e2;exact⟨b,ob,xs,rfl,by right,g2⟩
  | kf k=>obtain⟨a2,ob,xs,e2,g1,g2⟩:=hbb;cases e2;exact⟨b,ob,xs,rfl,by right,g2⟩
  | ad a x=>cases hm
  | tz kvs x=>cases hm
  | fl k=>obtain⟨a2,ob,xs,e2,g1,g2⟩:=hbb;cases e2;exact⟨b,ob,xs,rfl,by right,g2⟩
  have get:∀q (u:W),(ρ.set i (some w'))[q]?=some (some u)->∃u',ρ[q]?=some (some u'):=λq u z=>by
   by_cases hq:q=i;subst hq;exact⟨w,e⟩;rw[ax (Ne.symm hq)] at z;exact⟨u,z⟩
  obtain⟨v1,f1⟩:=get j u e1;obtain⟨v2,f2⟩:=get q u' e2;exact h.env.dis j q v1 v2 b hj hq hne f1 f2;by_cases hb':b=ad;subst hb';exact⟨_,zg,np,nt⟩;rw[ze hb'];exact h.env.al b hb
 show⟨hE,⟨h.frm.sub,h.frm.new,λb o eb nn nc=>?_,h.frm.al,h.frm.cn,λb z=>(by
  by_cases hb':b=ad;subst hb';exact⟨_,zg,np⟩;rw[ze hb'];exact h.frm.cs b z)⟩,h.pn.upd hA,by rw[yd hA];exact h.prot,h.fix,λj u b hj ej sj=>?_⟩
 have hne:b≠ad:=λq=>by
  subst q;rcases h.mine i w b hi e s with z | z;exact z o eb nn;exact nc z
 rw[ze hne];exact h.frm.st b o eb nn nc;by_cases hj':j=i;subst hj';exact h.mine j w b hj e sj;rw[ax (Ne.symm hj')] at ej;exact h.mine j u b hj ej sj
def zja (i:Nat)(fk f:AD):Ms:=λρ n k=>(∃kvs,ρ[i]?=some (some (.dt kvs)))/\f ρ n λw m=>fk ρ m λy q=>∃kvs st d,ρ[i]?=some (some (.dt kvs))/\w = .d d/\y = .d (stD st)/\kvs.length<lim/\k.nx (ρ.set i (some (.dt (zgO kvs st d)))) q
def zdo (i:Nat){x:Str}{np sp:Pos}(hu:X.A.units+1<cLine)(hk:JB X Pn M c fc)(he:JE X Pn M fr' e f)(hi:i∈M:=by ext)(hN:X.N[i]?=some x:=by rfl)(hv:Vis X.env.scope x:=by walk_at "v")(hd:Ah x:=by ext)
  (I:(x==("__classdict__" : Str))=false:=by ext) (hs:swapsWith e (some (.Subscript (.Name x np) c p)) sp.line X.env=pure false:=by rfl) :
  JS X Pn S M fr (.Assign [.Subscript (.Name x np) c p] e sp) (zja i fc f):=by
 obtain⟨te,q,r⟩:=he.ex;obtain⟨tk,qk,rk⟩:=hk.ex;show⟨_,zdM hu (qv i hN hv hd I) qk q hs,⟨ ?_⟩⟩;rintro B A σ H ρ n k D a kk ⟨⟨l0,e0⟩,hf⟩;obtain⟨v0,J,_,o3⟩:=a.env.val i _ e0;obtain⟨O,rfl,hA,ag,_⟩:=o3 hi;show r.run A σ H ρ n _ _ a.env a.pn hf λw m v H1 r1 U g1 _=>⟨.ref O,J,?_⟩;have Y:=a.step g1;show rk.run A σ H1 ρ m _ _ Y.env Y.pn r1  ?_;rintro y m2 v2 H2 ⟨kvs,st,d,e,ed,ey,hz,r2⟩ b2 g2;subst ed ey;have a2:=Y.step g2;obtain⟨v3,s3,_,o4⟩:=a2.env.val i _ e;rw[J] at s3;cases s3;obtain⟨al,e4,_,hb,_⟩:=o4 hi;cases e4;obtain⟨a5,ks,e5,Z,F⟩:=hb;cases e5;obtain⟨bd,xs,rfl,ac,hx⟩:=uc b2;obtain rfl:=hx.of_ints;exact⟨O,_,rfl,zd4.i Z ac (zgw (by rw[F.len];exact cD hz)),kk.nx A σ _ _ m2 (a2.wrX (w':=.dt (zgO kvs st d)) hi e J ⟨O,_,rfl,zg,F.put (U.stay g2.st).is⟩ rfl (λk z=>by cases z) rfl) r2⟩
end
end L3
namespace L3
open L2
section
variable {X:Cx}{Pn:PN}{M S:AR}{fr fr':Bool}{e a b c:Expr}{es:AO}{f fa fb fc:AD}{pos p:Pos}
def zt9(h1:QI X tg e q)(h2:QI X tg e B):QI X tg e (λσ H R=>q σ H R\/B σ H R):=⟨λpins s σ H R I h=>h.elim (h1.run pins s σ H R I) (h2.run pins s σ H R I)⟩
def ztF (fa:AD):AC:=λρ n Q=>zsC fa ρ n Q\/zsD fa ρ n Q
def zmy(K:AH)(q:X.K=K)(h:JE X Pn M fr e f):JI X Pn M false tg e (ztF f):=by obtain⟨U,B,F⟩:=(zbJ (tg:=tg) K q h).ex;obtain⟨Y,I,J⟩:=(zcH (tg:=tg) K q h).ex;exact⟨_,zt9 B I,⟨λA σ H ρ n Q R E P O k=>O.elim (λz=>.inl (F.run A σ H ρ n Q R E P z k)) λz=>.inr (J.run A σ H ρ n Q R E P z k)⟩⟩
def zn0 (fa:AC):AC:=λρ n Q=>fa ρ n λq m=>∃l k,q=[.d (.lst l),.d (.tup k)]/\l.length=k.length/\Q (ziW l k) m
def znO {B:AO}{x1}{tpos:Pos}{fs:AC}(U:Gl X "zip")(Y:X.mg "zip" = none)(Z:JA X Pn M [a,b] fs)(hs:starEach [a,b] X.env=[(false,eval a X.env),(false,eval b X.env)]:=by rfl)(O:starEach [b] X.env=[(false,eval b X.env)]:=by rfl):JI X Pn M false (.Tuple B x1 tpos) (.Call (.Name "zip" p) [a,b] [] pos) (zn0 fs):=by obtain⟨te,q,r⟩:=Z.ex;show⟨_,zoT false U Y q hs O,⟨λA σ H ρ n Q R E P hf k=>?_⟩⟩;show r.run A σ H ρ n _ _ E P hf  ?_;rintro ws m vs H1 ⟨l,kk,e,F,r⟩ hv g;subst e;obtain⟨v,s,rfl,⟨ad,xs,rfl,I,hl⟩,v2,s2,rfl,⟨bd,ys,rfl,J,hk⟩,hs⟩:=hv;cases hs;exact⟨ad,bd,rfl,⟨xs,.of (zl _ _ I)⟩,⟨ys,.of (zl _ _ J)⟩,k _ m _ H1 r (zla F (λs=>.of (zl _ _ (s.lst I))) hl J hk) g⟩
def ziu:AU->Mo W:=λq n Q=>∃kvs,q=[.dt kvs]/\((kvs.map (·.1)).Nodup->Q (.d (.lst ((kvs.map (·.1)).map stD))) n)
def x9.keys {κ:Type}{G:Hp}:∀ {kvs:List (κ×Dt)} {ks:List (κ×V)},x9 G kvs ks->ks.map (·.1)=kvs.map (·.1)
 | [],_,h=>by cases h;rfl
 | q::r,_,⟨v,s,e,_,h⟩=>by subst e;rw[aC,aC,x9.keys h]
def zpA:FL Pn true zjU ziu:=⟨by
 rintro A H xs ws n Q R J b P ⟨kvs,Z,h⟩ k;subst Z;obtain⟨v,r,rfl,b1,b2⟩:=b;cases b2;obtain⟨ad,ks,rfl,F,I⟩:=b1;show⟨ad,ks,rfl,F,λO ys q p H' U g S=>?_⟩;rw[I.keys] at O q;have B:=J.stay (zq.same S);have Y:=q.stay (zq.same S);show k _ n _ H' (h O) (Val.of ⟨p,ys,rfl,zm (J.new U) g,xP B.noT (yO _) Y⟩) (Go.same P S) λ_=>⟨p,rfl,.of U,p,ys,rfl,g,xP (λb xs z e=>?_) (yO _) Y⟩;rcases z with z | z;exact B.noT b xs z e;subst z;rw[g] at e;cases e⟩
def zqr(D:DfnD X.K X.mg x st ps ds fA fd)(G:FnOk X.prog X.w X.K X.mg X.base CX0 j fA fd ps (spV k fr F))(O:Room J X.A)(U:JA X Pn M (e::es) fs)(q:j<=J:=by ext)(Y:Gl X x:=by rfl)(B:Ah x:=by ext)(Z:starEach (e::es) X.env=(false,eval e X.env)::starEach es X.env:=by rfl)(I:(backTo pos (starEach es X.env)).any (·.1)=false:=by rfl) :
  JE X Pn M fr (.Call (.Name x p) (e::es) [] pos) (mFn k (F Pn) fs):=by
 obtain⟨ta,qa,ra⟩:=U.ex;exact⟨_,zmR D G O qa q Y B Z I,zrz ra⟩
def zn1 (i j:Nat):Ms:=λρ n k=>∃w,ρ[j]?=some (some w)/\k.nx ((ρ.set j none).set i (some w)) n
def ztI (i j:Nat)(fs:AC):Ms:=λρ n k=>fs ρ n λq m=>∃w u,q=[w,u]/\k.nx ((ρ.set i (some w)).set j (some u)) m
def zqu {i j:Nat}{x y:Str}{fs:AC}{px F I:Pos}{kt k2 pt2}(Z:X.calm=true)(hN:X.N.Nodup)(hi:X.N[i]?=some x)(hj:X.N[j]?=some y)(hx:X.env.scope.names.lookup x=some .local)(hy:X.env.scope.names.lookup y=some .local)(ha:JA X Pn M [a,b] fs)(J:i≠j:=by ext)(O:i∉M:=by ext)(U:j∉M:=by ext)(ac:i∉S:=by ext)(ad:j∉S:=by ext)
  (hw:swappedStores [.Tuple [.Name x px,.Name y F] kt I] (.Tuple [a,b] k2 pt2) X.env=pure (some [x,y]):=by rfl)
  (hs:swapsWithSole [.Tuple [.Name x px,.Name y F] kt I] (.Tuple [a,b] k2 pt2) pos.line X.env=pure false:=by rfl) :
  JS X Pn S M fr (.Assign [.Tuple [.Name x px,.Name y F] kt I] (.Tuple [a,b] k2 pt2) pos) (ztI i j fs):=by
 obtain⟨ta,qa,ra⟩:=ha.ex;show⟨_,⟨zrj Z hN hi hj J hx hy qa.run hw hs⟩,⟨λB A σ H ρ n k D a kk hf=>?_⟩⟩;show ra.run A σ H ρ n _ _ a.env a.pn hf  ?_;rintro ws m vs H1 ⟨w,u,e,r⟩ hv g;subst e;obtain⟨v,y,rfl,b1,b2⟩:=zpE hv;have Y:=a.step g;show⟨v,y,rfl,kk.nx A _ H1 _ m (EnvR.mineG Y ((Y.env.set O b1).set U b2) λq hq=>?_) r⟩;have qi:i≠q:=λz=>by right
 have qj:j≠q:=λz=>by right
 right
end
end L3
namespace L3
open L2
def zfO (n w:Nat):List.range ((n+1) * w)=List.range w++(List.range (n * w)).map (w+·):=by rw[gf,Nat.add_comm,List.range_add]
def zf8 (w:Nat)(F:0<w):∀q:AF,(List.range (q.length * w)).map (λk=>q.getD (k / w) []++[((k % w:Nat):Int)])=xx q (zE w)
 | []=>by simp[xx]
 | r::q=>by
  have I:=zf8 w F q;have e:xx (r::q) (zE w)=(zE w).map (λv=>r++[v])++xx q (zE w):=by unfold xx;rw[List.flatMap_cons]
  rw[e,aM,zfO,aD,aJ,<- I];congr 1;unfold zE;rw[aJ,aO];apply bK;intro k J;have B:=aN.mp J;rw[gb B,Nat.mod_eq_of_lt B];rfl;apply bK;right
structure StOk (rm st:AG):Prop where
 len:st.length=rm.length
 box:∀b:Int,0<=b->b<rm.length->0<=zR st b/\zR st b<zR rm b
def xL:∀ (ns:AG),(∀n∈ns,1<=n)->((uL (ns.map zE)).length:Int)=zL ns:=by
 have:∀ (k:Nat) (ns:AG),ns.length=k->(∀n∈ns,1<=n)->((uL (ns.map zE)).length:Int)=zL ns:=by
  intro k
  induction k with
  | zero=>intro ns e _;rw[a8 e];rfl
  | succ k B=>
   intro ns e h
   obtain⟨m,x,rfl⟩:∃m x,ns=m++[x]:=by
    have q:ns≠[]:=by intro z;rw[z] at e;cases e
    exact⟨ns.dropLast,ns.getLast q,(bp q).symm⟩
   rw[ak] at e;rw[aD,aC,ez,yT,zcE,yE,zaW];have h1:=B m (by simpa using e) λn hn=>h n (aQ _ hn);have h2:=h x (aE _ (by simp));rw[dU,h1,eY (by lia)]
 right
def zjG:∀ {ns:AG},(∀n∈ns,1<=n)->1<=zL ns:=λ{ns} h=>by
 have h1:=xL ns h
 have:∀ (ns:AG) (a:Int),1<=a->(∀n∈ns,1<=n)->1<=ns.foldl (· * ·) a:=by
  intro ns
  induction ns with
  | nil=>intro a q _;exact q
  | cons n ns B=>
   intro a q hn;show B (a * n) ?_ λm F=>hn m (am _ F);have:=hn n aj;exact Int.le_trans (by ext) (Int.mul_le_mul q this (by ext) (by lia))
 exact this ns 1 (by ext) h
def zjH {ns:AG}(q:ns≠[])(h:∀n∈ns,2<=n):2<=zL ns:=by
 obtain⟨m,x,rfl⟩:∃m x,ns=m++[x]:=⟨ns.dropLast,ns.getLast q,(bp q).symm⟩;rw[yE];have h1:=zjG (ns:=m) λn hn=>by have:=h n (aQ _ hn);lia
 have h2:=h x (aE _ (by simp));exact Int.le_trans (by simp) (Int.mul_le_mul h1 h2 (by ext) (by lia))
def zk2 (a b:AG)(k:Nat):Wi:=⟨((List.range a.length).filter λi=>!decide (i=k)).map λi:Nat=>((i:Int),a.getD i 0),(k:Int),b.getD k 0,a.getD k 0⟩
def zk3 {rm a b:AG}{k:Nat}(J:StOk rm a)(O:StOk rm b)(U:k<a.length)(F:a.getD k 0≠b.getD k 0):WishOk rm (zk2 a b k):=by
 have Y:=J.len;have A:∀i:Nat,i<rm.length->0<=a.getD i 0/\a.getD i 0<zR rm (i:Int):=λi hi=>by have:=J.box (i:Int) (by lia) (by lia);rwa[zK] at this
 have Bb:∀i:Nat,i<rm.length->0<=b.getD i 0/\b.getD i 0<zR rm (i:Int):=λi hi=>by have:=O.box (i:Int) (by lia) (by lia);rwa[zK] at this
 have B:k<rm.length:=by lia
 show⟨⟨λq I=>?_,?_⟩,by change (0:Int)<=(k:Int);lia,by change (k:Int)<_;lia,λq I=>?_,(Bb k B).1,(Bb k B).2,(A k B).1,(A k B).2,λz=>F z.symm⟩;obtain⟨i,hi,rfl⟩:=aF.mp I;right;change List.Pairwise (λa b:Int×Int=>a.1<b.1) (((List.range a.length).filter λi=>!decide (i=k)).map λi:Nat=>((i:Int),a.getD i 0));rw[bZ];show fS (R:=λi j:Nat=>i<j) (λ{i j} h=>?_) (List.Pairwise.filter _ List.pairwise_lt_range);grind;obtain⟨i,hi,rfl⟩:=aF.mp I;have:=(cm.mp hi).2;change (i:Int)≠(k:Int);grind
def zsU (rm:AG)(bk:AW)(g:List (Int×Int)):AF:=(ztv rm g).filter λst=>decide (xz bk st (g.map (·.1))=[])
abbrev xk (bk:AW):Dt:=.tup (bk.map xt)
def uJ (rm:AG)(bk:AW):Prop:=∀x∈bk,WishOk rm x
def zgD (x:Wi):(xt x).noL=true:=by have h:=zoa x.g;unfold xt;simp only[Dt.noL,Dt.noLs,eP,Bool.true_and] at h ⊢;exact h
abbrev F_bett:FV:=λ_ q n R=>∃rm bk st hs,q=[.d (stD rm),.d (xk bk),.d (stD st),.d (stD hs)]/\RoomOk rm/\uJ rm bk/\st.length=rm.length/\R (.d (x8 (zaf bk st hs))) n
abbrev zsq:FV:=λ_ q n R=>∃rm bk g,q=[.d (stD rm),.d (xk bk),.d (zqj g)]/\RoomOk rm/\uJ rm bk/\Giv rm g/\R (.d (x8 (zsU rm bk g))) n
def xg (r:Nat):zhy 0 r=(List.range r).map λk:Nat=>W.d (.int (k:Int)):=by
 unfold zhy;right
def zcB{q:AF}(h:i<q.length):atI (q.map stD) (i:Int)=some (stD (q.getD i [])):=by
 show zeb ?_;right
def zf0 {ns:AG}(I:ns.length<=8)(q:∀m∈ns,2<=m/\m<=4)(k:Nat):(uL ((ns.take k).map zE)).length<=65536:=by
 have:=zkz (cs:=ns.map zE) (by right) (λc B=>by obtain⟨m,F,rfl⟩:=aF.mp B;have:=q m F;rw[zaW];lia) k;right
def xy{q:AF}(h:i<q.length):q.getD i []∈q:=by right
def zpP {L:AS}{a:Int}{G:Dt->Prop}(q:0<=a)(h1:a<L.length)(h:∀x∈L,G x):∃x,atI L a=some x/\G x:=by obtain⟨d,h2,B⟩:=zpQ q h1;exact⟨d,h2,h d B⟩
def zo8 (rm:AG):Bool:=decide (rm≠[]/\rm.length<=8/\(∀r∈rm,2<=r/\r<=4)/\zL rm<=256)
def yy(rm:AG)(e:d=stD rm)(h:zo8 rm=true):∃rm,d=stD rm/\RoomOk rm/\zL rm<=256:=by obtain⟨h1,h2,q,B⟩:=bD h;exact⟨rm,e,⟨h1,h2,q⟩,B⟩
def za6:∀ {rm:AG},(∀r∈rm,2<=r/\r<=4)->zL rm<=256->rm.length<=8:=λ{rm} B I=>by
 have:∀ (k:Nat) (rm:AG),rm.length=k->(∀r∈rm,2<=r/\r<=4)->(2:Int) ^ k<=zL rm:=by
  intro k
  induction k with
  | zero=>intro rm e _;rw[a8 e];decide
  | succ k F=>
   intro rm e B
   obtain⟨m,x,rfl⟩:∃m x,rm=m++[x]:=by
    have q:rm≠[]:=by intro z;rw[z] at e;cases e
    exact⟨rm.dropLast,rm.getLast q,(bp q).symm⟩
   rw[ak] at e;have h1:=F m (by simpa using e) λn hn=>B n (aQ _ hn);have h2:=B x (aE _ (by simp));rw[yE,Int.pow_succ];have J:(0:Int)<=2 ^ k:=Int.pow_nonneg (by ext);exact Int.mul_le_mul h1 h2.1 (by ext) (by lia)
 apply bU;intro hn;have h1:=this _ rm rfl B
 have h2:(2:Int) ^ 9<=2 ^ rm.length:=by
  have:(2:Nat) ^ 9<=2 ^ rm.length:=dz (by ext) (by lia)
  exact_mod_cast this
 grind
def zim {a b:AG}(B:a.length=b.length)(q:a≠b):∃k zC,((List.range a.length).filter λk=>!decide (a.getD k 0=b.getD k 0))=k::zC/\k<a.length/\a.getD k 0≠b.getD k 0:=by
 cases h:(List.range a.length).filter λk=>!decide (a.getD k 0=b.getD k 0) with
 | nil=>
  exfalso;apply q;apply dG B;right
 | cons k zC=>
  have F:k∈(List.range a.length).filter λk=>!decide (a.getD k 0=b.getD k 0):=by rw[h];simp
  obtain⟨h1,h2⟩:=cm.mp F;right
def StOk.snoc {rm st:AG}{w v:Int}(h:StOk rm st)(I:0<=v)(J:v<w):StOk (rm++[w]) (st++[v]):=by
 have O:=h.len;show⟨by right,λb q B=>?_⟩;rw[ak] at B;by_cases F:b<(rm.length:Int);rw[za3 q (by lia),za3 q F];exact h.box b q F
 have e:b=(rm.length:Int):=by
  have:b<(rm.length:Int)+1:=by simpa using B
  lia
 subst e;rw[za2,<- O,za2];exact⟨I,J⟩
def zhE {sts q B:AF}{k w:Nat}(I:k<sts.length)(hN:sts.Nodup)(h1:q.Nodup)(h2:∀x∈q,∃a∈sts.take k,∃v:Int,0<=v/\v<w/\x=a++[v])(h3:q.length=k * w)(J:B.Perm ((List.range w).map λv:Nat=>sts.getD k []++[(v:Int)])) :
  (q++B).Nodup/\(∀x∈q++B,∃a∈sts.take (k+1),∃v:Int,0<=v/\v<w/\x=a++[v])/\(q++B).length=(k+1) * w:=by
 have O:sts.getD k []=sts[k]:=by simp[I]
 have ht:sts.take (k+1)=sts.take k++[sts[k]]:=zn (aw I)
 have U:∀x∈B,∃v:Int,0<=v/\v<w/\x=sts[k]++[v]:=λx F=>by
  obtain⟨v,hv,rfl⟩:=aF.mp (J.mem_iff.mp F);right
 have nB:B.Nodup:=by
  show J.nodup_iff.mpr ?_;change List.Pairwise _ _;rw[bZ];show fS (λ{a b} h e=>h ?_) dF;have:=List.append_cancel_left e;grind
 have ac:sts[k]∉sts.take k:=λz=>by have Y:=hN;rw[<- aV k sts,ck I] at Y;exact (dw.mp Y).2.2 _ z _ aj rfl
 show⟨dw.mpr ⟨h1,nB,λx F y hy e=>?_⟩,λx F=>?_,?_⟩;obtain⟨a,Z,v,_,_,rfl⟩:=h2 x F;obtain⟨u,_,_,rfl⟩:=U y hy;right;rw[ht];rcases au.mp F with z | z;obtain⟨a,Z,r⟩:=h2 x z;exact⟨a,aQ _ Z,r⟩;obtain⟨v,r⟩:=U x z;exact⟨_,aE _ (by simp),v,r⟩;rw[ak,h3,J.length_eq,ab,aB,gf]
def xm {α q:Type}(f:α->q)(l:List α)(lo hi:AQ):xZ (l.map f) lo hi=(xZ l lo hi).map f:=by
 unfold xZ;right
def zfk {α:Type}{l:List α}{lo hi:AQ}{x:α}(h:x∈xZ l lo hi):x∈l:=cA (bB h)
def xM {α:Type}(l:List α)(lo hi:AQ):(xZ l lo hi).length<=l.length:=by unfold xZ;rw[bg,eG];lia
def zpY {st:AG}{b w:Int}(q:0<=b):xZ st none (some b)++[w]++xZ st (some (b+1)) none=chg st b w:=by
 have h:=zh2 st (w:=w) q;have B:zcF (st.map V.int) none (some b)=(xZ st none (some b)).map V.int:=by rw[<- xm];rfl
 have F:zcF (st.map V.int) (some (b+1)) none=(xZ st (some (b+1)) none).map V.int:=by rw[<- xm];rfl
 rw[B,F] at h;have I:(xZ st none (some b)).map V.int++[V.int w]++(xZ st (some (b+1)) none).map V.int=(xZ st none (some b)++[w]++xZ st (some (b+1)) none).map V.int:=by rw[aD,aD];rfl
 rw[I] at h;exact List.map_inj_right (by grind) |>.mp h
def zcP {l:AF}(h:l.Nodup){k:Nat}(q:k+1<l.length):l.getD k []≠l.getD (k+1) []:=by have:=bz.mp h k (k+1) (by lia) q (by lia);simpa [show k<l.length by lia,q] using this
def uJ.cut{rm:AG}(h:uJ rm bk)(lo hi:AQ):uJ rm (xZ bk lo hi):=λx q=>h x (zfk q)
def uJ.app{rm:AG}(h:uJ rm bk)(h':uJ rm q):uJ rm (bk++q):=λx B=>(au.mp B).elim (h x) (h' x)
def uJ.set{rm:AG}(h:uJ rm bk)(q:WishOk rm x)(i:Nat):uJ rm (bk.set i x):=λy B=>(List.mem_or_eq_of_mem_set B).elim (h y) λe=>e ▸ q
def uJ.ins{rm:AG}(h:uJ rm bk)(q:WishOk rm x)(i:Nat):uJ rm (zmt bk i x):=λy B=>by
 rcases au.mp B with z | z;exact h y (bB z);rcases ay.mp z with rfl | z;exact q;exact h y (cA z)
def znH {α q:Type}(f:α->q)(l:List α)(i:Nat)(x:α):zmt (l.map f) i (f x)=(zmt l i x).map f:=by
 unfold zmt;right
def znG {α:Type}(l:List α)(i:Nat)(x:α):(zmt l i x).length=l.length+1:=by
 unfold zmt;grind
def zdi (n:Nat):AG:=(List.range n).map λi:Nat=>(i:Int)
def zeQ (n:Nat):zlV n=(zdi n).map Dt.int:=by unfold zlV zdi;rw[aJ];rfl
def zbD{x:Int}(h:x∈zdi n):0<=x/\x<n:=by
 obtain⟨i,hi,rfl⟩:=aF.mp h;grind
def yG (n:Nat):(zdi n).length=n:=by unfold zdi;rw[ab,aB]
def zbE (n:Nat):(zdi n).Nodup:=by unfold zdi;change List.Pairwise _ _;rw[bZ];exact fS (by grind) dF
def unI:Dt->Int
 | .int i=>i
 | _=>0
def zb1{xs:AG}(h:l.Perm (xs.map Dt.int)):∃ys:AG,l=ys.map Dt.int/\ys.Perm xs:=by
 show⟨l.map unI,?_,?_⟩;rw[aJ];have:∀d∈l,(Dt.int ∘ unI) d=d:=λd q=>by obtain⟨x,_,rfl⟩:=aF.mp (h.mem_iff.mp q);rfl
 exact (List.map_id'' (f:=Dt.int ∘ unI) (l:=l) |> λ_=>(bK this).trans (List.map_id l)).symm;have:=h.map unI;rw[aJ] at this;have e:xs.map (unI ∘ Dt.int)=xs:=(bK λ_ _=>rfl).trans (List.map_id xs);rwa[e] at this
def uM {α:Type}(l:List α)(k:Nat):xZ l none (some (k:Int))=l.take k:=by
 unfold xZ;rw[HT.sIx_none,HT.sIx_nat,ek,Nat.sub_zero];grind
structure ParOk (rm:AG)(box:Int)(qs:AG):Prop where
 up:qs.Pairwise (· < ·)
 ok:∀q∈qs,0<=q/\q<rm.length/\q≠box
def ParOk.cut {rm:AG}{B:Int}{F:AG}(h:ParOk rm B F)(lo hi:AQ):ParOk rm B (xZ F lo hi):=
 ⟨(h.up.drop).take,λq I=>h.ok q (zfk I)⟩
def zq1{rm:AG}{B ps I:AG}{t:AQ}(O:B.Perm (zdi rm.length))(U:k<B.length)(Y:ps.Perm (B.take k))(Z:I.Perm (xZ ps none t))(hu:I.Pairwise (·<=·)):ParOk rm (B.getD k 0) I:=by
 have nb:B.Nodup:=O.nodup_iff.mpr (zbE _);have np:ps.Nodup:=Y.nodup_iff.mpr (nb.sublist (cg _ _));have nq:I.Nodup:=Z.nodup_iff.mpr ((np.sublist (ee _ _)).sublist (cg _ _));have F:B.getD k 0=B[k]:=by simp[U]
 show⟨?_,λq J=>?_⟩;exact (List.Pairwise.and hu nq).imp λ{a b} h=>by obtain⟨h1,h2⟩:=h;lia
 have h1:q∈B.take k:=Y.mem_iff.mp (zfk (Z.mem_iff.mp J));have h2:=zbD (O.mem_iff.mp (bB h1));show⟨h2.1,h2.2,λz=>?_⟩;have hd:=nb;rw[<- aV k B,ck U] at hd;exact (dw.mp hd).2.2 _ h1 _ aj (by rw[z,F])
def zna:∀ (ns st:AG),st∈uL (ns.map zE)->StOk ns st:=by
 have:∀ (k:Nat) (ns:AG),ns.length=k->∀st,st∈uL (ns.map zE)->StOk ns st:=by
  intro k
  induction k with
  | zero=>
   intro ns e st q;rw[a8 e] at q ⊢;rw[ao.mp q];exact⟨rfl,λb Y F=>absurd F (by simp;lia)⟩
  | succ k I=>
   intro ns e st q
   obtain⟨m,x,rfl⟩:∃m x,ns=m++[x]:=by
    have B:ns≠[]:=by intro z;rw[z] at e;cases e
    exact⟨ns.dropLast,ns.getLast B,(bp B).symm⟩
   rw[ak] at e;rw[aD,aC,ez,yT] at q;obtain⟨r,J,q⟩:=List.mem_flatMap.mp q;obtain⟨v,O,rfl⟩:=aF.mp q;obtain⟨j,U,rfl⟩:=aF.mp O;have:=aN.mp U;exact (I m (by simpa using e) r J).snoc (by lia) (by lia)
 right
def znB {rm:AG}{I:Int}{B st:AG}(h:ParOk rm I B)(hs:StOk (B.map (zR rm)) st):Giv rm (B.zip st)/\∀q∈B.zip st,q.1≠I:=by
 have O:=hs.len;rw[ab] at O;have J:∀q∈B.zip st,q.1∈B:=λq F=>(eS F).1;show⟨⟨λq F=>?_,?_⟩,λq F=>(h.ok _ (J q F)).2.2⟩;obtain⟨i,hi,e⟩:=bS.mp F;rw[List.getElem_zip] at e;rw[List.length_zip] at hi;have h1:=h.ok _ (J q F);have h2:=hs.box (i:Int) (by lia) (by grind);have U:zR st (i:Int)=q.2:=by rw[zK,<- e];simp[show i<st.length by lia]
 have Y:zR (B.map (zR rm)) (i:Int)=zR rm q.1:=by rw[zK,<- e];simp[show i<B.length by lia]
 right;have e:(B.zip st).map (·.1)=B:=List.map_fst_zip (by lia);have:=h.up;rw[<- e,bZ] at this;exact this
def zg1:∀ (B st:AG),ziW (B.map Dt.int) (st.map Dt.int)=(B.zip st).map λq=>W.d (xo q)
 | [],_=>by cases ‹AG› <;> rfl
 | _::_,[]=>rfl
 | q::B,s::st=>by change _::ziW (B.map Dt.int) (st.map Dt.int)=_::_;rw[zg1 B st];rfl
def zoF {κ:Type}[DecidableEq κ](kvs:List (κ×Dt))(k:κ)(d:Dt):(zgO kvs k d).length<=kvs.length+1:=by
 unfold zgO;split
 all_goals right
def zcG (bk:AW)(x:Wi)(st hs:AG):xz (bk++[x]) st hs=xz bk st hs++(if (zaO st x&&!hs.contains x.b)=true then [chg st x.b x.r] else []):=by
 unfold xz;grind
def uN {ns:AG}:(Dt.lst (ns.map .int)).eqOk:=ue (ns:=ns)
def znf{st:AG}{b x:Int}(q:0<=b)(B:st.length<=1000)(h:Q (.d (stD (chg st b x))) n):zfn (.d (.tup (xZ (st.map Dt.int) none (some b)))) (.d (.tup [.int x])) n λw m=>zfn w (.d (.tup (xZ (st.map Dt.int) (some (b+1)) none))) m Q:=by
 have F:=xM st none (some b);have I:=xM st (some (b+1)) none;rw[xm,xm];show⟨_,_,rfl,rfl,by rw[ab];exact aA (by simp;lia:_<=1001) (by ext),_,_,rfl,rfl,by rw[ak,ab,ab];exact aA (by simp;lia:_<=2001) (by ext),?_⟩;have e:(xZ st none (some b)).map Dt.int++[Dt.int x]++(xZ st (some (b+1)) none).map Dt.int=(chg st b x).map Dt.int:=by rw[<- zpY q,aD,aD];rfl
 rw[e];exact h
def zkw:∀ (sts:AF),ziW (sts.map stD) (sts.map stD)=sts.map λst=>W.d (.tup [stD st,stD st])
 | []=>rfl
 | q::B=>by change _::ziW (B.map stD) (B.map stD)=_::_;rw[zkw B]
section
variable {X:Cx}{Pn:PN}{M S:AR}{fr fr':Bool}{e a b c:Expr}{es:AO}{f fa fb fc:AD}{pos p:Pos}
def zji (t:Ev->Mo Bool)(fb:Ms):Ms:=λρ n k=>∃I:Nat->Ev->Nat->Prop,(∃m,I m ρ n)/\
 ∀m q O,I m q O->t q O λb U=>if b=true then fb q U { k with nx:=λB J=>∃F,F<m/\I F B J,ct:=λB J=>∃F,F<m/\I F B J,bk:=k.nx } else k.nx q U
def zgt {body:List Stmt}{t:Ev->Mo Bool}{fb:Ms}(hp:PassesOwn (model X.prog X.w) X.A X.env X.xe)(hc:JT X Pn M c t)(hb:JSs X Pn S M fr body fb):JS X Pn S M fr (.While c body [] pos) (zji t fb):=by
 obtain⟨tc,qc,rc⟩:=hc.ex;obtain⟨tb,qb,rb⟩:=hb.ex;show⟨_,⟨zlG hp qc.run qb.run⟩,⟨ ?_⟩⟩;rintro B A σ H ρ n k D a kk ⟨I,⟨m0,i0⟩,it⟩;show⟨λm F H'=>∃A' q U,At3 Pn B S M A' F H' q U/\I m q U,⟨m0,A,ρ,n,a,i0⟩,?_⟩;rintro m F H' ⟨A',q,U,a',hI⟩;show rc.run A' F H' q U _ _ a'.env a'.pn (it m q U hI) λb n2 H2 r g=>?_;have a2:=a'.step g
 cases b with
 | false=>
  rw[if_neg (by ext)] at r ⊢;exact kk.nx A' F H2 q n2 a2 r
 | true=>
  rw[if_pos rfl] at r ⊢;show⟨λac H3=>∃A' q U,At3 Pn B S M A' ac H3 q U/\∃O,O<m/\I O q U,λac H3 ⟨A3,ad,n3,a3,O,hm,h⟩=>⟨O,hm,A3,ad,n3,a3,h⟩,?_⟩;show rb.run B A' F H2 q n2 { k with nx:=λY n3=>∃O,O<m/\I O Y n3,ct:=λY n3=>∃O,O<m/\I O Y n3,bk:=k.nx } _ a2 ⟨?_,?_,?_,kk.fc,?_⟩ r;exact λA4 Z H4 J n4 a4 r4=>⟨A4,J,n4,a4,r4⟩;exact λA4 Z H4 J n4 a4 r4=>kk.nx A4 Z H4 J n4 a4 r4;exact λA4 Z H4 J n4 a4 r4=>⟨A4,J,n4,a4,r4⟩;exact kk.rt
def zkt{t:Ev->Mo Bool}{fb:Ms}{ρ:Ev}{k:Kt}(I:Nat->Ev->Nat->Prop)(O:Nat)(Z:I O ρ n)(h:∀m q U,I m q U->t q U λb Y=>if b=true then fb q Y { k with nx:=λB J=>∃F,F<m/\I F B J,ct:=λB J=>∃F,F<m/\I F B J,bk:=k.nx } else k.nx q Y):zji t fb ρ n k:=⟨I,⟨O,Z⟩,h⟩
end
end L3
namespace L2
open PyProof.Rows
section
variable {prog:Aa}{w:Ab}{A:Ae}{E:AA}{R:Result->AZ->Prop}{s:AZ}
variable {X:Cx}{pins:AB}{σ:St}{H:Hp}{a:Addr}{y v:V}{u r:Value}{o:Option V}
def zig(hu:A.units+1<cLine)(I:Inv X pins σ H s)(g:zd4 H a y v H')(ry:yc y u)(rv:yc v r)(h:∀s',Inv X pins σ H' s'->Q () s') :
  wpAny (model X.prog X.w) A (dictSet a u r) Q E s:=by
 rcases g with ⟨kvs,k,e,ey,l,eH⟩ | ⟨kvs,k,b,e,ey,eb,l,eH⟩;subst ey eH;obtain⟨z,O,vs,B,U⟩:=znn I.hok e;have Y:vs.length<=sizeLine:=by rw[<- B.length];exact z
 have Z:(uy kvs k v).length<=sizeLine:=by have:=yW kvs k v;lia
 show wpAny_dictSet_pairs (hsz:=Y) (zhj ry) U λh' F hs=>h _ ?_;have he:∃q,h'.get? a=some q:=let ⟨q,_,_,J,_⟩:=F;⟨q,J⟩;exact zbC I (by rw[e];exact True.intro) hs he (zin Z O (B.put k rv) F);subst ey eH;cases (show u=Value.ref b from ry);obtain⟨z,O,xs,B,U⟩:=zqb I.hok e;have Y:xs.length<=sizeLine:=by rw[<- fT B];exact z
 have Z:(uy kvs k v).length<=sizeLine:=by have:=yW kvs k v;lia
 show wpAny_dictSet_heap (hsz:=Y) (Nat.lt_of_succ_lt hu) (zeC I.hok eb) U λh' F hs=>h _ ?_;obtain⟨q,es,ep,J,h2,h3,h4,_,h5⟩:=F;show zbC I (by rw[e];exact True.intro) hs ⟨q,J⟩ ⟨Z,O,_,(B.put k eb rv).keeps λc ys ec=>?_,q,es,ep,J,h2,h3,h4,h5⟩;rw[ze (by grind)];exact ec
variable {Fam:Cx->Prop}{scope:Scope}{N:AM}{cix:List (Option Nat)}{z:Str}{use:Option (Value->Sem Unit)}{Qp:AA}{elt ke ve tg iter tg2 iter2:Expr}{ifs ifs2:AO}{pos ipos spos px:Pos}{wi wi2:TI}{g g2:TG}{ti ti2:TT}{te tk tv:TE}{Q:VK}{o0:HO}
end
end L2
namespace L3
open L2
section
variable {X:Cx}{Pn:PN}{M S:AR}{fr fr':Bool}{e a b c:Expr}{es:AO}{f fa fb fc:AD}{pos p:Pos}
def ztR (ks:List (AG×V)):NP (dtO ks):=λ_ e=>by cases e
def zqa (mg:W->Ev->(Ev->Prop)->Prop)(U:Ev->Mo Bool)(fk fv:AD)(J:Ev)(Q:AV):AU->Nat->Prop:=λl Y=>l.length<=lim/\∃I:Nat->Ev->Nat->List (AG×Dt)->Prop,I 0 J Y []/\
 (∀i w B F acc,l[i]?=some w->I i B F acc->mg w B λq=>U q F λb O=>if b=true then fk q O λy Z=>fv q Z λx n4=>∃st d,y = .d (stD st)/\x = .d d/\I (i+1) q n4 (zgO acc st d) else I (i+1) q O acc)/\
 ∀ B F acc,I l.length B F acc->Q (.dt acc) F
abbrev ztA (q:AC) (mg:W->Ev->(Ev->Prop)->Prop) (B:Ev->Mo Bool) (fk fv:AD) (cix:List (Option Nat)):AD:=λρ n Q=>q ρ n (zqa mg B fk fv (zhP ρ cix) Q)
def zp9 (mg:W->Ev->(Ev->Prop)->Prop)(U:Ev->Mo Bool)(fk fv:AD)(J:Ev)(Q:AV):AU->Nat->Prop:=λl Y=>l.length<=lim/\∃I:Nat->Ev->Nat->List (Key×Dt)->Prop,I 0 J Y []/\
 (∀i w B F acc,l[i]?=some w->I i B F acc->mg w B λq=>U q F λb O=>if b=true then fk q O λy Z=>fv q Z λx n4=>∃ (j:Int) (d:Dt),y = .d (.int j)/\x = .d d/\I (i+1) q n4 (zgO acc (Sum.inl j) d) else I (i+1) q O acc)/\
 ∀ B F acc,I l.length B F acc->Q (.dk acc) F
abbrev ztz (q:AC) (mg:W->Ev->(Ev->Prop)->Prop) (B:Ev->Mo Bool) (fk fv:AD) (cix:List (Option Nat)):AD:=λρ n Q=>q ρ n (zp9 mg B fk fv (zhP ρ cix) Q)
end
abbrev onI (w:W) (P:Int->Prop):Prop:=match w with | .d (.int i)=>P i | _=>False
abbrev onB (w:W) (P:Bool->Prop):Prop:=match w with | .d (.bl i)=>P i | _=>False
abbrev onT (w:W) (P:AS->Prop):Prop:=match w with | .d (.tup i)=>P i | _=>False
abbrev onL (w:W) (P:AS->Prop):Prop:=match w with | .d (.lst i)=>P i | _=>False
abbrev onS (w:W) (P:AS->Prop):Prop:=match w with | .d (.lst i)=>P i | .d (.tup i)=>P i | _=>False
abbrev onD (w:W) (P:Dt->Prop):Prop:=match w with | .d i=>P i | _=>False
abbrev onK (w:W) (P:List (Key×Dt)->Prop):Prop:=match w with | .dk i=>P i | _=>False
abbrev onE (w:W) (P:List (AG×Dt)->Prop):Prop:=match w with | .dt i=>P i | _=>False
abbrev onO {α:Type} (o:Option α) (P:α->Prop):Prop:=match o with | some i=>P i | none=>False
abbrev onC (c:Bool) (A B:Prop):Prop:=match c with | true=>A | false=>B
abbrev on1 (l:AU) (P:W->Prop):Prop:=match l with | [a]=>P a | _=>False
abbrev on2 (l:AU) (P:W->W->Prop):Prop:=match l with | [a,b]=>P a b | _=>False
abbrev onV:Ev->Nat->(W->Prop)->Prop
 | [],_,_=>False
 | a::_,0,P=>onO a P
 | _::r,i+1,P=>onV r i P
abbrev onP:Ev->Nat->W->(Ev->Prop)->Prop
 | [],_,_,Q=>Q []
 | _::r,0,w,Q=>Q (some w::r)
 | a::r,i+1,w,Q=>onP r i w λq=>Q (a::q)
abbrev onN:Ev->Nat->(Ev->Prop)->Prop
 | [],_,Q=>Q []
 | _::r,0,Q=>Q (none::r)
 | a::r,i+1,Q=>onN r i λq=>Q (a::q)
abbrev zcs {α:Type}:Nat->List α->Prop->Prop
 | 0,[],P=>P
 | k+1,_::r,P=>zcs k r P
 | _,_,_=>False
def ut{P:Int->Prop}:onI w P = ∃i,w = .d (.int i)/\P i:=propext ⟨λh=>by rcases w with (x|x|x|x|_|_) <;> first | exact False.elim h | (cases x <;> first | exact False.elim h | exact⟨_,rfl,h⟩),by right⟩
def zqM:onB w P = ∃i,w = .d (.bl i)/\P i:=propext ⟨λh=>by rcases w with (x|x|x|x|_|_) <;> first | exact False.elim h | (cases x <;> first | exact False.elim h | exact⟨_,rfl,h⟩),by rintro⟨i,e,h⟩;subst e;exact h⟩
def zbY:onT w P = ∃i,w = .d (.tup i)/\P i:=propext ⟨λh=>by rcases w with (x|x|x|x|_|_) <;> first | exact False.elim h | (cases x <;> first | exact False.elim h | exact⟨_,rfl,h⟩),by right⟩
def xc:onL w P = ∃i,w = .d (.lst i)/\P i:=propext ⟨λh=>by rcases w with (x|x|x|x|_|_) <;> first | exact False.elim h | (cases x <;> first | exact False.elim h | exact⟨_,rfl,h⟩),by right⟩
def zju:onS w P = ∃i,(w = .d (.lst i)\/w = .d (.tup i))/\P i:=propext ⟨λh=>by rcases w with (x|x|x|x|_|_) <;> first | exact False.elim h | (cases x <;> first | exact False.elim h | exact⟨_,.inl rfl,h⟩ | exact⟨_,.inr rfl,h⟩),by rintro⟨i,e,h⟩;rcases e with e | e <;> subst e <;> exact h⟩
def xb:onD w P = ∃i,w = .d i/\P i:=propext ⟨λh=>by cases w <;> first | exact False.elim h | exact⟨_,rfl,h⟩,by right⟩
def zgG{P:List (AG×Dt)->Prop}:onE w P = ∃i,w = .dt i/\P i:=propext ⟨λh=>by cases w <;> first | exact False.elim h | exact⟨_,rfl,h⟩,by right⟩
def zeJ {α:Type}{w:Option α}{P:α->Prop}:onO w P = ∃i,w=some i/\P i:=propext ⟨λh=>by cases w <;> first | exact False.elim h | exact⟨_,rfl,h⟩,by right⟩
def zcR{A B:Prop}:onC c A B=if c=true then A else B:=by cases c <;> simp[onC]
def u5:on1 l P = ∃a,l=[a]/\P a:=propext ⟨λh=>by rcases l with (_|⟨a,_|⟨b,l⟩⟩) <;> first | exact False.elim h | exact⟨_,rfl,h⟩,by right⟩
def zjs:on2 l P = ∃a b,l=[a,b]/\P a b:=propext ⟨λh=>by rcases l with (_|⟨a,_|⟨b,_|⟨c,l⟩⟩⟩) <;> first | exact False.elim h | exact⟨_,_,rfl,h⟩,by right⟩
def uu:∀ {ρ:Ev} {i:Nat} {P:W->Prop},onV ρ i P = ∃w,ρ[i]?=some (some w)/\P w
 | [],i,P=>by simp[onV]
 | some w::r,0,P=>by simp[onV]
 | none::r,0,P=>by simp[onV]
 | some w::r,i+1,P=>by simpa [onV] using uu (ρ:=r) (i:=i) (P:=P)
 | none::r,i+1,P=>by simpa [onV] using uu (ρ:=r) (i:=i) (P:=P)
def xG:∀ {ρ:Ev} {i:Nat} {w:W} {Q:Ev->Prop},onP ρ i w Q=Q (ρ.set i (some w))
 | [],i,w,Q=>rfl
 | a::r,0,w,Q=>rfl
 | a::r,i+1,w,Q=>by rw[onP,xG];rfl
def zmG:∀ {ρ:Ev} {i:Nat} {Q:Ev->Prop},onN ρ i Q=Q (ρ.set i none)
 | [],i,Q=>rfl
 | a::r,0,Q=>rfl
 | a::r,i+1,Q=>by rw[onN,zmG];rfl
def zav {α:Type}:∀ {k:Nat} {l:List α} {P:Prop},zcs k l P=(l.length=k/\P)
 | 0,[],P=>by simp[zcs]
 | 0,a::r,P=>by simp[zcs]
 | k+1,[],P=>by simp[zcs]
 | k+1,a::r,P=>by simp[zcs,zav (l:=r)]
def xS {P:Prop}[Decidable P]{A B:Prop}(h1:P->A)(h2:¬ P->B):onC (decide P) A B:=by
 by_cases h:P
 all_goals right
def zjt {P:Prop}[Decidable P]{A B:Prop}(h1:¬ P->A)(h2:P->B):onC (!decide P) A B:=by
 by_cases h:P
 all_goals right
def zqN{A B:Prop}(h1:c=true->A)(h2:c=false->B):onC c A B:=by
 cases c;exact h2 rfl;exact h1 rfl
def zgF{A B:Prop}(h1:c=false->A)(h2:c=true->B):onC (!c) A B:=by
 cases c;exact h1 rfl;exact h2 rfl
def ztU{A B:Prop}(h:c=true)(h1:A):onC c A B:=by subst h;exact h1
def ztT{A B:Prop}(h:c=false)(h1:B):onC c A B:=by subst h;exact h1
def zbl {α:Type}{o:Option α}{a:α}{P:α->Prop}(e:o=some a)(h:P a):onO o P:=by subst e;exact h
def onA{st:AG}{b:Int}(q:0<=b)(h1:b<st.length)(h:P (.int (zR st b))):onO (atI (st.map Dt.int) b) P:=zbl (znc q h1) h
def zlw {L:AS}{a:Int}{P:Dt->Prop}(q:0<=a)(h1:a<L.length)(h:∀x∈L,P x):onO (atI L a) P:=by obtain⟨x,e,B⟩:=zpP q h1 h;exact zbl e B
section
variable {X:Cx}{Pn:PN}{M S:AR}{fr fr':Bool}{e a b c:Expr}{es:AO}{f fa fb fc g:AD}{pos p:Pos}{t u:Ev->Mo Bool}{fs gs:AC}
def wE (h:f=g)(j:JE X Pn M fr e f):JE X Pn M fr e g:=h ▸ j
def wB (h:f=g)(j:JB X Pn M e f):JB X Pn M e g:=h ▸ j
def wT (h:t=u)(j:JT X Pn M e t):JT X Pn M e u:=h ▸ j
def wW (h:t=u)(j:JW X Pn M e t):JW X Pn M e u:=h ▸ j
def wO {f g:Ev->Mo AQ}{e:Option Expr}(h:f=g)(j:JO X Pn M e f):JO X Pn M e g:=h ▸ j
def wG {f g:W->Ev->(Ev->Prop)->Prop}(h:f=g)(j:JG X S M e f):JG X S M e g:=h ▸ j
def wH {f g:AS->Ev->(Ev->Prop)->Prop}(h:f=g)(j:JGs X S M es f):JGs X S M es g:=h ▸ j
def wI(h:fs=gs)(j:JI X Pn M q tg e fs):JI X Pn M q tg e gs:=h ▸ j
def wS {s:Stmt}{f g:Ms}(h:f=g)(j:JS X Pn S M fr s f):JS X Pn S M fr s g:=h ▸ j
abbrev zkx (i:Nat):AD:=λρ n Q=>onV ρ i λw=>Q w n
def zjh:zqE i=zkx i:=by funext ρ n Q;exact uu.symm
def kv (i:Nat){x:Str}(hi:i∉M:=by ext)(B:X.N[i]?=some x:=by rfl)(F:Vis X.env.scope x:=by walk_at "v")(I:Ah x:=by ext)
  (q:(x==("__classdict__" : Str))=false:=by ext):JE X Pn M false (.Name x pos) (zkx i):=wE zjh (ztr i hi B F I q)
def kb(i:Nat)(B:X.N[i]?=some x:=by rfl)(F:Vis X.env.scope x:=by walk_at "v")(I:Ah x:=by ext)(q:(x==("__classdict__" : Str))=false:=by ext):JB X Pn M (.Name x pos) (zkx i):=wB zjh (ztm i B F I q)
abbrev zsw (fa:AD):Ev->Mo Bool:=λρ n Q=>fa ρ n λx m=>onB x λc=>Q c m
def zo:zn7 fa=zsw fa:=by funext ρ n Q;simp only[zn7,zsw,zqM]
abbrev dAnd (t u:Ev->Mo Bool):Ev->Mo Bool:=λρ n Q=>t ρ n λc m=>onC c (u ρ m Q) (Q false m)
def zaP:zsz t u=dAnd t u:=by funext ρ n Q;simp only[zsz,dAnd,zcR]
abbrev dOr (t u:Ev->Mo Bool):Ev->Mo Bool:=λρ n Q=>t ρ n λc m=>onC c (Q true m) (u ρ m Q)
def zje:mOr t u=dOr t u:=by funext ρ n Q;simp only[mOr,dOr,zcR]
abbrev dNot (t:Ev->Mo Bool):Ev->Mo Bool:=λρ n Q=>t ρ n λc m=>onC c (Q false m) (Q true m)
def zbU:ztH t=dNot t:=by funext ρ n Q;simp only[ztH,dNot];congr 1;funext c m;cases c <;> rfl
abbrev dAndV (fa fb:AD):AD:=λρ n Q=>fa ρ n λx m=>onB x λc=>onC c (fb ρ m Q) (Q (.d (.bl false)) m)
abbrev dOrV (fa fb:AD):AD:=λρ n Q=>fa ρ n λx m=>onB x λc=>onC c (Q (.d (.bl true)) m) (fb ρ m Q)
abbrev dNotV (fa:AD):AD:=λρ n Q=>fa ρ n λx m=>onB x λc=>Q (.d (.bl (!c))) m
abbrev dIf (t:Ev->Mo Bool) (fa fb:AD):AD:=λρ n Q=>t ρ n λc m=>onC c (fa ρ m Q) (fb ρ m Q)
abbrev dI (C:Int->Int->Prop) (g:Int->Int->Dt):W->W->Mo W:=λx y n Q=>onI x λi=>onI y λj=>C i j/\Q (.d (g i j)) n
def znq {C:Int->Int->Prop}{g:Int->Int->Dt}:fI C g=dI C g:=by funext x y n Q;simp only[dI,ut];exact propext ⟨by rintro⟨i,j,q,B,h⟩;exact⟨i,q,j,B,h⟩,by rintro⟨i,q,j,B,h⟩;exact⟨i,j,q,B,h⟩⟩
abbrev dI0 (g:Int->Int->Dt):W->W->Mo W:=λx y n Q=>onI x λi=>onI y λj=>Q (.d (g i j)) n
def zeo {g:Int->Int->Dt}:fI0 g=dI0 g:=by funext x y n Q;simp only[dI0,ut];exact propext ⟨by rintro⟨i,j,q,B,h⟩;exact⟨i,q,j,B,h⟩,by rintro⟨i,q,j,B,h⟩;exact⟨i,j,q,B,h⟩⟩
def zaY:F2 Pn false (rI0 λi j=>.int (i+j)) (dI0 λi j=>.int (i+j)):=zeo ▸ zus
def zpy:F2 Pn false (rI0 λi j=>.int (i - j)) (dI0 λi j=>.int (i - j)):=zeo ▸ zuA
def zpu:F2 Pn false (rI zmi λi j=>.int (i * j)) (dI zmi λi j=>.int (i * j)):=znq ▸ zuy
def zsb:F2 Pn false (rI zpI λi j=>.int (i / j)) (dI zpI λi j=>.int (i / j)):=znq ▸ zsm
def zpt:F2 Pn false (rI (λ_ j=>0<j) λi j=>.int (i % j)) (dI (λ_ j=>0<j) λi j=>.int (i % j)):=znq ▸ zux
def u_lt:F2 Pn false (rI0 λi j=>.bl (decide (i<j))) (dI0 λi j=>.bl (decide (i<j))):=zeo ▸ v_lt
def u_le:F2 Pn false (rI0 λi j=>.bl (decide (i<=j))) (dI0 λi j=>.bl (decide (i<=j))):=zeo ▸ v_le
def zup:F2 Pn false (rI0 λi j=>.bl (decide (i > j))) (dI0 λi j=>.bl (decide (j<i))):=zeo ▸ v_gt
abbrev dNeg:W->Mo W:=λx n Q=>onI x λi=>Q (.d (.int (-i))) n
abbrev dEq:W->W->Mo W:=λx y n Q=>onD x λa=>onD y λb=>onO (sEq a b) λr=>Q (.d (.bl r)) n
def zqe:fEq=dEq:=by
 funext x y n Q;simp only[fEq,dEq,xb,zeJ];right
abbrev dNe:W->W->Mo W:=λx y n Q=>onD x λa=>onD y λb=>onO (sEq a b) λr=>Q (.d (.bl (!r))) n
def zqg:fNe=dNe:=by
 funext x y n Q;simp only[fNe,dNe,xb,zeJ];right
def ze9:F2 Pn false rEq dEq:=zqe ▸ v_eq
def zse:F2 Pn false rNe dNe:=zqg ▸ v_ne
abbrev zsX:W->W->Mo W:=λx y n Q=>onD x λa=>onD y λb=>a.eqOk/\b.eqOk/\∀r:Bool,(r=true↔a=b)->Q (.d (.bl r)) n
abbrev zs7:W->W->Mo W:=λx y n Q=>onD x λa=>onD y λb=>a.eqOk/\b.eqOk/\∀r:Bool,(r=true↔a=b)->Q (.d (.bl (!r))) n
def znp:ztc=zsX:=by
 funext x y n Q;simp only[ztc,zsX,xb];right
def znv:ztg=zs7:=by
 funext x y n Q;simp only[ztg,zs7,xb];right
def zsa:F2 Pn false zsI zsX:=znp ▸ zut
def zpv:F2 Pn false zsK zs7:=znv ▸ zuz
abbrev dIsB:W->W->Mo W:=λx y n Q=>onB x λa=>onB y λb=>Q (.d (.bl (a==b))) n
abbrev zs0:W->W->Mo W:=λx y n Q=>onB x λa=>onB y λb=>Q (.d (.bl (a != b))) n
abbrev dInI:W->W->Mo W:=λx y n Q=>onI x λb=>onS y λl=>∃ns:AG,l=ns.map .int/\Q (.d (.bl (ns.contains b))) n
abbrev zfl:W->W->Mo W:=λx y n Q=>onI x λb=>onS y λl=>∃ns:AG,l=ns.map .int/\Q (.d (.bl (!ns.contains b))) n
def zhd:zfo=zfl:=by funext x y n Q;simp only[zfo,zfl,ut,zju];exact propext ⟨by rintro⟨a,b,q,B,h⟩;exact⟨a,q,_,B,b,rfl,h⟩,by rintro⟨a,q,l,B,b,e,h⟩;subst e;exact⟨a,b,q,B,h⟩⟩
def zmb:F2 Pn false (rIn K true) zfl:=zhd ▸ zmd
abbrev xr:Bool->Bool->Bool
 | false,b=>b
 | true,b=>!b
abbrev dInD (q:Bool):W->W->Mo W:=λx y n Q=>onD x λd=>onS y λds=>d.eqOk/\(Dt.lst ds).eqOk/\∀b:Bool,(b=true↔d∈ds)->Q (.d (.bl (xr q b))) n
abbrev zp2:W->W->Mo W:=λx y n Q=>onT x λl=>onI y λi=>onO (atI l i) λd=>Q (.d d) n
abbrev zs4:W->W->Mo W:=λx y n Q=>onL x λl=>onI y λi=>onO (atI l i) λd=>Q (.d d) n
def znt:zte=zp2:=by
 funext x y n Q;simp only[zte,zp2,zbY,ut,zeJ];right
def zns:ztd=zs4:=by
 funext x y n Q;simp only[ztd,zs4,xc,ut,zeJ];right
def zae:F2 Pn false (zpM K) zp2:=znt ▸ zuv
def uU:F2 Pn false (zsJ K) zs4:=zns ▸ zuu
abbrev znk:W->W->Mo W:=λx y n Q=>onT x λl=>onT y λm=>l.length+m.length<=lim/\Q (.d (.tup (l++m))) n
abbrev znj:W->W->Mo W:=λx y n Q=>onL x λl=>onL y λm=>l.length+m.length<=lim/\Q (.d (.lst (l++m))) n
def zkX:zfn=znk:=by
 funext x y n Q;simp only[zfn,znk,zbY];right
def zkW:zno=znj:=by
 funext x y n Q;simp only[zno,znj,xc];right
def ze3:F2 Pn false (zlO K) znk:=zkX ▸ zsl
def zm7:F2 Pn true zoY znj:=zkW ▸ zsk
abbrev dRepT:W->W->Mo W:=λx y n Q=>onT x λl=>onI y λj=>(1<=j/\j<=1000000/\l.length * j.toNat<=lim)/\Q (.d (.tup (List.replicate j.toNat l).flatten)) n
abbrev dRepL:W->W->Mo W:=λx y n Q=>onL x λl=>onI y λj=>(0<=j/\j<=1000000/\l.length * j.toNat<=lim)/\Q (.d (.lst (List.replicate j.toNat l).flatten)) n
def ws1:on1 q P = ∃a,q=[a]/\P a:=u5
abbrev zs5:AU->Mo W:=λq n Q=>on1 q λx=>onO (lenD x) λk=>Q (.d (.int (k:Int))) n
def znu:ztf=zs5:=by
 funext ws n Q;simp only[ztf,zs5,u5,zeJ];right
def uI:FL Pn false (λxs H Q=>∃x n,xs=[x]/\zss K x H n/\Q (.int n) H) zs5:=znu ▸ zuw
abbrev dAbs:AU->Mo W:=λq n Q=>on1 q λx=>onI x λi=>Q (.d (.int (if i<0 then -i else i))) n
abbrev dMin:AU->Mo W:=λq n Q=>on2 q λx y=>onI x λi=>onI y λj=>Q (.d (.int (if j<i then j else i))) n
abbrev dMax:AU->Mo W:=λq n Q=>on2 q λx y=>onI x λi=>onI y λj=>Q (.d (.int (if j > i then j else i))) n
abbrev dAll:AU->Mo W:=λB n Q=>on1 B λx=>onL x λl=>∃q:List Bool,l=q.map .bl/\Q (.d (.bl (q.all id))) n
abbrev zp3:AU->Mo W:=λq n Q=>on1 q λx=>onS x λl=>Q (.d (.lst l)) n
abbrev zmp:AU->Mo W:=λq n Q=>on1 q λx=>onS x λl=>Q (.d (.tup l)) n
def zrS:(∃l,(q=[.d (.lst l)]\/q=[.d (.tup l)])/\P l)=on1 q λx=>onS x P:=by
 simp only[u5,zju];grind
def zsd:FL Pn true (zjV K) zp3:=(show zqf=zp3 by funext ws n Q;exact zrS) ▸ zso
def xW:FL Pn false (zfN K) zmp:=(show zms=zmp by funext ws n Q;exact zrS) ▸ zpD
abbrev dDictT:AU->Mo W:=λq n Q=>on1 q λx=>onT x λl=>∃ps:List (Int×Dt),l=ps.map prD/\(ps.map (·.1)).Nodup/\ps.length<=1000/\Q (.dk (ps.map kvD)) n
abbrev znl:AU->Mo W:=λq n Q=>on1 q λx=>match x with
 | .d (.int i)=>Q (.d (.int i)) n
 | .d (.bl b)=>Q (.d (.int (if b then 1 else 0))) n
 | _=>False
def zkY:znr=znl:=by
 funext ws n Q;simp only[znr,znl,u5];show propext ⟨λh=>?_,λ⟨x,e,h⟩=>?_⟩;rcases h with ⟨i,e,h⟩ | ⟨i,e,h⟩;exact⟨_,e,h⟩;exact⟨_,e,h⟩;split at h;exact .inl ⟨_,e,h⟩;exact .inr ⟨_,e,h⟩;exact h.elim
def zsc:FL Pn false (λxs H Q=>(∃i,xs=[.int i]/\Q (.int i) H)\/∃k,xs=[.bl k]/\Q (.int (if k then 1 else 0)) H) znl:=zkY ▸ zsn
abbrev zie:AU->Mo W:=λB n Q=>on1 B λx=>onL x λl=>∃ns:AG,l=ns.map .int/\ns.length<64/\∀q:AG,q.Perm ns->q.Pairwise (·<=·)->Q (.d (.lst (q.map .int))) n
def zix:ziw=zie:=by funext ws n Q;simp only[ziw,zie,u5,xc];exact propext ⟨by rintro⟨x,e,h⟩;exact⟨_,e,_,rfl,x,rfl,h⟩,by right⟩
def zpw:FL Pn true zjW zie:=zix ▸ zpB
abbrev zif:AU->Mo W:=λB n Q=>on1 B λx=>onL x λl=>∃ (sts:AF) (m:Nat),l=sts.map stD/\1<=m/\(∀st∈sts,st.length=m)/\sts.Nodup/\∀q:AF,q.Perm sts->(q.Pairwise λa b=>HT.lexLt a b=true)->Q (.d (x8 q)) n
def ziz:ziy=zif:=by funext ws n Q;simp only[ziy,zif,u5,xc];exact propext ⟨by rintro⟨x,m,e,h⟩;exact⟨_,e,_,rfl,x,m,rfl,h⟩,by right⟩
def zkm:FL Pn true zo1 zif:=ziz ▸ zpC
abbrev zid:AU->Mo W:=λq n Q=>on1 q λx=>onE x λkvs=>((kvs.map (·.1)).Nodup->Q (.d (.lst ((kvs.map (·.1)).map stD))) n)
def ziv:ziu=zid:=by funext ws n Q;simp only[ziu,zid,u5,zgG];exact propext ⟨by right,by right⟩
def zkl:FL Pn true zjU zid:=ziv ▸ zpA
end
section
variable {fa fb fc f fk fd fv:AD}{t u:Ev->Mo Bool}{fs gs:AC}
abbrev zp5 (fa:AD):Ev->Mo AQ:=λρ n Q=>fa ρ n λx m=>onI x λi=>Q (some i) m
def xa:zn4 fa=zp5 fa:=by funext ρ n Q;simp only[zn4,zp5,ut]
abbrev dSlT (fa:AD) (fl q:Ev->Mo AQ):AD:=λρ n Q=>fa ρ n λx B=>fl ρ B λlo F=>q ρ F λhi I=>onT x λl=>Q (.d (.tup (xZ l lo hi))) I
def zjg {fl q:Ev->Mo AQ}:ztL fa fl q=dSlT fa fl q:=by funext ρ n Q;simp only[ztL,dSlT,zbY]
abbrev dSlL (fa:AD) (fl q:Ev->Mo AQ):AD:=λρ n Q=>fa ρ n λx B=>fl ρ B λlo F=>q ρ F λhi I=>onL x λl=>Q (.d (.lst (xZ l lo hi))) I
def zaR {fl q:Ev->Mo AQ}:ztK fa fl q=dSlL fa fl q:=by funext ρ n Q;simp only[ztK,dSlL,xc]
abbrev dRevT (fa:AD):AD:=λρ n Q=>fa ρ n λx m=>onT x λl=>Q (.d (.tup l.reverse)) m
abbrev zp7 (fa:AD):AD:=λρ n Q=>fa ρ n λx m=>onL x λl=>Q (.d (.lst l.reverse)) m
def zgA:zn6 fa=zp7 fa:=by funext ρ n Q;simp only[zn6,zp7,xc]
abbrev dDGet (fd fk:AD):AD:=λρ n Q=>fd ρ n λx q=>fk ρ q λy B=>onK x λkvs=>onO (zsy y) λk=>onO (xE kvs k) λd=>Q (.d d) B
abbrev dDIn (q:Bool) (fk fd:AD):AD:=λρ n Q=>fk ρ n λy B=>fd ρ B λx F=>onK x λkvs=>onO (zsy y) λk=>Q (.d (.bl (xr q (xE kvs k).isSome))) F
abbrev dFn (k:Nat) (F:AU->Mo W) (fs:AC):AD:=λρ n Q=>fs ρ n λq m=>zcs k q (F q m Q)
def zp:mFn k F fs=dFn k F fs:=by funext ρ n Q;simp only[mFn,dFn,zav]
abbrev dFnB (k:Nat) (fr:Bool) (F:AU->Mo W) (fs:AC):AD:=λρ n Q=>fs ρ n λq m=>zcs k q (F q m λw B=>W.flat fr w=true/\Q w B)
def znY:zsB k fr F fs=dFnB k fr F fs:=by funext ρ n Q;simp only[zsB,dFnB,zav]
abbrev eN (i:Nat):W->Ev->(Ev->Prop)->Prop:=λw ρ Q=>onP ρ i w Q
def yf:gN i=eN i:=by funext w ρ Q;exact xG.symm
abbrev eNl:AS->Ev->(Ev->Prop)->Prop:=λds ρ Q=>match ds with | []=>Q ρ | _=>False
def zgj:gNl=eNl:=by
 funext ds ρ Q
 cases ds with
 | nil=>simp[gNl,eNl]
 | cons _ _=>simp[gNl,eNl]
abbrev eCn (g:W->Ev->(Ev->Prop)->Prop) (u:AS->Ev->(Ev->Prop)->Prop):AS->Ev->(Ev->Prop)->Prop:=λds ρ Q=>match ds with | d::r=>g (.d d) ρ λq=>u r q Q | []=>False
def uX {g:W->Ev->(Ev->Prop)->Prop}{u:AS->Ev->(Ev->Prop)->Prop}:gCn g u=eCn g u:=by
 funext ds ρ Q
 cases ds with
 | nil=>simp[gCn,eCn]
 | cons d r=>exact propext ⟨by rintro⟨d',q,e,h⟩;cases e;exact h,λh=>⟨d,r,rfl,h⟩⟩
abbrev eTp (n:Nat) (u:AS->Ev->(Ev->Prop)->Prop):W->Ev->(Ev->Prop)->Prop:=λw ρ Q=>onT w λds=>zcs n ds (u ds ρ Q)
def zgk {n:Nat}{u:AS->Ev->(Ev->Prop)->Prop}:gTp n u=eTp n u:=by funext w ρ Q;simp only[gTp,eTp,zbY,zav]
abbrev zs2 (fa:AD):AC:=λρ n Q=>fa ρ n λx m=>onL x λl=>Q (l.map W.d) m
abbrev zs3 (fa:AD):AC:=λρ n Q=>fa ρ n λx m=>onT x λl=>Q (l.map W.d) m
def zbS:zsC fa=zs2 fa:=by funext ρ n Q;simp only[zsC,zs2,xc]
def zaQ:zsD fa=zs3 fa:=by funext ρ n Q;simp only[zsD,zs3,zbY]
abbrev dItR (fs:AC):AC:=λρ n Q=>fs ρ n λq m=>on1 q λx=>onI x λj=>(j<=1000000/\-1000000<=j)/\Q (zhy 0 j.toNat) m
def yD:ztE fs=dItR fs:=by funext ρ n Q;simp only[ztE,dItR,u5,ut];congr 1;funext ws m;exact propext ⟨by right,by right⟩
abbrev dItR2 (fs:AC):AC:=λρ n Q=>fs ρ n λq m=>on2 q λx y=>onI x λi=>onI y λj=>(j<=1000000/\-1000000<=j/\i<=1000000/\-1000000<=i)/\Q (zhy i (j - i).toNat) m
abbrev dItE (fs:AC):AC:=λρ n Q=>fs ρ n λq m=>on1 q λx=>onT x λl=>Q (enW 0 l) m
abbrev dItEL (fs:AC):AC:=λρ n Q=>fs ρ n λq m=>on1 q λx=>onL x λl=>Q (enW 0 l) m
abbrev dItZ (fs:AC):AC:=λρ n Q=>fs ρ n λq m=>on2 q λx y=>onT x λl=>onT y λk=>l.length=k.length/\Q (ziW l k) m
abbrev zp1 (fs:AC):AC:=λρ n Q=>fs ρ n λq m=>on2 q λx y=>onL x λl=>onT y λk=>l.length=k.length/\Q (ziW l k) m
abbrev zp0 (fs:AC):AC:=λρ n Q=>fs ρ n λq m=>on2 q λx y=>onL x λl=>onL y λk=>Q (ziW l k) m
def zlm:zn0 fs=zp1 fs:=by funext ρ n Q;simp only[zn0,zp1,zjs,zbY,xc];congr 1;funext ws m;exact propext ⟨by rintro⟨i,j,e,h⟩;exact⟨_,_,e,i,rfl,j,rfl,h⟩,by rintro⟨x,y,e,i,q,j,B,h⟩;subst q B;exact⟨i,j,e,h⟩⟩
def zll:znZ fs=zp0 fs:=by funext ρ n Q;simp only[znZ,zp0,zjs,xc];congr 1;funext ws m;exact propext ⟨by rintro⟨i,j,e,h⟩;exact⟨_,_,e,i,rfl,j,rfl,h⟩,by rintro⟨x,y,e,i,q,j,B,h⟩;subst q B;exact⟨i,j,e,h⟩⟩
abbrev dIfS (t:Ev->Mo Bool) (f g:Ms):Ms:=λρ n k=>t ρ n λc m=>onC c (blk f ρ m k) (blk g ρ m k)
def zH {f g:Ms}:ztC t f g=dIfS t f g:=by funext ρ n k;simp only[ztC,dIfS,zcR]
abbrev zs9 (i:Nat):Ms:=λρ n k=>onV ρ i λw=>k.rt w n
def zgz:zn5 i=zs9 i:=by funext ρ n k;exact uu.symm
abbrev dSet (i:Nat) (f:AD):Ms:=λρ n k=>f ρ n λw m=>onP ρ i w λq=>k.nx q m
def zr:zpK f (gN i)=dSet i f:=by change zpK f (gN i)=zpK f (eN i);rw[yf]
abbrev dOwn (i:Nat) (f:AD):Ms:=λρ n k=>f ρ n λw m=>onC (W.mut w) (onP ρ i w λρ'=>k.nx ρ' m) False
def yt:zqD i f=dOwn i f:=by funext ρ n k;simp only[zqD,dOwn,xG (Q:=λρ'=>k.nx ρ' _)];congr 1;funext w m;cases h:W.mut w <;> simp
abbrev dApp (i:Nat) (f:AD):Ms:=λρ n k=>onV ρ i λv=>onL v λl=>f ρ n λw m=>onD w λd=>l.length<lim/\onP ρ i (.d (.lst (l++[d]))) λq=>k.nx q m
def zbQ:(onV ρ i λv=>onL v P) = ∃l,ρ[i]?=some (some (.d (.lst l)))/\P l:=by simp only[uu,xc];exact propext ⟨by right,by right⟩
def zqc{P:List (AG×Dt)->Prop}:(onV ρ i λv=>onE v P) = ∃l,ρ[i]?=some (some (.dt l))/\P l:=by simp only[uu,zgG];exact propext ⟨by right,by right⟩
def zdq:zsA i f=dApp i f:=by
 funext ρ n k;simp only[zsA,dApp,zbQ,xb,xG (Q:=λq=>k.nx q _)];show propext ⟨λ⟨⟨l,e⟩,h⟩=>⟨l,e,?_⟩,λ⟨l,e,h⟩=>⟨⟨l,e⟩,?_⟩⟩
 all_goals
  right
abbrev dExt (i:Nat) (f:AD):Ms:=λρ n k=>onV ρ i λv=>onL v λl=>f ρ n λw m=>onL w λB=>l.length+B.length<=lim/\onP ρ i (.d (.lst (l++B))) λq=>k.nx q m
def zjb:ztB i f=dExt i f:=by
 funext ρ n k;simp only[ztB,dExt,zbQ];simp only[xc,xG (Q:=λq=>k.nx q _)];show propext ⟨λ⟨⟨l,e⟩,h⟩=>⟨l,e,?_⟩,λ⟨l,e,h⟩=>⟨⟨l,e⟩,?_⟩⟩
 all_goals
  right
abbrev dIns (i:Nat) (fk f:AD):Ms:=λρ n k=>onV ρ i λv=>onL v λl=>fk ρ n λy m=>f ρ m λw B=>onD w λd=>onI y λj=>(0<=j/\j<=l.length/\l.length<lim)/\onP ρ i (.d (.lst (zmt l j.toNat d))) λq=>k.nx q B
def zjc:ztD i fk f=dIns i fk f:=by
 funext ρ n k;simp only[ztD,dIns,zbQ,xb,ut,xG (Q:=λq=>k.nx q _)];show propext ⟨λ⟨⟨l,e⟩,h⟩=>⟨l,e,?_⟩,λ⟨l,e,h⟩=>⟨⟨l,e⟩,?_⟩⟩
 all_goals
  show (congrArg (fk ρ n) ?_).mp h;funext y m;show congrArg (f ρ m) ?_;funext w m2;show propext ?_;simp[e,and_assoc]
abbrev dPopS (i:Nat) (fk:AD):Ms:=λρ n k=>onV ρ i λv=>onL v λl=>fk ρ n λy m=>onI y λj=>(0<=j/\j<l.length/\l.length<=lim)/\onP ρ i (.d (.lst (l.eraseIdx j.toNat))) λq=>k.nx q m
abbrev zga (i:Nat):Ms:=λρ n k=>onV ρ i λv=>onL v λl=>onP ρ i (.d (.lst l.reverse)) λq=>k.nx q n
def zfA:zdt i=zga i:=by funext ρ n k;simp only[zdt,zga,zbQ,xG (Q:=λq=>k.nx q _)]
abbrev dPut (i:Nat) (fk f:AD):Ms:=λρ n k=>onV ρ i λv=>onL v λl=>f ρ n λw m=>fk ρ m λy B=>onD w λd=>onI y λj=>(0<=j/\j<l.length)/\onP ρ i (.d (.lst (l.set j.toNat d))) λq=>k.nx q B
def zjf:ztJ i fk f=dPut i fk f:=by
 funext ρ n k;simp only[ztJ,dPut,zbQ,xb,ut,xG (Q:=λq=>k.nx q _)];show propext ⟨λ⟨⟨l,e⟩,h⟩=>⟨l,e,?_⟩,λ⟨l,e,h⟩=>⟨⟨l,e⟩,?_⟩⟩
 all_goals
  show (congrArg (f ρ n) ?_).mp h;funext y m;show congrArg (fk ρ m) ?_;funext w m2;show propext ?_;simp[e,and_assoc]
abbrev onSt (w:W) (P:AG->Prop):Prop:=∃st,w = .d (stD st)/\P st
abbrev dDGetT (fd fk:AD):AD:=λρ n Q=>fd ρ n λx q=>fk ρ q λy B=>onE x λkvs=>∃st,y = .d (stD st)/\onO (xE kvs st) λd=>Q (.d d) B
abbrev zmn (i:Nat) (fk f:AD):Ms:=λρ n k=>onV ρ i λv=>onE v λkvs=>f ρ n λw m=>fk ρ m λy B=>onD w λd=>∃st,y = .d (stD st)/\kvs.length<lim/\onP ρ i (.dt (zgO kvs st d)) λq=>k.nx q B
def zbR:zja i fk f=zmn i fk f:=by
 funext ρ n k;simp only[zja,zmn,zqc,xb,xG (Q:=λB=>k.nx B _)];show propext ⟨λ⟨⟨l,e⟩,h⟩=>⟨l,e,?_⟩,λ⟨l,e,h⟩=>⟨⟨l,e⟩,?_⟩⟩
 all_goals
  show (congrArg (f ρ n) ?_).mp h;funext y m;show congrArg (fk ρ m) ?_;funext w m2;show propext ?_;constructor
 rintro⟨kvs,st,d,q,F,I,h1,h2⟩;rw[e] at q;cases q;exact⟨d,F,st,I,h1,h2⟩;right;right;rintro⟨kvs,st,d,q,F,I,h1,h2⟩;rw[e] at q;cases q;exact⟨d,F,st,I,h1,h2⟩
abbrev zp4 (i j:Nat):Ms:=λρ n k=>onV ρ j λw=>onN ρ j λq=>onP q i w λB=>k.nx B n
def zln:zn1 i j=zp4 i j:=by funext ρ n k;simp only[zn1,zp4,uu,xG (Q:=λq=>k.nx q _),zmG (Q:=λB=>k.nx (B.set i (some _)) n)]
abbrev dPar (i j:Nat) (fs:AC):Ms:=λρ n k=>fs ρ n λF m=>on2 F λw u=>onP ρ i w λq=>onP q j u λB=>k.nx B m
def zn3:ztI i j fs=dPar i j fs:=by funext ρ n k;simp only[ztI,dPar,zjs,xG (Q:=λq=>k.nx q _),xG (Q:=λB=>k.nx (B.set j (some _)) _)]
abbrev dIsi (B:Dt->Bool) (f:AD):AD:=λρ n Q=>f ρ n λw m=>onD w λd=>Q (.d (.bl (B d))) m
def zdr:zmE B f=dIsi B f:=by funext ρ n Q;simp only[zmE,dIsi,xb]
abbrev zf9 (fs:AC):AD:=λρ n Q=>fs ρ n λq m=>on1 q λx=>onI x λj=>(0<=j/\j<=1000)/\Q (.d (.lst (zlV j.toNat))) m
abbrev zp8 (fs:AC):AD:=λρ n Q=>fs ρ n λq m=>on1 q λx=>onI x λj=>(0<=j/\j<=1000)/\Q (.d (.tup (zlV j.toNat))) m
def zrH {q:AU}{P:Nat->Prop}:(∃j:Nat,q=[.d (.int (j:Int))]/\j<=1000/\P j)=on1 q λx=>onI x λj=>(0<=j/\j<=1000)/\P j.toNat:=by simp only[u5,ut];exact propext ⟨by rintro⟨j,e,h1,h⟩;exact⟨_,e,_,rfl,⟨by lia,by lia⟩,by simpa using h⟩,by rintro⟨x,e,j,B,⟨h1,h2⟩,h⟩;exact⟨j.toNat,by grind,by lia,h⟩⟩
def zbT:zds fs=zf9 fs:=by funext ρ n Q;simp only[zds,zf9];congr 1;funext ws m;exact zrH (P:=λj=>Q (.d (.lst (zlV j))) m)
abbrev dTru (f:AD):Ev->Mo Bool:=λρ n Q=>f ρ n λw m=>onO (truD w) λb=>Q b m
abbrev dChain (F G:W->W->Mo W) (fa fb fc:AD):AD:=λρ n Q=>fa ρ n λx B=>fb ρ B λy I=>F x y I λz q=>onB z λk=>onC k (fc ρ q λu J=>G y u J Q) (Q (.d (.bl false)) q)
def zf5{α:Type}(xs:List α)(F:α->W)(hl:l=xs.map F)(U:xs.length<=lim)(I:Nat->Ev->Nat->AS->Prop)(h0:I 0 O n [])(h:∀i a q J acc,xs[i]?=some a->I i q J acc->∀C:Ev->Nat->AS->Prop,(∀ {ρ m l},I (i+1) ρ m l->C ρ m l)->mg (F a) q λB=>Y B J λb n2=>onC b (Z B n2 λx n3=>onD x λd=>C B n3 (acc++[d])) (C B n2 acc))(fin:∀ q J acc,I xs.length q J acc->Q (.d (.lst acc)) J):zdb mg Y Z O Q l n:=by
 show zkK xs F hl U I h0 (λi a q J acc ha hI C hC=>?_) fin;have:=h i a q J acc ha hI C hC;simp only[zcR,xb] at this;exact this
def zc9{α:Type}(xs:List α)(F:α->W)(hl:l=xs.map F)(J:Ev->Prop)(P:α->Bool)(E:α->Dt)(O:xs.length<=lim)(j0:J I)(h:∀a∈xs,∀ B,J B->∀C:Ev->Nat->Option Dt->Prop,(∀ {q},P a=true->J q->C q n (some (E a)))->(∀ {q},P a=false->J q->C q n none)->mg (F a) B λq=>U q n λb Z=>onC b (Y q Z λx n3=>onD x λd=>C q n3 (some d)) (C q Z none))(fin:Q (.d (.lst ((xs.filter P).map E))) n):zdb mg U Y I Q l n:=by
 show zh5 xs F hl J P E O j0 (λa ha B hj C hC=>?_) fin;have:=h a ha B hj C (λ{q} e z=>by right) λ{q} e z=>by have:=hC q z;rwa[if_neg (by rw[e];decide)] at this
 simp only[zcR,xb] at this;exact this
def zei{α:Type}(xs:List α)(F:α->W)(Y:l=xs.map F)(J:Ev->Prop)(E:α->Dt)(O:xs.length<=lim)(Z:J I)(h:∀a∈xs,∀ B,J B->∀C:Ev->Nat->Dt->Prop,(∀ {q},J q->C q n (E a))->mg (F a) B λq=>U q n λx n3=>onD x λd=>C q n3 d)(fin:Q (.d (.lst (xs.map E))) n):zdb mg zsF U I Q l n:=by
 show zkL xs F Y J E O Z (λa ha B hj C hC=>?_) fin;have:=h a ha B hj C λ{q} z=>hC q z;simp only[xb] at this;exact this
def zm8{t:Ev->Mo Bool}{fb:Ms}{ρ:Ev}{k:Kt}(I:Nat->Ev->Nat->Prop)(U:Nat)(Z:I U ρ n)(h:∀m q J,I m q J->∀ (C B:Ev->Nat->Prop) (E:AV),(∀ {ρ n} (F:Nat),F<m->I F ρ n->C ρ n)->(∀ {ρ n},k.nx ρ n->B ρ n)->(∀ {w n},k.rt w n->E w n)->t q J λb Y=>onC b (blk fb q Y { rt:=E,nx:=C,ct:=C,bk:=B }) (B q Y)):zji t fb ρ n k:=by
 show zkt I U Z λm q J hI=>?_;have:=h m q J hI (λO n3=>∃F,F<m/\I F O n3) k.nx k.rt (λF a b=>⟨F,a,b⟩) (λz=>z) λz=>z;simp only[zcR,zpS] at this;exact this
end
abbrev rep:Nat->(Ev->Prop)->Prop
 | 0,Q=>Q []
 | k+1,Q=>rep k λρ=>Q (none::ρ)
abbrev beg:AU->Nat->(Ev->Prop)->Prop
 | [],r,Q=>rep r Q
 | w::q,r,Q=>beg q r λρ=>Q (some w::ρ)
def zj0:∀ {r:Nat} {Q:Ev->Prop},rep r Q=Q (List.replicate r none)
 | 0,Q=>rfl
 | r+1,Q=>by rw[rep,zj0];rfl
def zmm:∀ {q:AU} {r:Nat} {Q:Ev->Prop},beg q r Q=Q (q.map some++List.replicate r none)
 | [],r,Q=>by rw[beg,zj0];rfl
 | w::q,r,Q=>by rw[beg,zmm];rfl
def zmF {P:Aa}{w:Ab}{K:AH}{mg:AI}{base:Heap}{I:Str}{st:Stmt}{f:Addr}{fd:Ac}{N ps:AM}{k m:Nat}{fr:Bool}{F:PN->AU->Mo W}(M:AR)(r:Nat)(U:(∀vs H Q E,spV m fr F vs H Q E->vs.length=ps.length)->(∀ (B:Value) (A:Ae) (q:List Env) (s:AZ) (H:Hp) (vs:AT) (Q:VK) (E:XK),Room k (A.deeper (PyProof.Rows.envOfC I (zd st) s.heap.objs.size f B))->spV m fr F vs H Q E->
   ∃t,QSs (zd6 CX0 P w K mg base N I (zd st) f B A q s H E).nox (zu st) t/\t { nx:=λ_ H'=>Q .non H',rt:=Q } (L2.y6 N vs) H)->FnOk P w K mg base CX0 (k+1) f fd ps (spV m fr F)) (Y:m=ps.length) (Z:∀i∈M,m<=i) (hN:N.length=m+r)
  (J:∀ (B:Value) (A:Ae) (q:List Env) (s:AZ) (H:Hp) (E:XK) (Pn:PN),Room k (A.deeper (PyProof.Rows.envOfC I (zd st) s.heap.objs.size f B))->
   ∃fs,JSs (zd6 CX0 P w K mg base N I (zd st) f B A q s H E).nox Pn [] M fr (zu st) fs/\∀O n R,F Pn O n R->beg O r λρ=>fs ρ n { nx:=λ_ n'=>onC fr False (R (.d .non) n'),rt:=R }):FnOk P w K mg base CX0 (k+1) f fd ps (spV m fr F):=by
 show zqK M U Y Z λB A q s H E Pn hr=>?_;obtain⟨fs,h1,h2⟩:=J B A q s H E Pn hr;show⟨fs,h1,λO n R hl hF=>?_⟩;have:=h2 O n R hF;rw[zmm] at this;have e:zaF N O=O.map some++List.replicate r none:=by unfold zaF;rw[hN,hl,Nat.add_sub_cancel_left]
 grind
def Fun.okW(M:AR)(r:Nat)(Fu:Fun K x q st f fd)(S:FnScope N ps (zd st))(U:m=ps.length)(Y:∀i∈M,m<=i)(Z:N.length=m+r)(B:∀ (J:Value) (A:Ae) (I:List Env) (s:AZ) (H:Hp) (E:XK) (Pn:PN),Room k (A.deeper (PyProof.Rows.envOfC q (zd st) s.heap.objs.size f J))->
   ∃fs,JSs (zd6 CX0 P w K mg base N q (zd st) f J A I s H E).nox Pn [] M fr (zu st) fs/\∀O n R,F Pn O n R->beg O r λρ=>fs ρ n { nx:=λ_ n'=>onC fr False (R (.d .non) n'),rt:=R }):FnOk P w K mg base CX0 (k+1) f fd ps (spV m fr F):=zmF M r (λl b=>Fun.okQ Fu S l b) U Y Z B
def FunD.okW(M:AR)(r:Nat)(Fu:FunD K x q st f fd)(S:FnScope N ps (zd st))(U:m=ps.length)(Y:∀i∈M,m<=i)(Z:N.length=m+r)(B:∀ (J:Value) (A:Ae) (I:List Env) (s:AZ) (H:Hp) (E:XK) (Pn:PN),Room k (A.deeper (PyProof.Rows.envOfC q (zd st) s.heap.objs.size f J))->
   ∃fs,JSs (zd6 CX0 P w K mg base N q (zd st) f J A I s H E).nox Pn [] M fr (zu st) fs/\∀O n R,F Pn O n R->beg O r λρ=>fs ρ n { nx:=λ_ n'=>onC fr False (R (.d .non) n'),rt:=R }):FnOk P w K mg base CX0 (k+1) f fd ps (spV m fr F):=zmF M r (λl b=>FunD.okQ Fu S l b) U Y Z B
abbrev dItS (i:Nat):AC:=λρ n Q=>onV ρ i λx=>onS x λl=>Q (l.map W.d) n
def zjd:ztF (zkx i)=dItS i:=by
 funext ρ n Q;simp only[ztF,zbS,zaQ,zs2,zs3,dItS,uu,zju,xc,zbY];grind
def zrE{fs:Ms}(h:rep r λρ=>fs (a::b::ρ) n k):fs (a::b::List.replicate r none) n k:=by rw[zj0] at h;exact h
def ztQ {G:Prop}(b:Nat)(P:Nat->Prop)(h:(∀a,a<=b->P a)->G)(r:∀a,a<=b->P a):G:=h r
def zqG {G:Prop}(P:W->Prop)(h:(∀a,P a)->G)(r:∀a,P a):G:=h r
def zqF {α:Type}{G:Prop}(C:α->Prop)(P:α->Prop)(h:(∀a,C a->P a)->G)(r:∀a,C a->P a):G:=h r
def ztw {st:AG}{x:Dt}(h:st.length<=1000):(st.map Dt.int).length+[x].length<=lim:=by rw[ab];exact aA (by simp;lia:_<=1001) (by ext)
def zsu {st:AG}{x:Int}:st.map Dt.int++[Dt.int x]=(st++[x]).map Dt.int:=by right
def zng {st:AG}{b x:Int}(q:0<=b)(B:st.length<=1000):xZ (st.map Dt.int) none (some b)++[Dt.int x]++xZ (st.map Dt.int) (some (b+1)) none=(chg st b x).map Dt.int:=by
 have key:∀z:W,zfn (.d (.tup (xZ (st.map Dt.int) none (some b)))) (.d (.tup [.int x])) 0 (λw m=>zfn w (.d (.tup (xZ (st.map Dt.int) (some (b+1)) none))) m λw' _=>w' = .d (stD (chg st b x))):=λz=>znf q B rfl;obtain⟨l,m,F,I,_,J,O,U,Y,_,h⟩:=key (.d .non);grind
def zkI {st:AG}{b:Int}{x:Dt}(q:st.length<=1000):(xZ (st.map Dt.int) none (some b)).length+[x].length<=lim:=by have:=xM (st.map Dt.int) none (some b);rw[ab] at this;exact aA (by simp;lia:_<=1001) (by ext)
def zkJ{st:AG}{b c:Int}(q:st.length<=1000):(xZ (st.map Dt.int) none (some b)++[x]).length+(xZ (st.map Dt.int) (some c) none).length<=lim:=by have h1:=xM (st.map Dt.int) none (some b);have h2:=xM (st.map Dt.int) (some c) none;rw[ab] at h1 h2;rw[ak];exact aA (by simp;lia:_<=2001) (by ext)
def scR (mg:W->Ev->(Ev->Prop)->Prop)(U:Ev->Mo Bool)(Y:AD)(J:Ev)(Q:AF->Nat->Prop):AU->Nat->Prop:=λl Z=>∃I:Nat->Ev->Nat->AF->Prop,I 0 J Z []/\
 (∀i w q F acc,l[i]?=some w->I i q F acc->mg w q λB=>U B F λb O=>if b=true then Y B O λx n3=>∃st,x = .d (stD st)/\I (i+1) B n3 (acc++[st]) else I (i+1) B O acc)/\
 (∀i q F acc ks,I i q F acc->List.Nodup ks->(∀z∈ks,z∈acc)->ks.length<300)/\
 ∀ q F acc ks,I l.length q F acc->List.Nodup ks->(∀z,z∈ks↔z∈acc)->Q ks F
abbrev ztM (q:AC) (mg:W->Ev->(Ev->Prop)->Prop) (B:Ev->Mo Bool) (F:AD) (cix:List (Option Nat)):AD:=λρ n Q=>q ρ n (scR mg B F (zhP ρ cix) λks I=>∃m,ks.length<64/\1<=m/\(∀st∈ks,st.length=m)/\∀l':AF,l'.Perm ks->(l'.Pairwise λa b=>HT.lexLt a b=true)->Q (.d (x8 l')) I)
section
variable {X:Cx}{Pn:PN}{M S:AR}{fr fr':Bool}{pos p:Pos}
end
abbrev dGetI (fd fk q:AD):AD:=λρ n Q=>fd ρ n λx B=>onK x λkvs=>fk ρ B λy F=>q ρ F λz I=>onO (zsy y) λk=>onI z λi=>Q (.d ((xE kvs k).getD (.int i))) I
section
variable {X:Cx}{Pn:PN}{M:AR}{a b c:Expr}{fa fb fc:AD}{apos cpos:Pos}
end
end L3
namespace L2
open PyProof.Rows
section
variable {X:Cx}{e lo st:Expr}{te tl tk:TE}{pos p2:Pos}
end
end L2
namespace L3
open L2
abbrev dFromL (fa fl fk:AD):AD:=λρ n Q=>fa ρ n λx q=>onL x λl=>fl ρ q λy B=>onI y λc=>fk ρ B λz F=>onI z λk=>(0<=c/\1<=k)/\∀ys:AS,ys.Sublist (l.drop c.toNat)->Q (.d (.lst ys)) F
section
variable {X:Cx}{Pn:PN}{M:AR}{e lo st:Expr}{f fl fk:AD}{pos p2:Pos}
end
def zti:HO:=.dK [(Sum.inr "at",.non)]
abbrev gone (H:Hp)(a:Addr):Hp:=L2.upd H a zti
section
variable {X:Cx}{Pn:PN}{M S:AR}{fr fr':Bool}{pos p:Pos}
abbrev dGiv (i:Nat) (F:AU->Mo W) (f1 f2:AD):Ms:=λρ n k=>f1 ρ n λw1 m1=>f2 ρ m1 λw2 m2=>onV ρ i λw=>F [w1,w2,w] m2 λw' m'=>onC (W.mut w') (onP ρ i w' λρ'=>k.nx ρ' m') False
end
end L3
namespace L2
open PyProof.Rows PySem.W PySem.SeqAt
section
variable {X:Cx}
end
end L2
namespace L3
open L2
section
variable {X:Cx}{Pn:PN}{M S:AR}{fr fr':Bool}{e o:Expr}{f fo:AD}{pos p:Pos}
abbrev dLenK:AU->Mo W:=λq n Q=>on1 q λx=>onK x λkvs=>Q (.d (.int (kvs.length:Nat))) n
abbrev dListK:AU->Mo W:=λq n Q=>on1 q λx=>onK x λkvs=>∃ns:AG,kvs.map (·.1)=ns.map Sum.inl/\Q (.d (.lst (ns.map .int))) n
abbrev dIndex (fo f:AD):AD:=λρ n Q=>fo ρ n λx q=>onL x λl=>f ρ q λy B=>onI y λk=>∃ns:AG,l=ns.map .int/\k∈ns/\Q (.d (.int (ns.idxOf k:Nat))) B
abbrev zs6 (f:AD):AD:=λρ n Q=>f ρ n λx q=>onL x λl=>∃ns:AG,l=ns.map .int/\ns.Nodup/\ns.length<=1000/\Q (.d (.int (ns.length:Nat))) q
end
end L3
namespace L2
def us_1 {α:Type}{us:List α}(h:us.length=1):∃a,us=[a]:=match us,h with | [a],_=>⟨a,rfl⟩
def us_2 {α:Type}{us:List α}(h:us.length=2):∃a b,us=[a,b]:=match us,h with | [a,b],_=>⟨a,b,rfl⟩
def us_3 {α:Type}{us:List α}(h:us.length=3):∃a b c,us=[a,b,c]:=match us,h with | [a,b,c],_=>⟨a,b,c,rfl⟩
def us_4 {α:Type}{us:List α}(h:us.length=4):∃a b c d,us=[a,b,c,d]:=match us,h with | [a,b,c,d],_=>⟨a,b,c,d,rfl⟩
open PyProof.Rows PySem.W PySem.Calls
end L2
namespace L3
open L2
section
variable {X:Cx}{Pn:PN}{M S:AR}{fr fr':Bool}{e a b c:Expr}{es:AO}{f fa fb fc:AD}{pos p:Pos}
variable {K:AH}
abbrev dInB:W->W->Mo W:=λx y n Q=>onB x λb=>onL y λl=>∃q:List Bool,l=q.map .bl/\Q (.d (.bl (q.contains b))) n
end
end L3
namespace L2
open PyProof.Rows PySem.W PySem.Calls
section
variable {prog:Aa}{w:Ab}{A:Ae}{E:AA}{s:AZ}
variable {X:Cx}
end
end L2
namespace L3
open L2
section
variable {X:Cx}{Pn:PN}{M S:AR}{fr fr':Bool}{pos p:Pos}{e:Expr}{f:AD}
abbrev dSAdd (P:Aa) (w:Ab) (i:Nat) (f:AD):Ms:=λρ n k=>onV ρ i λv=>∃ks,v = .ss P w ks/\f ρ n λx m=>∃st:AG,x = .d (stD st)/\ks.length<300/\
 ∀q:AF,(∀y,y∈q↔y=st\/y∈ks)->q.length<=ks.length+1->q.Nodup->onP ρ i (.ss P w q) λB=>k.nx B m
abbrev dSortS (P:Aa) (w:Ab):AU->Mo W:=λB n Q=>on1 B λx=>∃ (ks:AF) (m:Nat),x = .ss P w ks/\ks.length<64/\1<=m/\(∀st∈ks,st.length=m)/\∀q:AF,q.Perm ks->(q.Pairwise λa b=>HT.lexLt a b=true)->Q (.d (x8 q)) n
end
def zl4 {α:Type}{p:List α->Prop}(q:p [])(hs:∀l x,p l->p (l++[x]))(l:List α):p l:=by
 have h:∀l:List α,p l.reverse:=λl=>by
  induction l with
  | nil=>exact q
  | cons x l B=>rw[bX];exact hs _ _ B
 have:=h l.reverse;grind
def zgl {α:Type}(a b:List α)(i:Nat)(d:α)(h:i<a.length):(a++b).getD i d=a.getD i d:=by grind
def zlp:∀ {cs:AF} {st:AG},st∈uL cs↔st.length=cs.length/\∀i,i<cs.length->st.getD i 0∈cs.getD i []:=by
 intro cs;show zl4 (p:=λcs=>∀ {st:AG},st∈uL cs↔st.length=cs.length/\∀i,i<cs.length->st.getD i 0∈cs.getD i []) ?_ ?_ cs;intro st;simp[uL,List.length_eq_zero_iff];intro cs c I st;rw[yT];unfold xx;rw[List.mem_flatMap];constructor;rintro⟨r,J,h⟩;obtain⟨w,O,rfl⟩:=aF.mp h;obtain⟨h1,h2⟩:=I.mp J;show⟨by simp[h1],λi hi=>?_⟩;simp at hi;by_cases e:i=cs.length;right;grind;rintro⟨h1,h2⟩;simp at h1;have q:st≠[]:=λz=>by rw[z] at h1;simp at h1
 have F:=bp q;have B:st.dropLast.length=cs.length:=by simp[h1]
 show⟨st.dropLast,I.mpr ⟨B,λi hi=>?_⟩,aF.mpr ⟨st.getLast q,?_,F⟩⟩;have:=h2 i (by simp;omega);rw[zgl _ _ _ _ hi] at this;rw[<- F,zgl _ _ _ _ (by omega)] at this;exact this;have:=h2 cs.length (by simp);rw[<- F] at this;have e:(st.dropLast++[st.getLast q]).getD cs.length 0=st.getLast q:=by simp[<- B]
 right
def zkB {rm:AG}(q:RoomOk rm):((uL (rm.map zE)).length:Int)=zL rm:=by
 have:=zcY (rr:=rm.reverse) λm B=>by have:=q.box m (cy.mp B);omega
 rw[zlW,ab,aB,this,List.reverse_reverse]
def dr{zR:Int}(q:xK K Pn p)(h:∀r,0<=r->r<zR->Q (.d (.int r)) (n+1))(hn:n<=1000000:=by lia)(h1:1<=zR:=by lia)(h2:zR<1073741824:=by lia):zhT K Pn [.pen p,.d (.int zR)] n Q:=⟨p,zR,q,rfl,hn,h1,h2,h⟩
def zcO {m b:Int}:b∈zE m↔0<=b/\b<m:=by
 unfold zE;rw[aF];constructor;rintro⟨k,q,rfl⟩;grind;rintro⟨B,h1⟩;exact⟨b.toNat,aN.mpr (by lia),by lia⟩
end L3
namespace L3
open L2
def zj9 {rm st:AG}(h:StOk rm st):st∈uL (rm.map zE):=by
 rw[zlp];have q:=h.len;show⟨by grind,λi hi=>?_⟩;rw[ab] at hi;have e:(rm.map zE).getD i []=zE (rm.getD i 0):=by simp[hi]
 rw[e,zcO];have:=h.box (i:Int) (by lia) (by lia);rw[zK,zK] at this;exact this
def zl7 {rm st:AG}{b x:Int}(h:StOk rm st)(q:0<=b)(J:b<rm.length)(O:0<=x)(U:x<zR rm b):StOk rm (chg st b x):=by
 have F:=h.len;show⟨by rw[zh3 q (by lia)];exact F,λc B I=>?_⟩;rw[znh q (by lia) B];split;right;exact h.box c B I
end L3
namespace L3
open L2
def lpE (bk:AW)(q:Int)(st:AG):List (Int×Int):=(lpF bk q st).map λr=>(r.getD 0 0,r.getD 1 0)
end L3
namespace L3
open L2
end L3
namespace L2
open PyProof.Rows PySem.W PySem.Calls
section
variable {X:Cx}{pins:AB}{σ:St}{H:Hp}{s:AZ}{a:Addr}
def Inv.frz {kvs:List (AG×V)}(I:Inv X pins σ H s)(h:H a=some (dtO kvs)):∃ob,Inv X pins σ (upd H a (.frz ob (dtO kvs))) s:=by obtain⟨z,lo,xs,r,o,es,F,h1,h2,J,O,U⟩:=(show ya X.prog X.w H s.heap a (.dT (zcl kvs)) from I.hok a _ h);show⟨o,I.write (x:=a) (e:=a) (h':=s.heap) (t':=s.toks) (by rw[h];trivial) (.inl rfl) (λ_ _ _ e=>e) ⟨o,h1⟩ ⟨h1,z,lo,xs,Paired.imp' (λp q y=>?_) r,o,es,F,h1,h2,J,O,U⟩⟩;obtain⟨Y,B,Z⟩:=y;exact⟨Y,by rw[ze (λy=>by rw[y,h] at B;cases B)];exact B,Z⟩
end
end L2
namespace L3
open L2
def zgK{ks:List (AG×V)}(h:x6 Pn A n H)(q:H p=some (dtO ks)):x6 Pn A n (L2.upd H p o):=by
 show⟨?_,Pn.J.frz h.2 q (ztR _) rfl⟩;have h:=h.1;split at h;trivial;show⟨?_,h.2⟩;obtain⟨h1,_⟩:=h;obtain⟨a,l,B,g2⟩:=h1.ob;exact⟨⟨a,l,by rw[ze λz=>by rw[z,q] at B;cases B];exact B,g2⟩,h1.ls.but λ_ _ _ e=>by rw[ze λz=>by rw[z,q] at e;cases e];exact e,h1.len⟩
abbrev onZ (w:W) (P:List (AG×Dt)->Prop):Prop:=match w with | .df i=>P i | _=>False
def zqO{P:List (AG×Dt)->Prop}:onZ w P = ∃i,w = .df i/\P i:=propext ⟨λh=>by cases w <;> first | exact False.elim h | exact⟨_,rfl,h⟩,by right⟩
section
variable {X:Cx}{Pn:PN}{M S:AR}{fr fr':Bool}{pos p:Pos}{e a b c:Expr}{f fa fb fc:AD}
abbrev dFrz (f:AD):AD:=λρ n Q=>f ρ n λx m=>onE x λkvs=>Q (.df kvs) m
abbrev dItF (fa:AD):AC:=λρ n Q=>fa ρ n λx m=>onZ x λkvs=>(kvs.map (·.1)).Nodup->Q (kvs.map λq=>W.d (stD q.1)) m
abbrev dGetF (fd fk:AD):AD:=λρ n Q=>fd ρ n λx q=>fk ρ q λy B=>onZ x λkvs=>∃st,y = .d (stD st)/\onO (xE kvs st) λd=>Q (.d d) B
def zpV{kvs:List (AG×Dt)}(h:Bor A H (.df kvs) v):∃q ks,v = .ref q/\Rd H q (dtO ks)/\x9 (zV A H) kvs ks:=by obtain⟨q,ob,ks,e,h1,h2⟩:=h;exact⟨q,ks,e,.inr ⟨ob,h1⟩,h2⟩
abbrev dGetFD (fd fk q:AD):AD:=λρ n Q=>fd ρ n λx B=>onZ x λkvs=>fk ρ B λy F=>q ρ F λz I=>∃st,y = .d (stD st)/\onD z λi=>Q (.d ((xE kvs st).getD i)) I
abbrev dDictL:AU->Mo W:=λB n Q=>on1 B λx=>∃kvs:List (AG×Dt),x = .d (.lst (kvs.map λq=>Dt.tup [stD q.1,q.2]))/\(kvs.map (·.1)).Nodup/\kvs.length<=lim/\Q (.dt kvs) n
end
abbrev lpD (bk:AW) (b:Int) (st:AG):Dt:=.lst ((lpE bk b st).map xo)
abbrev rowD (rm:AG) (bk:AW) (st:AG):Dt:=.lst ((List.range rm.length).map λb:Nat=>lpD bk (b:Int) st)
def zur {l:AF}(h:Up' l):l.Nodup:=h.imp λh e=>by subst e;rw[yS] at h;cases h
def zfq {rm:AG}{g:List (Int×Int)}(h:Giv rm g):g.length<=rm.length:=by
 have:=uq (l:=g.map (·.1)) (l':=zE rm.length) (bZ.mpr (h.up.imp λh e=>by lia)) λx B=>by obtain⟨q,F,rfl⟩:=aF.mp B;have:=h.ok q F;exact zcO.mpr ⟨this.1,this.2.1⟩
 rw[ab,zaW] at this;lia
section
variable {X:Cx}{Pn:PN}{M S cM:AR}{fr fr':Bool}{e:Expr}{es:AO}{pos:Pos}{A:AL}{acc:Addr}{H1 H H':Hp}{σc σ:St}{ρc ρ:Ev}{n m:Nat}{ds:AS}
def inR (mg:W->Ev->(Ev->Prop)->Prop)(O:Ev->Mo Bool)(U:AD)(B:Ev)(F:AS)(K:Ev->Nat->AS->Prop):AU->Nat->Prop:=λl Y=>∃I:Nat->Ev->Nat->AS->Prop,I 0 B Y F/\
 (∀i w ρ n ds,l[i]?=some w->I i ρ n ds->mg w ρ λq=>O q n λb J=>if b=true then U q J λx Z=>∃d,x = .d d/\ds.length<=lim/\I (i+1) q Z (ds++[d]) else I (i+1) q J ds)/\
 ∀ ρ n ds,I l.length ρ n ds->K ρ n ds
def zpW (mg:W->Ev->(Ev->Prop)->Prop)(Y:Ev->Mo Bool)(B:AC)(F:W->Ev->(Ev->Prop)->Prop)(J:Ev->Mo Bool)(Z:AD)(O:Ev)(Q:AV):AU->Nat->Prop:=λl n1=>∃I:Nat->Ev->Nat->AS->Prop,I 0 O n1 []/\
 (∀i w ρ n ds,l[i]?=some w->I i ρ n ds->mg w ρ λq=>Y q n λb U=>if b=true then B q U (inR F J Z q ds (I (i+1))) else I (i+1) q U ds)/\
 ∀ ρ n ds,I l.length ρ n ds->Q (.d (.lst ds)) n
abbrev mComp2 (I:AC) (mg:W->Ev->(Ev->Prop)->Prop) (J:Ev->Mo Bool) (q:AC) (B:W->Ev->(Ev->Prop)->Prop) (F:Ev->Mo Bool) (O:AD) (cix:List (Option Nat)):AD:=λρ n Q=>I ρ n (zpW mg J q B F O (zhP ρ cix) Q)
end
end L3
namespace L2
open PyProof.Rows PySem.W PySem.Calls
section
variable {X:Cx}{pins:AB}{σ:St}{H:Hp}{s:AZ}{a:Addr}
end
end L2
namespace L3
open L2
abbrev onY (w:W) (P:List (Key×Dt)->Prop):Prop:=match w with | .kf i=>P i | _=>False
section
variable {X:Cx}{Pn:PN}{M S:AR}{fr fr':Bool}{pos p:Pos}{e a b c:Expr}{f fa fb fc:AD}
abbrev dFrzK (f:AD):AD:=λρ n Q=>f ρ n λx m=>onK x λkvs=>Q (.kf kvs) m
abbrev dItK (fa:AD):AC:=λρ n Q=>fa ρ n λx m=>onY x λkvs=>∃ns:AG,kvs.map (·.1)=ns.map Sum.inl/\Q (ns.map λi=>W.d (.int i)) m
abbrev dGetY (fd fk:AD):AD:=λρ n Q=>fd ρ n λx q=>fk ρ q λy B=>onY x λkvs=>onI y λi=>onO (xE kvs (Sum.inl i)) λd=>Q (.d d) B
abbrev dListY:AU->Mo W:=λq n Q=>on1 q λx=>onY x λkvs=>∃ns:AG,kvs.map (·.1)=ns.map Sum.inl/\Q (.d (.lst (ns.map .int))) n
abbrev dRetT (f:AD) (i:Nat):Ms:=λρ n k=>f ρ n λw m=>onD w λd=>onV ρ i λx=>onL x λl=>k.rt (.d (.tup [d,.lst l])) m
end
end L3
namespace L2
open PyProof.Rows PySem.SeqAt
section
variable {prog:Aa}{w:Ab}{t:SetTable}{es:Array (Int×Value)}{xs:List (List Key×Addr)}{A:Ae}{E:AA}{s:AZ}
variable {X:Cx}
end
end L2
namespace L3
open L2
section
variable {X:Cx}{Pn:PN}{M S:AR}{fr fr':Bool}{pos p:Pos}{e o a b c:Expr}{es:AO}{f fo fa fc:AD}
abbrev dAug (F:Int->Int->Int) (i:Nat) (f:AD):Ms:=λρ n k=>onV ρ i λx=>onI x λa=>f ρ n λy m=>onI y λb=>onP ρ i (.d (.int (F a b))) λq=>k.nx q m
def zqt {i:Nat}{x:Str}{op:Operator}{F:Int->Int->Int}{pos':Pos}(hN:X.N.Nodup)(ho:PIp X op (ipI F))(he:JB X Pn M e f)(hi:X.N[i]?=some x:=by rfl)(hx:Loc X.env.scope x:=by first | exact Or.inl rfl | exact Or.inr rfl)(J:i∉M:=by ext)(Y:i∉S++M:=by ext)(I:X.fn x=true\/X.env.scope.names.lookup x=some .local:=by walk_at "l") :
  JS X Pn S M fr (.AugAssign (.Name x pos') op e pos) (dAug F i f):=by
 obtain⟨te,q,r⟩:=he.ex;show⟨_,⟨zrg hN hi hx q.run ho I⟩,⟨λB A σ H ρ n k D a kk I=>?_⟩⟩;simp only[dAug,uu,ut,xG] at I;obtain⟨w0,e0,O,rfl,I⟩:=I;obtain⟨v,s1,s2,_⟩:=a.env.val i _ e0;obtain rfl:v = .int O:=(s2 J).is;show⟨_,s1,r.run A σ H ρ n _ _ a.env a.pn I ?_⟩;rintro y m v2 H1 ⟨U,rfl,r1⟩ b1 g1;obtain rfl:v2 = .int U:=yB b1;have a1:=a.step g1;exact⟨O,U,rfl,rfl,(zdO J Y).run A σ H1 ρ (.int (F O U)) (.d (.int (F O U))) _ (λZ=>k.nx Z m) a1.env (Val.of rfl) r1 λac ad r2 E2 f2=>kk.nx A ac H1 ad m (EnvR.mineG a1 E2 f2) r2⟩
abbrev dAugT (F:Int->Int->Int) (i:Nat) (fk f:AD):Ms:=λρ n k=>onV ρ i λx=>onE x λkvs=>fk ρ n λy m=>∃st,y = .d (stD st)/\∃a,xE kvs st=some (.int a)/\f ρ m λw B=>onI w λb=>kvs.length<lim/\onP ρ i (.dt (zgO kvs st (.int (F a b)))) λq=>k.nx q B
abbrev dSetL (P:Aa) (w:Ab):AU->Mo W:=λq n Q=>on1 q λx=>∃sts:AF,x = .d (.lst (sts.map stD))/\(∀ks:AF,ks.Nodup->(∀z∈ks,z∈sts)->ks.length<300)/\∀ks:AF,ks.Nodup->(∀st,st∈ks↔st∈sts)->Q (.ss P w ks) n
abbrev dInS (P:Aa) (w:Ab):W->W->Mo W:=λx y n Q=>∃ (st:AG) (ks:AF),x = .d (stD st)/\y = .ss P w ks/\∀c:Bool,(c=true↔st∈ks)->Q (.d (.bl c)) n
abbrev dItEF (fa:AC):AC:=λρ n Q=>fa ρ n λq m=>on1 q λx=>onZ x λkvs=>(kvs.map (·.1)).Nodup->Q (enW 0 ((kvs.map (·.1)).map stD)) m
abbrev zsZ (fo f:AD):AD:=λρ n Q=>fo ρ n λx q=>onL x λl=>f ρ q λy B=>onD y λd=>d.eqOk/\(Dt.lst l).eqOk/\d∈l/\∀j:Nat,l[j]?=some d->(∀i,i<j->l[i]?≠some d)->Q (.d (.int j)) B
abbrev snN:AU->(AU->Prop)->Prop
 | [],P=>P [.d .non]
 | a::r,P=>snN r λq=>P (a::q)
def zm1:∀ {q:AU} {P:AU->Prop},snN q P=P (q++[.d .non])
 | [],P=>rfl
 | a::r,P=>by rw[snN,zm1];rfl
def zai.non:∀ {q:AU} {vs:AT},zai A H q vs->zai A H (q++[.d .non]) (vs++[.non])
 | [],_,h=>by cases h;exact⟨_,_,rfl,Val.of rfl,rfl⟩
 | _::_,_,⟨v,r,e,h1,h2⟩=>by subst e;exact⟨v,_,rfl,h1,zai.non h2⟩
abbrev dFnD (k:Nat) (F:AU->Mo W) (fs:AC):AD:=λρ n Q=>fs ρ n λq m=>snN q λus=>zcs k us (F us m Q)
def ztp(D:DfnD X.K X.mg x st ps [Value.none] fA fd)(G:FnOk X.prog X.w X.K X.mg X.base CX0 j fA fd ps (spV k fr F))(O:Room q X.A)(U:JA X Pn M (e::es) fs)(B:j<=q:=by ext)(Y:Gl X x:=by rfl)(I:Ah x:=by ext)(Z:starEach (e::es) X.env=(false,eval e X.env)::starEach es X.env:=by rfl)(J:(backTo pos (starEach es X.env)).any (·.1)=false:=by rfl) :
  JE X Pn M fr (.Call (.Name x p) (e::es) [] pos) (dFnD k (F Pn) fs):=by
 obtain⟨ta,qa,ra⟩:=U.ex;show⟨_,zrq (dv:=[.non]) D (.cons rfl .nil) G O qa B Y I Z J,⟨λA σ H ρ n Q R E P hf q=>?_⟩⟩;show ra.run A σ H ρ n _ _ E P hf λws m vs H1 h b g=>?_;rw[zm1,zav] at h;exact⟨Pn,A,_,m,R,(E.stay g.st).al,b.non,h.1,g.pn,h.2,λw m' v H' h1 h2 h3 h4=>q w m' v H' h1 h2 (g.trans h3) λz=>(h4 z).back g.st⟩
end
end L3
namespace L2
open PyProof.Rows
section
variable {X:Cx}{pins:AB}{σ:St}{H G G':Hp}{s:AZ}{d l:Addr}{ob:Obj}{kvs:List (List Key×V)}
def DTo (P:Aa)(w:Ab)(G:Hp)(d:Addr)(ob:Obj)(kvs:List (List Key×V)):Prop:=kvs.length<=sizeLine/\(d==sysModules)=false/\∃xs:List (List Key×Addr×Value),
 Paired (λ(p:List Key×V) (q:List Key×Addr×Value)=>p.1=q.1/\G q.2.1=some (.tup (p.1.map kV))/\yc p.2 q.2.2) kvs xs/\∃es B,ob.ExactDict/\ob.data = .dict es B/\es.toList=xs.map (entryOfKey (tupleKind (zQ P w)))/\(xs.map (·.1)).Nodup
def DTo.st(h:DTo P w G d ob kvs)(t:zfc G G'):DTo P w G' d ob kvs:=by obtain⟨z,lo,xs,r,q⟩:=h;exact⟨z,lo,xs,Paired.imp' (λp q y=>⟨y.1,t _ _ y.2.1,y.2.2⟩) r,q⟩
def Inv.thaw (I:Inv X pins σ H s)(h:H d=some (kO d ob))(D:DTo X.prog X.w H d ob kvs):Inv X pins σ (upd H d (.dT kvs)) s:=by obtain⟨z,lo,xs,r,es,B,h2,F,J,O⟩:=D;have h1:s.heap.get? d=some ob:=(show ya X.prog X.w H s.heap d (kO d ob) from I.hok d _ h).1;show I.write (x:=d) (e:=d) (h':=s.heap) (t':=s.toks) (by rw[h];trivial) (.inl rfl) (λ_ _ _ e=>e) ⟨ob,h1⟩ ⟨z,lo,xs,Paired.imp' (λp q y=>⟨y.1,?_,y.2.2⟩) r,ob,es,B,h1,h2,F,J,O⟩;rw[ze λe=>by have:=y.2.1;rw[e,h] at this;cases this];exact y.2.1
def Inv.keep (I:Inv X pins σ H s)(h:H d=some (.dT kvs)):∃ob,DTo X.prog X.w H d ob kvs/\s.heap.get? d=some ob/\Inv X pins σ (upd H d (kO d ob)) s:=by obtain⟨z,lo,xs,r,o,es,q,h1,h2,B,F,J⟩:=(show ya X.prog X.w H s.heap d (.dT kvs) from I.hok d _ h);exact⟨o,⟨z,lo,xs,r,es,q,h2,B,F,J⟩,h1,I.write (x:=d) (e:=d) (h':=s.heap) (t':=s.toks) (by rw[h];trivial) (.inl rfl) (λ_ _ _ e=>e) ⟨o,h1⟩ ⟨h1,⟨o,h1⟩,λh1 h2 p k=>k o p⟩⟩
def Inv.frzL(I:Inv X pins σ H s)(h:H l=some (.lst xs)):∃ob,Inv X pins σ (upd H l (.frz ob (.lst xs))) s:=by obtain⟨z,q,n,r,e⟩:=(show ya X.prog X.w H s.heap l (.lst xs) from I.hok l _ h);exact⟨_,I.write (x:=l) (e:=l) (h':=s.heap) (t':=s.toks) (by rw[h];trivial) (.inl rfl) (λ_ _ _ e=>e) ⟨_,e⟩ ⟨e,z,q,n,r,e⟩⟩
variable {e:Expr}{te:TE}
def zr5 (P:Aa)(w:Ab)(te:TE):TE:=λσ H Q=>te σ H λx H1=>∃d ob kvs,H1 d=some (kO d ob)/\DTo P w H1 d ob kvs/\Q x (upd H1 d (.dT kvs))
def zor (h:PE X e te):PE X e (zr5 X.prog X.w te):=λpins s σ H Q I q=>thn (h pins s σ H _ I q) λu F ⟨x,H1,I1,r,d,ob,kvs,h1,h2,B⟩=>⟨x,_,I1.thaw h1 h2,r,B⟩
def zrX (P:Aa)(w:Ab)(te:TE):TE:=λσ H Q=>te σ H λx H1=>∃d kvs,H1 d=some (.dT kvs)/\∀ob,DTo P w H1 d ob kvs->(∃h:Heap,h.get? d=some ob)->Q x (upd H1 d (kO d ob))
def zom (h:PE X e te):PE X e (zrX X.prog X.w te):=λpins s σ H Q I q=>thn (h pins s σ H _ I q) λu F ⟨x,H1,I1,r,d,kvs,h1,B⟩=>by obtain⟨ob,D,g,I2⟩:=I1.keep h1;exact⟨x,_,I2,r,B ob D ⟨_,g⟩⟩
def zm5 (P:Aa)(w:Ab)(t:TA):TA:=λσ H Q=>t σ H λvs H1=>∃d kvs,H1 d=some (.dT kvs)/\∀ob,DTo P w H1 d ob kvs->(∃h:Heap,h.get? d=some ob)->Q vs (upd H1 d (kO d ob))
def zoh(h:PA X es t):PA X es (zm5 X.prog X.w t):=λpos pins s σ H Q I q=>by show bE (h pos pins s σ H _ I q) ?_ λ_ _ x=>x;rintro us F ⟨vs,H1,I1,r,d,kvs,h1,B⟩;obtain⟨ob,D,g,I2⟩:=I1.keep h1;exact⟨vs,_,I2,r,B ob D ⟨_,g⟩⟩
def zrW (te:TE):TE:=λσ H Q=>te σ H λx H1=>∃l xs,x = .ref l/\H1 l=some (.lst xs)/\∀ob,Q x (upd H1 l (.frz ob (.lst xs)))
def zol (h:PE X e te):PE X e (zrW te):=λpins s σ H Q I q=>thn (h pins s σ H _ I q) λu F ⟨x,H1,I1,r,l,xs,ex,h1,B⟩=>by obtain⟨ob,I2⟩:=I1.frzL h1;exact⟨x,_,I2,r,B ob⟩
end
end L2
namespace L3
open L2
def Sm (G G':Hp):Prop:=∀b o,G b=some o->imm o=true\/¬ NP o->G' b=some o
def Sm.t(h:Sm G G'):zfc G G':=λb xs e=>h b _ e (.inl rfl)
def zqI(h:∃h:Heap,h.get? d=some ob):¬ NP (kO d ob):=λn=>by have:=n [(Sum.inr "at",.non)] (by unfold kO pnK;dsimp only;rw[if_pos ⟨d,ob,h,rfl⟩]);cases this
structure LdI where
 P:Aa
 w:Ab
 C:Addr
 a:Addr
 dx:Addr
 d:Addr
 rm:AG
 bk:AW
 hs:AG
def LdE (L:LdI)(G:Hp)(q:AG×V):Prop:=StOk L.rm q.1/\∃B o xs,q.2 = .ref B/\G B=some (.frz o (.lst xs))/\IsL G ((zaf L.bk q.1 L.hs).map stD) xs
structure LdG (L:LdI)(G:Hp):Prop where
 ex:∃ (x1 x2 x3:V) (ob:Obj) (ks:List (AG×V)),G L.a=some (.ins L.C L.dx [("room",x1),("wishes",x2),("held",x3),("known",.ref L.d)])/\G L.dx=some (.own L.a)/\Is G (stD L.rm) x1/\Is G (xk L.bk) x2/\zah G x3 L.hs/\
  G L.d=some (kO L.d ob)/\(∃h:Heap,h.get? L.d=some ob)/\DTo L.P L.w G L.d ob (zcl ks)/\∀q∈ks,LdE L G q
 room:RoomOk L.rm
 book:uJ L.rm L.bk
def LdE.sm{q:AG×V}(h:LdE L G q)(s:Sm G G'):LdE L G' q:=by obtain⟨B,F,o,xs,h1,h2,I⟩:=h;exact⟨B,F,o,xs,h1,s _ _ h2 (.inl rfl),I.stayT s.t (yO _)⟩
def zah.stayT{hs:AG}(h:zah G v hs)(s:zfc G G'):zah G' v hs:=h.imp id λ⟨p,e,q⟩=>⟨p,e,s _ _ q⟩
def LdG.sm(h:LdG L G)(s:Sm G G'):LdG L G':=by
 obtain⟨⟨F,I,J,ob,ks,h1,h2,O,U,Y,Z,B,h8,h9⟩,hr,hb⟩:=h;have n1:(stD L.rm).noL=true:=by simpa [Dt.noL] using zas L.rm
 have n2:(xk L.bk).noL=true:=by simpa [Dt.noL] using uO L.bk
 exact⟨⟨F,I,J,ob,ks,s _ _ h1 (.inl rfl),s _ _ h2 (.inl rfl),O.stayT s.t n1,U.stayT s.t n2,zah.stayT Y s.t,s _ _ Z (.inr (zqI B)),B,h8.st s.t,λq hq=>(h9 q hq).sm s⟩,hr,hb⟩
def LdG.close{ks:List (AG×V)}(h:LdG L G)(s:∀b o,G b=some o->b≠L.d->G' b=some o)(e:G' L.d=some (kO L.d ob))(F:∃h:Heap,h.get? L.d=some ob)(D:DTo L.P L.w G' L.d ob (zcl ks))(q:∀q∈ks,LdE L G' q):LdG L G':=by
 obtain⟨⟨I,J,O,U,Y,h1,h2,Z,h4,h5,B,h7,h8,h9⟩,hr,hb⟩:=h;have n1:(stD L.rm).noL=true:=by simpa [Dt.noL] using zas L.rm
 have n2:(xk L.bk).noL=true:=by simpa [Dt.noL] using uO L.bk
 have t:zfc G G':=λb xs z=>s b _ z λy=>by subst y;rw[B] at z;cases z
 exact⟨⟨I,J,O,ob,ks,s _ _ h1 (λy=>by rw[y,B] at h1;cases h1),s _ _ h2 (λy=>by rw[y,B] at h2;cases h2),Z.stayT t n1,h4.stayT t n2,zah.stayT h5 t,e,F,D,q⟩,hr,hb⟩
def zdV (P:Aa)(w:Ab)(C:Addr):Sp:=λvs H Q _=>∃ (L:LdI) (st:AG) (q:Addr),vs=[.ref L.a,.ref q]/\L.P=P/\L.w=w/\L.C=C/\LdG L H/\StOk L.rm st/\H q=some (.tup (st.map V.int))/\
 ∀ (B:Addr) (o:Obj) (ys:AT) (H':Hp),H' B=some (.frz o (.lst ys))->IsL H' ((zaf L.bk st L.hs).map stD) ys->LdG L H'->(∀b o,H b=some o->b≠L.d->H' b=some o)->Q (.ref B) H'
def ldF (q B F:V)(d:Addr):List (Str×V):=[("room",q),("wishes",B),("held",F),("known",.ref d)]
def zdW (C:Addr):Sp:=λvs H Q _=>∃ (a dx:Addr) (q B F:V),vs=[.ref a,q,B,F]/\H a=some (.ins C dx [])/\
 ∀ (d:Addr) (H':Hp),H d=none->H' a=some (.ins C dx (ldF q B F d))->H' d=some (.dT [])->(∀b o,H b=some o->b≠a->H' b=some o)->Q .non H'
def ldJ (L:LdI):Jv where
 K:=λA H=>LdG L (zV A H)
 same:=λh s=>h.sm λb o e _=>ug s b o e
 grow:=λ{A A' H} h g=>h.sm λb o e n=>by
  obtain⟨F,B⟩:=zA.mp e;show zm (λz=>?_) B;rcases g b z with q | ⟨o',q1,q2,q3⟩;exact F q;rw[B] at q1;cases q1;rcases n with n | n;rw[show imm o=false from q3] at n;cases n;exact n q2
 upd:=λ{A H p o} h I=>by rw[yd I];exact h
 frz:=λ{A H p o o'} h I J O=>h.sm λb u e n=>by
  obtain⟨F,B⟩:=zA.mp e
  have U:b≠p:=λz=>by
   subst z;rw[I] at B;cases B;rcases n with n | n;rw[show imm o=false from O] at n;cases n;exact n J
  exact zm F (by rw[ze U];exact B)
def zlk (q B F:V)(d:Addr):(ldF q B F d).lookup ("room" : Str)=some q:=by unfold ldF;rw[List.lookup,show (("room" : Str) == "room")=true by decide +kernel]
def zhk (B q F:V)(d:Addr):(ldF B q F d).lookup ("wishes" : Str)=some q:=by unfold ldF;rw[List.lookup,show (("wishes" : Str) == "room")=false by decide +kernel];dsimp only;rw[List.lookup,show (("wishes" : Str) == "wishes")=true by decide +kernel]
def zlj (B F q:V)(d:Addr):(ldF B F q d).lookup ("held" : Str)=some q:=by unfold ldF;rw[List.lookup,show (("held" : Str) == "room")=false by decide +kernel];dsimp only;rw[List.lookup,show (("held" : Str) == "wishes")=false by decide +kernel];dsimp only;rw[List.lookup,show (("held" : Str) == "held")=true by decide +kernel]
def zap (q B F:V)(d:Addr):(ldF q B F d).lookup ("known" : Str)=some (.ref d):=by unfold ldF;rw[List.lookup,show (("known" : Str) == "room")=false by decide +kernel];dsimp only;rw[List.lookup,show (("known" : Str) == "wishes")=false by decide +kernel];dsimp only;rw[List.lookup,show (("known" : Str) == "held")=false by decide +kernel];dsimp only;rw[List.lookup,show (("known" : Str) == "known")=true by decide +kernel]
def ziZ (q B F:V)(d:Addr):(ldF q B F d).lookup ("after" : Str)=none:=by unfold ldF;rw[List.lookup,show (("after" : Str) == "room")=false by decide +kernel];dsimp only;rw[List.lookup,show (("after" : Str) == "wishes")=false by decide +kernel];dsimp only;rw[List.lookup,show (("after" : Str) == "held")=false by decide +kernel];dsimp only;rw[List.lookup,show (("after" : Str) == "known")=false by decide +kernel];rfl
def znW (q B F:V)(d:Addr):zbm "known" (.ref d) (zbm "held" F (zbm "wishes" B (zbm "room" q [])))=ldF q B F d:=by unfold ldF;simp only[zbm,if_neg (show ¬ ("room" : Str) = "wishes" by decide +kernel),if_neg (show ¬ ("room" : Str) = "held" by decide +kernel),if_neg (show ¬ ("room" : Str) = "known" by decide +kernel),if_neg (show ¬ ("wishes" : Str) = "held" by decide +kernel),if_neg (show ¬ ("wishes" : Str) = "known" by decide +kernel),if_neg (show ¬ ("held" : Str) = "known" by decide +kernel)]
def zay (f:Str)(v:V):∀fs:List (Str×V),(zbm f v fs).length<=fs.length+1
 | []=>ai _
 | (g,x)::r=>by have:=zay f v r;unfold zbm;split <;> simp <;> omega
structure LdC (K:AH)(C:Addr):Prop where
 cl:Cls K C
 n1:uW K C "room"
 n2:uW K C "wishes"
 n3:uW K C "held"
 n4:uW K C "known"
section
variable {K:AH}{P:Aa}{w:Ab}{C:Addr}{H:Hp}{Q:VK}{E:XK}{D:Ends}
def zlR(c:LdC K C)(h:zdW C vs H Q E)(J:∀ σ H',Q .non H'->D.nx σ H') :
  zpp (zrO K (zaL 0) (zaL 1) "room") (zpp (zrO K (zaL 0) (zaL 2) "wishes") (zpp (zrO K (zaL 0) (zaL 3) "held") (zrO K (zaL 0) zm4 "known"))) D (vs.map some) H:=by
 obtain⟨a,dx,U,Y,Z,rfl,O,k⟩:=h;show⟨_,rfl,_,rfl,a,C,dx,[],rfl,O,c.cl,c.n1,by ext,?_⟩;show⟨_,rfl,_,rfl,a,C,dx,_,rfl,zg,c.cl,c.n2,aX (zay _ _ _) (by ext),?_⟩;have I:∀x y:V,(zbm "wishes" x (zbm "room" y [])).length<=2:=λx y=>aA (zay _ _ _) (dE (zay _ _ _));show⟨_,rfl,_,rfl,a,C,dx,_,rfl,zg,c.cl,c.n3,aX (I _ _) (by ext),?_⟩;rw[zd1,zd1];intro d F;have q:a≠d:=λe=>by rw[<- e,zg] at F;cases F
 have B:H d=none:=by rwa[ze q.symm] at F
 show⟨_,rfl,a,C,dx,_,rfl,by rw[ze q,zg],c.cl,c.n4,aX (aA (zay _ _ _) (dE (I _ _))) (by change 3<1000;decide),J _ _ ?_⟩;rw[znW];show k d _ B zg (by rw[ze q.symm,zg]) λb o e n=>?_;rw[ze n,ze (zb e B),ze n];exact e
def zlF (ns:AG)(h:∀n∈ns,2<=n/\n<=4):zL ns<=4 ^ ns.length:=by
 have:∀ (ns:AG) (c:Int),0<=c->(∀n∈ns,2<=n/\n<=4)->ns.foldl (· * ·) c<=c * 4 ^ ns.length:=by
  intro ns
  induction ns with
  | nil=>intro c _ _;simp
  | cons n ns F=>
   intro c B h;obtain⟨h1,h2⟩:=h n aj;have i:=F (c * n) (Int.mul_nonneg B (by omega)) λm I=>h m (am _ I);have p:(0:Int)<=4 ^ ns.length:=Int.pow_nonneg (by ext);have q:c * n * 4 ^ ns.length<=c * 4 * 4 ^ ns.length:=Int.mul_le_mul_of_nonneg_right (Int.mul_le_mul_of_nonneg_left h2 B) p;rw[List.foldl_cons,aM,Int.pow_succ];have r:c * (4 ^ ns.length * 4)=c * 4 * 4 ^ ns.length:=by rw[Int.mul_comm (4 ^ ns.length) 4,Int.mul_assoc]
   omega
 have:=this ns 1 (by ext) h;unfold zL
 omega
def LdE.len{ks:List (AG×V)}(B:RoomOk L.rm)(h:∀q∈ks,LdE L G q)(n:(ks.map (·.1)).Nodup):ks.length<=65536:=by
 have h1:=uq (l':=uL (L.rm.map zE)) n λx F=>by obtain⟨q,I,rfl⟩:=aF.mp F;exact zj9 (h q I).1
 have h2:=xL L.rm λn hn=>by have:=B.box n hn;omega
 have J:=zlF L.rm B.box
 have O:(4:Int) ^ L.rm.length<=4 ^ 8:=by
  have:=B.few
  exact_mod_cast dz (by decide:0<4) this
 rw[ab] at h1;have:(4:Int) ^ 8=65536:=by ext
 omega
def DTo.nd{ks:List (AG×V)}(h:DTo P w G d ob (zcl ks)):(ks.map (·.1)).Nodup:=by
 obtain⟨z,lo,xs,r,es,I,_,_,_,n⟩:=h
 have B:∀ {kvs:List (List Key×V)} {xs:List (List Key×Addr×Value)},Paired (λ(p:List Key×V) (q:List Key×Addr×Value)=>p.1=q.1/\G q.2.1=some (.tup (p.1.map kV))/\yc p.2 q.2.2) kvs xs->kvs.map (·.1)=xs.map (·.1):=by
  intro kvs xs h
  induction h with
  | nil=>rfl
  | cons a _ F=>rw[aC,aC,F,a.1]
 rw[<- B r] at n;unfold zcl at n;rw[aJ] at n;have:(ks.map λq=>q.1.map (Sum.inl:Int->Key))=(ks.map (·.1)).map λl=>l.map Sum.inl:=by rw[aJ];rfl
 rw[show ((λx:List Key×V=>x.1) ∘ λq:AG×V=>(q.1.map Sum.inl,q.2))=λq:AG×V=>q.1.map (Sum.inl:Int->Key) from rfl,this] at n;exact (bZ.mp n).imp λh e=>h (by rw[e])
def zme{ks:List (AG×V)}{st:AG}(h:xq ks st=some v):(st,v)∈ks:=by
 unfold xq at h;obtain⟨q,B,rfl⟩:=aI.mp h;have e:q.1=st:=by simpa using List.find?_some B
 subst e;exact List.mem_of_find?_eq_some B
def LdE.st{q:AG×V}(h:LdE L G q)(B:G L.d=some (kO L.d ob))(s:∀b o,G b=some o->b≠L.d->G' b=some o):LdE L G' q:=by obtain⟨F,I,o,xs,h1,h2,J⟩:=h;exact⟨F,I,o,xs,h1,s _ _ h2 (λz=>by rw[z,B] at h2;cases h2),J.stayT (λb ys e=>s b _ e λz=>by rw[z,B] at e;cases e) (yO _)⟩
def LdG.at(h:LdG L G):∃ (ra B:Addr) (xs:AT) (F:V) (ob:Obj) (ks:List (AG×V)),G L.a=some (.ins L.C L.dx (ldF (.ref ra) (.ref B) F L.d))/\G ra=some (.tup (L.rm.map V.int))/\BookAt G L.rm B xs L.bk/\zah G F L.hs/\
  G L.d=some (kO L.d ob)/\(∃h:Heap,h.get? L.d=some ob)/\DTo L.P L.w G L.d ob (zcl ks)/\∀q∈ks,LdE L G q:=by
 obtain⟨⟨x1,x2,F,ob,ks,h1,h2,⟨ra,ys,rfl,O,I⟩,⟨B,xs,rfl,U,J⟩,Y,Z,h7,h8,h9⟩,hr,hb⟩:=h;obtain rfl:=I.of_ints;exact⟨ra,B,xs,F,ob,ks,h1,O,⟨U,J,hb⟩,Y,Z,h7,h8,h9⟩
def zlQ(c:LdC K C)(h:zdV P w C vs H Q E)(hD:D.rt=Q) :
  zpp (zum (tB (zfT (zaL 1) (zr5 P w (zpm K (zaL 0) "known")))) (zpa (zpm K (zaL 0) "known") (zaL 1) (zrW (zcf zm2 [] E' (zbo (zpm K (zaL 0) "room") (zbo (zpm K (zaL 0) "wishes") (zbo (zaL 1) (zbo (zpm K (zaL 0) "held") zpo))))))) zpn)
   (zr2 (zrX P w (zpj (zpm K (zaL 0) "known") (zaL 1)))) D (vs.map some) H:=by
 obtain⟨L,st,sa,rfl,rfl,rfl,rfl,G,Z,B,k⟩:=h;subst hD;obtain⟨ra,ba,xs,x3,ob,ks,h1,h2,h3,h4,O,_,h6,h7⟩:=G.at;have ac:L.a≠L.d:=λe=>by rw[e,O] at h1;cases h1
 have ag:sa≠L.d:=λe=>by rw[e,O] at B;cases B
 have al:H sa=some (.tup ((st.map Sum.inl).map kV)):=by rw[zbF];exact B
 have U:∀o,upd H L.d o L.a=some (.ins L.C L.dx (ldF (.ref ra) (.ref ba) x3 L.d)):=λo=>by rw[ze ac];exact h1
 have I:zfc H (upd H L.d (.dT (zcl ks))):=λb ys e=>by rw[ze λz=>by rw[z,O] at e;cases e];exact e
 show⟨_,rfl,_,rfl,L.a,L.C,L.dx,_,_,rfl,h1,c.cl,c.n4,zap _ _ _ _,L.d,ob,_,O,h6,L.d,_,rfl,zcg.t zg (I _ _ al),_,rfl,?_⟩;rw[zgu]
 cases e:xq ks st with
 | some v=>
  show zqo ?_;show⟨_,rfl,L.a,L.C,L.dx,_,_,rfl,U _,c.cl,c.n4,zap _ _ _ _,_,rfl,L.d,v,rfl,by rw[<- e];exact zcg.i (st:=st) zg (I _ _ B),L.d,_,zg,λF D' hh=>?_⟩;rw[zd1];have s:∀b o,H b=some o->b≠L.d->upd H L.d (kO L.d F) b=some o:=λb o e n=>by rw[ze n];exact e
  have G':LdG L (upd H L.d (kO L.d F)):=G.close s zg hh (ks:=ks) (D'.st λb ys e=>by
   have n:b≠L.d:=λz=>by rw[z,zg] at e;cases e
   rw[ze n] at e ⊢;exact e) λq J=>(h7 q J).st O s
  obtain⟨_,va,o,ys,e1,e2,e3⟩:=(h7 _ (zme e)).st O s;obtain rfl:v = .ref va:=e1;exact k va o ys _ e2 e3 G' s
 | none=>
  show iteT ?_;have hR:=G.room;show⟨_,rfl,L.a,L.C,L.dx,_,_,rfl,U _,c.cl,c.n1,zlk _ _ _ _,_,rfl,L.a,L.C,L.dx,_,_,rfl,U _,c.cl,c.n2,zhk _ _ _ _,_,rfl,_,rfl,L.a,L.C,L.dx,_,_,rfl,U _,c.cl,c.n3,zlj _ _ _ _,?_⟩;show⟨.ref ra,x3,ba,sa,L.rm,xs,L.bk,st,L.hs,rfl,hR.pos,hR.few,⟨I _ _ h3.at',h3.is.stayT I (uO _),h3.ok⟩,hR.box,I _ _ B,Z.len,zah.stayT h4 I,?_⟩;rintro l H2 nl ⟨ys,hl,an⟩ S;show⟨l,ys,rfl,hl,λo=>?_⟩;have ad:L.d≠l:=zb zg nl;have ap:H l=none:=by rwa[ze ad.symm] at nl
  have Y:yL (upd H L.d (.dT (zcl ks))) (upd H2 l (.frz o (.lst ys))):=λb u e=>by rw[ze (zb e nl)];exact S b u e
  show⟨_,rfl,L.a,L.C,L.dx,_,_,rfl,Y _ _ (U _),c.cl,c.n4,zap _ _ _ _,_,rfl,L.d,_,rfl,zd4.i (st:=st) (Y _ _ zg) (Y _ _ (I _ _ B)) (aX (LdE.len hR h7 (DTo.nd h6)) (by ext)),?_⟩;have e':xq (uy ks st (.ref l)) st=some (.ref l):=by rw[zmf,if_pos rfl]
  show⟨_,rfl,L.a,L.C,L.dx,_,_,rfl,by rw[ze ac];exact Y _ _ (U _),c.cl,c.n4,zap _ _ _ _,_,rfl,L.d,.ref l,rfl,by rw[<- e'];exact zcg.i (st:=st) zg (by rw[ze ag];exact Y _ _ (I _ _ B)),L.d,_,zg,λF D' hh=>?_⟩;rw[zd1];have s:∀b u,H b=some u->b≠L.d->upd (upd H2 l (.frz o (.lst ys))) L.d (kO L.d F) b=some u:=λb u e n=>by rw[ze n];exact Y b u (by rw[ze n];exact e)
  have el:upd (upd H2 l (.frz o (.lst ys))) L.d (kO L.d F) l=some (.frz o (.lst ys)):=by rw[ze ad.symm,zg]
  have ey:IsL (upd (upd H2 l (.frz o (.lst ys))) L.d (kO L.d F)) ((zaf L.bk st L.hs).map stD) ys:=an.stayT (λb zs e=>by
   have n1:b≠l:=λz=>by rw[z,hl] at e;cases e
   have n2:b≠L.d:=λz=>by rw[z,S _ _ zg] at e;cases e
   rw[ze n2,ze n1];exact e) (yO _)
  show k l o ys _ el ey (G.close s zg hh (ks:=uy ks st (.ref l)) (D'.st λb zs e=>?_) λq J=>?_) s;have n:b≠L.d:=λz=>by rw[z,zg] at e;cases e
  rw[ze n] at e ⊢;exact e;rw[zlH _ e] at J;rcases au.mp J with J | J;exact (h7 q J).st O s;obtain rfl:=ao.mp J;exact⟨Z,l,o,ys,rfl,el,ey⟩
end
end L3
namespace L2
open PyProof.Rows PySem.SeqAt
section
variable {X:Cx}
end
end L2
namespace L3
open L2
def Pen.but{ns:AG}(h:Pen H p c ns n)(q:∀kvs,H d≠some (.dK kvs))(B:∀ob xs,H d≠some (.frz ob (.lst xs)))(s:∀b o,H b=some o->b≠d->H' b=some o):Pen H' p c ns n:=by obtain⟨⟨a,l,h1,h2⟩,F,I⟩:=h;exact⟨⟨a,l,s _ _ h1 (λz=>q _ (z ▸ h1)),h2⟩,(F.but λ_ _ _ e=>s _ _ e (λz=>B _ _ (z ▸ e))),I⟩
mutual
def zev {H H':Hp}(s:∀b o,H b=some o->(∀kvs,o≠.dT kvs)->H' b=some o):∀ {x:Dt} {v:V},Is H x v->Is H' x v
 | .non,_,h=>h
 | .bl _,_,h=>h
 | .int _,_,h=>h
 | .str _,_,h=>h
 | .tup l,_,h=>by obtain⟨p,xs,e,hp,hl⟩:=h;exact⟨p,xs,e,s _ _ hp (λ_ z=>by cases z),zfw s hl⟩
 | .lst l,_,h=>by obtain⟨p,xs,e,hp,hl⟩:=h;exact⟨p,xs,e,s _ _ hp (λ_ z=>by cases z),zfw s hl⟩
 | .dct,_,h=>by obtain⟨p,xs,e,hp,hl⟩:=h;exact⟨p,xs,e,s _ _ hp (λ_ z=>by cases z),hl⟩
def zfw {H H':Hp}(s:∀b o,H b=some o->(∀kvs,o≠.dT kvs)->H' b=some o):∀ {ds:AS} {xs:AT},IsL H ds xs->IsL H' ds xs
 | [],_,h=>h
 | d::ds,xs,h=>by obtain⟨x,r,e,h1,h2⟩:=h;exact⟨x,r,e,zev s h1,zfw s h2⟩
end
abbrev W.isD:W->Bool
 | .d _=>true
 | _=>false
def zgX(s:∀b o,zV A H b=some o->(∀kvs,o≠.dT kvs)->zV A H' b=some o):∀ {q:AU} {vs:AT},(q.all W.isD)=true->zai A H q vs->zai A H' q vs
 | [],_,_,h=>h
 | w::q,vs,n,h=>by
  obtain⟨v,r,e,h1,h2⟩:=h;rw[dP,bC] at n;show⟨v,r,e,?_,zgX s n.2 h2⟩
  cases w with
  | d x=>exact Val.of (zev s (Val.is h1))
  | _=>cases n.1
def mFlI (fa:AD):AC:=λρ n Q=>fa ρ n λx m=>∃l,x = .fl l/\Q (l.map W.d) m
def zqp(h:zV A H B=some (.frz ob (.lst xs)))(F:IsL (zV A H) l xs):ItV false A H (Itl K B) (l.map W.d) where
 one:=λi w A2 H2 e s _ _=>by obtain⟨d,x,rfl,I,J⟩:=zfy F e s;have g:SqL K H2 B xs:=.inl (.inr ⟨ob,zl _ _ (s _ _ h λk q=>by cases q)⟩);show⟨⟨xs,x,g,I⟩,?_⟩;rintro y H3 ⟨O,U⟩;subst O;have:=U xs g;rw[I] at this;cases this;exact⟨λ_ _ z=>z,Val.of J⟩
 stop:=λA2 H2 s _=>⟨xs,.inl (.inr ⟨ob,zl _ _ (s _ _ h λk q=>by cases q)⟩),by rw[ab,F.length];exact ai _⟩
section
variable {X:Cx}{Pn:PN}{M:AR}{fr:Bool}{e:Expr}{f:AD}
def zts(K:AH)(F:X.K=K)(h:JE X Pn M fr e f):JI X Pn M false tg e (mFlI f):=by obtain⟨te,q,r⟩:=h.ex;show⟨_,zgP K F q,⟨λA σ H ρ n Q R E P I k=>?_⟩⟩;show r.run A σ H ρ n _ _ E P I  ?_;rintro w m v H1 ⟨l,e,r⟩ J g _;subst e;obtain⟨O,ob,xs,rfl,B,U⟩:=J;exact⟨O,rfl,⟨xs,.inl (.inr ⟨ob,zl _ _ B⟩)⟩,k _ m _ H1 r (zqp B U) g⟩
abbrev onFl (w:W) (P:AS->Prop):Prop:=match w with | .fl i=>P i | _=>False
abbrev dInF (q:Bool):W->W->Mo W:=λx y n Q=>onD x λd=>onFl y λds=>d.eqOk/\(Dt.lst ds).eqOk/\∀b:Bool,(b=true↔d∈ds)->Q (.d (.bl (xr q b))) n
def zmC (P:Aa)(w:Ab)(C:Addr)(Pn:PN)(i:Nat)(fs:AC):AD:=λρ n R=>∃L,Pn.J=ldJ L/\L.P=P/\L.w=w/\L.C=C/\ρ[i]?=some (some (.pen L.a))/\fs ρ n λq m=>∃st,q=[.d (stD st)]/\StOk L.rm st/\R (.fl ((zaf L.bk st L.hs).map stD)) m
def zlS(hi:i∉M)(ra:RA Pn M t fs):RE Pn M false (zr0 C "after" (zdV P w C) [] E' (zaL i) t) (zmC P w C Pn i fs):=⟨by
 rintro A σ H ρ n Q R E Pp ⟨L,U,rfl,rfl,rfl,Y,hf⟩ k;obtain⟨v,hv,Z,_⟩:=E.val i _ Y;obtain rfl:v = .ref L.a:=Z hi;have G0:LdG L (zV A H):=by have:=Pp.2;rw[U] at this;exact this
 obtain⟨a1,ba,xs,x3,ob,ks,h1,h2,h3,h4,h5,_,h6,h7⟩:=G0.at;show⟨_,hv,L.a,L.dx,_,rfl,zl _ _ h1,ziZ _ _ _ _,?_⟩;show ra.run A σ H ρ n _ _ E Pp hf ?_;rintro ws m vs H1 ⟨st,rfl,ac,r⟩ ad g;obtain⟨v1,zC,rfl,b1,b2⟩:=ad;obtain rfl:zC=[]:=b2;obtain⟨sa,rfl,ag⟩:=zsp b1;have G1:LdG L (zV A H1):=by have:=g.pn.2;rw[U] at this;exact this
 obtain⟨_,_,_,_,an,_,_,_,_,_,g5,g6,_,_⟩:=G1.at;obtain⟨nd,B⟩:=zA.mp g5;have al:Al A H1:=(E.stay g.st).al;show⟨L,st,sa,rfl,rfl,rfl,rfl,G1.sm λb o e _=>zl _ _ e,ac,ag,λva o ys H' e1 e2 G' s=>?_⟩;have F:∀b,A b->∃u,H' b=some u/\NP u/\Mt u:=λb O=>by obtain⟨u,q,J,I⟩:=al b O;exact⟨u,s b u q (λz=>nd (z ▸ O)),J,I⟩
 have ap:¬ A va:=λz=>by obtain⟨u,q,J,I⟩:=F va z;rw[e1] at q;cases q;cases I
 have as:∀b xs,A b->H' b≠some (.tup xs):=λb xs O e=>by obtain⟨u,q,J,I⟩:=F b O;rw[e] at q;cases q;cases I
 have np:¬ NP (kO L.d an):=zqI g6;have a0:zq H1 H':=λb u e n=>s b u e λz=>by subst z;rw[B] at e;cases e;exact np n
 show k _ m _ H' r ⟨va,o,ys,rfl,zm ap e1,xP as (yO _) e2⟩ ⟨g.st.trans a0,?_,?_⟩ λz=>by cases z
 have hp:=g.pn.1;split at hp;trivial;exact⟨Pen.but hp.1 (λ_ z=>by rw[B] at z;cases z) (λ_ _ z=>by rw[B] at z;cases z) s,hp.2⟩;rw[U];show G'.sm λb u e n=>zm (λz=>?_) e;obtain⟨u',q,J,I⟩:=F b z;rw[e] at q;cases q;rcases n with n | n;rw[show imm u=false from I] at n;cases n;exact n J⟩
def mFnL (k:Nat)(P:Aa)(w:Ab)(C:Addr)(F:PN->AU->Mo W)(Pn:PN)(dv:AU)(I O:AC):AD:=λρ n R=>Pn.J=J0/\I ρ n λws1 U=>∃rm bk hs B,ws1++dv=[.d (stD rm),.d (xk bk),B]/\(B = .d (stD hs)\/hs=[]/\B = .d .non)/\RoomOk rm/\uJ rm bk/\
 O ρ U λq Y=>q.length+1=k/\q.all W.isD=true/\∀L:LdI,L.P=P->L.w=w->L.C=C->L.rm=rm->L.bk=bk->L.hs=hs->F ⟨Pn.pn,ldJ L⟩ (.pen L.a::q) Y R
def zrB(ap:∀A H,zai A H dv dvs)(r1:RA Pn M t1 f1)(r2:RA Pn M t2 f2) :
  RE Pn M fr (zcf (spV k fr F) [] E0 (zm5 P w (zbo (zrZ C (zdW C) dvs E' t1) t2))) (mFnL k P w C F Pn dv f1 f2):=⟨by
 rintro A σ H ρ n Q R E Pp ⟨hJ,hf⟩ kk;show r1.run A σ H ρ n _ _ E Pp hf ?_;rintro ws1 m1 J H1 ⟨rm,bk,hs,v3,B,as,hR,hB,O⟩ b1 g1 x dx nx U Y;have E1:=E.stay g1.st
 have bb:zai A H1 (ws1++dv) (J++dvs):=by
  clear B O
  induction ws1 generalizing J with
  | nil=>cases b1;exact ap A H1
  | cons w0 ws1 ih=>obtain⟨v,r,rfl,q1,q2⟩:=b1;exact⟨v,_,rfl,q1,ih _ q2⟩
 rw[B] at bb;obtain⟨y1,y2,y3,ev,q1,q2,q3⟩:=zuC bb;rw[ev];have s1:yL H1 (upd (upd H1 dx (.own x)) x (.ins C dx [])):=λb o e=>by rw[ze (zb e nx),ze (zb e U)];exact e
 show⟨x,dx,y1,y2,y3,rfl,zg,λd H2 nd h1 h2 Z=>⟨rfl,?_⟩⟩;have ac:x≠d:=λe=>by rw[<- e,zg] at nd;cases nd
 have s2:yL H1 H2:=λb o e=>Z b o (s1 b o e) (zb e nx);have a0:H2 dx=some (.own x):=Z _ _ (by rw[ze Y,zg]) Y;have ad:H1 d=none:=s1.free nd;have E2:=E1.stay (zq.same s2);show r2.run A σ H2 ρ m1 _ _ E2 (g1.pn.same s2) O ?_;rintro a1 m2 a2 H3 ⟨hk,a3,hF⟩ b2 g2;have z1:H3 x=some (.ins C dx (ldF y1 y2 y3 d)):=g2.st _ _ h1 λk q=>by cases q
 have z2:H3 d=some (.dT []):=g2.st _ _ h2 λk q=>by cases q
 have z3:H3 dx=some (.own x):=g2.st _ _ a0 λk q=>by cases q
 show⟨d,[],z2,λob D hh=>?_⟩;have E3:=E2.stay g2.st;have ag:¬ A d:=E1.new ad;have I:∀b o,H3 b=some o->b≠d->upd H3 d (kO d ob) b=some o:=λb o e n=>by rw[ze n];exact e
 have s5:∀b o,zV A H3 b=some o->(∀kvs,o≠.dT kvs)->zV A (upd H3 d (kO d ob)) b=some o:=λb o e n=>by obtain⟨B,e2⟩:=zA.mp e;exact zm B (I b o e2 λz=>by rw[z,z2] at e2;cases e2;exact n _ rfl)
 have an:zq H1 H3:=(zq.same s2).trans g2.st;have sH:zq H (upd H3 d (kO d ob)):=λb o e np=>by have B:=g1.st b o e np;exact I b o (an b o B np) λz=>by rw[z,ad] at B;cases B
 have up:∀ {x:Dt} {v:V},Val A H1 (.d x) v->Is (zV A (upd H3 d (kO d ob))) x v:=λh=>zev s5 (Val.is (h.stay an))
 have G:LdG ⟨P,w,C,x,dx,d,rm,bk,hs⟩ (zV A (upd H3 d (kO d ob))):=by
  show⟨⟨y1,y2,y3,ob,[],zm (E1.new nx) (I _ _ z1 ac),zm (E1.new U) (I _ _ z3 λz=>?_),up q1,up q2,?_,zm ag zg,hh,?_,λq z=>by cases z⟩,hR,hB⟩;have z:dx=d:=z;rw[z,z2] at z3;cases z3;rcases as with rfl | ⟨rfl,rfl⟩;obtain⟨p,ys,rfl,i1,i2⟩:=up q3;obtain rfl:=i2.of_ints;exact .inr ⟨p,rfl,i1⟩;exact .inl ⟨up q3,rfl⟩;obtain⟨u1,u2,us,u3,u4⟩:=D;cases u3;exact⟨u1,u2,[],.nil,u4⟩
 change spV k fr F ((V.ref x::a2)++[]) _ Q E0;rw[cI];show⟨⟨Pn.pn,ldJ ⟨P,w,C,x,dx,d,rm,bk,hs⟩⟩,A,.pen x::a1,m2,R,λa ha=>?_,⟨_,_,rfl,rfl,zgX s5 a3 b2⟩,hk,⟨?_,G⟩,hF _ rfl rfl rfl rfl rfl rfl,λw' m' v H' h1 h2 Z h4=>kk w' m' v H' h1 h2 ⟨sH.trans Z.st,Z.pn.1,by rw[hJ];trivial⟩ λz=>(h4 z).back sH⟩;obtain⟨o,i1,i2⟩:=E3.al a ha;exact⟨o,I a o i1 (λz=>ag (z ▸ ha)),i2⟩;have hp:=g2.pn.1;change match Pn.pn with | none=>True | some (p,c,ns)=>Pen _ p c ns m2/\(∀r,ns=0::r->¬ A c)/\¬ A p
 generalize Pn.pn=o at hp ⊢;rcases o with _ | ⟨p,c,ns⟩;trivial;exact⟨Pen.but hp.1 (λ_ z=>by rw[z2] at z;cases z) (λ_ _ z=>by rw[z2] at z;cases z) I,hp.2⟩⟩
end
def yb (s:Stmt)(i:Nat):Stmt:=match s with
 | .ClassDef (body:=b) ..=>b.getD i (.Pass ⟨0,0,0,0⟩)
 | _=>.Pass ⟨0,0,0,0⟩
structure LdT (K:AH)(mg:AI)(s:Stmt)(C fI fA:Addr)(dI dA:Ac):Prop where
 c:LdC K C
 mM:Mk K C fI
 me:Meth K C "after" fA
 m:mg "Leads" = some (.ref C)
 FI:FunD K "__init__" "Leads.__init__" (yb s 0) fI dI
 FA:Fun K "after" "Leads.after" (yb s 1) fA dA
 b:uS K dI [Ai,Aj,Ak,Am] []
 bd:uS K dI [Ai,Aj,Ak,Am] [Value.none]
 bA:uS K dA [Ai,An] []
def Cm(X:K.In h)(G:h.Ns mainGlobals mg)(a:PySem.W.nsIn K mainGlobals "Leads" = some (some (.ref C)))(a1:PySem.W.findIn K (.ref C) "__init__" = some (some (.ref Z)))(i1:PySem.W.isFn K (.ref Z)=true)(l1:K.lookup Z=some ⟨as,a3,.func (PySem.W.fnOf "__init__" "Leads.__init__" (z5 (yb st 0)) (zu (yb st 0)) (zd (yb st 0)) (.ref T) B F I O q J),a7⟩)(c1:PySem.W.codeIn K q "Leads.__init__" = true)(k1:PySem.W.keepIn K (.ref Z)=true)(t:K.lookup T=some ⟨ot,a5,.seq Y n3,bb⟩)(a2:PySem.W.findIn K (.ref C) "after" = some (some (.ref f2)))(i2:PySem.W.isFn K (.ref f2)=true)(l2:K.lookup f2=some ⟨a0,a4,.func (PySem.W.fnOf "after" "Leads.after" (z5 (yb st 1)) (zu (yb st 1)) (zd (yb st 1)) .none ac ad ag ap U al),ba⟩)(c2:PySem.W.codeIn K U "Leads.after" = true)(k2:PySem.W.keepIn K (.ref f2)=true)(pg:PySem.W.plainGet K C Str.empty=true)(hd:PySem.W.hasDictIn K C=true)(po:PySem.W.plainOver K C=true)(sa:PySem.W.findIn K (.ref C) "__setattr__" = some (some (.builtin "object.__setattr__")))(mk:PySem.W.makesIn K C=true)(kc:PySem.W.keepIn K (.ref C)=true)(n1:PySem.W.findIn K (.ref C) "room" = some none)(n2:PySem.W.findIn K (.ref C) "wishes" = some none)(n3:PySem.W.findIn K (.ref C) "held" = some none)(n4:PySem.W.findIn K (.ref C) "known" = some none)(b:∀us:AN,(us++[]).length=4->∃k:Option AK->Sem (List (Str×Value)),bindArgs (PySem.W.fnOf "__init__" "Leads.__init__" (z5 (yb st 0)) (zu (yb st 0)) (zd (yb st 0)) (.ref T) B F I O q J) ⟨us,[]⟩=seqItems? (.ref T) >>= k/\k (some Y)=pure (([Ai,Aj,Ak,Am]:AM).zip (us++[])))(e:∀us:AN,(us++[Value.none]).length=4->∃k:Option AK->Sem (List (Str×Value)),bindArgs (PySem.W.fnOf "__init__" "Leads.__init__" (z5 (yb st 0)) (zu (yb st 0)) (zd (yb st 0)) (.ref T) B F I O q J) ⟨us,[]⟩=seqItems? (.ref T) >>= k/\k (some Y)=pure (([Ai,Aj,Ak,Am]:AM).zip (us++[Value.none])))(bA:∀ (kV dc pm:Value) (an:Option Addr) (cd ct:Value) (us:AN),us.length=2->bindArgs (PySem.W.fnOf "after" "Leads.after" (z5 (yb st 1)) (zu (yb st 1)) (zd (yb st 1)) .none kV dc pm an cd ct) ⟨us,[]⟩=pure (([Ai,An]:AM).zip us)) :
  LdT K mg st C Z f2 (PySem.W.fnOf "__init__" "Leads.__init__" (z5 (yb st 0)) (zu (yb st 0)) (zd (yb st 0)) (.ref T) B F I O q J) (PySem.W.fnOf "after" "Leads.after" (z5 (yb st 1)) (zu (yb st 1)) (zd (yb st 1)) .none ac ad ag ap U al):=
 ⟨⟨⟨pg,hd,po,sa⟩,n1,n2,n3,n4⟩,⟨mk,a1,i1,kc⟩,⟨a2,i2,k2⟩,PySem.W.mg_of X G a,ziB l1 c1 k1,zgi l2 c2 k2,zf2 l1 rfl t b,zf2 l1 rfl t e,(zgi l2 c2 k2).binds bA⟩
section
variable {X:Cx}{Pn:PN}{M:AR}{fr:Bool}{s:Stmt}{C fI fA:Addr}{dI dA:Ac}
def znL {x:Str}{i j kk:Nat}{p apos pos:Pos}{e:Expr}{fs:AC}{pl:Sem Bool}(P:Aa)(w:Ab)(hP:X.prog=P)(hw:X.w=w)(T:LdT X.K X.mg s C fI fA dI dA)(G:FnOk X.prog X.w X.K X.mg X.base CX0 j fA dA [Ai,An] (zdV P w C))(hr:Room kk X.A)(hv:QE X (.Name x p) (zaL i))(hi:i∉M)(ha:JA X Pn M [e] fs)(hjk:j<=kk:=by ext)
  (hst:starEach [e] X.env=(false,eval e X.env)::starEach [] X.env:=by rfl) (hpl:(backTo pos (starEach [] X.env)).any (·.1)=false:=by rfl)
  (ht:eval (.Call (.Attribute (.Name x p) "after" apos) [e] [] pos) X.env=(do
   let ov <- eval (.Name x p) X.env
   standAt apos.atName
   let (f,first) <- holding [ov] (getMethod ov "after" pl)
   callWith pos f first (backTo pos (starEach [e] X.env)) (backToKw pos (keywordEach [] X.env))):=by rfl) :
  JE X Pn M false (.Call (.Attribute (.Name x p) "after" apos) [e] [] pos) (zmC P w C Pn i fs):=by
 obtain⟨t,q,r⟩:=ha.ex;exact⟨_,⟨zop hv.run T.c.cl T.me G (hr.mono hjk) T.bA .nil zjz q.run hst hpl ht⟩,zlS hi r⟩
def ztq{x:Str}{st:Stmt}{ps:AM}{f:Addr}{fd:Ac}{F:PN->AU->Mo W}{dv:AU}{dvs:AT}{p p1 pos B:Pos}{q es:AO}{f1 f2:AC}(P:Aa)(w:Ab)(hP:X.prog=P)(hw:X.w=w)(T:LdT X.K X.mg s C fI fA dI dA)(D:Dfn X.K X.mg x st ps f fd)(GI:FnOk X.prog X.w X.K X.mg X.base CX0 jI fI dI [Ai,Aj,Ak,Am] (zdW C))(G:FnOk X.prog X.w X.K X.mg X.base CX0 j f fd ps (spV k fr F))(hr:Room O X.A)(hb:uS X.K dI [Ai,Aj,Ak,Am] ds)(hd:zM dvs ds)(U:∀A H,zai A H dv dvs)(h1:JA X Pn M (I::q) f1)(h2:JA X Pn M es f2)(Y:j<=O:=by ext)(Z:jI+1<=O:=by ext)(hg:Gl X x:=by rfl)(ac:Ah x:=by ext)(ad:Gl X "Leads" := by rfl)(ag:starEach (I::q) X.env=(false,eval I X.env)::starEach q X.env:=by rfl)(J:(backTo B (starEach q X.env)).any (·.1)=false:=by rfl)(he:starEach (.Call (.Name "Leads" p1) (I::q) [] B::es) X.env=(false,eval (.Call (.Name "Leads" p1) (I::q) [] B) X.env)::starEach es X.env:=by rfl)(al:(backTo pos (starEach es X.env)).any (·.1)=false:=by rfl) :
  JE X Pn M fr (.Call (.Name x p) (.Call (.Name "Leads" p1) (I::q) [] B::es) [] pos) (mFnL k P w C F Pn dv f1 f2):=by
 subst hP hw;obtain⟨t1,q1,r1⟩:=h1.ex;obtain⟨t2,q2,r2⟩:=h2.ex;exact⟨_,⟨zq4 D G hr (zoh (zaV (zoo T.mM GI (hr.mono Z) ad T.m hb hd zjz q1.run (by ext) ag J) q2.run he)) Y hg ac he al⟩,zrB U r1 r2⟩
end
end L3
namespace L2
open PyProof.Rows PySem.SeqAt
def okT:Nat->Dt->Bool
 | _,.non=>true
 | _,.int _=>true
 | _,.bl _=>true
 | _,.str x=>PyData.strOk x
 | n+1,.tup l=>l.all (okT n)
 | n+1,.lst l=>l.all (okT n)
 | _,_=>false
abbrev Dt.py (d:Dt):PyData:=PySem.W.kqdP d.toW
section
variable {P:Aa}{w:Ab}{H:Hp}{h:Heap}
variable {X:Cx}
end
end L2
namespace L3
open L2
section
variable {X:Cx}{Pn:PN}{M:AR}{e:Expr}{f:AD}{pos p:Pos}
abbrev dNeT:W->W->Mo W:=λx y n Q=>onD x λd=>onD y λe=>d=e/\okT 8 d=true/\Q (.d (.bl false)) n
abbrev dNiT:W->W->Mo W:=λx y n Q=>onD x λd=>onL y λds=>okT 8 d=true/\(Dt.lst ds).eqOk/\∀b:Bool,(d∈ds->b=true)->(b=true->∃e∈ds,PyData.eqv e.py d.py=true)->Q (.d (.bl (!b))) n
abbrev zsv (f:AD):AD:=λρ n Q=>f ρ n λx q=>onL x λl=>∃sts:AF,l=sts.map stD/\(∀ks:AF,ks.Nodup->(∀z∈ks,z∈sts)->ks.length<300)/\∀ks:AF,ks.Nodup->(∀st,st∈ks↔st∈sts)->Q (.d (.int (ks.length:Nat))) q
end
end L3
namespace L2
open PyProof.Rows
section
variable {X:Cx}
end
end L2
namespace L3
open L2
section
variable {Pn:PN}
abbrev dMaxT:AU->Mo W:=λq n Q=>on1 q λx=>∃ns:AG,x = .d (stD ns)/\ns≠[]/\∀m,m∈ns->(∀x∈ns,x<=m)->Q (.d (.int m)) n
end
end L3
namespace L2
open PyProof.Rows
end L2
namespace L3
open L2
section
variable {X:Cx}{Pn:PN}{M S:AR}{fr:Bool}{a:Expr}{pos p:Pos}
def W.nl:W->Prop
 | .d x=>x.noL=true
 | .pen _=>True
 | _=>False
def Fg:Ev->Ev->Prop
 | [],q=>q=[]
 | o::ρ,q=>∃o' r,q=o'::r/\(o'=none\/(o'=o/\∀w,o=some w->w.nl))/\Fg ρ r
abbrev mInClr (i:Nat):Ms:=λρ n k=>∃F l st q,ρ[i]?=some (some (.d (.tup [F,.lst l])))/\F.noL=true/\stD st∈l/\Fg ρ q/\onP q i (.d (.tup [F,.lst []])) λB=>k.nx B n
end
end L3
namespace L2
open PyProof.Rows PySem.W PySem.SeqAt
section
variable {X:Cx}
end
end L2
namespace L3
open L2
section
variable {X:Cx}{Pn:PN}{M S:AR}{fr fr':Bool}{e:Expr}{f:AD}{pos:Pos}
abbrev W.pl:W->W
 | .ad _ x=>.d x
 | w=>w
abbrev mVarA (i:Nat):AD:=λρ n Q=>onV ρ i λw=>Q w.pl n
abbrev mSetA (i:Nat) (f:AD):Ms:=λρ n k=>f ρ n λw m=>match w with
 | .d (.lst l)=>Dt.noLs l=true/\∀a,onP ρ i (.ad a (.lst l)) λq=>k.nx q m
 | w=>onP ρ i w λq=>k.nx q m
def NewA (q:Addr)(ρ:Ev):Prop:=∀ (j:Nat) (a:Addr) (l:AS),ρ[j]?=some (some (W.ad a (.lst l)))->a≠q
abbrev mSetW (i:Nat) (f:AD):Ms:=λρ n k=>∃ q,Fg ρ q/\f q n λw m=>match w with
 | .d (.tup [F,.lst l])=>F.noL=true/\Dt.noLs l=true/\∀I,NewA I ρ->onP ρ i (.ad I (.tup [F,.lst l])) λB=>k.nx B m
 | _=>False
def W.nlA (q:Addr):W->Prop
 | .d x=>x.noL=true
 | .pen _=>True
 | .ad a _=>a≠q
 | _=>False
def FgA (B:Addr):Ev->Ev->Prop
 | [],q=>q=[]
 | o::ρ,q=>∃o' r,q=o'::r/\(o'=none\/(o'=o/\∀w,o=some w->w.nlA B))/\FgA B ρ r
abbrev mInApp (i:Nat):Ms:=λρ n k=>onV ρ i λw=>match w with
 | .ad B (.tup [_,.lst l])=>l.length<10000/\∃ q,FgA B ρ q/\k.nx q n
 | _=>False
abbrev mRem (i:Nat) (fk:AD):Ms:=λρ n k=>onV ρ i λv=>onL v λl=>fk ρ n λy m=>onI y λj=>∃ns:AG,l=ns.map Dt.int/\j∈ns/\onP ρ i (.d (lsD (ns.erase j))) λq=>k.nx q m
end
end L3
namespace L3
open L2
section
variable {X:Cx}{Pn:PN}{M S:AR}{fr fr':Bool}{e:Expr}{f:AD}{pos:Pos}
def One (x:Dt):Prop:=∃pre l,x = .tup (pre++[.lst l])/\Dt.noLs pre=true/\Dt.noLs l=true
def zgo:∀ {pre:AS} {xs:AT},IsL G (pre++[d]) xs->∃ys v,xs=ys++[v]/\IsL G pre ys/\Is G d v
 | [],xs,h=>by obtain⟨x,r,rfl,h1,h2⟩:=h;cases h2;exact⟨[],x,rfl,rfl,h1⟩
 | _::pre,xs,h=>by obtain⟨x,r,rfl,h1,h2⟩:=h;obtain⟨ys,v,rfl,q,B⟩:=zgo (pre:=pre) h2;exact⟨x::ys,v,rfl,⟨x,ys,rfl,h1,q⟩,B⟩
def NewB (q:Addr)(ρ:Ev):Prop:=∀ (j:Nat) (a:Addr) (x:Dt),ρ[j]?=some (some (W.ad a x))->One x->a≠q
abbrev mSetB (i:Nat) (f:AD):Ms:=λρ n k=>∃ B,Fg ρ B/\f B n λw m=>onD w λx=>
 (x.noL=true/\onP ρ i (.d x) λq=>k.nx q m)\/(One x/\∀F,NewB F ρ->onP ρ i (.ad F x) λq=>k.nx q m)
abbrev zsE (i:Nat):Ms:=λρ n k=>onV ρ i λw=>match w with
 | .ad B x=>One x/\(∀pre l,x = .tup (pre++[.lst l])->l.length<10000)/\∃ q,FgA B ρ q/\k.nx q n
 | _=>False
abbrev dGivA (i:Nat) (F:AU->Mo W) (O U:AD):Ms:=λρ n k=>O ρ n λI Y=>U ρ Y λJ Z=>onV ρ i λw=>match w with
 | .ad ad (.lst l)=>(I.nl/\J.nl/\Dt.noLs l=true)/\∃ q,FgA ad ρ q/\F [I,J,.d (.lst l)] Z λw' m'=>match w' with
  | .d (.lst l')=>Dt.noLs l'=true/\∀a',onP q i (.ad a' (.lst l')) λB=>k.nx B m'
  | _=>False
 | _=>False
end
end L3
namespace L2
open PyProof.Rows PySem.W PySem.Calls
section
variable {X:Cx}{pos:Pos}
def zrU (tk tv:TE):TE:=λσ H Q=>∀p,H p=none->zgW [(tk,tv)] σ (upd H p (.dT [])) λps H2=>∃x y H3,ps=[(x,y)]/\zd4 H2 p x y H3/\Q (.ref p) H3
def zlJ{tk tv:TE}(J:X.A.units+1<cLine)(O:QE X k tk)(U:QE X v tv):QE X (.Dict [some k] [v] pos) (zrU tk tv):=⟨by
 intro pins s σ H Q I q;have I1:=I.laid (a:=s.heap.objs.size) (o:=.dT []) (h':=s.heap.push { cls:=.type "dict",data:=.dict #[] }) (t':=s.toks) (λ_ _ q=>af _ q) (ai _) (zgc s.heap I.big);rw[arm_eval_Dict,zip_pairTrees [some k] [v] X.env pos rfl rfl,dictDisplay_pairs _ (by simp[pairTrees]) (by simp[pairTrees])];show aa (c7 (aa ?_));unfold subDict;show aa (wpAny_alloc (aa (bJ ?_)));rw[if_pos (by simp[pairTrees])];show aa (thn (zgL (pos:=pos) O.run U.run zjF pins _ σ _ _ I1 (q _ (I.hok.fresh (ai s.heap.objs.size)))) ?_);rintro vs s2 ⟨ps,H2,I2,B,x,y,H3,rfl,Y,Z⟩
 cases B with
 | cons F r2=>
  cases r2;show bJ ?_;rw[dQ];show aa (aa (aa (zig J I2 Y F.1 F.2 λs' I'=>ae ?_)));dsimp only;rw[List.forIn_nil];exact ae (ae (ae (ae ⟨.ref s.heap.objs.size,_,I',rfl,Z⟩)))⟩
def zrV (te:TE):TE:=λσ H Q=>te σ H λx H1=>∃a ks,H1 a=some (dtO ks)/\∀ob,Q x (upd H1 a (.frz ob (dtO ks)))
def zlL(h:QE X e te):QE X e (zrV te):=⟨by
 intro pins s σ H Q I q;show thn (h.run pins s σ H _ I q) ?_;rintro v O ⟨x,H1,I1,B,a,ks,F,J⟩;obtain⟨ob,I2⟩:=I1.frz F;exact⟨_,_,I2,B,J ob⟩⟩
def zmU:AT->Hp->VK->Prop:=λxs H Q=>∃ (a:Addr) (kvs:List (AG×V)) (m:Nat),xs=[.ref a]/\Rd H a (dtO kvs)/\1<=m/\(∀q∈kvs,q.1.length=m)/\
 ∀ (ys:AT) (B:AF),IsL H (B.map stD) ys->B.Perm (kvs.map (·.1))->(B.Pairwise λa b=>HT.lexLt a b=true)->New H (.lst ys) Q
def zkQ (hc:X.calm=true):CallQ X (.builtin "sorted") zmU:=⟨by
 intro pins s σ H xs us Q I r h;obtain⟨a,kvs,m,rfl,hH,a5,hm,q⟩:=h;obtain⟨u,rfl,ru⟩:=zaJ r;cases ru;obtain⟨lo,es,ep,xs,S,e1,ag,e3,hz,a7⟩:=zgd I hH;obtain⟨m0,al,_⟩:=id I.loc
 have hsz:es.size=xs.length:=by
  have:=congrArg List.length e3;grind
 have J:xs.length=kvs.length:=by
  have:=congrArg List.length e1;grind
 have ba:∀b,(⟨#[],{}⟩:Heap).get? b=none:=λb=>by
  cases e:(⟨#[],{}⟩:Heap).get? b with
  | none=>rfl
  | some o'=>
   have:=ar e;simp at this
 show kdu_sorted (h₀:=(⟨#[],{}⟩:Heap)) (L:=X.env.locals) (m:=m0) (news:=zaz s.heap X.env.locals) (zgb (es:=es) a ep lo) (I.ok.hd hc) ⟨al,λb o e=>(by right),aK _⟩ (λp hp=>?_) S (by rw[hsz,J];exact hz) λD h' an vs F N bb hl hP=>?_;obtain⟨b,o⟩:=p;have:=zy.mp hp;right
 have ap:vs=xs.map λq=>Value.ref q.2:=by
  rw[<- e3];show dG (by right) λj h1 h2=>?_;obtain⟨e,he,hv⟩:=hP j vs[j] (aw h1);rw[hv,b9];rw[zbA] at he;rw[ab] at h2;right
 have kp:∀b o,b≠X.env.locals->s.heap.get? b=some o->h'.get? b=some o:=λb o hb e=>(N (b,o) (am _ (zy.mpr ⟨hb,e⟩))).1;have as:D≠X.env.locals:=(N (D,_) aj).2.1
 have bc:s.heap.get? D=none:=by
  cases e:s.heap.get? D with
  | none=>rfl
  | some o=>exact absurd (bb (D,o) (zy.mpr ⟨as,e⟩)) (cB _)
 have O:H D=none:=by
  cases e:H D with
  | none=>rfl
  | some o=>
   obtain⟨o',a0⟩:=ur (I.hok D o e);grind
 have a1:Paired (zch h' X.env.locals D) vs (xs.map (·.1)):=by
  rw[ap]
  have bd:∀ (l:AE),(∀q∈l,H q.2=some (.tup (q.1.map V.int)))->Paired (zch h' X.env.locals D) (l.map λq=>Value.ref q.2) (l.map (·.1)):=by
   intro l
   induction l with
   | nil=>intro _;exact .nil
   | cons q l ih=>
    intro hl;have U:=hl q aj;obtain⟨items,rv,⟨o',a0,be⟩,_⟩:=I.tuple (.of U);have a2:=zb U I.free;exact .cons ⟨q.2,items,rfl,⟨o',kp _ _ a2 a0,be⟩,rv,a2,zb U O⟩ (ih λr hr=>hl r (am _ hr))
  exact bd xs ag
 have bk:∀st∈xs.map (·.1),st.length=m:=λst a3=>by rw[e1] at a3;obtain⟨q,U,rfl⟩:=aF.mp a3;exact hm q U
 show zgy (s:={ s with heap:=h',toks:=an }) F.ns as (N (D,_) aj).1 a1 (by rw[ab,J];exact hz) a5 bk (by rw[e1];exact a7) λb0 c p hp Y bl bo a4=>?_;have Z:∀i∈p,i<xs.length:=λi hi=>by have:=aN.mp ((hp.mem_iff).mp hi);rwa[ab] at this
 have B:(p.map λi=>(xs.map (·.1)).getD i [])=(p.map λi=>xs.getD i ([],0)).map (·.1):=by rw[aJ];exact bK λi hi=>by have h1:=Z i hi;simp[h1]
 have ac:(p.map λi=>vs.getD i .none)=(p.map λi=>xs.getD i ([],0)).map λq=>Value.ref q.2:=by rw[aJ,ap];exact bK λi hi=>by have h1:=Z i hi;simp[h1]
 have bs:∀q∈(p.map λi=>xs.getD i ([],0)),H q.2=some (.tup (q.1.map V.int)):=λq U=>by
  obtain⟨i,hi,rfl⟩:=aF.mp U;have h1:=Z i hi;have:xs.getD i ([],0)=xs[i]:=by simp[h1]
  rw[this];exact ag _ (bO h1)
 rw[ac] at a4;have bx:=Y;rw[B] at Y;have ad:p.length=xs.length:=by rw[hp.length_eq,aB,ab]
 have I':=zbH I al (ys:=(p.map λi=>xs.getD i ([],0)).map λq=>V.ref q.2) (λb o hb e=>bl b o hb (by grind) (kp b o hb e)) bo bc O a4 (zaK _) (by rw[ab,ab,ad,J];exact hz) an;show⟨.ref D,_,I',rfl,(q _ ((p.map λi=>xs.getD i ([],0)).map (·.1)) (zbt bs) ?_ Y).at O⟩;rw[<- e1,<- B];have:=hp.map λi=>(xs.map (·.1)).getD i [];rwa[uP] at this⟩
end
end L2
namespace L3
open L2
section
variable {X:Cx}{Pn:PN}{M S:AR}{fr fr':Bool}{pos p:Pos}{e a b c:Expr}{f fa fb fc:AD}
abbrev zpZ (fk fv:AD):AD:=λρ n Q=>fk ρ n λy m=>fv ρ m λx q=>∃st,y = .d (stD st)/\onD x λd=>Q (.dt [(st,d)]) q
def ziP (hu:X.A.units+1<cLine)(hk:JE X Pn M fr a fa)(hv:JE X Pn M fr' b fb):JE X Pn M true (.Dict [some a] [b] pos) (zpZ fa fb):=by
 obtain⟨ta,qa,ra⟩:=hk.ex;obtain⟨tb,qb,rb⟩:=hv.ex;show⟨_,zlJ hu qa qb,⟨λA σ H ρ n Q R E P hf k=>λp Y=>?_⟩⟩;have S:=yL.upd (o:=.dT []) Y;have E1:=E.stay (zq.same S);show ra.run A σ _ ρ n _ _ E1 (P.same S) hf λw1 m1 v1 H1 r1 V1 Z _=>?_;show rb.run A σ H1 ρ m1 _ _ (E1.stay Z.st) Z.pn r1 λw2 m2 U H2 I V2 g2 _=>?_;obtain⟨st,rfl,I⟩:=I;rw[xb] at I;obtain⟨d,rfl,I⟩:=I;have B:H2 p=some (dtO []):=g2.st _ _ (Z.st _ _ zg (λ_ q=>by cases q)) (λ_ q=>by cases q);obtain⟨bd,xs,rfl,ac,hx⟩:=(V1.stay g2.st).is;obtain rfl:=hx.of_ints;have nA:=E.new Y;show⟨_,_,_,rfl,zd4.i (kvs:=[]) (v:=U) B (zl _ _ ac) (by change 0<sizeLine;decide),?_⟩;show k _ m2 _ _ I ⟨p,[(st,U)],rfl,zm nA zg,U,[],rfl,zev (λb o J O=>?_) V2.is,rfl⟩ ⟨λb o J O=>?_,zgK g2.pn B⟩ λ_=>⟨p,rfl,.of Y,p,[(st,U)],rfl,zg,U,[],rfl,zev (λb o J O=>?_) V2.is,rfl⟩;obtain⟨z1,F⟩:=zA.mp J;exact zm z1 (by rw[ze λy=>by rw[y,B] at F;cases F;exact O _ rfl];exact F);rw[ze (zb J Y)];exact g2.st _ _ (Z.st _ _ (S _ _ J) O) O;obtain⟨z1,F⟩:=zA.mp J;have hb:b≠p:=λy=>by rw[y,B] at F;cases F;exact O _ rfl
 exact zm (λy=>y.elim z1 hb) (by rw[ze hb];exact F)
abbrev zs8 (fk fd:AD):AD:=λρ n Q=>fk ρ n λy q=>fd ρ q λx B=>onE x λkvs=>∃st,y = .d (stD st)/\Q (.d (.bl (!(xE kvs st).isSome))) B
def ziU (O:X.A.units+1<cLine)(U:JB X Pn M a fa)(Y:JB X Pn M b fb)(h1:behindInMarks .NotIn b=false:=by first | exact zdv _ (by ext) (by ext) | rfl):JT X Pn M (.Compare a [.NotIn] [b] pos) (zsw (zs8 fa fb)):=by
 obtain⟨ta,Z,ra⟩:=U.ex;obtain⟨tb,qb,rb⟩:=Y.ex;show⟨_,zjS (zjL O Z qb) h1,zo ▸ zrN (RE.rb (fr:=false) ⟨λA σ H ρ n Q R E P hf k=>?_⟩)⟩;show ra.run A σ H ρ n _ _ E P hf λw1 m1 v1 H1 r1 b1 q=>?_;show rb.run A σ H1 ρ m1 _ _ (E.stay q.st) q.pn r1 λw2 m2 v2 H2 I b2 g2=>?_;rw[zgG] at I;obtain⟨kvs,rfl,st,rfl,r⟩:=I;obtain⟨ad,ks,rfl,B,J⟩:=b2;obtain⟨bd,xs,rfl,F,hx⟩:=uc (b1.stay g2.st);obtain rfl:=hx.of_ints;show⟨ad,xq ks st,rfl,zcg.i B F,k _ m2 _ H2 r (Val.of ?_) (q.trans g2) λz=>by cases z⟩
 cases e:xE kvs st with
 | none=>rw[(J.look (k:=st)).1 e];rfl
 | some d=>obtain⟨v,h1,h2⟩:=(J.look (k:=st)).2 d e;rw[h1];rfl
abbrev zmo:AU->Mo W:=λF n Q=>on1 F λx=>onZ x λkvs=>∃m:Nat,1<=m/\(∀q∈kvs,q.1.length=m)/\∀B:AF,B.Perm (kvs.map (·.1))->(B.Pairwise λa b=>HT.lexLt a b=true)->Q (.d (x8 B)) n
def zpx:FL Pn true zmU zmo:=⟨λA H xs ws n Q R J b P h k=>by
 simp only[zmo,u5,zqO] at h;obtain⟨x,rfl,kvs,rfl,m,h1,Z,h⟩:=h;obtain⟨v,rfl,bb⟩:=zbe b;obtain⟨a,ks,rfl,ha,O⟩:=zpV bb;show⟨a,ks,m,rfl,ha,h1,λq hq=>?_,λI B hy U hs p H' Y g S=>?_⟩;have:q.1∈ks.map (·.1):=aF.mpr ⟨q,hq,rfl⟩;rw[O.keys] at this;obtain⟨q',h2,h3⟩:=aF.mp this;rw[<- h3];exact Z q' h2;rw[O.keys] at U;have F:IsL (zV A H) (B.map stD) I:=xP J.noT (yO B) hy;exact k _ n _ H' (h B U hs) (xY F (zq.same S) (J.new Y) g) (Go.same P S) λz=>xO F S Y g⟩
abbrev zp6 (i:Nat) (f:AD):Ms:=λρ n k=>onV ρ i λx=>onE x λkvs=>f ρ n λw m=>onD w λd=>k.rt (.tz kvs d) m
def ziT (i:Nat){x:Str}{x1}{q:Pos}(he:JE X Pn M fr' e f)(hi:i∈M:=by ext)(hN:X.N[i]?=some x:=by rfl)(hv:Vis X.env.scope x:=by walk_at "v")(hd:Ah x:=by ext)
  (Z:(x==("__classdict__" : Str))=false:=by ext) {pos':Pos} (h1:starEach [.Name x p,e] X.env=(false,eval (.Name x p) X.env)::starEach [e] X.env:=by rfl) (h2:starEach [e] X.env=(false,eval e X.env)::starEach [] X.env:=by rfl) :
  JS X Pn S M false (.Return (some (.Tuple [.Name x p,e] x1 q)) pos') (zp6 i f):=by
 obtain⟨te,qe,re⟩:=he.ex;show⟨_,uA (zlL (zdK (zz (qv i hN hv hd Z) (zz qe yw h2) h1))),⟨λB A σ H ρ n k D a kk J=>?_⟩⟩;unfold zp6 at J;rw[uu] at J;obtain⟨w2,e2,J⟩:=J;rw[zgG] at J;obtain⟨kvs,rfl,J⟩:=J;obtain⟨v2,s1,_,s3⟩:=a.env.val i _ e2;obtain⟨F,rfl,hA,hb,_⟩:=s3 hi;have I:=a.mine i _ F hi e2 s1
 have hn:¬ B.A0 F:=λz=>by
  rcases I with I | I;obtain⟨o,o1,o2,_⟩:=a.frm.al F z;exact I o o1 o2;exact a.frm.cn F I z
 show⟨.ref F,s1,?_⟩;show re.run A σ H ρ n _ _ a.env a.pn J λw m v H' r hV g _=>?_;have U:=a.step g;rw[xb] at r;obtain⟨d,rfl,r⟩:=r;obtain⟨a2,ks,e3,g1,g2⟩:=hb.stay g.st;cases e3;show⟨zcM (show 2<=lim by ext),λp H2 np gp S=>⟨F,ks,S _ _ g1,λob=>?_⟩⟩;have O:=U.step (Go.same U.pn S);have ac:p≠F:=λy=>by rw[y,g1] at np;cases np
 have up:zq (zV A H') (zV B.A0 (L2.upd H2 F (.frz ob (dtO ks)))):=λb o Y _=>by obtain⟨z1,z2⟩:=zA.mp Y;exact zm (λy=>z1 (a.frm.sub b y)) (by rw[ze (show b≠F from λy=>z1 (by rw[y];exact hA))];exact S _ _ z2)
 show kk.rt (.tz kvs d) m _ _ ⟨p,F,ob,ks,v,rfl,zm (λz=>U.env.new np (U.frm.sub p z)) (by rw[ze ac];exact gp),zm hn zg,g2.stay up,hV.is.stay up⟩ (λb o Y nb nc=>?_) (zgK (O.pn.less O.frm.sub) (S _ _ g1)) (λz=>by cases z) r
 rw[ze (show b≠F from λy=>by
  subst y;rcases I with I | I;exact I o Y nb;exact nc I)]
 exact O.frm.st b o Y nb nc
abbrev dIxZ:W->W->Mo W:=λx y n Q=>match x with
 | .tz kvs d=>match y with
  | .d (.int i)=>match i with
   | .ofNat 0=>Q (.df kvs) n
   | .ofNat 1=>Q (.d d) n
   | _=>False
  | _=>False
 | _=>False
def zuq:F2 Pn false (zpM K) dIxZ:=⟨λA H x y I J n Q R al O q P h k=>by
 cases I with
 | tz kvs d=>
  obtain⟨B,F,ob,ks,z,rfl,h1,h2,U,Y⟩:=O
  cases J with
  | d Z=>
   cases Z with
   | int i=>
    have ei:y = .int i:=q;subst ei
    match i,h with
    | .ofNat 0,h=>exact⟨B,_,0,.ref F,rfl,rfl,.inl (.inl (zl _ _ h1)),rfl,k _ n _ H h ⟨F,ob,ks,rfl,h2,U⟩ (Go.refl P) λz=>by cases z⟩
    | .ofNat 1,h=>exact⟨B,_,1,z,rfl,rfl,.inl (.inl (zl _ _ h1)),rfl,k _ n _ H h (Val.of Y) (Go.refl P) λz=>by cases z⟩
   | _=>exact False.elim h
  | _=>exact False.elim h
 | _=>exact False.elim h⟩
abbrev zsY (i:Nat) (F:AU->Mo W) (q B:AD) (mg:W->Ev->(Ev->Prop)->Prop) (fs:Ms):Ms:=λρ n k=>q ρ n λI J=>onV ρ i λx=>onL x λl=>∃l' d,l=l'++[d]/\B (ρ.set i (some (.d (.lst l')))) J λO U=>F [I,.d d,O] U λw m=>onL w λr=>znw mg fs (ρ.set i (some (.d (.lst l')))) k (r.map W.d) m
def znP(i:Nat){x y:Str}{st:Stmt}{ps:AM}{fA:Addr}{fd:Ac}{F:PN->AU->Mo W}{J O I pc:Pos}{body:List Stmt}{mg:W->Ev->(Ev->Prop)->Prop}(hK:X.K=K)(hp:PassesOwn (model X.prog X.w) X.A X.env X.xe)(hc:X.calm=true)(Df:Dfn X.K X.mg x st ps fA fd)(G:FnOk X.prog X.w X.K X.mg X.base CX0 j fA fd ps (spV 3 true F))(hr:Room kk X.A)(h1:JE X Pn M fr' a fa)(h3:JE X Pn M false c fc)(hg:JG X (S++M) M tg mg)(hb:JSs X Pn S M fr body fs)(hi:i∈M:=by ext)(hN:X.N[i]?=some y:=by rfl)(hv:Vis X.env.scope y:=by walk_at "v")(hd:Ah y:=by ext)(ag:(y==("__classdict__" : Str))=false:=by ext)(an:j<=kk:=by ext)(as:Gl X x:=by rfl)(a0:Ah x:=by ext)(e1:starEach [a,.Call (.Attribute (.Name y I) "pop" J) [] [] O,c] X.env=(false,eval a X.env)::starEach [.Call (.Attribute (.Name y I) "pop" J) [] [] O,c] X.env:=by rfl)(e2:starEach [.Call (.Attribute (.Name y I) "pop" J) [] [] O,c] X.env=(false,eval (.Call (.Attribute (.Name y I) "pop" J) [] [] O) X.env)::starEach [c] X.env:=by rfl)(e3:starEach [c] X.env=(false,eval c X.env)::starEach [] X.env:=by rfl)(a4:(backTo pc (starEach [.Call (.Attribute (.Name y I) "pop" J) [] [] O,c] X.env)).any (·.1)=false:=by rfl)(U:attributeBase (.Name y I) "pop" X.env (eval (.Name y I) X.env)=eval (.Name y I) X.env:=by rfl)(Y:(J.endLine==O.line)=true:=by rfl)(hs:∀z,foldedSetIterable (.Call (.Name x p) [a,.Call (.Attribute (.Name y I) "pop" J) [] [] O,c] [] pc) X.env z=pure z:=by intro _;rfl)(hS:9999∉S:=by ext) :
  JS X Pn S M fr (.For tg (.Call (.Name x p) [a,.Call (.Attribute (.Name y I) "pop" J) [] [] O,c] [] pc) body [] pos) (zsY i (F Pn) fa fc mg fs):=by
 subst hK;obtain⟨t1,q1,r1⟩:=h1.ex;obtain⟨t3,q3,r3⟩:=h3.ex;obtain⟨ba,qg,rg⟩:=hg.ex;obtain⟨tb,qb,rb⟩:=hb.ex;show⟨_,zjQ hp hc (zjN (zhv Df G hr (zz q1 (zz (zoO (qv i hN hv hd ag) U Y) (zz q3 yw e3) e2) e1) an as a0 e1 a4)) qg qb hs,⟨λB A σ H ρ n k D Z a5 hf=>?_⟩⟩;show r1.run A σ H ρ n _ _ Z.env Z.pn hf λw1 m1 v1 H1 ra V1 g1 _=>?_;have a1:=Z.step g1;rw[uu] at ra;obtain⟨wx,ex,ra⟩:=ra;rw[xc] at ra;obtain⟨l,rfl,l',d,rfl,ra⟩:=ra;obtain⟨ad,xs,s1,hA,hH,hl⟩:=a1.own hi ex;show⟨.ref ad,s1,.inl ⟨rfl,_,SqL.of hH⟩,?_⟩;obtain⟨q,y0,rfl,a7,hy⟩:∃q y0,xs=q++[y0]/\IsL (zV A H1) l' q/\Is (zV A H1) d y0:=zgo hl;show⟨ad,_,y0,rfl,rfl,hH,by simp,?_⟩;rw[List.dropLast_concat];have a2:=a1.wr hi ex s1 a7;have he:zV A (L2.upd H1 ad (.lst q))=zV A H1:=yd hA;show r3.run A σ _ _ m1 _ _ a2.env a2.pn ra λw3 m3 v3 H3 rc V3 g3 _=>?_;have a3:=a2.step g3;change spV 3 true F ([v1,y0,v3]++[]) _ _ E0;rw[cI];have V1':Val A (L2.upd H1 ad (.lst q)) w1 v1:=by unfold Val;rw[he];exact V1
 have Vy:Val A (L2.upd H1 ad (.lst q)) (.d d) y0:=Val.of (by rw[he];exact hy);show⟨Pn,A,[w1,.d d,w3],m3,_,a3.env.al,⟨v1,_,rfl,V1'.stay g3.st,y0,_,rfl,Vy.stay g3.st,v3,_,rfl,V3,rfl⟩,rfl,a3.pn,rc,λw m v H4 r4 V4 g4 _=>?_⟩;rw[xc] at r4;obtain⟨r,rfl,r4⟩:=r4;obtain⟨rd,zs,rfl,ac,hz⟩:=V4;exact⟨rd,rfl,⟨zs,.of (zl _ _ ac)⟩,zgh rg rb hS (a3.step g4) a5 (zgq ac hz) r4⟩
variable {p1 p2 p3 p4:Pos}{apos cpos:Pos}
abbrev dGetK (fd fk q:AD):AD:=λρ n Q=>fd ρ n λx B=>onK x λkvs=>fk ρ B λy F=>q ρ F λz I=>onO (zsy y) λk=>onD z λd=>Q (.d ((xE kvs k).getD d)) I
def At3.moveO(h:At3 Pn B S M A σ H ρ n)(hi:i∈M)(hj:j∈M)(ap:i∉S)(e:ρ[j]?=some (some w))(s:σ[j]?=some (some (.ref U))):At3 Pn B S M A (σ.set i (some (.ref U))) H ((ρ.set j none).set i (some w)) n:=by
 have O:∀q (u:W),((ρ.set j none).set i (some w))[q]?=some (some u)->q≠i->q≠j/\ρ[q]?=some (some u):=λq u F Y=>by
  rw[ax (Ne.symm Y)] at F;by_cases ac:q=j;subst ac;have I:=(ah.mp F).1;rw[bM] at I;rw[aR I] at F;cases F;rw[ax (Ne.symm ac)] at F;exact⟨ac,F⟩
 have Z:∀ (u:W) (b:Addr),((ρ.set j none).set i (some w))[i]?=some (some u)->i<σ.length/\u=w:=λu b F=>by have I:=(ah.mp F).1;rw[bM] at I;rw[aR I] at F;rw[bM] at I;exact⟨by rw[h.env.len];exact I,by cases F;rfl⟩
 obtain⟨v0,s0,_,o0⟩:=h.env.val j w e;rw[s] at s0;cases s0;show⟨⟨by simp[h.env.len],λq u F=>?_,λq k u u' b Y hk ag e1 e2 s1 s2=>?_,h.env.al⟩,h.frm,h.pn,h.prot,⟨λk hk=>?_,h.fix.2⟩,λq u b Y F sq=>?_⟩;by_cases Y:q=i;subst Y;obtain⟨I,rfl⟩:=Z u U F;exact⟨.ref U,aR I,λz=>absurd hi z,λ_=>o0 hj⟩;obtain⟨_,z⟩:=O q u F Y;rw[ax (Ne.symm Y)];exact h.env.val q u z;by_cases J:q=i;subst J;obtain⟨I,rfl⟩:=Z u U e1;rw[aR I] at s1;cases s1;obtain⟨k1,k2⟩:=O k u' e2 (Ne.symm ag);rw[ax ag] at s2;exact h.env.dis j k _ u' U hj hk (Ne.symm k1) e k2 s s2;obtain⟨q1,q2⟩:=O q u e1 J;rw[ax (Ne.symm J)] at s1;by_cases an:k=i;subst an;obtain⟨I,rfl⟩:=Z u' U e2;rw[aR I] at s2;cases s2;exact h.env.dis q j u _ U Y hj q1 q2 e s1 s;obtain⟨_,k2⟩:=O k u' e2 an;rw[ax (Ne.symm an)] at s2;exact h.env.dis q k u u' b Y hk ag q2 k2 s1 s2;rw[ax (show i≠k from λz=>ap (by rw[z];exact hk))];exact h.fix.1 k hk;by_cases J:q=i;subst J;obtain⟨I,rfl⟩:=Z u U F;rw[aR I] at sq;cases sq;exact h.mine j _ U hj e s;rw[ax (Ne.symm J)] at sq;exact h.mine q u b Y (O q u F J).2 sq
def zle(j:Nat){x y:Str}{px O sp:Pos}(Z:X.N.Nodup)(hi:X.N[i]?=some x)(hx:Loc X.env.scope x)(U:j∈M:=by ext)(q:i∈M:=by ext)(F:i∉S:=by ext)(I:X.N[j]?=some y:=by rfl)(hv:Vis X.env.scope y:=by walk_at "v")(hd:Ah y:=by ext)(J:(y==("__classdict__" : Str))=false:=by ext)(hs:swapsWith (.Name y O) (some (.Name x px)) sp.line X.env=pure false:=by rfl)(hf:X.fn x=true\/X.env.scope.names.lookup x=some .local:=by walk_at "l"):JS X Pn S M fr (.Assign [.Name x px] (.Name y O) sp) (zn1 i j):=by
 show⟨_,uB (i:=i) Z hi hx (qv j I hv hd J) hs hf,⟨ ?_⟩⟩;rintro B A σ H ρ n k D a kk ⟨w,e,r⟩;obtain⟨v,Y,_,s3⟩:=a.env.val j w e;obtain⟨ad,rfl,hA,_,_⟩:=s3 U;exact⟨.ref ad,Y,kk.nx _ _ H _ n (a.moveO q U F e Y) r⟩
end
end L3
local macro_rules | `(tactic| walk_at "up")=>`(tactic| first | assumption | ((with_reducible refine (?_:L2.yL _ _));(first | exact L2.zeU _ | (intro _ _ _;((repeat (first | assumption | refine L2.zpz (by assumption) ?_ | refine L2.zkp (by assumption) ?_ | refine L2.zkn (by assumption) ?_ | refine L2.x5 (by assumption) ?_ (by assumption) | refine L2.x5 (by assumption) ?_ L2.zn9 | refine L2.x5 (by assumption) ?_ L2.zjp | refine L2.x5 (by assumption) ?_ L2.zjq | refine L2.zko (by assumption) ?_ | refine L2.zhN (by assumption) ?_ | refine L2.zhN (L2.yR (by assumption)) ?_ | refine L2.zc1 (by assumption) ?_ | refine L2.zc1 (L2.yR (by assumption)) ?_ | refine L2.za0 (by assumption) ?_ | refine L2.za0 (L2.yR (by assumption)) ?_ | refine L2.zaZ (by assumption) ?_ | refine L2.zaZ (L2.yR (by assumption)) ?_ | refine L2.zc0 (by assumption) ?_ | refine L2.zc0 (L2.yR (by assumption)) ?_ | refine L2.zc2 (by assumption) ?_ | refine L2.zc2 (L2.yR (by assumption)) ?_ | refine L2.uR (by assumption) ?_ | refine L2.uR (L2.yR (by assumption)) ?_ | refine L2.uQ (by assumption) ?_ | refine L2.uQ (L2.yR (by assumption)) ?_));done)))) | ((with_reducible refine (?_:L2.zq _ _));(first | exact L2.zq.refl _ | (intro _ _ _ _;((repeat (first | assumption | refine L2.zpz (by assumption) ?_ | refine L2.zkp (by assumption) ?_ | refine L2.zkn (by assumption) ?_ | refine L2.x5 (by assumption) ?_ (by assumption) | refine L2.x5 (by assumption) ?_ L2.zn9 | refine L2.x5 (by assumption) ?_ L2.zjp | refine L2.x5 (by assumption) ?_ L2.zjq | refine L2.zko (by assumption) ?_ | refine L2.zhN (by assumption) ?_ | refine L2.zhN (L2.yR (by assumption)) ?_ | refine L2.zc1 (by assumption) ?_ | refine L2.zc1 (L2.yR (by assumption)) ?_ | refine L2.za0 (by assumption) ?_ | refine L2.za0 (L2.yR (by assumption)) ?_ | refine L2.zaZ (by assumption) ?_ | refine L2.zaZ (L2.yR (by assumption)) ?_ | refine L2.zc0 (by assumption) ?_ | refine L2.zc0 (L2.yR (by assumption)) ?_ | refine L2.zc2 (by assumption) ?_ | refine L2.zc2 (L2.yR (by assumption)) ?_ | refine L2.uR (by assumption) ?_ | refine L2.uR (L2.yR (by assumption)) ?_ | refine L2.uQ (by assumption) ?_ | refine L2.uQ (L2.yR (by assumption)) ?_));done)))) | ((repeat (first | assumption | refine L2.zpz (by assumption) ?_ | refine L2.zkp (by assumption) ?_ | refine L2.zkn (by assumption) ?_ | refine L2.x5 (by assumption) ?_ (by assumption) | refine L2.x5 (by assumption) ?_ L2.zn9 | refine L2.x5 (by assumption) ?_ L2.zjp | refine L2.x5 (by assumption) ?_ L2.zjq | refine L2.zko (by assumption) ?_ | refine L2.zhN (by assumption) ?_ | refine L2.zhN (L2.yR (by assumption)) ?_ | refine L2.zc1 (by assumption) ?_ | refine L2.zc1 (L2.yR (by assumption)) ?_ | refine L2.za0 (by assumption) ?_ | refine L2.za0 (L2.yR (by assumption)) ?_ | refine L2.zaZ (by assumption) ?_ | refine L2.zaZ (L2.yR (by assumption)) ?_ | refine L2.zc0 (by assumption) ?_ | refine L2.zc0 (L2.yR (by assumption)) ?_ | refine L2.zc2 (by assumption) ?_ | refine L2.zc2 (L2.yR (by assumption)) ?_ | refine L2.uR (by assumption) ?_ | refine L2.uR (L2.yR (by assumption)) ?_ | refine L2.uQ (by assumption) ?_ | refine L2.uQ (L2.yR (by assumption)) ?_));done))
local macro_rules | `(tactic| left)=>`(tactic| ((try (with_reducible conv=>whnf));repeat (with_reducible refine L3.zpT ?_;try (with_reducible conv=>whnf)));try dsimp only)
local macro_rules | `(tactic| walk_at "ct")=>`(tactic| (with_reducible refine L3.ztU ?_ ?_;(first | decide | assumption | rfl));left)
local macro_rules | `(tactic| walk_at "cf")=>`(tactic| (with_reducible refine L3.ztT ?_ ?_;(first | decide | assumption | rfl));left)
namespace Law
open L2 L3
abbrev lc:AM:=[Ao,Ap]
abbrev ld:AM:=["given","box","better","worse",An,"left_alone"]
abbrev lf:AM:=[Aj,Ak,An,Am]
abbrev lh:AM:=[Ao,Aq]
abbrev li:AM:=[Ao,Ap,Ar]
abbrev lj:AM:=[As,At,Au]
abbrev ll:AM:=[Ap]
abbrev lm:AM:=["_law_script"]
abbrev ln:AM:=[As,Av,Au]
abbrev lq:AM:=[Ao,Ap,Aw]
abbrev lr:AM:=[Ax,Ay,At]
abbrev lu:AM:=[An,"box","worth"]
abbrev lw:AM:=[Ai,Aj,Ak,Am]
abbrev lx:AM:=[Ax,Ap]
abbrev ly:AM:=[Az,Ao,Ap,Ar]
abbrev lz:AM:=["_law_j",A1,Aw,"_law_rank"]
abbrev lA:AM:=[Ao,A5]
abbrev lB:AM:=[An,"given"]
abbrev lC:AM:=[Aw,Ar,Ao]
abbrev lD:AM:=[Ai,An]
abbrev lE:AM:=[Av,A6]
abbrev lF:AM:=[A7,"_law_due"]
abbrev lG:AM:=[Az,A7,A8]
abbrev lH:AM:=[Au]
abbrev lI:AM:=[Ay,A7,Az]
abbrev lJ:AM:=[Ax,Ay]
abbrev lK:AM:=["leads","one","other"]
abbrev lL:AM:=[Az,Av,A6]
abbrev lM:AM:=[Az,Av,Aw]
abbrev lN:AM:=[A8,Ao]
def top (i:Nat):Stmt:=PySem.Challenge.pw_allelse_k14_what_is_reached.main.body.getD i (.Pass ⟨0,0,0,0⟩)
abbrev zcX:Stmt:=top 11
abbrev zcc:Stmt:=top 12
abbrev zeS:Stmt:=top 1
abbrev zj1:Stmt:=top 3
abbrev zbb:Stmt:=top 5
abbrev zgU:Stmt:=top 8
abbrev zeT:Stmt:=top 9
abbrev zcb:Stmt:=top 13
abbrev zcW:Stmt:=top 15
abbrev zca:Stmt:=top 14
abbrev uE:Stmt:=top 16
abbrev za8:Stmt:=top 17
abbrev zcd:Stmt:=top 18
abbrev zaB:Stmt:=top 19
abbrev zb8:Stmt:=top 21
abbrev za9:Stmt:=top 20
abbrev uD:Stmt:=top 22
abbrev zaA:Stmt:=top 23
abbrev zb7:Stmt:=top 24
abbrev zba:Stmt:=top 25
abbrev u7:Stmt:=top 26
abbrev zb9:Stmt:=top 27
abbrev za7:Stmt:=top 28
abbrev u6:Stmt:=top 29
abbrev zrQ:Stmt:=top 30
def zfQ:FnScope lm lm (zd zcX):=by walk_at "f"
def yi:FnScope [Ao,Aq,A7,Ax,"_law_cell","_law_mixed"] lh (zd zcc):=by walk_at "f"
def zhz:FnScope lu lu (zd zeS):=by walk_at "f"
def zdS:FnScope [An,"given","box","worth"] lB (zd zj1):=by walk_at "f"
def zaC:FnScope [Aj,Ak,An,Am,"left_alone"] lf (zd zbb):=by walk_at "f"
def y4:FnScope ["leads","one","other","came_from","row","at","here","there"] lK (zd zgU):=by walk_at "f"
def zhA:FnScope lf lf (zd zeT):=by walk_at "f"
def xi:FnScope [Ap,"_law_many",A8] ll (zd zcb):=by walk_at "f"
def xV:FnScope [Ap,A7,A8] ll (zd zcW):=by walk_at "f"
def yh:FnScope [Ao,Aq,A5,Ap,Az,A8] lh (zd zca):=by walk_at "f"
def zbn:FnScope lc lc (zd uE):=by walk_at "f"
def yQ:FnScope [Ao,Ap,Aw,"_law_rare",A7,Ax] lq (zd za8):=by walk_at "f"
def yK:FnScope [Ao,Ap,Ar,Aw,"_law_worse","_law_better"] li (zd zcd):=by walk_at "f"
def xp:FnScope [Ao,A5,A7,Av] lA (zd zaB):=by walk_at "f"
def uF:FnScope [Av,A6,Aw,A1] lE (zd zb8):=by walk_at "f"
def z9:FnScope [Ap,A7,A8,"_law_longer",Az,A5] ll (zd za9):=by walk_at "f"
def zI:FnScope [Ao,Ap,"_law_row",As,Ax,Ar] lc (zd uD):=by walk_at "f"
def zw:FnScope [Ao,Ap,"_law_boxes_here",As,Az,Aw,"_law_parents","_law_case","_law_rank",A1] lc (zd zaA):=by walk_at "f"
def xh:FnScope [Ao,Ap,Ar,As] lc (zd zb7):=by walk_at "f"
def yn:FnScope [As,At,Au,A7,A1,Aw,"_law_better","_law_worse"] lj (zd zba):=by walk_at "f"
def yz:FnScope [As,Av,Au,"_law_known","_law_waiting","_law_there"] ln (zd u7):=by walk_at "f"
def zbc:FnScope li lc (zd zb9):=by walk_at "f"
def zdR:FnScope lH lH (zd za7):=by walk_at "f"
def yZ:FnScope [A7,"_law_due",Av,A6] lF (zd u6):=by walk_at "f"
def uG:FnScope ["_law_script",Ao,Aq,Ap,As,Av,"_law_turn",Au,"_law_due",A7] lm (zd zrQ):=by walk_at "f"
abbrev zfP:Stmt:=top 6
def zdQ:FnScope lw lw (zd (yb zfP 0)):=by walk_at "f"
def zct:FnScope lD lD (zd (yb zfP 1)):=by walk_at "f"
set_option genInjectivity false in
structure Ad where
 C_Leads:Addr
 fI_Leads:Addr
 fA_Leads:Addr
 dI_Leads:Ac
 dA_Leads:Ac
 f0:Addr
 d0:Ac
 f1:Addr
 d1:Ac
 f2:Addr
 d2:Ac
 f3:Addr
 d3:Ac
 f4:Addr
 d4:Ac
 f5:Addr
 d5:Ac
 f6:Addr
 d6:Ac
 f7:Addr
 d7:Ac
 f8:Addr
 d8:Ac
 f9:Addr
 d9:Ac
 f10:Addr
 d10:Ac
 f11:Addr
 d11:Ac
 f12:Addr
 d12:Ac
 f13:Addr
 d13:Ac
 f14:Addr
 d14:Ac
 f15:Addr
 d15:Ac
 f16:Addr
 d16:Ac
 f17:Addr
 d17:Ac
 f18:Addr
 d18:Ac
 f19:Addr
 d19:Ac
 f20:Addr
 d20:Ac
 f21:Addr
 d21:Ac
 f22:Addr
 d22:Ac
 f23:Addr
 d23:Ac
 f24:Addr
 d24:Ac
structure Txt (K:AH)(mg:AI)(t:Ad):Prop where
 Leads:LdT K mg zfP t.C_Leads t.fI_Leads t.fA_Leads t.dI_Leads t.dA_Leads
 q0:Dfn K mg "_law_pen" zcX lm t.f0 t.d0
 q1:Dfn K mg "_law_take" zcc lh t.f1 t.d1
 q2:Dfn K mg "changed" zeS lu t.f2 t.d2
 q3:Dfn K mg "keeps" zj1 lB t.f3 t.d3
 q4:DfnD K mg "betterings" zbb lf [Value.none] t.f4 t.d4
 q5:Dfn K mg "search" zgU lK t.f5 t.d5
 q6:DfnD K mg "reached" zeT lf [Value.none] t.f6 t.d6
 q7:Dfn K mg "_law_size" zcb ll t.f7 t.d7
 q8:Dfn K mg "_law_all" zcW ll t.f8 t.d8
 q9:Dfn K mg "_law_room" zca lh t.f9 t.d9
 q10:Dfn K mg "_law_standing" uE lc t.f10 t.d10
 q11:Dfn K mg "_law_given" za8 lq t.f11 t.d11
 q12:Dfn K mg "_law_wish" zcd li t.f12 t.d12
 q13:Dfn K mg "_law_turned" zaB lA t.f13 t.d13
 q14:Dfn K mg "_law_full" zb8 lE t.f14 t.d14
 q15:Dfn K mg "_law_snake" za9 ll t.f15 t.d15
 q16:Dfn K mg "_law_row_book" uD lc t.f16 t.d16
 q17:Dfn K mg "_law_ranked" zaA lc t.f17 t.d17
 q18:Dfn K mg "_law_book" zb7 lc t.f18 t.d18
 q19:Dfn K mg "_law_steps" zba lj t.f19 t.d19
 q20:Dfn K mg "_law_reached" u7 ln t.f20 t.d20
 q21:Dfn K mg "_law_held" zb9 lc t.f21 t.d21
 q22:Dfn K mg "_law_boxes" za7 lH t.f22 t.d22
 q23:Dfn K mg "_law_is_list" u6 lF t.f23 t.d23
 q24:Dfn K mg "law" zrQ lm t.f24 t.d24
 b_sorted:mg "sorted" = none
 b_range:mg "range" = none
 b_tuple:mg "tuple" = none
 b_zip:mg "zip" = none
 b_len:mg "len" = none
 b_list:mg "list" = none
 b_abs:mg "abs" = none
 b_isinstance:mg "isinstance" = none
 b_int:mg "int" = none
 b_bool:mg "bool" = none
section
variable {P:Aa}{w:Ab}{K:AH}{mg:AI}{base:Heap}{t:Ad}
def zfE (T:Txt K mg t):FnOk P w K mg base CX0 1 t.f0 t.d0 lm (zl6 K):=by
 show T.q0.F.okQ zfQ (λvs H Q E h=>?_) (λI A q s H vs Q E U h=>?_);obtain⟨a,ns,rfl,_⟩:=h;rfl;obtain⟨a,ns,rfl,Y,J,O,k⟩:=h;show⟨_,(yY (uA (zoM (zdL xf (qv 0) (zdL xf yo (zdL xf yo zoV))) rfl rfl (by simp) (by ext)))),?_⟩;intro p B;show⟨_,rfl,zg,zaw a 0 0,rfl,(by change 3<=15;decide),?_⟩;rw[zq8];have S2:yL H (upd (upd H p (.dK [])) p (.dK (zaw a 0 0))):=λb o e=>by rw[ze (zb e B),ze (zb e B)];exact e
 exact k p _ ⟨⟨0,0,zg,by lia,by lia,by lia⟩,J.same S2,O⟩ S2
def zeH (T:Txt K mg t):FnOk P w K mg base CX0 1 t.f1 t.d1 lh (zm3 K):=by
 show T.q1.F.okQ yi (λvs H Q E h=>?_) (λa0 A an s H vs Q E hr h=>?_);obtain⟨p,c,ns,n,zR,rfl,_⟩:=h;rfl
 ·obtain⟨p,c,ns,n,zR,rfl,hK,hP,hn,h1,h2,k⟩:=h;have J:=zcj hr;obtain⟨⟨a,l,U,ap,a1,ac⟩,hc,O⟩:=id hP
  have Z:∀r,ns=0::r->c≠p:=λr e=>by
   rcases hc with ⟨r',e',o,z⟩ | ⟨r',e'⟩;exact zls z U (by intro q;cases q);rw[e] at e';cases e'
  show⟨_,(z8 (zjR (uC zjw (uz J (qv 0) xf (λ_ _=>rfl)) yo (zx _)) (z8 (uB (i:=2) yi.nd rfl (Or.inl rfl) (yx uw (uz J (qv 0) xf (λ_ _=>rfl)) (qv 1)))
   (z8 (zdM J (qv 0) xf (yx zdE (uz J (qv 0) xf (λ_ _=>rfl)) (qv 1)) rfl)
   (yY (uA (qv 2))))) zb3)
   (z8 (uB (i:=3) yi.nd rfl (Or.inl rfl) (uz J (qv 0) xf (λ_ _=>rfl)))
   (z8 (zdM J (qv 0) xf (yx yv (qv 3) yo) rfl)
   (z8 (uB (i:=4) yi.nd rfl (Or.inl rfl) yo)
   (z8 (zjR (uC zjw (yP yu (by rfl) T.b_len bf (zz (uz J (qv 0) xf (λ_ _=>rfl)) yw)) yo (zx _)) (yY (uB (i:=4) yi.nd rfl (Or.inl rfl) (zlN yk (uz J (qv 0) xf (λ_ _=>rfl)) (yx uw (qv 3) (yP yu (by rfl) T.b_len bf (zz (uz J (qv 0) xf (λ_ _=>rfl)) yw))) (λ_ _=>rfl)))) zb3)
   (z8 (zjR (QW.pt (zgQ (uC zog (qv 3) (yP yu (by rfl) T.b_len bf (zz (uz J (qv 0) xf (λ_ _=>rfl)) yw)) (zx _)) (zfL (uC zt1 (yP zh6 (by rfl) T.b_abs eE (zz (qv 4) yw)) (yx zqZ yo yo) (zx _))))) (z8 (zdM J (qv 0) xf (yx zdE (yP zh6 (by rfl) T.b_abs eE (zz (qv 4) yw)) (qv 1)) rfl)
   (yY (uA (yx uw (yP zh6 (by rfl) T.b_abs eE (zz (qv 4) yw)) (qv 1))))) zb3)
   (z8 (uB (i:=5) yi.nd rfl (Or.inl rfl) (yx uw (yx ux (yx yv (yx yv (yx yv (yx uw (qv 4) yo) (yx ux (yx ux yo (qv 3)) (qv 3))) (yx ux yo (qv 3))) yo) yo) yo))
   (z8 (uB (i:=5) yi.nd rfl (Or.inl rfl) (yx uw (yx yv (yx yv (yx ux (qv 5) (qv 5)) (yx ux yo (qv 5))) (yx ux yo (qv 3))) yo))
   (yY (uA (yx uw (yx zdE (yx uw (yx ux (qv 5) yo) yo) yo) (qv 1)))))))))))),?_⟩
  show⟨_,rfl,p,_,rfl,zjC U,_,_,rfl,rfl,_,rfl,zmw (λhl=>?_) (λhl=>?_)⟩;have a2:0<l:=bD hl;show⟨_,rfl,p,_,rfl,zjC U,_,rfl,_,_,rfl,rfl,(by change (0:Int)<zR;lia),?_⟩;show⟨_,rfl,p,_,rfl,zjC U,_,rfl,_,_,rfl,rfl,⟨by change (0:Int)<zR;lia,h2⟩,_,rfl,p,_,rfl,zmM U _,?_⟩;show⟨_,rfl,k _ _ (cV _ (by lia)) (cr _ (by lia)) ⟨⟨a,_,zg,ap,by lia,Int.ediv_nonneg ac (by lia)⟩,hc.upd Z,O⟩ (zdX U)⟩
  ·show⟨_,rfl,p,_,rfl,zq7 U,?_⟩;show⟨_,rfl,_,_,rfl,rfl,_,rfl,p,_,rfl,zrb U _,?_⟩;have I:upd H p (.dK (zaw c (a+1) l)) p=some (.dK (zaw c (a+1) l)):=zg;have Y:PLs (upd H p (.dK (zaw c (a+1) l))) c ns:=hc.upd Z;generalize as:upd H p (.dK (zaw c (a+1) l))=H1 at I Y ⊢;have ad:zq H H1:=as ▸ zdX U;obtain⟨r,hq⟩:=hK.seq Y;refine' meet (α:=Int) _ (λzC=>?_) ?_;rotate_left
   
   show⟨_,rfl,p,_,rfl,zgJ I,_,_,rfl,.inl ⟨_,hq,rfl⟩,_,_,rfl,rfl,_,rfl,zmw (λhz=>?_) (λhz=>?_)⟩;have ag:0<((r.map V.int).length:Int):=bD hz;obtain⟨B,al⟩:=zpR r a ag;show⟨_,rfl,p,_,rfl,zgJ I,_,rfl,_,rfl,p,_,rfl,zgJ I,_,_,rfl,.inl ⟨_,hq,rfl⟩,_,_,rfl,rfl,ag,c,_,_,_,rfl,rfl,hq,al,?_⟩;exact zC B;exact zC 0
   ·intro B;refine' ztO _ (λzC=>?_) ?_;rotate_left
    ·show⟨_,rfl,_,rfl,p,_,rfl,zgJ I,_,_,rfl,.inl ⟨_,hq,rfl⟩,_,_,rfl,rfl,_,rfl,zmw (λh3=>?_) (λh3=>?_)⟩;rotate_left;show zqo ?_;exact zC;show⟨_,rfl,_,rfl,_,_,rfl,rfl,⟨by ext,by ext,by ext⟩,_,_,rfl,rfl,_,rfl,zmw (λh4=>?_) (λh4=>?_)⟩;rotate_left;exact zC;have ha:0<=(if B<0 then -B else B):=by split <;> lia
     show⟨_,rfl,_,rfl,_,rfl,_,_,rfl,rfl,⟨by change (0:Int)<zR;lia,h2⟩,_,rfl,p,_,rfl,zmM I _,?_⟩;show⟨_,rfl,_,rfl,_,rfl,_,_,rfl,rfl,(by change (0:Int)<zR;lia),k _ _ (cV _ (by lia)) (cr _ (by lia)) ⟨⟨a+1,_,zg,by lia,by lia,Int.ediv_nonneg ha (by lia)⟩,Y.upd Z,O⟩ (ad.trans (zdX I))⟩
    have a3:=cV B (show (2147483629:Int)≠0 by ext);have a4:=cr B (show (0:Int)<2147483629 by ext);show⟨_,rfl,_,_,rfl,rfl,(by change (0:Int)<2147483629;decide),_,rfl,_,_,rfl,rfl,.inl ⟨by ext,by ext⟩,_,rfl,_,_,rfl,rfl,.inr ⟨by lia,by lia⟩,_,_,rfl,rfl,_,rfl,_,_,rfl,rfl,.inl ⟨by ext,by ext⟩,_,_,rfl,rfl,_,_,rfl,rfl,_,_,rfl,rfl,.inr ⟨by ext,by ext⟩,_,_,rfl,rfl,(by change (0:Int)<2147483647;decide),?_⟩;generalize a5:((B % 2147483629+7919 * a * a+104729 * a+23) * 69621:Int)=w1;have w0:=cV w1 (show (2147483647:Int)≠0 by ext);have w2:=cr w1 (show (0:Int)<2147483647 by ext);generalize w1 % 2147483647=w3 at w0 w2;show⟨_,rfl,_,rfl,_,_,rfl,rfl,.inl ⟨by lia,by lia⟩,_,rfl,_,_,rfl,rfl,.inl ⟨by ext,by ext⟩,_,_,rfl,rfl,_,rfl,_,_,rfl,rfl,.inl ⟨by ext,by ext⟩,_,_,rfl,rfl,_,_,rfl,rfl,(by change (0:Int)<2147483579;decide),?_⟩;generalize a7:((w3 * w3+40692 * w3+65537 * a) % 2147483579:Int)=w5;show⟨_,rfl,_,_,rfl,rfl,.inr ⟨by ext,by ext⟩,_,_,rfl,rfl,(by change (0:Int)<2147483563;decide),_,_,rfl,rfl,⟨by ext,by ext⟩,_,rfl,_,_,rfl,rfl,(by change (0:Int)<zR;lia),?_⟩;exact k _ _ (cV _ (by lia)) (cr _ (by lia)) ⟨⟨a+1,l,I,by lia,by lia,ac⟩,Y,O⟩ ad
def zF (T:Txt K mg t):FnOk P w K mg base CX0 1 t.f1 t.d1 lh (spV 2 false (zhT K)):=FnOk.lift (FnOk.mono (zeH T) (by ext)) zi3
def zhr (T:Txt K mg t):FnOk P w K mg base CX0 1 t.f2 t.d2 lu zeY:=by
 show T.q2.F.okQ zhz (λvs H Q E h=>?_) (λO A q s H vs Q E hr h=>?_);obtain⟨a,st,b,U,rfl,_⟩:=h;rfl;obtain⟨a,st,b,U,rfl,I,Y,Z,k⟩:=h;show⟨_,(yY (uA (yx zab (yx zab (zbx zfS (qv 0) zfJ (zfK (qv 1))) (zdK (zz (qv 2) yw))) (zbx zfS (qv 0) (zfK (yx yv (qv 1) yo)) zfJ)))),?_⟩;have B:∀lo hi,(zcF (st.map V.int) lo hi).length<=400:=λlo hi=>aA (u9 _ _ _) (by rw[ab];exact Y);show⟨_,rfl,_,rfl,_,rfl,a,_,rfl,I,λt1 H1 g1 S1=>?_⟩;show⟨_,rfl,(by change 1<=sizeLine;decide),λt2 H2 _ g2 S2=>?_⟩;show⟨t1,t2,_,_,rfl,rfl,S2 _ _ g1,g2,cD (zce (by have:=B none (some b);change _+1<=1000;lia)),λt3 H3 g3 S3=>?_⟩;have S03:yL H H3:=λb o e=>S3 _ _ (S2 _ _ (S1 _ _ e));show⟨_,rfl,_,rfl,_,_,rfl,rfl,_,rfl,a,_,rfl,S03 _ _ I,λt4 H4 g4 S4=>?_⟩;show⟨t3,t4,_,_,rfl,rfl,S4 _ _ g3,g4,?_,λt5 H5 J S5=>?_⟩;have e1:=B none (some b);have e2:=B (some (b+1)) none;show cD (zce ?_);rw[ak];change _+1+_<=1000;lia;rw[zh2 st Z] at J;exact k t5 H5 J λb o e=>S5 _ _ (S4 _ _ (S03 _ _ e))
def zlv (T:Txt K mg t):FnOk P w K mg base CX0 1 t.f3 t.d3 lB zj8:=by
 show T.q3.F.okQ zdS (λvs H Q E h=>?_) (λap A Y s H vs Q E hr h=>?_);obtain⟨a,Z,st,gs,g,rfl,_⟩:=h;rfl;obtain⟨a,Z,st,gs,g,rfl,ha,B,I,hg,k⟩:=h;have J:gs.length=g.length:=by have:=I.length;rwa[ab] at this
 show⟨_,(z8 (zjQ bn rfl (zjP (qv 1)) (zmS rfl (xU (zad (i:=2) zdS.nd rfl (Or.inl rfl)) (xU (zad (i:=3) zdS.nd rfl (Or.inl rfl)) zfI))) (yY (zjR (uC zht (zlN yA (qv 0) (qv 2) (λ_ _=>rfl)) (qv 3) (zx _)) (yY (uA zoI)) zb3)))
  (yY (uA zoI))),?_⟩
 show⟨_,rfl,Z,rfl,⟨gs,.of B⟩,zny (K:=K) (xs:=gs) (λi σ H2=>H2=H/\(∃v1 v2,σ=[some (.ref a),some (.ref Z),v1,v2])/\xD st (g.take i)=true) ⟨rfl,⟨none,none,rfl⟩,rfl⟩ (λi σ H2 _ ⟨e,_⟩=>e ▸ .of B) ?_ ?_⟩;rintro i y σ H2 hi ⟨rfl,⟨v1,v2,rfl⟩,O⟩;obtain⟨d,hd,ac⟩:=I.get hi;rw[aL] at hd;obtain⟨q,hq,rfl⟩:=aI.mp hd;obtain⟨ca,ys,rfl,ad,y0,z0,rfl,ag,y1,z1,rfl,al,an⟩:=ac;cases ag;cases al;cases an;have U:=hg q (aG hq);show⟨ca,_,rfl,.of ad,rfl,_,_,rfl,_,_,rfl,rfl,?_⟩;show⟨_,rfl,_,rfl,a,_,_,_,rfl,rfl,.of ha,zgB U.1 U.2,_,rfl,rfl,_,rfl,zmw (λh1=>?_) (λh1=>?_)⟩
 have e:xD st g=false:=by
  unfold xD;show List.all_eq_false.mpr ⟨q,aG hq,?_⟩;intro z;have z':=bD z;rw[z'] at h1;simp at h1
 rw[e] at k;exact k;show⟨rfl,⟨_,_,rfl⟩,?_⟩
 have e:zR st q.1=q.2:=by
  by_cases e:zR st q.1=q.2;exact e;exact absurd (by simp[e]) h1
 unfold xD at O ⊢;rw[zn hq,List.all_append,O];simp[e];rintro σ H2 ⟨rfl,⟨v1,v2,rfl⟩,O⟩;rw[J,bG] at O;rw[O] at k;exact k
def zdy (T:Txt K mg t):FnOk P w K mg base CX0 2 t.f4 t.d4 lf zm2:=by
 have G2:FnOk P w K mg base CX0 1 t.f2 t.d2 lu zeY:=zhr T;have G3:FnOk P w K mg base CX0 1 t.f3 t.d3 lB zj8:=zlv T;show T.q4.F.okQ zaC (λvs H Q E h=>?_) (λbx A a7 s H vs Q E hr h=>?_);obtain⟨v0,vh,ba,a,rm,xs,bk,st,hs,rfl,_⟩:=h;rfl
 ·obtain⟨v0,vh,ba,a,rm,xs,bk,st,hs,rfl,h1,h8,hB,as,ha,hl,hh,k⟩:=h
  show⟨_,(z8 (uB (i:=4) zaC.nd rfl (Or.inr rfl) (zlM (zjS (zmP (qv 3))) (zdK yw) (qv 3)))
   (yY (uA (yP (zkO rfl) (by rfl) T.b_sorted cw (zz (zhw (zcj hr) (N:=ld) (cix:=[none,none,none,none,some 2,some 4]) rfl (by walk_at "c") (zjP (qv 1)) (λ_ _ _ _=>(zjM K rfl (n:=4) rfl (xU (zad (i:=0) (show (ld:AM).Nodup by decide +kernel) rfl (Or.inl rfl)) (xU (zad (i:=1) (show (ld:AM).Nodup by decide +kernel) rfl (Or.inl rfl)) (xU (zad (i:=2) (show (ld:AM).Nodup by decide +kernel) rfl (Or.inl rfl)) (xU (zad (i:=3) (show (ld:AM).Nodup by decide +kernel) rfl (Or.inl rfl)) zfI)))))) (λ_ _ _ _=>(zjT (QW.pt (zgQ (uC uv (zlN (zpG K rfl) (qv 4) (qv 1) (λ_ _=>rfl)) (qv 3) (zx _)) (zgQ (uC (zdF K rfl) (qv 1) (qv 5) (by with_unfolding_all rfl)) (zfL (zmT (zhv T.q3 G3 hr (zz (qv 4) (zz (qv 0) yw)))))))))) (λ_ _ _ _=>(zhv T.q2 G2 hr (zz (qv 4) (zz (qv 1) (zz (qv 2) yw)))))) yw))))),?_⟩
  refine' ztP _ (λ(lv:V) (H1:Hp)=>∃Z,lv = .ref Z/\H1 Z=some (.tup (hs.map V.int))/\yL H H1) (λzC=>?_) ?_;rotate_left;show⟨_,rfl,_,rfl,zmw (λh2=>?_) (λh2=>?_)⟩;show⟨(by change 0<=sizeLine;decide),λe H1 _ g1 S1=>?_⟩;generalize bb:V.ref e=lv;show zC lv H1 ⟨e,bb.symm,?_,S1⟩;rcases hh with ⟨_,I⟩ | ⟨p,I,_⟩;rw[I];exact g1;rw[I] at h2;cases bD h2;show⟨_,rfl,?_⟩;show zC _ H ?_;rcases hh with ⟨I,_⟩ | ⟨p,I,hp⟩;exact absurd (a9 I) h2;exact⟨p,I,hp,λ_ _ z=>z⟩;rintro _ H1 ⟨Z,rfl,b2,S1⟩;have ag:BookAt H1 rm ba xs bk:=by walk_at "up"
  have a0:=hB.len;show⟨_,rfl,ba,rfl,⟨_,.of ag.at'⟩,λacc ac S0=>?_⟩;show zl3 (xs:=xs) ac S0 (λi al H'=>(∃v1 v2 v3 v4,al=[v1,v2,v3,v4,some (.ref a),some (.ref Z)])/\(∃ks,zd5 P w H' acc ks/\∀z,z∈ks↔z∈xz (bk.take i) st hs)/\yL H1 H') (λH' z1 z2=>⟨⟨_,_,_,_,rfl⟩,⟨[],z1,λz=>by change z∈[]↔z∈[];exact Iff.rfl⟩,z2⟩) (λ_ _ _ _ ⟨_,_,S⟩=>.of (S _ _ ag.at')) ?_ ?_;rintro i y al H' B ⟨⟨v1,v2,v3,v4,rfl⟩,⟨ks,J,hm⟩,S'⟩;obtain⟨x,hx,bc,O⟩:=(ag.stay (zq.same S')).get B;obtain⟨wa,ga,gs,rfl,bd,be,U⟩:=zhO bc;have b1:=O.b1;have an:H' a=some (.tup (st.map V.int)):=by walk_at "up"
  have a1:H' Z=some (.tup (hs.map V.int)):=by walk_at "up"
  have bl:bk.take (i+1)=bk.take i++[x]:=zn hx
  have a2:∀z,z∈xz (bk.take (i+1)) st hs↔(zaO st x=true/\x.b∉hs/\z=chg st x.b x.r)\/z∈xz (bk.take i) st hs:=λz=>by
   rw[bl,uf,uf];constructor;rintro⟨y,B,h2⟩;rcases au.mp B with B | B;exact .inr ⟨y,B,h2⟩;rw[ao] at B;subst B;exact .inl h2;rintro (h2 | ⟨y,B,h2⟩);exact⟨x,aE _ (by simp),h2⟩;exact⟨y,aQ _ B,h2⟩
  have no:¬ (zaO st x=true/\x.b∉hs)->(∃w1 w2 w3 w4,[some (V.ref ga),some (.int x.b),some (.int x.r),some (.int x.w),some (V.ref a),some (.ref Z)]=[w1,w2,w3,w4,some (.ref a),some (.ref Z)])/\(∃ks,zd5 P w H' acc ks/\∀z,z∈ks↔z∈xz (bk.take (i+1)) st hs)/\yL H1 H':=λhn=>⟨⟨_,_,_,_,rfl⟩,⟨ks,J,λz=>by rw[hm,a2];exact⟨.inr,λz=>z.elim (λq=>absurd ⟨q.1,q.2.1⟩ hn) id⟩⟩,S'⟩;show⟨wa,_,rfl,.of bd,rfl,_,_,rfl,_,_,rfl,_,_,rfl,_,_,rfl,rfl,?_⟩;show⟨_,rfl,_,rfl,a,_,_,_,rfl,rfl,.of an,zgB O.b0 (by lia),_,rfl,rfl,_,rfl,zmw (λh2=>?_) (λh2=>?_)⟩;have I:zR st x.b=x.w:=by simpa using h2
  show⟨_,rfl,_,rfl,Z,_,rfl,.inr (.of a1),rfl,zep hs,_,rfl,?_⟩;rw[zgm];by_cases Y:x.b∈hs;rw[List.contains_iff_mem.mpr Y];exact zqo (zqo (no λq=>q.2 Y))
  have hc:hs.contains x.b=false:=by
   cases e:hs.contains x.b with
   | false=>rfl
   | true=>exact absurd (List.contains_iff_mem.mp e) Y
  rw[hc];show iteT ⟨_,rfl,_,rfl,a,ga,st,gs,x.g,rfl,an,be,U,λq hq=>?_,_,rfl,?_⟩;have:=O.giv.ok q hq;exact⟨this.1,by lia⟩;have hg:zaO st x=xD st x.g:=by unfold zaO;rw[I];simp
  show zmw (λh3=>?_) (λh3=>?_);show⟨_,rfl,_,rfl,_,rfl,a,st,x.b,x.r,rfl,an,by lia,O.b0,λp H5 hp S5=>?_⟩;have ad:zd5 P w H5 acc ks:=by walk_at "up"
  show⟨p,_,ks,rfl,hp,ad,?_,λo bo a3 bs b3=>⟨⟨_,_,_,_,rfl⟩,⟨bo,a3,λz=>?_⟩,zlY ac (by walk_at "up")⟩⟩;obtain⟨_,_,_,_,ap⟩:=ad;have:=zes (hs:=hs) (bk:=bk.take i) (λy B=>hB.ok y (bB B)) h8 as ap λz hz=>(hm z).mp hz;lia;rw[bs,a2,hm];constructor;rintro (h4 | h4);exact .inl ⟨by rw[hg];exact h3,Y,h4⟩;exact .inr h4;rintro (h4 | h4);exact .inl h4.2.2;exact .inr h4;exact no λq=>h3 (by rw[<- hg];exact q.1);show zqo (no λq=>h2 ?_);have:=q.1;unfold zaO at this;rw[bC] at this;simpa using this.1;rintro al H2 ⟨_,⟨ks,J,hm⟩,S2⟩;rw[a0,bG] at hm;have U:=zet (hs:=hs) hB.ok hl;show⟨acc,ks,rm.length,rfl,J,?_,h1,λz hz=>U z ((hm z).mp hz),λys a4 b4 hp hu=>?_⟩;obtain⟨_,_,_,_,ap⟩:=J;have:=zes hB.ok h8 as ap λz hz=>(hm z).mp hz;lia;have e:a4=zaf bk st hs:=zby U hu λz=>(hp.mem_iff).trans (hm z);subst e;intro l H3 a5 g3 S3;have S23:yL H H2:=by walk_at "up"
  show k l H3 ?_ ⟨ys,g3,by walk_at "up"⟩ (by walk_at "up")
  cases e:H l with
  | none=>rfl
  | some o=>rw[S23 _ _ e] at a5;cases a5
def zdx (T:Txt K mg t):FnOk P w K mg base CX0 1 t.fI_Leads t.dI_Leads lw (zdW t.C_Leads):=by
 show T.Leads.FI.okQ zdQ (λvs H Q E h=>?_) (λF A B s H vs Q E U h=>?_);obtain⟨a,dx,I,J,O,rfl,_⟩:=h;rfl;show⟨_,⟨zax (zgN (pv 0) (pv 1) rfl) (zax (zgN (pv 0) (pv 2) rfl) (zax (zgN (pv 0) (pv 3) rfl) (zdJ (zgN (pv 0) zgI rfl))))⟩,?_⟩;have e:y6 lw vs=vs.map some:=by obtain⟨a,dx,I,J,O,rfl,_⟩:=h;rfl
 rw[e];exact zlR T.Leads.c h λ_ _ q=>q
def zcn (T:Txt K mg t):FnOk P w K mg base CX0 4 t.fA_Leads t.dA_Leads lD (zdV P w t.C_Leads):=by
 show T.Leads.FA.okQ zct (λvs H Q E h=>?_) (λI A q s H vs Q E F h=>?_);obtain⟨L,st,J,rfl,_⟩:=h;rfl;have B:=zcj F
 show⟨_,⟨zax (zri (zmO (zeM B (pv 1) (zor (zcU (pv 0) rfl)))) (zdJ (zjI B (zcU (pv 0) rfl) (pv 1) (zol (zmR T.q4 (zdy (P:=P) (w:=w) (base:=base) T) F ⟨zaV (zcU (pv 0) rfl) (zaV (zcU (pv 0) rfl) (zaV (pv 1) (zaV (zcU (pv 0) rfl) zmI)))⟩).run) rfl)) zjJ)
  (zdJ (zmN (zom (zjB B (zcU (pv 0) rfl) (pv 1) (λ_ _=>rfl)))))⟩,?_⟩
 have e:y6 lD vs=vs.map some:=by obtain⟨L,st,J,rfl,_⟩:=h;rfl
 rw[e];exact zlQ T.Leads.c h rfl
def Rch (g:AG->AF)(a s:AG):Prop:=∀Z:AG->Prop,Z a->(∀u v,Z u->v∈g u->Z v)->Z s
def Rch.self {g:AG->AF}{a:AG}:Rch g a a:=λ_ h _=>h
def Rch.step {g:AG->AF}{a s v:AG}(h:Rch g a s)(B:v∈g s):Rch g a v:=λZ F q=>q _ _ (h Z F q) B
def zhY{rm:AG}{s t hs:AG}(B:uJ rm bk)(F:StOk rm s)(I:t∈zaf bk s hs):StOk rm t:=by obtain⟨x,J,_,_,rfl⟩:=uf.mp (zaE.mp I);have q:=B x J;exact zl7 F q.b0 q.b1 q.r0 q.r1
structure SrT (g:AG->AF)(rm one:AG)(kvs:List (AG×Dt)):Prop where
 hd:∃r,kvs=(one,.non)::r
 up:∀i q,kvs[i+1]?=some q->∃h,h∈(kvs.take (i+1)).map (·.1)/\q.2=stD h/\q.1∈g h
 nd:(kvs.map (·.1)).Nodup
 ok:∀s∈kvs.map (·.1),StOk rm s
def SrT.one {g:AG->AF}{rm B:AG}(h:StOk rm B):SrT g rm B [(B,.non)]:=⟨⟨[],rfl⟩,λi q e=>by simp at e,by simp,λs hs=>by rw[show s=B by simpa using hs];exact h⟩
def SrT.snoc {g:AG->AF}{rm F s t:AG}{kvs:List (AG×Dt)}(h:SrT g rm F kvs)(hs:s∈kvs.map (·.1))(I:t∈g s)(hn:t∉kvs.map (·.1))(J:StOk rm t):SrT g rm F (kvs++[(t,stD s)]):=by
 obtain⟨r,O⟩:=h.hd;show⟨⟨r++[(t,stD s)],by rw[O];rfl⟩,λi q e=>?_,?_,λu B=>?_⟩;by_cases hi:i+1<kvs.length;rw[bw hi] at e;obtain⟨u,h1,h2⟩:=h.up i q e;exact⟨u,by rw[dh (by lia)];exact h1,h2⟩;rw[bi (by lia)] at e;have U:i+1 - kvs.length=0:=by have:=(ah.mp e).1;simpa using this
 rw[U] at e;have e:(t,stD s)=q:=by simpa using e
 subst e;show⟨s,?_,rfl,I⟩;rw[dh (by lia),bt (by lia)];exact hs;rw[aD,dw];show⟨h.nd,by simp,λa Y b Z e=>?_⟩;rw[show b=t by simpa using Z] at e;exact hn (e ▸ Y);rw[aD,au] at B;rcases B with B | B;exact h.ok u B;rw[show u=t by simpa using B];exact J
def SrT.rch {g:AG->AF}{rm B:AG}{kvs:List (AG×Dt)}(h:SrT g rm B kvs):∀s∈kvs.map (·.1),Rch g B s:=by
 have key:∀ (n i:Nat),i<n->∀q,kvs[i]?=some q->Rch g B q.1:=by
  intro n
  induction n with
  | zero=>intro i hi;lia
  | succ n J=>
   intro i hi q e
   match i,hi,e with
   | 0,_,e=>
    obtain⟨r,O⟩:=h.hd;rw[O] at e;have e:(B,Dt.non)=q:=by simpa using e
    rw[<- e];exact Rch.self
   | i+1,hi,e=>
    obtain⟨u,h1,_,U⟩:=h.up i q e;obtain⟨p,Y,rfl⟩:=aF.mp h1;obtain⟨j,I,F⟩:=bS.mp Y;rw[bg] at I;show (J j (by lia) p ?_).step U;rw[fM] at F;rw[<- F];exact aw (by lia)
 intro s hs;obtain⟨q,Z,rfl⟩:=aF.mp hs;obtain⟨j,I,F⟩:=bS.mp Z;exact key (j+1) j (by lia) q (by rw[<- F];exact aw I)
def zaX {rm:AG}{l:AF}(q:RoomOk rm)(I:zL rm<=256)(B:l.Nodup)(F:∀s∈l,StOk rm s):l.length<=256:=by have h1:=uq B λs hs=>zj9 (F s hs);have h2:=zkB q;lia
def zi7 {kvs:List (AG×Dt)}{st:AG}:(!(xE kvs st).isSome) = !decide (st∈kvs.map (·.1)):=by congr 1;unfold xE;rw[dj,decide_eq_true_iff,fK,List.find?_isSome];exact⟨λ⟨q,h1,h2⟩=>aF.mpr ⟨q,h1,bD h2⟩,λh=>let ⟨q,h1,h2⟩:=aF.mp h;⟨q,h1,a9 h2⟩⟩
def zjK{kvs:List (AG×Dt)}{k:AG}(h:k∉kvs.map (·.1)):zgO kvs k d=kvs++[(k,d)]:=by unfold zgO;rw[if_neg];intro z;obtain⟨q,B,F⟩:=List.any_eq_true.mp z;exact h (aF.mpr ⟨q,B,bD F⟩)
structure Sr (g:AG->AF)(rm one:AG)(o:Dt)(kvs:List (AG×Dt))(x:Dt):Prop where
 t:SrT g rm one kvs
 e:(x = .non/\∀s∈kvs.map (·.1),∀u∈g s,u∈kvs.map (·.1)/\stD u≠o)\/∃h,x=stD h/\h∈kvs.map (·.1)/\∃u∈g h,stD u=o
def zbp (P:Aa)(w:Ab)(C:Addr):FV:=λPn B n R=>∃ (L:LdI) (q:AG) (o:Dt),B=[.pen L.a,.d (stD q),.d o]/\(Pn.J=ldJ L)/\(L.P=P)/\(L.w=w)/\(L.C=C)/\(StOk L.rm q)/\(RoomOk L.rm)/\(uJ L.rm L.bk)/\(zL L.rm<=256)/\(o = .non\/∃st,o=stD st)/\(∀kvs x,Sr (λs=>zaf L.bk s L.hs) L.rm q o kvs x->R (.tz kvs x) n)
def zbp.i{q:AG}(B:Pn.J=ldJ L)(F:L.P=P)(I:L.w=w)(O:L.C=C)(h1:StOk L.rm q)(U:RoomOk L.rm)(Y:uJ L.rm L.bk)(Z:zL L.rm<=256)(ho:o = .non\/∃st,o=stD st)(h:∀kvs x,Sr (λs=>zaf L.bk s L.hs) L.rm q o kvs x->R (.tz kvs x) n)  : zbp P w C Pn [.pen L.a,.d (stD q),.d o] n R:=⟨L,q,o,rfl,B,F,I,O,h1,U,Y,Z,ho,h⟩
def zhs (T:Txt K mg t):FnOk P w K mg base CX0 5 t.f5 t.d5 lK (spV 3 false (zbp P w t.C_Leads)):=by
 have G_Leads_after:=zcn (P:=P) (w:=w) (base:=base) T
 show Fun.okW (k:=4) (fr:=false) [3,4] 5 T.q5.F y4 rfl (by ext) rfl λa7 A as s H E Pn hr=>⟨_,(zc (wS yt <| xC (i:=3) y4.nd (ziP (zcj hr) (kv 1) ziQ))
   (zc (wS yt <| xC (i:=4) y4.nd (uT (za (kv 1) zf)))
   (zc (wS zr <| zD (i:=5) y4.nd zj)
   (zc (zgt bn (wT zo <| zJ zog u_lt (kb 5) (JE.bo (z6 yu uI (by rfl) T.b_len bf (zh (kb 4) zk))) (zx _)) (zc (wS zr <| zD (i:=6) y4.nd (uY yk uU (kb 4) (kb 5) (λ_ _=>rfl)))
   (zc (xB bn rfl (zts K rfl (znL (i:=0) P w rfl rfl T.Leads G_Leads_after hr (qv 0) (by ext) (za (kv 6) zf))) (wG yf <| zt (i:=7) y4.nd) (zc (wS zH <| yH (wT zo <| zJ (zmH hr.units) zsa (kb 7) (kb 2) (zx _)) (zi (ziT 3 (kv 6))) zG)
   (zi (wS zH <| yH (ziU (zcj hr) (kb 7) (kb 3)) (zc (wS zbR <| zdo 3 (zcj hr) (kb 7) (kv 6))
   (zi (wS zdq <| zgs 4 (kv 7)))) zG))))
   (zi (zqt (F:=λi j=>i+j) (i:=5) y4.nd zqn (JE.bo zj))))))
   (zi (ziT 3 ziQ)))))),λws n R hF=>?_⟩
 obtain⟨L,U,o,rfl,hL,hP,hw,hC,h1,hR,hB,hp,ho,r⟩:=hF;left;show⟨U,rfl,?_⟩;left;show zm8 (λk ρ n'=>n'=n/\∃ (kvs:List (AG×Dt)) (a:Nat) (v6 v7:Option W),k=256 - a/\a<=kvs.length/\ρ=[some (.pen L.a),some (.d (stD U)),some (.d o),some (.dt kvs),some (.d (x8 (kvs.map (·.1)))),some (.d (.int a)),v6,v7]/\SrT (λs=>zaf L.bk s L.hs) L.rm U kvs/\∀s∈(kvs.take a).map (·.1),∀u∈zaf L.bk s L.hs,u∈kvs.map (·.1)/\stD u≠o) 256 ⟨rfl,[(U,.non)],0,_,_,rfl,by simp,rfl,.one h1,by simp⟩ ?_;rintro k ρ n' ⟨rfl,kvs,a,v6,v7,rfl,ba,rfl,hT,hc⟩ C B X a0 a1 hX;have a2:=zaX hR hp hT.nd hT.ok;rw[ab] at a2;left;rw[ab,ab];show xS (λbb=>?_) (λbc=>?_);have ha:a<kvs.length:=by lia
 obtain⟨q,hq⟩:∃q,kvs[a]?=some q:=⟨_,aw ha⟩;have ag:q.1∈kvs.map (·.1):=aF.mpr ⟨q,aG hq,rfl⟩;left;show zbl (show atI ((kvs.map (·.1)).map stD) (a:Int)=some (stD q.1) from zeb (by rw[aL,aL,hq];rfl)) ?_;left;show⟨L,hL,hP,hw,hC,rfl,?_⟩;left;show⟨_,rfl,hT.ok _ ag,?_⟩;left;show⟨_,rfl,?_⟩;show yN (zaf L.bk q.1 L.hs) (λs=>W.d (stD s)) (by rw[aJ];rfl) (λj ρ m'=>m'=n'/\∃ (I:List (AG×Dt)) (v7:Option W),ρ=[some (.pen L.a),some (.d (stD U)),some (.d o),some (.dt I),some (.d (x8 (I.map (·.1)))),some (.d (.int a)),some (.d (stD q.1)),v7]/\SrT (λs=>zaf L.bk s L.hs) L.rm U I/\(∃r,I=kvs++r)/\∀s∈(zaf L.bk q.1 L.hs).take j,s∈I.map (·.1)/\stD s≠o) ⟨rfl,kvs,_,rfl,hT,⟨[],by simp⟩,by simp⟩ ?_ ?_;rintro j t ρ m' ht ⟨rfl,I,v7,rfl,O,⟨r',J⟩,hs⟩ C' B' E' ac _ a3;have al:=aG ht;have ad:q.1∈I.map (·.1):=by rw[J,aD];exact aQ _ ag
 have a4:=zhY hB (hT.ok _ ag) al;have an:=zaX hR hp O.nd O.ok;rw[ab] at an
 have tk:∀ {Y:List (AG×Dt)},(∀s∈(zaf L.bk q.1 L.hs).take j,s∈Y.map (·.1))->t∈Y.map (·.1)->stD t≠o->∀s∈(zaf L.bk q.1 L.hs).take (j+1),s∈Y.map (·.1)/\stD s≠o:=λ{Y} y1 y2 y3 s Z=>by
  rw[zn ht,au] at Z;rcases Z with z | z;exact⟨y1 s z,(hs s z).2⟩;rw[ao.mp z];exact⟨y2,y3⟩
 left;show⟨ue,?_,λb hb=>?_⟩;rcases ho with rfl | ⟨st,rfl⟩;rfl;exact ue;left;show zqN (λh=>?_) (λh=>?_);left;exact a3 (hX (r _ _ ⟨O,.inr ⟨q.1,rfl,ad,t,al,hb.mp h⟩⟩));have ap:stD t≠o:=λz=>by rw[hb.mpr z] at h;cases h
 left;show⟨t,rfl,?_⟩;rw[zi7];left;show zgF (λhn=>?_) (λhn=>?_);have hn:t∉I.map (·.1):=of_decide_eq_false hn;left;show⟨_,rfl,aX (by lia:_<=10000) (by ext),?_⟩;rw[zjK hn];left;show⟨aX (by rw[ab,ab];lia:_<=10000) (by ext),?_⟩;have e2:(I.map (·.1)).map stD++[stD t]=((I++[(t,stD q.1)]).map (·.1)).map stD:=by rw[aD,aD];rfl
 rw[e2];show ac ⟨rfl,_,_,rfl,O.snoc ad al hn a4,⟨r'++[(t,stD q.1)],by rw[J,az]⟩,tk (λs z=>?_) ?_ ap⟩;rw[aD];exact aQ _ (hs s z).1;rw[aD];exact aE _ (by simp);have hn:t∈I.map (·.1):=bD hn;left;exact ac ⟨rfl,I,_,rfl,O,⟨r',J⟩,tk (λs z=>(hs s z).1) hn ap⟩;rintro ρ m' ⟨rfl,I,v7,rfl,O,⟨r',J⟩,hs⟩;rw[bG] at hs;left;have bd:kvs.length<=I.length:=by rw[J,ak];lia
 show a0 (256 - (a+1)) (by lia) ⟨rfl,I,a+1,_,_,rfl,by lia,rfl,O,λs Z u hu=>?_⟩;have a5:I[a]?=some q:=by rw[J,bw ha];exact hq
 rw[zn a5,aD,au] at Z;rcases Z with z | z;rw[J,dh (by lia)] at z;have:=hc s z u hu;exact⟨by rw[J,aD];exact aQ _ this.1,this.2⟩;rw[show s=q.1 by simpa using z] at hu;exact hs u hu;show a1 ?_;left;have e:a=kvs.length:=by lia
 rw[e,bG] at hc;exact r _ _ ⟨hT,.inl ⟨rfl,hc⟩⟩
def Sr.all{g:AG->AF}{rm q:AG}{kvs:List (AG×Dt)}(h:Sr g rm q .non kvs x)(s:AG):s∈kvs.map (·.1)↔Rch g q s:=by
 show⟨h.t.rch s,λz=>?_⟩;rcases h.e with ⟨_,hc⟩ | ⟨u,_,_,v,_,B⟩;obtain⟨r,F⟩:=h.t.hd;show z (·∈kvs.map (·.1)) (by rw[F];exact aj) λu v I B=>(hc u I v B).1;cases B
def zg4 (P:Aa)(w:Ab)(C:Addr):FV:=λPn B n R=>∃ (rm:AG) (bk:AW) (q hs:AG) (v:W),B=[.d (stD rm),.d (xk bk),.d (stD q),v]/\(Pn.J=J0)/\(v = .d (stD hs)\/(hs=[]/\v = .d .non))/\(RoomOk rm)/\(uJ rm bk)/\(zL rm<=256)/\(StOk rm q)/\(∀sts:AF,Up' sts->(∀s,s∈sts↔Rch (λs=>zaf bk s hs) q s)->(∀s∈sts,StOk rm s)->R (.d (x8 sts)) n)
def zg4.i{rm:AG}{q hs:AG}(B:Pn.J=J0)(F:v = .d (stD hs)\/(hs=[]/\v = .d .non))(I:RoomOk rm)(O:uJ rm bk)(U:zL rm<=256)(h1:StOk rm q)(h:∀sts:AF,Up' sts->(∀s,s∈sts↔Rch (λs=>zaf bk s hs) q s)->(∀s∈sts,StOk rm s)->R (.d (x8 sts)) n)  : zg4 P w C Pn [.d (stD rm),.d (xk bk),.d (stD q),v] n R:=⟨rm,bk,q,hs,v,rfl,B,F,I,O,U,h1,h⟩
def zfF (T:Txt K mg t):FnOk P w K mg base CX0 6 t.f6 t.d6 lf (spV 4 true (zg4 P w t.C_Leads)):=by have G5:=zhs (P:=P) (w:=w) (base:=base) T;have G_Leads_init:=zdx (P:=P) (w:=w) (base:=base) T;show FunD.okW (k:=5) (fr:=true) [] 0 T.q6.F zhA rfl (by ext) rfl λU A B s H E Pn Y=>⟨_,(zi (zX (z6 (zkQ rfl) zpx (by rfl) T.b_sorted cw (zh (JE.bo (uY yA zuq (JE.bo (ztq P w rfl rfl T.Leads T.q5 G_Leads_init G5 Y T.Leads.b .nil (dv:=[]) (λ_ _=>rfl) (za (kv 0) (za (kv 1) (za (kv 3) zf))) (za (kv 2) (za ziQ zf)) )) (JE.bo zj) (λ_ _=>rfl))) zk)))),λws n R Z=>?_⟩;obtain⟨rm,bk,ac,hs,v,rfl,hJ,hv,I,O,hp,h1,r⟩:=Z;left;show⟨hJ,?_⟩;left;show⟨rm,bk,hs,v,rfl,hv,I,O,?_⟩;left;show⟨rfl,rfl,?_⟩;rintro L hP hw hC rfl rfl rfl;show zbp.i rfl hP hw hC h1 I O hp (.inl rfl) λkvs x J=>?_;left;show⟨L.rm.length,I.pos,λq hq=>(J.t.ok q.1 (aF.mpr ⟨q,hq,rfl⟩)).len,λsts hs hu=>r sts hu (λs=>(hs.mem_iff).trans (J.all s)) λs z=>J.t.ok s ((hs.mem_iff).mp z)⟩
def zcy  : FV:=λPn q n R=>∃ (ns:AG) (x:Dt),q=[.d x]/\(x=stD ns\/x=lsD ns)/\(∀m∈ns,2<=m/\m<=4)/\(R (.d (.int (zL ns))) n)
def zcy.i{ns:AG}(q:x=stD ns\/x=lsD ns)(B:∀m∈ns,2<=m/\m<=4)(h:R (.d (.int (zL ns))) n)  : zcy Pn [.d x] n R:=⟨ns,x,rfl,q,B,h⟩
def zat (T:Txt K mg t):FnOk P w K mg base CX0 1 t.f7 t.d7 ll (spV 1 false zcy):=by
 show Fun.okW (k:=0) (fr:=false) [] 2 T.q7.F xi rfl (by ext) rfl λJ A q s H E Pn hr=>⟨_,(zc (wS zr <| zD (i:=1) xi.nd zj)
   (zc (xB bn rfl (wI zjd <| zmy K rfl (kv 0)) (wG yf <| zt (i:=2) xi.nd) (zi (wS zr <| zD (i:=1) xi.nd (zag ux zpu (kb 1) (kb 2)))))
   (zi (zX (kv 1))))),λws n R O=>?_⟩
 obtain⟨ns,x,rfl,U,Y,r⟩:=O;left;refine' zqG _ (λkey=>?_) ?_;rotate_left;rcases U with rfl | rfl;left;generalize W.d (stD ns)=x;exact key x;left;generalize W.d (lsD ns)=x;exact key x;intro x;show yN ns (λi=>.d (.int i)) (by rw[aJ];rfl) (λi ρ m=>m=n/\∃v,ρ=[some x,some (.d (.int (zL (ns.take i)))),v]) ⟨rfl,none,rfl⟩ ?_ ?_;rintro i a ρ m I ⟨rfl,v,rfl⟩ C B E Z _ _;have hm:=Y a (aG I);left;show⟨.inr ⟨by lia,by lia⟩,Z ⟨rfl,some (.d (.int a)),?_⟩⟩;rw[zn I,yE];rintro ρ m ⟨rfl,v,rfl⟩;rw[bG];left;exact r
def zfV  : FV:=λPn q n R=>∃ (ns:AG) (x:Dt),q=[.d x]/\(x=stD ns\/x=lsD ns)/\(∀m∈ns,2<=m/\m<=4)/\(ns.length<=8)/\(R (.d (x8 (uL (ns.map zE)))) n)
def zfV.i{ns:AG}(q:x=stD ns\/x=lsD ns)(B:∀m∈ns,2<=m/\m<=4)(F:ns.length<=8)(h:R (.d (x8 (uL (ns.map zE)))) n)  : zfV Pn [.d x] n R:=⟨ns,x,rfl,q,B,F,h⟩
def zeI (T:Txt K mg t):FnOk P w K mg base CX0 1 t.f8 t.d8 ll (spV 1 false zfV):=by
 show Fun.okW (k:=0) (fr:=false) [] 2 T.q8.F xV rfl (by ext) rfl λac A O s H E Pn hr=>⟨_,(zc (wS zr <| zD (i:=1) xV.nd (uT (za (yC zf) zf)))
   (zc (xB bn rfl (wI zjd <| zmy K rfl (kv 0)) (wG yf <| zt (i:=2) xV.nd) (zi (wS zr <| zD (i:=1) xV.nd (uh (N:=lG) (cix:=[none,some 1,some 2]) rfl (by walk_at "c") (wI yD <| z7 rfl T.b_range (zh (JE.bo (zag ux zpu (JE.bo (z6 yu uI (by rfl) T.b_len bf (zh (kb 1) zk))) (kb 2))) zk)) (λ_ _ _ _=>(wG yf <| zt (i:=0) (show (lG:AM).Nodup by decide +kernel))) (λ_ _ _ _=>xQ) (λ_ _ _ _=>(zag zab ze3 (JE.bo (uY yk uU (kb 1) (JE.bo (zag zdE zsb (kb 0) (kb 2))) (λ_ _=>rfl))) (JE.bo (yC (za (zag uw zpt (kb 0) (kb 2)) zf)))))))))
   (zi (zX (kv 1))))),λws n R hF=>?_⟩
 obtain⟨ns,x,rfl,hw,hb,h8,r⟩:=hF;left;refine' zqG _ (λkey=>?_) ?_;rotate_left;rcases hw with rfl | rfl;left;generalize W.d (stD ns)=x;exact key x;left;generalize W.d (lsD ns)=x;exact key x;intro x;show yN ns (λi=>.d (.int i)) (by rw[aJ];rfl) (λi ρ m=>m=n/\∃v,ρ=[some x,some (.d (x8 (uL ((ns.take i).map zE)))),v]) ⟨rfl,none,rfl⟩ ?_ ?_;rintro i a ρ m ha ⟨rfl,v,rfl⟩ C B E U _ _;have hm:=hb a (aG ha);obtain⟨w,rfl⟩:∃w:Nat,a=(w:Int):=⟨a.toNat,by lia⟩;have q:=zf0 h8 hb i;have I:∀st∈uL ((ns.take i).map zE),st.length<=8:=λst Y=>by rw[zkA _ _ Y,ab,bg];lia
 have J:(List.range ((uL ((ns.take i).map zE)).length * w)).map (λk=>(uL ((ns.take i).map zE)).getD (k / w) []++[((k % w:Nat):Int)])=uL ((ns.take (i+1)).map zE):=by rw[zn ha,aD,aC,ez,yT,zf8 _ (by lia)]
 generalize uL ((ns.take i).map zE)=rows at q J I;have Z:rows.length * w<=262144:=Nat.mul_le_mul q (by lia:w<=4);left;have e:(((rows.map stD).length:Nat):Int) * (w:Int)=((rows.length * w:Nat):Int):=by rw[ab,dU]
 show⟨.inr ⟨by lia,by lia⟩,?_⟩;left;rw[e];show⟨⟨by lia,by lia⟩,?_⟩;rw[aO,xg];show zei (List.range (rows.length * w)) (λk:Nat=>W.d (.int (k:Int))) rfl (λρ=>∃v,ρ=[v,some (.d (x8 rows)),some (.d (.int (w:Int)))]) (λk=>stD (rows.getD (k / w) []++[((k % w:Nat):Int)])) (by rw[aB];exact aA Z (by ext)) ⟨_,rfl⟩ ?_ ?_;rintro k hk ad ⟨v,rfl⟩ C U;have ag:=aN.mp hk;have hd:k / w<rows.length:=Nat.div_lt_of_lt_mul (by rwa[Nat.mul_comm]);have e1:(k:Int) / (w:Int)=((k / w:Nat):Int):=by lia
 have e2:(k:Int) % (w:Int)=((k % w:Nat):Int):=by lia
 left;show⟨⟨by lia,by lia⟩,?_⟩;left;rw[e1];show zbl (zcB hd) ?_;left;show⟨by lia,?_⟩;left;show⟨ztw (aA (I _ (xy hd)) (by ext)),?_⟩;rw[zsu,e2];exact U ⟨_,rfl⟩;rw[show (List.range (rows.length * w)).map (λk=>stD (rows.getD (k / w) []++[((k % w:Nat):Int)]))=((List.range (rows.length * w)).map λk=>rows.getD (k / w) []++[((k % w:Nat):Int)]).map stD by rw[aJ];rfl,J];left;exact U ⟨rfl,_,rfl⟩;rintro ρ m ⟨rfl,v,rfl⟩;rw[bG];left;exact r
def zfY (K:AH):FV:=λPn B n R=>∃ (p:Addr) (q:Int),B=[.pen p,.d (.int q)]/\(xK K Pn p)/\(n+30<=1000000)/\(q=256\/(4<=q/\q<=64))/\(∀rm m,RoomOk rm->zL rm<=256->m<=n+20->R (.d (stD rm)) m)
def zfY.i{q:Int}(F:xK K Pn p)(B:q=256\/(4<=q/\q<=64))(h:∀rm m,RoomOk rm->zL rm<=256->m<=n+20->R (.d (stD rm)) m)(hn:n+30<=1000000:=by lia):zfY K Pn [.pen p,.d (.int q)] n R:=⟨p,q,rfl,F,hn,B,h⟩
def zdC (T:Txt K mg t):FnOk P w K mg base CX0 2 t.f9 t.d9 lh (spV 2 false (zfY K)):=by
 have G1:=zF (P:=P) (w:=w) (base:=base) T;have G7:=zat (P:=P) (w:=w) (base:=base) T
 show Fun.okW (k:=1) (fr:=false) [] 4 T.q9.F yh rfl (by ext) rfl λal A ag s H E Pn I=>⟨_,(zc (wS zH <| yH (wT zo <| zJ uv ze9 (kb 1) (JE.bo zj) (zx _)) (zi (zX (uY yk uU (JE.bo (uT (za (yC (za zj (za zj (za zj (za zj zf))))) (za (yC (za zj (za zj (za zj (za zj (za zj (za zj (za zj (za zj zf))))))))) (za (yC (za zj (za zj (za zj (za zj (za zj zf)))))) (za (yC (za zj (za zj (za zj (za zj (za zj zf)))))) zf)))))) (JE.bo (wE zp <| yM T.q1 G1 I (za (kv 0) (za zj zf)))) (λ_ _=>rfl)))) zG)
   (zc (wS zr <| zD (i:=2) yh.nd (uT (za (yC (za zj zf)) (za (yC (za zj (za zj zf))) (za (yC (za zj (za zj (za zj (za zj zf))))) (za (yC (za zj (za zj zf))) (za (yC (za zj (za zj (za zj (za zj (za zj (za zj zf))))))) (za (yC (za zj (za zj (za zj zf)))) (za (yC (za zj (za zj (za zj (za zj zf))))) zf)))))))))
   (zc (wS zr <| zD (i:=3) yh.nd (uY yk uU (kb 2) (JE.bo (wE zp <| yM T.q1 G1 I (za (kv 0) (za zj zf)))) (λ_ _=>rfl)))
   (zc (wS zH <| yH (JW.t (wW zaP <| zcJ (wT zo <| zJ zqY u_le (JE.bo (wE zp <| yM T.q7 G7 I (za (kv 3) zf))) (kb 1) (zx _)) (zan (.inl rfl) (wT zo <| zJ uv ze9 (JE.bo (wE zp <| yM T.q1 G1 I (za (kv 0) (za zj zf)))) (JE.bo zj) (zx _))))) (zi (zX (kv 3))) zG)
   (zc (wS zr <| zD (i:=3) yh.nd (yC zf))
   (zc (xB bn rfl (wI yD <| z7 rfl T.b_range (zh (JE.bo (zag yv zaY (JE.bo zj) (JE.bo (wE zp <| yM T.q1 G1 I (za (kv 0) (za zj zf)))))) zk)) (wG yf <| zt (i:=4) yh.nd) (zc (wS zr <| zD (i:=5) yh.nd (zag yv zaY (JE.bo zj) (JE.bo (wE zp <| yM T.q1 G1 I (za (kv 0) (za zj zf))))))
   (zi (wS zH <| yH (wT zo <| zJ zqY u_le (JE.bo (zag ux zpu (JE.bo (wE zp <| yM T.q7 G7 I (za (kv 3) zf))) (kb 5))) (kb 1) (zx _)) (zi (wS zr <| zD (i:=3) yh.nd (zag zab ze3 (kb 3) (JE.bo (yC (za (kv 5) zf)))))) zG))))
   (zi (zX (kv 3))))))))),λws n R hF=>?_⟩
 obtain⟨p,q,rfl,U,hn,Y,r⟩:=hF;left;rcases Y with rfl | Y;walk_at "ct";show dr U λa a0 a1=>?_;left;show zlw a0 a1 λx Z=>?_
 obtain⟨rm,rfl,hR,O⟩:∃rm,x=stD rm/\RoomOk rm/\zL rm<=256:=by
  simp only[ay,bF,or_false] at Z;rcases Z with rfl | rfl | rfl | rfl;exact yy [4,4,4,4] rfl (by ext);exact yy [2,2,2,2,2,2,2,2] rfl (by ext);exact yy [3,3,3,3,3] rfl (by ext);exact yy [4,4,4,2,2] rfl (by ext)
 exact r rm _ hR O (by lia)
 ·show xS (λh=>absurd h (by lia)) (λ_=>?_);left;show dr U λa a0 a1=>?_;left;show zlw a0 a1 λx Z=>?_
  obtain⟨rm,rfl,hR,O⟩:∃rm,x=stD rm/\RoomOk rm/\zL rm<=256:=by
   simp only[ay,bF,or_false] at Z;rcases Z with rfl | rfl | rfl | rfl | rfl | rfl | rfl;exact yy [2] rfl (by ext);exact yy [4,2] rfl (by ext);exact yy [2,2,2,2] rfl (by ext);exact yy [4,4] rfl (by ext);exact yy [2,2,2,2,2,2] rfl (by ext);exact yy [4,4,4] rfl (by ext);exact yy [3,2,4,2] rfl (by ext)
  left;show zcy.i (.inl rfl) hR.box ?_;left;refine' ztQ (n+2) _ (λzC=>?_) ?_;rotate_left;show xS (λ_=>?_) (λ_=>?_);left;show dr U λb b0 b1=>?_;left;show xS (λ_=>?_) (λ_=>?_);left;exact r rm _ hR O (by lia);left;generalize ac:n+1+1=n1;exact zC n1 (by lia);left;generalize ac:n+1=n1;exact zC n1 (by lia);intro n1 ac;left;show dr U λt t0 t1=>?_;left;show⟨⟨by lia,by lia⟩,zeq (λi ρ m=>m<=n1+1+i/\∃rm v2 v4 v5,ρ=[some (.pen p),some (.d (.int q)),v2,some (.d (stD rm)),v4,v5]/\(∀r∈rm,2<=r/\r<=4)/\zL rm<=q/\(1<=i->rm≠[])) ⟨by lia,[],_,_,_,rfl,by simp,by change (1:Int)<=q;lia,by lia⟩ ?_ ?_⟩;rintro i ρ m hi ⟨hm,rm,v2,v4,v5,rfl,J,O,ad⟩ C B E hC _ _;left;show dr U λw w0 w1=>?_;have h8:=za6 J (by lia);left;show zcy.i (.inl rfl) J ?_;left;show⟨.inr ⟨by lia,by lia⟩,?_⟩;left;show xS (λhc=>?_) (λhc=>?_);left;show⟨ztw (by lia),?_⟩;rw[zsu];show hC ⟨by lia,rm++[2+w],_,_,_,rfl,λr I=>?_,by rw[yE];exact hc,λ_=>by simp⟩;rcases au.mp I with z | z;exact J r z;rw[ao.mp z];lia;left;show hC ⟨by lia,rm,_,_,_,rfl,J,O,λ_ z=>hc ?_⟩;subst z;change 1 * (2+w)<=q;lia;rintro ρ m ⟨hm,rm,v2,v4,v5,rfl,J,O,ad⟩;left;exact r rm m ⟨ad (by lia),za6 J (by lia),J⟩ (by lia) (by lia)
def zd9 (K:AH):FV:=λPn q n R=>∃ (p:Addr) (rm:AG),q=[.pen p,.d (stD rm)]/\(xK K Pn p)/\(n+20<=1000000)/\(RoomOk rm)/\(∀st m,StOk rm st->m<=n+8->R (.d (stD st)) m)
def zd9.i{rm:AG}(q:xK K Pn p)(B:RoomOk rm)(h:∀st m,StOk rm st->m<=n+8->R (.d (stD st)) m)(hn:n+20<=1000000:=by lia):zd9 K Pn [.pen p,.d (stD rm)] n R:=⟨p,rm,rfl,q,hn,B,h⟩
def zaU (T:Txt K mg t):FnOk P w K mg base CX0 2 t.f10 t.d10 lc (spV 2 false (zd9 K)):=by
 have G1:=zF (P:=P) (w:=w) (base:=base) T;show Fun.okW (k:=1) (fr:=false) [] 0 T.q10.F zbn rfl (by ext) rfl λZ A I s H E Pn hr=>⟨_,(zi (zX (ym zW xW (by rfl) T.b_tuple bq (zh (JE.bo (uh (N:=lN) (cix:=[none,some 0]) rfl (by walk_at "c") (wI zaQ <| zcH K rfl (kv 1)) (λ_ _ _ _=>(wG yf <| zt (i:=0) (show (lN:AM).Nodup by decide +kernel))) (λ_ _ _ _=>xQ) (λ_ _ _ _=>(wE zp <| yM T.q1 G1 hr (za (kv 1) (za (kv 0) zf)))))) zk)))),λws n R hF=>?_⟩;obtain⟨p,rm,rfl,hP,hn,Y,r⟩:=hF;left;have h8:=Y.few;show zf5 rm (λi=>.d (.int i)) (by rw[aJ];rfl) (aA h8 (by ext)) (λi q J acc=>J=n+i/\i<=rm.length/\∃ (v:Option W) (st:AG),q=[v,some (.pen p)]/\acc=st.map Dt.int/\StOk (rm.take i) st) ⟨rfl,aK _,none,[],rfl,rfl,rfl,λb b0 b1=>absurd b1 (by simp;lia)⟩ ?_ ?_;rintro i a q J acc O ⟨rfl,hi,v,st,rfl,rfl,B⟩ C hC;have hm:=Y.box a (aG O);have U:=(ah.mp O).1;left;show dr hP λt t0 t1=>?_;left;rw[zsu];show hC ⟨rfl,U,_,st++[t],rfl,rfl,?_⟩;rw[zn O];exact B.snoc t0 t1;rintro q J acc ⟨rfl,hi,v,st,rfl,rfl,B⟩;rw[bG] at B;exact r st _ B (by lia)
def zcw (K:AH):FV:=λPn F n R=>∃ (p:Addr) (rm:AG) (B:Int),F=[.pen p,.d (stD rm),.d (.int B)]/\(xK K Pn p)/\(n+40<=1000000)/\(RoomOk rm)/\(∀g m,Giv rm g->(∀q∈g,q.1≠B)->m<=n+20->R (.d (zqj g)) m)
def zcw.i{rm:AG}{B:Int}(F:xK K Pn p)(I:RoomOk rm)(h:∀g m,Giv rm g->(∀q∈g,q.1≠B)->m<=n+20->R (.d (zqj g)) m)(hn:n+40<=1000000:=by lia):zcw K Pn [.pen p,.d (stD rm),.d (.int B)] n R:=⟨p,rm,B,rfl,F,hn,I,h⟩
def zcp (T:Txt K mg t):FnOk P w K mg base CX0 2 t.f11 t.d11 lq (spV 3 false (zcw K)):=by
 have G1:=zF (P:=P) (w:=w) (base:=base) T
 show Fun.okW (k:=1) (fr:=false) [4] 3 T.q11.F yQ rfl (by ext) rfl λal A ac s H E Pn hr=>⟨_,(zc (wS zr <| zD (i:=3) yQ.nd (zag yv zaY (JE.bo zj) (JE.bo (wE zp <| yM T.q1 G1 hr (za (kv 0) (za zj zf))))))
   (zc (wS yt <| xC (i:=4) yQ.nd (uT zf))
   (zc (xB bn rfl (wI yD <| z7 rfl T.b_range (zh (JE.bo (z6 yu uI (by rfl) T.b_len bf (zh (kb 1) zk))) zk)) (wG yf <| zt (i:=5) yQ.nd) (zi (wS zH <| yH (JW.t (wW zaP <| zcJ (wT zo <| zJ uv ze9 (JE.bo (wE zp <| yM T.q1 G1 hr (za (kv 0) (za (zag yv zaY (JE.bo zj) (kb 3)) zf)))) (JE.bo zj) (zx _)) (zan (.inl rfl) (wT zo <| zJ zht zse (kb 5) (kb 2) (zx _))))) (zi (wS zdq <| zgs 4 (yC (za (kv 5) (za (wE zp <| yM T.q1 G1 hr (za (kv 0) (za (uY yA zae (kb 1) (kb 5) (λ_ _=>rfl)) zf))) zf))))) zG)))
   (zi (zX (ym zW xW (by rfl) T.b_tuple bq (zh (kb 4) zk))))))),λws n R hF=>?_⟩
 obtain⟨p,rm,O,rfl,hP,hn,hR,r⟩:=hF;left;have h8:=hR.few;show dr hP λra an ap=>?_;left;rw[ab];show⟨⟨by lia,by lia⟩,zeq (λi ρ m=>m<=n+1+2 * i/\i<=rm.length/\∃g U,ρ=[some (.pen p),some (.d (stD rm)),some (.d (.int O)),some (.d (.int (1+ra))),some (.d (.lst (g.map xo))),U]/\Giv rm g/\(∀q∈g,q.1≠O)/\(∀q∈g,q.1<(i:Int))/\g.length<=i) ⟨by lia,aK _,[],_,rfl,⟨by simp,.nil⟩,by simp,by simp,aK _⟩ ?_ ?_⟩;rintro i ρ m hi ⟨hm,ad,g,U,rfl,hG,I,J,ag⟩ C B E hC _ _;have as:=xI hR.box (b:=(i:Int)) (by lia) (by lia);left;show dr hP λt t0 t1=>?_;have Y:∀U,C [some (.pen p),some (.d (stD rm)),some (.d (.int O)),some (.d (.int (1+ra))),some (.d (.lst (g.map xo))),U] (m+1):=λU=>hC ⟨by lia,by lia,g,_,rfl,hG,I,λq Z=>by have:=J q Z;lia,by lia⟩;left;show xS (λ_=>?_) (λ_=>⟨Y _⟩);left;show zjt (λhb=>?_) (λ_=>⟨Y _⟩);left;show onA (by lia) (by lia) ?_;left;show dr hP λu u0 u1=>?_;left;show⟨by rw[ab];exact aX (by lia:_<=8) (by ext),hC ⟨by lia,by lia,g++[((i:Int),u)],_,by rw[aD];rfl,hG.snoc J (by lia) (by lia) u0 u1,λq Z=>?_,λq Z=>?_,by rw[ak];simp;lia⟩⟩;rcases au.mp Z with z | z;exact I q z;rw[ao.mp z];exact hb;rcases au.mp Z with z | z;have:=J q z;lia;rw[ao.mp z];change (i:Int)<((i+1:Nat):Int);lia;rintro ρ m ⟨hm,ad,g,U,rfl,hG,I,J,ag⟩;left;exact r g m hG I (by lia)
def zcx (K:AH):FV:=λPn B n R=>∃ (p:Addr) (rm:AG) (q:Int),B=[.pen p,.d (stD rm),.d (.int q)]/\(xK K Pn p)/\(n+60<=1000000)/\(RoomOk rm)/\(∀x m,WishOk rm x->m<=n+30->R (.d (xt x)) m)
def zcx.i{rm:AG}{q:Int}(B:xK K Pn p)(F:RoomOk rm)(h:∀x m,WishOk rm x->m<=n+30->R (.d (xt x)) m)(hn:n+60<=1000000:=by lia):zcx K Pn [.pen p,.d (stD rm),.d (.int q)] n R:=⟨p,rm,q,rfl,B,hn,F,h⟩
def zau (T:Txt K mg t):FnOk P w K mg base CX0 3 t.f12 t.d12 li (spV 3 false (zcx K)):=by
 have G1:=zF (P:=P) (w:=w) (base:=base) T;have G11:=zcp (P:=P) (w:=w) (base:=base) T
 show Fun.okW (k:=2) (fr:=false) [] 3 T.q12.F yK rfl (by ext) rfl λag A ac s H E Pn hr=>⟨_,(zc (wS zr <| zD (i:=3) yK.nd (wE zp <| yM T.q1 G1 hr (za (kv 0) (za (z6 yu uI (by rfl) T.b_len bf (zh (kb 1) zk)) zf))))
   (zc (wS zr <| zD (i:=4) yK.nd (wE zp <| yM T.q1 G1 hr (za (kv 0) (za (uY yA zae (kb 1) (kb 3) (λ_ _=>rfl)) zf))))
   (zc (wS zr <| zD (i:=5) yK.nd (zag uw zpt (JE.bo (zag yv zaY (JE.bo (zag yv zaY (kb 4) (JE.bo zj))) (JE.bo (wE zp <| yM T.q1 G1 hr (za (kv 0) (za (zag zjy zpy (JE.bo (uY yA zae (kb 1) (kb 3) (λ_ _=>rfl))) (JE.bo zj)) zf)))))) (JE.bo (uY yA zae (kb 1) (kb 3) (λ_ _=>rfl)))))
   (zc (wS zH <| yH (JW.t (wW zaP <| zcJ (wT zo <| zJ uv ze9 (kb 2) (JE.bo zj) (zx _)) (zan (.inl rfl) (wT zo <| zJ zog u_lt (kb 5) (kb 4) (zx _))))) (zi (wS zn3 <| zqu (i:=5) (j:=4) rfl yK.nd rfl rfl rfl rfl (za (kv 4) (za (kv 5) zf)))) zG)
   (zi (zX (yC (za (wE zp <| yM T.q11 G11 hr (za (kv 0) (za (kv 1) (za (kv 3) zf)))) (za (kv 3) (za (kv 5) (za (kv 4) zf))))))))))),λws n R hF=>?_⟩
 obtain⟨p,rm,al,rfl,Y,hn,Z,r⟩:=hF;left;have h8:=Z.few;have ad:=Z.pos;rw[ab];show dr Y λq O U=>?_;have hm:=xI Z.box O U;left;show onA O U ?_;left;show dr Y λJ w0 w1=>?_;left;show onA O U ?_;left;show dr Y λt t0 t1=>?_;left;show onA O U ?_;left;show⟨by lia,?_⟩;have c0:=cV (J+1+t) (show zR rm q≠0 by lia);have c1:=cr (J+1+t) (show 0<zR rm q by lia)
 have I:(J+1+t) % zR rm q≠J:=by
  have h3:zR rm q=2\/zR rm q=3\/zR rm q=4:=by lia
  revert w1 t1;generalize zR rm q=mm at h3;rcases h3 with rfl | rfl | rfl <;> lia
 generalize (J+1+t) % zR rm q=be at c0 c1 I;left;show xS (λ_=>?_) (λ_=>?_);left;show xS (λ_=>?_) (λ_=>?_);left;show zcw.i Y Z λg m hG B hm=>?_;left;exact r ⟨g,q,J,be⟩ m ⟨hG,O,U,B,w0,w1,c0,c1,Ne.symm I⟩ (by lia);left;show zcw.i Y Z λg m hG B hm=>?_;left;exact r ⟨g,q,be,J⟩ m ⟨hG,O,U,B,c0,c1,w0,w1,I⟩ (by lia);left;show zcw.i Y Z λg m hG B hm=>?_;left;exact r ⟨g,q,be,J⟩ m ⟨hG,O,U,B,c0,c1,w0,w1,I⟩ (by lia)
def uK (K:AH):FV:=λPn q n R=>∃ (p:Addr) (l:AS),q=[.pen p,.d (.lst l)]/\(xK K Pn p)/\(n+l.length+5<=1000000)/\(l.length<=1000)/\(∀l':AS,l'.Perm l->R (.d (.lst l')) (n+l.length))
def uK.i(q:xK K Pn p)(B:l.length<=1000)(h:∀l':AS,l'.Perm l->R (.d (.lst l')) (n+l.length))(hn:n+l.length+5<=1000000:=by lia):uK K Pn [.pen p,.d (.lst l)] n R:=⟨p,l,rfl,q,hn,B,h⟩
def zbX (T:Txt K mg t):FnOk P w K mg base CX0 2 t.f13 t.d13 lA (spV 2 true (uK K)):=by
 have G1:=zF (P:=P) (w:=w) (base:=base) T
 show Fun.okW (k:=1) (fr:=true) [2] 2 T.q13.F xp rfl (by ext) rfl λY A J s H E Pn Z=>⟨_,(zc (wS yt <| xC (i:=2) xp.nd (uT zf))
   (zc (xB bn rfl (wI zbS <| zbJ K rfl (kv 1)) (wG yf <| zt (i:=3) xp.nd) (zi (wS zjc <| zmA 2 (wE zp <| yM T.q1 G1 Z (za (kv 0) (za (zag yv zaY (JE.bo (z6 yu uI (by rfl) T.b_len bf (zh (kb 2) zk))) (JE.bo zj)) zf))) (kv 3))))
   (zi (wS zgz <| ziS 2)))),λws n R hF=>?_⟩
 obtain⟨p,l,rfl,hP,hn,hl,r⟩:=hF;left;show yN l W.d rfl (λi ρ m=>m=n+i/\i<=l.length/\∃l' v,ρ=[some (.pen p),some (.d (.lst l)),some (.d (.lst l')),v]/\l'.Perm (l.take i)) ⟨rfl,aK _,[],_,rfl,.refl _⟩ ?_ ?_;rintro i a ρ m U ⟨rfl,O,l',v,rfl,q⟩ C B E hC _ _;have I:=q.length_eq;rw[bg] at I;have hi:=(ah.mp U).1;left;show dr hP λt t0 t1=>?_;left;show⟨⟨t0,by lia,aX (by lia:_<=1000) (by ext)⟩,hC ⟨by lia,hi,_,_,rfl,?_⟩⟩;rw[zn U];show .trans ?_ (List.perm_append_comm (l₁:=[a]));show .trans List.perm_middle (List.Perm.cons a ?_);rw[aV];exact q;rintro ρ m ⟨rfl,O,l',v,rfl,q⟩;rw[bG] at q;left;exact r l' q
def zta (a b:AG):Nat:=((List.range a.length).filter λk=>!decide (a.getD k 0=b.getD k 0)).headD 0
def zd7  : FV:=λPn q n R=>∃ (rm a b:AG),q=[.d (stD a),.d (stD b)]/\(RoomOk rm)/\(StOk rm a)/\(StOk rm b)/\(a≠b)/\(∀x,WishOk rm x->x=zk2 a b (zta a b)->R (.d (xt x)) n)
def zd7.i{rm a b:AG}(B:RoomOk rm)(F:StOk rm a)(I:StOk rm b)(q:a≠b)(h:∀x,WishOk rm x->x=zk2 a b (zta a b)->R (.d (xt x)) n)  : zd7 Pn [.d (stD a),.d (stD b)] n R:=⟨rm,a,b,rfl,B,F,I,q,h⟩
def zdA (T:Txt K mg t):FnOk P w K mg base CX0 1 t.f14 t.d14 lE (spV 2 false zd7):=by
 show Fun.okW (k:=0) (fr:=false) [] 2 T.q14.F uF rfl (by ext) rfl λag A B s H E Pn hr=>⟨_,(zc (wS zr <| zD (i:=2) uF.nd (uY yk uU (JE.bo (uh (N:=lL) (cix:=[none,some 0,some 1]) rfl (by walk_at "c") (wI yD <| z7 rfl T.b_range (zh (JE.bo (z6 yu uI (by rfl) T.b_len bf (zh (kb 0) zk))) zk)) (λ_ _ _ _=>(wG yf <| zt (i:=0) (show (lL:AM).Nodup by decide +kernel))) (λ_ _ _ _=>(zbK (wT zo <| zJ zht zse (JE.bo (uY yA zae (kb 1) (kb 0) (λ_ _=>rfl))) (JE.bo (uY yA zae (kb 2) (kb 0) (λ_ _=>rfl))) (zx _)))) (λ_ _ _ _=>(kv 0)))) (JE.bo zj) (λ_ _=>rfl)))
   (zc (wS zr <| zD (i:=3) uF.nd (ym zW xW (by rfl) T.b_tuple bq (zh (JE.bo (uh (N:=lM) (cix:=[none,some 0,some 2]) rfl (by walk_at "c") (wI yD <| z7 rfl T.b_range (zh (JE.bo (z6 yu uI (by rfl) T.b_len bf (zh (kb 0) zk))) zk)) (λ_ _ _ _=>(wG yf <| zt (i:=0) (show (lM:AM).Nodup by decide +kernel))) (λ_ _ _ _=>(zbK (wT zo <| zJ zht zse (kb 0) (kb 2) (zx _)))) (λ_ _ _ _=>(yC (za (kv 0) (za (uY yA zae (kb 1) (kb 0) (λ_ _=>rfl)) zf)))))) zk)))
   (zi (zX (yC (za (kv 3) (za (kv 2) (za (uY yA zae (kb 1) (kb 2) (λ_ _=>rfl)) (za (uY yA zae (kb 0) (kb 2) (λ_ _=>rfl)) zf))))))))),λws n R hF=>?_⟩
 obtain⟨rm,a,b,rfl,hR,ha,hb,I,r⟩:=hF;left;have J:=ha.len;have O:=hb.len;have h8:=hR.few;rw[ab];show⟨⟨by lia,by lia⟩,?_⟩;rw[aO,xg];show zc9 (List.range a.length) (λk:Nat=>W.d (.int (k:Int))) rfl (λρ=>∃v,ρ=[v,some (.d (stD a)),some (.d (stD b))]) (λk=>!decide (a.getD k 0=b.getD k 0)) (λk=>.int (k:Int)) (by rw[aB];exact aA (by lia:a.length<=8) (by ext)) ⟨_,rfl⟩ ?_ ?_;rintro k q U ⟨v,rfl⟩ C Y Z;have al:=aN.mp q;left;show onA (by lia) (by lia) ?_;left;show onA (by lia) (by lia) ?_;left;rw[zK,zK];show zjt (λh=>?_) (λh=>?_);exact Y (by rw[aZ h];rfl) ⟨_,rfl⟩;exact Z (by rw[a9 h];rfl) ⟨_,rfl⟩;obtain⟨k,zC,q,ac,ad⟩:=zim (J.trans O.symm) I;rw[q];left;show zbl (zeb (i:=0) rfl) ?_;left;rw[ab];show⟨⟨by lia,by lia⟩,?_⟩;rw[aO,xg];show zc9 (List.range a.length) (λk:Nat=>W.d (.int (k:Int))) rfl (λρ=>∃v,ρ=[v,some (.d (stD a)),some (.d (.int (k:Int)))]) (λi=>!decide (i=k)) (λi=>xo ((i:Int),a.getD i 0)) (by rw[aB];exact aA (by lia:a.length<=8) (by ext)) ⟨_,rfl⟩ ?_ ?_;rintro i hi U ⟨v,rfl⟩ C Y Z;have an:=aN.mp hi;left;show zjt (λh=>?_) (λh=>?_);left;show onA (by lia) (by lia) ?_;left;rw[zK];exact Y (by rw[aZ (by lia)];rfl) ⟨_,rfl⟩;exact Z (by rw[a9 (by lia)];rfl) ⟨_,rfl⟩;left;show onA (by lia) (by lia) ?_;left;show onA (by lia) (by lia) ?_;left;have:=r _ (zk3 ha hb ac ad) (by unfold zta;rw[q];rfl);unfold zk2 xt at this;rw[aJ] at this;rw[zK,zK];exact this
def zc4  : FV:=λPn q n R=>∃ (rm:AG),q=[.d (stD rm)]/\(RoomOk rm)/\(zL rm<=256)/\(∀sts:AF,sts.Nodup->(∀st∈sts,StOk rm st)->(sts.length:Int)=zL rm->R (.d (x8 sts)) n)
def zc4.i{rm:AG}(q:RoomOk rm)(B:zL rm<=256)(h:∀sts:AF,sts.Nodup->(∀st∈sts,StOk rm st)->(sts.length:Int)=zL rm->R (.d (x8 sts)) n)  : zc4 Pn [.d (stD rm)] n R:=⟨rm,rfl,q,B,h⟩
def zcq (T:Txt K mg t):FnOk P w K mg base CX0 1 t.f15 t.d15 ll (spV 1 true zc4):=by
 show Fun.okW (k:=0) (fr:=true) [1,3] 5 T.q15.F z9 rfl (by ext) rfl λa0 A ap s H E Pn hr=>⟨_,(zc (wS yt <| xC (i:=1) z9.nd (uT (za (yC zf) zf)))
   (zc (xB bn rfl (wI zaQ <| zcH K rfl (kv 0)) (wG yf <| zt (i:=2) z9.nd) (zc (wS yt <| xC (i:=3) z9.nd (uT zf))
   (zc (xB bn rfl (wI yD <| z7 rfl T.b_range (zh (JE.bo (z6 yu uI (by rfl) T.b_len bf (zh (kb 1) zk))) zk)) (wG yf <| zt (i:=4) z9.nd) (zc (wS zr <| znQ (i:=5) (zdn (ix:=5) z9.nd rfl rfl (N:=lI) (cix:=[none,some 1,some 4]) rfl (by walk_at "c") (wI yD <| z7 rfl T.b_range (zh (kb 2) zk)) (λ_ _ _ _=>(wG yf <| zt (i:=0) (show (lI:AM).Nodup by decide +kernel))) (λ_ _ _ _=>xQ) (λ_ _ _ _=>(zag zab ze3 (JE.bo (uY yk uU (kb 1) (kb 2) (λ_ _=>rfl))) (JE.bo (yC (za (kv 0) zf)))))))
   (zi (wS zjb <| zmz 3 (uY yk uU (JE.bo (uT (za (kv 5) (za (wE zgA <| zmx (kb 5)) zf)))) (JE.bo (zag uw zpt (kb 4) (JE.bo zj))) (λ_ _=>rfl))))))
   (zi (wS zln <| zle (i:=1) 3 z9.nd rfl (Or.inr rfl))))))
   (zi (wS zgz <| ziS 1)))),λws n R hF=>?_⟩
 obtain⟨rm,rfl,hR,hp,r⟩:=hF;left;have h8:=hR.few;have Y:∀i,zL (rm.take i)<=65536:=λi=>by rw[<- xL _ λn hn=>by have:=hR.box n (bB hn);lia];have:=zf0 h8 hR.box i;lia
 show yN rm (λi=>.d (.int i)) (by rw[aJ];rfl) (λi ρ m=>m=n/\∃ (sts:AF) (v2 v3 J O:Option W),ρ=[some (.d (stD rm)),some (.d (x8 sts)),v2,v3,J,O]/\sts.Nodup/\(∀st∈sts,StOk (rm.take i) st)/\(sts.length:Int)=zL (rm.take i)) ⟨rfl,[[]],_,_,_,_,rfl,by ext,λst Z=>?_,rfl⟩ ?_ ?_;rw[ao.mp Z];exact⟨rfl,λb b0 b1=>absurd b1 (by simp;lia)⟩;rintro i a ρ m ha ⟨rfl,sts,v2,v3,J,O,rfl,hN,I,q⟩ C B E hC _ _;have hm:=hR.box a (aG ha);have hf:=Y i;have a1:=Y (i+1);have al:zL (rm.take (i+1))=zL (rm.take i) * a:=by rw[zn ha,yE]
 obtain⟨w,rfl⟩:∃w:Nat,a=(w:Int):=⟨a.toNat,by lia⟩
 have a2:sts.length * w<=65536:=by
  have:((sts.length * w:Nat):Int)=zL (rm.take (i+1)):=by rw[al,<- q,dU]
  lia
 left;rw[ab];show⟨⟨by lia,by lia⟩,?_⟩;rw[aO];show zeq (λk ρ m'=>m'=m/\∃ (U:AF) (J O:Option W),ρ=[some (.d (stD rm)),some (.d (x8 sts)),some (.d (.int (w:Int))),some (.d (.lst (U.map stD))),J,O]/\U.Nodup/\(∀x∈U,∃b∈sts.take k,∃v:Int,0<=v/\v<w/\x=b++[v])/\U.length=k * w) ⟨rfl,[],_,_,rfl,.nil,by simp,by simp⟩ ?_ ?_;rintro k ρ m' hk ⟨rfl,U,J,O,rfl,ac,ad,ag⟩ C B E hC _ _;left;show⟨⟨by lia,by lia⟩,?_⟩;rw[aO,xg];have as:=(I _ (xy hk)).len;rw[bg] at as;have a3:(k+1) * w<=sts.length * w:=Nat.mul_le_mul_right _ hk;show zei (List.range w) (λv:Nat=>W.d (.int (v:Int))) rfl (λρ=>∃v,ρ=[v,some (.d (x8 sts)),some (.d (.int (k:Int)))]) (λv=>stD (sts.getD k []++[(v:Int)])) (by rw[aB];exact aA (by lia:w<=4) (by ext)) ⟨_,rfl⟩ ?_ ?_;rintro v hv a4 ⟨u,rfl⟩ C hC;left;show zbl (zcB hk) ?_;left;show⟨ztw (by lia),?_⟩;rw[zsu];exact hC ⟨_,rfl⟩;have an:(List.range w).map (λv:Nat=>stD (sts.getD k []++[(v:Int)]))=((List.range w).map λv:Nat=>sts.getD k []++[(v:Int)]).map stD:=by rw[aJ];rfl
 rw[an];have fin:∀B:AF,B.Perm ((List.range w).map λv:Nat=>sts.getD k []++[(v:Int)])->∀J O,(U.map stD).length+(B.map stD).length<=lim/\C [some (.d (stD rm)),some (.d (x8 sts)),some (.d (.int (w:Int))),some (.d (.lst (U.map stD++B.map stD))),J,O] m':=λB hB J O=>by obtain⟨q1,q2,q3⟩:=zhE hk hN ac ad ag hB;show⟨?_,hC ⟨rfl,U++B,_,_,by rw[aD],q1,q2,q3⟩⟩;rw[ab,ab,<- ak,q3];exact aA (by lia:_<=65536) (by ext)
 generalize ((List.range w).map λv:Nat=>sts.getD k []++[(v:Int)])=blk at fin;left;have h2:(k:Int) % 2=0\/(k:Int) % 2=1:=by lia
 show⟨by lia,?_⟩;left;rcases h2 with e | e
 rw[e];with_reducible show zbl zsS ?_;exact fin blk (.refl _) _ _
 rw[e];with_reducible show zbl zsT ?_;have:=fin blk.reverse (du _) (some (.d (.int (k:Int)))) (some (.d (.lst (blk.map stD))));rw[List.map_reverse] at this;exact this
 rintro ρ m' ⟨rfl,U,J,O,rfl,ac,ad,ag⟩;left;show hC ⟨rfl,U,_,_,_,_,rfl,ac,λst Z=>?_,?_⟩;obtain⟨b,hb,v,v0,v1,rfl⟩:=ad st Z;rw[bG] at hb;rw[zn ha];exact (I b hb).snoc v0 v1;rw[ag,al,<- q,dU];rintro ρ m ⟨rfl,sts,v2,v3,J,O,rfl,hN,I,q⟩;rw[bG] at q I;left;exact r sts hN I q
def zcv (K:AH):FV:=λPn q n R=>∃ (p:Addr) (rm:AG),q=[.pen p,.d (stD rm)]/\(xK K Pn p)/\(n+5000<=1000000)/\(RoomOk rm)/\(zL rm<=256)/\(∀bk m,uJ rm bk->bk.length<=1000->m<=n+4000->R (.d (xk bk)) m)
def zcv.i{rm:AG}(q:xK K Pn p)(B:RoomOk rm)(F:zL rm<=256)(h:∀bk m,uJ rm bk->bk.length<=1000->m<=n+4000->R (.d (xk bk)) m)(hn:n+5000<=1000000:=by lia):zcv K Pn [.pen p,.d (stD rm)] n R:=⟨p,rm,rfl,q,hn,B,F,h⟩
def zaT (T:Txt K mg t):FnOk P w K mg base CX0 4 t.f16 t.d16 lc (spV 2 false (zcv K)):=by
 have G1:=zF (P:=P) (w:=w) (base:=base) T;have G12:=zau (P:=P) (w:=w) (base:=base) T;have G15:=zcq (P:=P) (w:=w) (base:=base) T;have G14:=zdA (P:=P) (w:=w) (base:=base) T
 show Fun.okW (k:=3) (fr:=false) [3] 4 T.q16.F zI rfl (by ext) rfl λa2 A ap s H E Pn O=>⟨_,(zc (wS zr <| zD (i:=2) zI.nd (wE zp <| yM T.q15 G15 O (za (kv 1) zf)))
   (zc (wS zH <| yH (wT zo <| zJ uv ze9 (JE.bo (wE zp <| yM T.q1 G1 O (za (kv 0) (za zj zf)))) (JE.bo zj) (zx _)) (zi (wS zr <| zD (i:=2) zI.nd (wE zgA <| zmx (kb 2)))) zG)
   (zc (wS yt <| ziR (i:=3) (zdn (ix:=3) zI.nd rfl rfl (N:=[Az,"_law_row"]) (cix:=[none,some 2]) rfl (by walk_at "c") (wI yD <| z7 rfl T.b_range (zh (JE.bo (zag zjy zpy (JE.bo (z6 yu uI (by rfl) T.b_len bf (zh (kb 2) zk))) (JE.bo zj))) zk)) (λ_ _ _ _=>(wG yf <| zt (i:=0) (show ([Az,"_law_row"]:AM).Nodup by decide +kernel))) (λ_ _ _ _=>xQ) (λ_ _ _ _=>(wE zp <| yM T.q14 G14 O (za (uY yk uU (kb 1) (kb 0) (λ_ _=>rfl)) (za (uY yk uU (kb 1) (JE.bo (zag yv zaY (kb 0) (JE.bo zj))) (λ_ _=>rfl)) zf))))))
   (zc (wS zr <| zD (i:=4) zI.nd (wE zp <| yM T.q1 G1 O (za (kv 0) (za (z6 yu uI (by rfl) T.b_len bf (zh (kb 3) zk)) zf))))
   (zc (wS zr <| zD (i:=5) zI.nd (wE zp <| yM T.q1 G1 O (za (kv 0) (za zj zf))))
   (zc (wS zH <| yH (wT zo <| zJ uv ze9 (kb 5) (JE.bo zj) (zx _)) (zi (wS yt <| xC (i:=3) zI.nd (zag zjv zm7 (JE.bo (wE zaR <| zhh (kb 3) ui (wO xa <| uj (kb 4)))) (JE.bo (wE zaR <| zhh (kb 3) (wO xa <| uj (JE.bo (zag yv zaY (kb 4) (JE.bo zj)))) ui))))) zG)
   (zc (wS zH <| yH (wT zo <| zJ uv ze9 (kb 5) (JE.bo zj) (zx _)) (zi (wS zjf <| zmB 3 (kb 4) (wE zp <| yM T.q14 G14 O (za (uY yk uU (kb 2) (JE.bo (zag yv zaY (kb 4) (JE.bo zj))) (λ_ _=>rfl)) (za (uY yk uU (kb 2) (kb 4) (λ_ _=>rfl)) zf))))) zG)
   (zc (wS zH <| yH (wT zo <| zJ uv ze9 (kb 5) (JE.bo zj) (zx _)) (zi (wS zjc <| zmA 3 (kv 4) (wE zp <| yM T.q12 G12 O (za (kv 0) (za (kv 1) (za zj zf)))))) zG)
   (zi (zX (ym zW xW (by rfl) T.b_tuple bq (zh (kb 3) zk)))))))))))),λws n R hF=>?_⟩
 obtain⟨p,rm,rfl,hP,hn,hR,hp,r⟩:=hF;left;show zc4.i hR hp λsts hN B I=>?_;left;show dr hP λc c0 c1=>?_;have h2:=zjH hR.ne λn hn=>(hR.box n hn).1;left;refine' zqF (λsts:AF=>sts.Nodup/\(∀st∈sts,StOk rm st)/\(sts.length:Int)=zL rm) _ (λzC=>?_) ?_;rotate_left;show xS (λ_=>?_) (λ_=>?_);left;rw[<- List.map_reverse];have q:sts.reverse.Nodup/\(∀st∈sts.reverse,StOk rm st)/\(sts.reverse.length:Int)=zL rm:=⟨(du sts).nodup_iff.mpr hN,λst as=>B st (cy.mp as),by rw[List.length_reverse];exact I⟩;generalize sts.reverse=s2 at q ⊢;exact zC s2 q;left;exact zC sts ⟨hN,B,I⟩;rintro sts ⟨hN,B,I⟩;left;have a3:sts.length<=256:=by lia
 have a4:2<=sts.length:=by lia
 rw[ab];show⟨⟨by lia,by lia⟩,?_⟩;have e1:((sts.length:Int) - 1).toNat=sts.length - 1:=by lia
 rw[e1,xg];show zf5 (List.range (sts.length - 1)) (λk:Nat=>W.d (.int (k:Int))) rfl (by rw[aB];exact aA (by lia:_<=256) (by ext)) (λi U n' acc=>n'=n+1/\i<=sts.length - 1/\∃ (v:Option W) (bk:AW),U=[v,some (.d (x8 sts))]/\acc=bk.map xt/\uJ rm bk/\bk.length=i) ⟨rfl,aK _,none,[],rfl,rfl,by intro x Y;simp at Y,rfl⟩ ?_ ?_;rintro i k U n' acc hk ⟨rfl,hi,v,bk,rfl,rfl,Z,ac⟩ C hC;obtain⟨ad,ag⟩:=ah.mp hk;rw[aB] at ad;rw[cQ] at ag;subst ag;left;show zbl (zcB (by lia)) ?_;left;rw[show ((i:Int)+1)=((i+1:Nat):Int) from rfl];show zbl (zcB (by lia)) ?_;left;show zd7.i hR (B _ (xy (by lia))) (B _ (xy (by lia))) (zcP hN (by lia)) λx Y _=>?_;exact hC ⟨rfl,ad,_,bk++[x],rfl,by rw[aD];rfl,Z.app (λy hy=>by rw[ao.mp hy];exact Y),by rw[ak,ac];rfl⟩;rintro U n' acc ⟨rfl,hi,v,bk,rfl,rfl,Z,ac⟩;rw[aB] at ac;left;rw[ab];show dr hP λal a0 a1=>?_;left;show dr hP λJ w0 w1=>?_;have an:J=0\/J=1\/J=2\/J=3:=by lia
 obtain⟨j,rfl⟩:∃j:Nat,al=(j:Int):=⟨al.toNat,by lia⟩;left;rcases an with rfl | rfl | rfl | rfl;walk_at "ct";rw[xm,xm];have c1:=xM bk none (some (j:Int));have c2:=xM bk (some ((j:Int)+1)) none;show⟨by rw[ab,ab];exact aA (by lia:_<=1000) (by ext),?_⟩;rw[<- aD];left;walk_at "cf";walk_at "cf";exact r _ _ ((Z.cut _ _).app (Z.cut _ _)) (by rw[ak];lia) (by lia);walk_at "cf";walk_at "ct";rw[show ((j:Int)+1)=((j+1:Nat):Int) from rfl];show zbl (zcB (by lia)) ?_;left;show zbl (zcB (by lia)) ?_;left;show zd7.i hR (B _ (xy (by lia))) (B _ (xy (by lia))) (Ne.symm (zcP hN (by lia))) λx Y _=>?_;left;show⟨⟨by lia,by rw[ab];lia⟩,?_⟩;rw[aO,<- List.map_set];left;walk_at "cf";exact r _ _ (Z.set Y j) (by rw[bM];lia) (by lia);walk_at "cf";walk_at "cf";walk_at "ct";show zcx.i hP hR λx m Y hm=>?_;left;show⟨⟨by lia,by rw[ab];lia,by rw[ab];exact aX (by lia:_<=1000) (by ext)⟩,?_⟩;rw[aO,znH];left;exact r _ _ (Z.ins Y j) (by rw[znG];lia) (by lia);walk_at "cf";walk_at "cf";walk_at "cf";exact r _ _ Z (by lia) (by lia)
def zeR{rm B:AG}(I:∀q∈B,0<=q/\q<rm.length)(J:B.length<=100)(h:Q (.d (lsD (B.map (zR rm)))) m):zdb (eN 0) zsF (zmD zp2 (zkx 1) (zkx 0)) [none,some (.d (stD rm))] Q ((B.map Dt.int).map W.d) m:=by
 show zei B (λq=>W.d (.int q)) (by rw[aJ];rfl) (λρ=>∃v,ρ=[v,some (.d (stD rm))]) (λq=>.int (zR rm q)) (aA J (by ext)) ⟨_,rfl⟩ ?_ ?_;rintro q O U ⟨v,rfl⟩ C Y;have F:=I q O;left;show onA F.1 F.2 ?_;exact Y ⟨_,rfl⟩;have:B.map (λq=>Dt.int (zR rm q))=(B.map (zR rm)).map Dt.int:=by rw[aJ];rfl
 rw[this];exact h
def zbW (T:Txt K mg t):FnOk P w K mg base CX0 3 t.f17 t.d17 lc (spV 2 false (zcv K)):=by
 have G1:=zF (P:=P) (w:=w) (base:=base) T;have G7:=zat (P:=P) (w:=w) (base:=base) T;have G8:=zeI (P:=P) (w:=w) (base:=base) T;have G13:=zbX (P:=P) (w:=w) (base:=base) T
 show Fun.okW (k:=2) (fr:=false) [3] 8 T.q17.F zw rfl (by ext) rfl λcv A be s H E Pn hr=>⟨_,(zc (wS zr <| zD (i:=2) zw.nd (wE zp <| yM T.q13 G13 hr (za (kv 0) (za (wE zbT <| zey T.b_list T.b_range (zh (JE.bo (z6 yu uI (by rfl) T.b_len bf (zh (kb 1) zk))) zk)) zf))))
   (zc (wS yt <| xC (i:=3) zw.nd (uT zf))
   (zc (xB bn rfl (wI yD <| z7 rfl T.b_range (zh (JE.bo (z6 yu uI (by rfl) T.b_len bf (zh (kb 2) zk))) zk)) (wG yf <| zt (i:=4) zw.nd) (zc (wS zr <| zD (i:=5) zw.nd (uY yk uU (kb 2) (kb 4) (λ_ _=>rfl)))
   (zc (wS zr <| zD (i:=6) zw.nd (z6 zkN zpw (by rfl) T.b_sorted cw (zh (JE.bo (wE zaR <| zhh (JE.bo (wE zp <| yM T.q13 G13 hr (za (kv 0) (za (wE zaR <| zhh (kb 2) ui (wO xa <| uj (kb 4))) zf)))) ui (wO xa <| uj (JE.bo (wE zp <| yM T.q1 G1 hr (za (kv 0) (za zj zf))))))) zk)))
   (zc (wS zH <| yH (wT zo <| zJ zjw zup (JE.bo (wE zp <| yM T.q7 G7 hr (za (uh (N:=lx) (cix:=[none,some 1]) rfl (by walk_at "c") (wI zbS <| zbJ K rfl (kv 6)) (λ_ _ _ _=>(wG yf <| zt (i:=0) (show (lx:AM).Nodup by decide +kernel))) (λ_ _ _ _=>xQ) (λ_ _ _ _=>(uY yA zae (kb 1) (kb 0) (λ_ _=>rfl)))) zf))) (JE.bo zj) (zx _)) (zi (wS zr <| zD (i:=6) zw.nd (wE zaR <| zhh (kb 6) ui (wO xa <| uj (JE.bo zj))))) zG)
   (zi (xB bn rfl (wI zbS <| zbJ K rfl (wE zp <| yM T.q8 G8 hr (za (uh (N:=lx) (cix:=[none,some 1]) rfl (by walk_at "c") (wI zbS <| zbJ K rfl (kv 6)) (λ_ _ _ _=>(wG yf <| zt (i:=0) (show (lx:AM).Nodup by decide +kernel))) (λ_ _ _ _=>xQ) (λ_ _ _ _=>(uY yA zae (kb 1) (kb 0) (λ_ _=>rfl)))) zf))) (wG yf <| zt (i:=7) zw.nd) (zc (wS zr <| zD (i:=8) zw.nd (wE zp <| yM T.q13 G13 hr (za (kv 0) (za (wE zbT <| zey T.b_list T.b_range (zh (JE.bo (uY yA zae (kb 1) (kb 5) (λ_ _=>rfl))) zk)) zf))))
   (zc (wS zr <| zD (i:=9) zw.nd (ym zW xW (by rfl) T.b_tuple bq (zh (JE.bo (uh (N:=lJ) (cix:=[none,none]) rfl (by walk_at "c") (wI zlm <| znO rfl T.b_zip (za (kv 6) (za (kv 7) zf))) (λ_ _ _ _=>(wG zgk <| zgr (n:=2) K rfl rfl (wH uX <| yF (wG yf <| zt (i:=0) (show (lJ:AM).Nodup by decide +kernel)) (wH uX <| yF (wG yf <| zt (i:=1) (show (lJ:AM).Nodup by decide +kernel)) (wH zgj zdm))))) (λ_ _ _ _=>xQ) (λ_ _ _ _=>(yC (za (kv 0) (za (kv 1) zf)))))) zk)))
   (zi (wS zjb <| zmz 3 (uh (N:=lz) (cix:=[none,some 9,some 5,some 8]) rfl (by walk_at "c") (wI yD <| z7 rfl T.b_range (zh (JE.bo (zag zjy zpy (JE.bo (uY yA zae (kb 1) (kb 5) (λ_ _=>rfl))) (JE.bo zj))) zk)) (λ_ _ _ _=>(wG yf <| zt (i:=0) (show (lz:AM).Nodup by decide +kernel))) (λ_ _ _ _=>xQ) (λ_ _ _ _=>(yC (za (kv 1) (za (kv 2) (za (uY yk uU (kb 3) (JE.bo (zag yv zaY (kb 0) (JE.bo zj))) (λ_ _=>rfl)) (za (uY yk uU (kb 3) (kb 0) (λ_ _=>rfl)) zf)))))))))))))))))
   (zi (zX (ym zW xW (by rfl) T.b_tuple bq (zh (kb 3) zk))))))),λws n R hF=>?_⟩
 obtain⟨p,rm,rfl,hP,hn,hR,hp,r⟩:=hF;left;have h8:=hR.few;rw[ab];show⟨⟨by lia,by lia⟩,?_⟩;rw[aO,zeQ];show uK.i hP (by rw[ab,yG];lia) (λl bl=>?_) (by rw[ab,yG];lia);obtain⟨bs,rfl,an⟩:=zb1 bl;have bx:=an.length_eq;rw[ab,yG];rw[yG] at bx;left;rw[ab];show⟨⟨by lia,by lia⟩,?_⟩;rw[aO];show zeq (λk ρ m=>m<=n+8+50 * k/\∃ (bk:AW) (v4 v5 v6 v7 v8 v9:Option W),ρ=[some (.pen p),some (.d (stD rm)),some (.d (.lst (bs.map Dt.int))),some (.d (.lst (bk.map xt))),v4,v5,v6,v7,v8,v9]/\uJ rm bk/\bk.length<=27 * k) ⟨by lia,[],_,_,_,_,_,_,rfl,by intro x hx;simp at hx,aK _⟩ ?_ ?_
 ·rintro k ρ m hk ⟨hm,bk,v4,v5,v6,v7,v8,v9,rfl,hB,a0⟩ C B E hC _ _;left;show onA (by lia) (by lia) ?_;left;rw[zK,xm,L3.uM];show uK.i hP (by rw[ab,bg];lia) (λl2 b0=>?_) (by rw[ab,bg];lia);obtain⟨ps,rfl,a1⟩:=zb1 b0;have b1:=a1.length_eq;rw[bg] at b1;rw[ab,bg];left;show dr hP λt t0 t1=>?_;left;rw[xm];have a2:=xM ps none (some t);show⟨_,rfl,by lia,λqs a3 b2=>?_⟩;have J:=zq1 an (by lia) a1 a3 b2;have c0:=a3.length_eq;have b3:bs.getD k 0∈bs:=by rw[bj,aw hk];exact bO _
  obtain⟨ac,ad⟩:=zbD (an.mem_iff.mp b3);have a4:=xI hR.box ac ad;generalize bs.getD k 0=U at J ac ad a4;generalize c1:m+min k bs.length+1=m1;have cu:m1<=m+9:=by lia
  have ag:∀O,ParOk rm U O->∀x∈O.map (zR rm),2<=x/\x<=4:=λO h1 x hx=>by obtain⟨q,hq,rfl⟩:=aF.mp hx;have:=h1.ok q hq;exact xI hR.box this.1 this.2.1
  left;show zeR (λq hq=>⟨(J.ok q hq).1,(J.ok q hq).2.1⟩) (by lia) ?_;left;show zcy.i (.inr rfl) (ag _ J) ?_;left;refine' zqF (λO:AG=>ParOk rm U O/\O.length<=8/\zL (O.map (zR rm))<=9) _ (λzC=>?_) ?_;rotate_left;show xS (λh9=>?_) (λh9=>?_);left;rw[xm];have I:=J.cut none (some 1);have al:(xZ qs none (some 1)).length<=1:=by rw[show (1:Int)=((1:Nat):Int) from rfl,L3.uM,bg];lia
  generalize xZ qs none (some 1)=O at I al;show zC O ⟨I,by lia,?_⟩
  match O,al,I with
  | [],_,_=>change (1:Int)<=9;decide
  | [q],_,hq=>
   have:=hq.ok q (by simp);have:=xI hR.box this.1 this.2.1;change 1 * zR rm q<=9;lia
  left;exact zC qs ⟨J,by lia,by lia⟩;rintro O ⟨I,c2,c3⟩;have a5:=ag O I;left;show zeR (λq hq=>⟨(I.ok q hq).1,(I.ok q hq).2.1⟩) (by lia) ?_;left;show zfV.i (.inr rfl) a5 (by rw[ab];lia) ?_;left;have a2:=xL (O.map (zR rm)) λx hx=>by have:=a5 x hx;lia
  have a7:=zna (O.map (zR rm));generalize uL ((O.map (zR rm)).map zE)=cs at a2 a7;show yN cs (λst=>W.d (stD st)) (by rw[aJ];rfl) (λi ρ m'=>m'<=m1+4 * i/\i<=cs.length/\∃ (Y:AW) (v7 v8 v9:Option W),ρ=[some (.pen p),some (.d (stD rm)),some (.d (.lst (bs.map Dt.int))),some (.d (.lst (Y.map xt))),some (.d (.int (k:Int))),some (.d (.int U)),some (.d (.lst (O.map Dt.int))),v7,v8,v9]/\uJ rm Y/\Y.length<=27 * k+3 * i) ⟨by lia,aK _,bk,_,_,_,rfl,hB,by lia⟩ ?_ ?_;rintro i st ρ m' ba ⟨b4,ca,Y,v7,v8,v9,rfl,ap,bb⟩ C B E hC _ _;have hi:=(ah.mp ba).1;have bc:=a7 st (aG ba);have cc:=bc.len;rw[ab] at cc;obtain⟨hG,cd⟩:=znB I bc;obtain⟨w,hw⟩:∃w:Nat,zR rm U=(w:Int):=⟨(zR rm U).toNat,by lia⟩;have c4:2<=w/\w<=4:=by lia
  left;show onA ac ad ?_;left;rw[hw];show⟨⟨by lia,by lia⟩,?_⟩;rw[aO,zeQ];show uK.i hP (by rw[ab,yG];lia) (λl3 ch=>?_) (by rw[ab,yG];lia);obtain⟨Z,rfl,as⟩:=zb1 ch;have ci:=as.length_eq;rw[yG] at ci;rw[show (List.map Dt.int (zdi w)).length=w by rw[ab,yG]];left;show⟨by rw[ab,ab];lia,?_⟩;rw[zg1];show zei (O.zip st) (λq=>W.d (xo q)) rfl (λρ=>∃a b,ρ=[a,b]) xo (by rw[List.length_zip];exact aA (by lia:_<=8) (by ext)) ⟨_,_,rfl⟩ ?_ ?_;rintro q hq cl ⟨a,b,rfl⟩ C hC;exact hC ⟨_,_,rfl⟩;left;show onA ac ad ?_;left;rw[hw];show⟨⟨by lia,by lia⟩,?_⟩;have e3:((w:Int) - 1).toNat=w - 1:=by lia
  rw[e3,xg];have cn:Z.Nodup:=as.nodup_iff.mpr (zbE _)
  have bd:∀j:Nat,j<w->0<=Z.getD j 0/\Z.getD j 0<zR rm U:=λj hj=>by
   have h1:Z.getD j 0∈Z:=by rw[bj,aw (by lia)];exact bO _
   have:=zbD (as.mem_iff.mp h1);lia
  show zei (List.range (w - 1)) (λj:Nat=>W.d (.int (j:Int))) rfl (λρ=>∃v,ρ=[v,some (.d (.tup ((O.zip st).map xo))),some (.d (.int U)),some (.d (.lst (Z.map Dt.int)))]) (λj=>xt ⟨O.zip st,U,Z.getD (j+1) 0,Z.getD j 0⟩) (by rw[aB];exact aA (by lia:_<=4) (by ext)) ⟨_,rfl⟩ ?_ ?_;rintro j hj cl ⟨v,rfl⟩ C hC;have co:=aN.mp hj;left;rw[show ((j:Int)+1)=((j+1:Nat):Int) from rfl];show onA (by lia) (by lia) ?_;left;show onA (by lia) (by lia) ?_;rw[zK,zK];exact hC ⟨_,rfl⟩;left;show⟨by rw[ab,ab,aB];exact aA (by lia:_<=1000) (by ext),hC ⟨by lia,hi,Y++(List.range (w - 1)).map (λj=>⟨O.zip st,U,Z.getD (j+1) 0,Z.getD j 0⟩),_,_,_,by rw[aD,aJ];rfl,ap.app λx hx=>?_,by rw[ak,ab,aB];lia⟩⟩;obtain⟨j,hj,rfl⟩:=aF.mp hx;have co:=aN.mp hj;have h1:=bd j (by lia);have h2:=bd (j+1) (by lia);have cp:Z.getD (j+1) 0≠Z.getD j 0:=by have:=bz.mp cn j (j+1) (by lia) (by lia) (by lia);intro z;apply this;simpa [show j<Z.length by lia,show j+1<Z.length by lia] using z.symm
  exact⟨hG,ac,ad,cd,h2.1,h2.2,h1.1,h1.2,cp⟩;rintro ρ m' ⟨b4,ca,Y,v7,v8,v9,rfl,ap,bb⟩;exact hC ⟨by lia,Y,_,_,_,_,_,_,rfl,ap,by lia⟩
 rintro ρ m ⟨hm,bk,v4,v5,v6,v7,v8,v9,rfl,hB,a0⟩;left;exact r bk m hB (by lia) (by lia)
def zfW (K:AH):FV:=λPn q n R=>∃ (p:Addr) (rm:AG),q=[.pen p,.d (stD rm)]/\(xK K Pn p)/\(n+7000<=1000000)/\(RoomOk rm)/\(zL rm<=256)/\(∀bk m,uJ rm bk->bk.length<=1100->m<=n+5000->R (.d (xk bk)) m)
def zfW.i{rm:AG}(q:xK K Pn p)(B:RoomOk rm)(F:zL rm<=256)(h:∀bk m,uJ rm bk->bk.length<=1100->m<=n+5000->R (.d (xk bk)) m)(hn:n+7000<=1000000:=by lia):zfW K Pn [.pen p,.d (stD rm)] n R:=⟨p,rm,rfl,q,hn,B,F,h⟩
def zdz (T:Txt K mg t):FnOk P w K mg base CX0 5 t.f18 t.d18 lc (spV 2 false (zfW K)):=by
 have G1:=zF (P:=P) (w:=w) (base:=base) T;have G12:=zau (P:=P) (w:=w) (base:=base) T;have G16:=zaT (P:=P) (w:=w) (base:=base) T;have G17:=zbW (P:=P) (w:=w) (base:=base) T
 show Fun.okW (k:=4) (fr:=false) [3] 2 T.q18.F xh rfl (by ext) rfl λag A ac s H E Pn B=>⟨_,(zc (wS zr <| zD (i:=2) xh.nd (wE zp <| yM T.q1 G1 B (za (kv 0) (za zj zf))))
   (zc (wS zH <| yH (wT zo <| zJ uv ze9 (kb 2) (JE.bo zj) (zx _)) (zi (zX (yC zf))) zG)
   (zc (wS zH <| yH (wT zo <| zJ uv ze9 (kb 2) (JE.bo zj) (zx _)) (zi (zX (wE zp <| yM T.q16 G16 B (za (kv 0) (za (kv 1) zf))))) zG)
   (zc (wS zH <| yH (wT zo <| zJ zjw zup (kb 2) (JE.bo zj) (zx _)) (zc (wS yt <| xC (i:=3) xh.nd (ym zfg zsd (by rfl) T.b_list cK (zh (JE.bo (wE zp <| yM T.q17 G17 B (za (kv 0) (za (kv 1) zf)))) zk)))
   (zc (wS zH <| yH (JW.t (wW zaP <| zcJ (wT zo <| zJ uv ze9 (kb 2) (JE.bo zj) (zx _)) (zan (.inl rfl) (wT zo <| zJ zjw zup (JE.bo (z6 yu uI (by rfl) T.b_len bf (zh (kb 3) zk))) (JE.bo zj) (zx _))))) (zi (wS zjf <| zmB 3 (JE.bo (wE zp <| yM T.q1 G1 B (za (kv 0) (za (z6 yu uI (by rfl) T.b_len bf (zh (kb 3) zk)) zf)))) (wE zp <| yM T.q12 G12 B (za (kv 0) (za (kv 1) (za zj zf)))))) zG)
   (zi (zX (ym zW xW (by rfl) T.b_tuple bq (zh (kb 3) zk)))))) zG)
   (zc (wS yt <| ziR (i:=3) (zdn (ix:=3) xh.nd rfl rfl (N:=ly) (cix:=[none,some 0,some 1,some 2]) rfl (by walk_at "c") (wI yD <| z7 rfl T.b_range (zh (JE.bo (zag yv zaY (JE.bo zj) (JE.bo (wE zp <| yM T.q1 G1 B (za (kv 0) (za zj zf)))))) zk)) (λ_ _ _ _=>(wG yf <| zt (i:=0) (show (ly:AM).Nodup by decide +kernel))) (λ_ _ _ _=>xQ) (λ_ _ _ _=>(wE zp <| yM T.q12 G12 B (za (kv 1) (za (kv 2) (za (kv 3) zf)))))))
   (zi (zX (ym zW xW (by rfl) T.b_tuple bq (zh (JE.bo (zag zjv zm7 (kb 3) (JE.bo (wE zaR <| zhh (kb 3) ui (wO xa <| uj (JE.bo (wE zp <| yM T.q1 G1 B (za (kv 0) (za zj zf))))))))) zk))))))))),λws n R hF=>?_⟩
 obtain⟨p,rm,rfl,I,hn,hR,hp,r⟩:=hF;left;show dr I λad w0 w1=>?_;left;show xS (λh6=>?_) (λh6=>?_);left;exact r [] _ (by intro x J;simp at J) (by ext) (by lia);left;show xS (λh5=>?_) (λh5=>?_);left;exact zcv.i I hR hp λbk m q hl hm=>r bk m q (by lia) (by lia);left;show xS (λh2=>?_) (λh2=>?_);left;show zcv.i I hR hp λbk m q hl hm=>?_;left;show xS (λh4=>?_) (λh4=>?_);left;rw[ab];show xS (λhz=>?_) (λhz=>?_);left;show zcx.i I hR λx m2 J al=>?_;left;rw[ab];show dr I λa a0 a1=>?_;left;show⟨⟨a0,a1⟩,?_⟩;rw[<- List.map_set];left;exact r _ _ (q.set J _) (by rw[bM];lia) (by lia);left;exact r bk m q (by lia) (by lia);left;exact r bk m q (by lia) (by lia);left;show dr I λt t0 t1=>?_;left;show⟨⟨by lia,by lia⟩,?_⟩;rw[xg];show zf5 (List.range (1+t).toNat) (λk:Nat=>W.d (.int (k:Int))) rfl (by rw[aB];exact aA (by lia:_<=14) (by ext)) (λi O n' acc=>n'<=n+2+30 * i/\i<=(1+t).toNat/\∃ (v:Option W) (bk:AW),O=[v,some (.pen p),some (.d (stD rm)),some (.d (.int ad))]/\acc=bk.map xt/\uJ rm bk/\bk.length=i) ⟨by lia,aK _,none,[],rfl,rfl,by intro x J;simp at J,rfl⟩ ?_ ?_;rintro i k O n' acc hk ⟨Y,hi,v,bk,rfl,rfl,q,U⟩ C hC;have Z:=(ah.mp hk).1;rw[aB] at Z;left;show zcx.i I hR λx m J hm=>?_;exact hC ⟨by lia,Z,_,bk++[x],rfl,by rw[aD];rfl,q.app (λy hy=>by rw[ao.mp hy];exact J),by rw[ak,U];rfl⟩;rintro O n' acc ⟨Y,hi,v,bk,rfl,rfl,q,U⟩;rw[aB] at U Y;left;show dr I λb b0 b1=>?_;left;rw[xm];have hc:=xM bk none (some b);show⟨by rw[ab,ab];exact aA (by lia:_<=100) (by ext),?_⟩;rw[<- aD];left;exact r _ _ (q.app (q.cut _ _)) (by rw[ak];lia) (by lia)
def zmc{st:AG}{g:List (Int×Int)}(I:∀q∈g,0<=q.1/\q.1<st.length)(J:g.length<=100)(h:∀L:AG,((Dt.lst (L.map Dt.int) = .lst [])↔xD st g=true)->Q (.d (.lst (L.map Dt.int))) n):zdb (eTp 2 (eCn (eN 0) (eCn (eN 1) eNl))) (zsw (zmD dNe (zmD zp2 (zkx 2) (zkx 0)) (zkx 1))) (zkx 0) [none,none,some (.d (stD st))] Q ((g.map xo).map W.d) n:=by
 show zc9 g (λq=>.d (xo q)) (by rw[aJ];rfl) (λρ=>∃a b,ρ=[a,b,some (.d (stD st))]) (λq=>!decide (zR st q.1=q.2)) (λq=>.int q.1) (aA J (by ext)) ⟨_,_,rfl⟩ ?_ ?_;rintro q B O ⟨a,b,rfl⟩ C U Y;have F:=I q B;left;show onA F.1 F.2 ?_;left;show zjt (λh=>?_) (λh=>?_);exact U (by rw[aZ h];rfl) ⟨_,_,rfl⟩;exact Y (by rw[a9 h];rfl) ⟨_,_,rfl⟩;have Z:(g.filter λq=>!decide (zR st q.1=q.2)).map (λq=>Dt.int q.1)=((g.filter λq=>!decide (zR st q.1=q.2)).map (·.1)).map Dt.int:=by rw[aJ];rfl
 rw[Z];show h _ ?_;rw[xD,dD];constructor;intro z q B;apply bU;intro hn;have:q∈g.filter (λq=>!decide (zR st q.1=q.2)):=cm.mpr ⟨B,by simpa using hn⟩;have z':=eZ.mp (eZ.mp (Dt.lst.inj z));rw[z'] at this;simp at this;intro z;have:g.filter (λq=>!decide (zR st q.1=q.2))=[]:=List.filter_eq_nil_iff.mpr λq B=>by simpa using z q B
 rw[this];rfl
def zoG{kvs:List (AG×Dt)}{k:AG}{x:AG}:x∈(zgO kvs k d).map (·.1)↔x=k\/x∈kvs.map (·.1):=by
 unfold zgO;by_cases h:(kvs.any λkv=>decide (kv.1=k))=true
 ·rw[if_pos h];have e:(kvs.map λkv=>if kv.1=k then (kv.1,d) else kv).map (·.1)=kvs.map (·.1):=by rw[aJ];exact bK λkv _=>by by_cases z:kv.1=k <;> simp[z]
  rw[e];show⟨.inr,λz=>z.elim (λz=>?_) id⟩;obtain⟨q,B,F⟩:=List.any_eq_true.mp h;rw[z,<- bD F];exact aF.mpr ⟨q,B,rfl⟩
 rw[if_neg h,aD,au];exact⟨λz=>z.elim .inr λz=>.inl (by simpa using z),λz=>z.elim (λz=>.inr (by simp[z])) .inl⟩
def zc5  : FV:=λPn q n R=>∃ (rm:AG) (bk:AW) (st hs:AG),q=[.d (xk bk),.d (stD st),.d (stD hs)]/\(RoomOk rm)/\(uJ rm bk)/\(bk.length<=10000)/\(st.length=rm.length)/\(R (.d (x8 (zaf bk st hs))) n)
def zc5.i{rm:AG}{st hs:AG}(F:RoomOk rm)(I:uJ rm bk)(q:bk.length<=10000)(B:st.length=rm.length)(h:R (.d (x8 (zaf bk st hs))) n)  : zc5 Pn [.d (xk bk),.d (stD st),.d (stD hs)] n R:=⟨rm,bk,st,hs,rfl,F,I,q,B,h⟩
def zcr (T:Txt K mg t):FnOk P w K mg base CX0 1 t.f19 t.d19 lj (spV 3 true zc5):=by
 show Fun.okW (k:=0) (fr:=true) [3] 5 T.q19.F yn rfl (by ext) rfl λas A ag s H E Pn hr=>⟨_,(zc (wS yt <| xC (i:=3) yn.nd znM)
   (zc (xB bn rfl (wI zaQ <| zcH K rfl (kv 0)) (wG zgk <| zgr (n:=4) K rfl rfl (wH uX <| yF (wG yf <| zt (i:=4) yn.nd) (wH uX <| yF (wG yf <| zt (i:=5) yn.nd) (wH uX <| yF (wG yf <| zt (i:=6) yn.nd) (wH uX <| yF (wG yf <| zt (i:=7) yn.nd) (wH zgj zdm)))))) (zi (wS zH <| yH (JW.t (wW zaP <| zcJ (wT zo <| zJ za4 zmb (kb 5) (kb 2) (by with_unfolding_all rfl)) (zan (.inl rfl) (wT zo <| zJ uv ze9 (JE.bo (uY yA zae (kb 1) (kb 5) (λ_ _=>rfl))) (kb 7) (zx _))))) (zi (wS zH <| yH (wT zo <| zJ (zmH hr.units) zsa (JE.bo (uh (N:=lr) (cix:=[none,none,some 1]) rfl (by walk_at "c") (wI zaQ <| zcH K rfl (kv 4)) (λ_ _ _ _=>(wG zgk <| zgr (n:=2) K rfl rfl (wH uX <| yF (wG yf <| zt (i:=0) (show (lr:AM).Nodup by decide +kernel)) (wH uX <| yF (wG yf <| zt (i:=1) (show (lr:AM).Nodup by decide +kernel)) (wH zgj zdm))))) (λ_ _ _ _=>(zbK (wT zo <| zJ zht zse (JE.bo (uY yA zae (kb 2) (kb 0) (λ_ _=>rfl))) (kb 1) (zx _)))) (λ_ _ _ _=>(kv 0)))) (JE.bo (uT zf)) (zx _)) (zi (wS zbR <| zdo 3 (zcj hr) (JE.bo (zag zab ze3 (JE.bo (zag zab ze3 (JE.bo (wE zjg <| zqs (kb 1) ui (wO xa <| uj (kb 5)))) (JE.bo (yC (za (kv 6) zf))))) (JE.bo (wE zjg <| zqs (kb 1) (wO xa <| uj (JE.bo (zag yv zaY (kb 5) (JE.bo zj)))) ui)))) zlc)) zG)) zG)))
   (zi (zX (z6 zh8 zkm (by rfl) T.b_sorted cw (zh (JE.bo (ym (zf7 rfl) zkl (by rfl) T.b_list cK (zh (kb 3) zk))) zk)))))),λws n R hF=>?_⟩
 obtain⟨rm,bk,st,hs,rfl,hR,hB,a0,ac,r⟩:=hF;left;have h8:=hR.few;show yN bk (λx=>W.d (xt x)) (by rw[aJ];rfl) (λi ρ m=>m=n/\∃ (kvs:List (AG×Dt)) (Y Z v6 v7:Option W),ρ=[some (.d (xk bk)),some (.d (stD st)),some (.d (stD hs)),some (.dt kvs),Y,Z,v6,v7]/\(∀z,z∈kvs.map (·.1)↔z∈xz (bk.take i) st hs)/\kvs.length<=i) ⟨rfl,[],_,_,_,_,rfl,by simp[xz],aK _⟩ ?_ ?_;rintro i x ρ m hx ⟨rfl,kvs,Y,Z,v6,v7,rfl,I,al⟩ C B E hC _ _;have hW:=hB x (aG hx);have hi:=(ah.mp hx).1;have ad:=hW.b0;have a1:=hW.b1
 have U:(zaO st x&&!hs.contains x.b)=false->∀Y Z v6 v7,C [some (.d (xk bk)),some (.d (stD st)),some (.d (stD hs)),some (.dt kvs),Y,Z,v6,v7] m:=λhg Y Z v6 v7=>by
  have e:xz (bk.take (i+1)) st hs=xz (bk.take i) st hs:=by rw[zn hx,zcG,hg];simp
  exact hC ⟨rfl,kvs,_,_,_,_,rfl,by rw[e];exact I,by lia⟩
 have an:∀q∈x.g,0<=q.1/\q.1<st.length:=λq hq=>by have:=hW.giv.ok q hq;rw[ac];exact⟨this.1,this.2.1⟩
 left;show⟨hs,rfl,?_⟩;left;show zgF (λhh=>?_) (λhh=>⟨U (by rw[hh];simp) _ _ _ _⟩);left;show onA ad (by lia) ?_;left;show xS (λhw=>?_) (λhw=>⟨U ?_ _ _ _ _⟩);left;show zmc an (znA hW.giv h8) λL hL=>?_;left;show⟨uN,uN (ns:=[]),λb hb=>?_⟩;left;show zqN (λJ=>?_) (λJ=>⟨U ?_ _ _ _ _⟩);have J:=hL.mp (hb.mp J);left;have hg:(zaO st x&&!hs.contains x.b)=true:=by unfold zaO;rw[a9 hw,J,hh];rfl
 have e:xz (bk.take (i+1)) st hs=xz (bk.take i) st hs++[chg st x.b x.r]:=by rw[zn hx,zcG,if_pos hg]
 show⟨zkI (by lia),?_⟩;left;show⟨zkJ (by lia),?_⟩;rw[zng ad (by lia)];show⟨_,rfl,aX (by lia:_<=10000) (by ext),hC ⟨rfl,_,_,_,_,_,rfl,λz=>?_,?_⟩⟩;rw[e,zoG,I,au,ao];exact Or.comm;have:=zoF kvs (chg st x.b x.r) (.bl true);lia
 have J:xD st x.g=false:=by
  cases hz:xD st x.g with
  | false=>rfl
  | true=>rw[hb.mpr (hL.mpr hz)] at J;cases J
 unfold zaO;rw[J];simp;unfold zaO;rw[aZ hw];simp;rintro ρ m ⟨rfl,kvs,Y,Z,v6,v7,rfl,I,al⟩;rw[bG] at I;left;intro nd;left;have O:∀y∈xz bk st hs,y.length=rm.length:=λz hz=>zet hB ac z hz;show⟨kvs.map (·.1),rm.length,rfl,hR.pos,λz hz=>O z ((I z).mp hz),nd,λap hp hu=>?_⟩;rw[zby O hu λz=>(hp.mem_iff).trans (I z)];exact r
structure Kw (g:AG->AF)(rm one:AG)(keys wt:AF)(Z:AG->Prop):Prop where
 nd:keys.Nodup
 ok:∀s∈keys,StOk rm s
 rc:∀s∈keys,Rch g one s
 on:one∈keys
 wq:∀s∈wt,s∈keys
 cl:∀s∈keys,s∈wt\/Z s\/∀u∈g s,u∈keys
def Kw.snoc {g:AG->AF}{rm B u h:AG}{q F:AF}{Z:AG->Prop}(k:Kw g rm B q F Z)(I:h∈q)(J:u∈g h)(hn:u∉q)(O:StOk rm u):Kw g rm B (q++[u]) (F++[u]) Z:=by
 show⟨?_,λs hs=>?_,λs hs=>?_,aQ _ k.on,λs hs=>?_,λs hs=>?_⟩;rw[dw];show⟨k.nd,by simp,λa U b Y e=>hn ?_⟩;rw[<- ao.mp Y,<- e];exact U;rcases au.mp hs with z | z;exact k.ok s z;rw[ao.mp z];exact O;rcases au.mp hs with z | z;exact k.rc s z;rw[ao.mp z];exact (k.rc h I).step J;rcases au.mp hs with z | z;exact aQ _ (k.wq s z);exact aE _ z;rcases au.mp hs with z | z;rcases k.cl s z with y | y | y;exact .inl (aQ _ y);exact .inr (.inl y);exact .inr (.inr λv hv=>aQ _ (y v hv));exact .inl (aE _ z)
def zd8  : FV:=λPn B n R=>∃ (rm:AG) (bk:AW) (q hs:AG),B=[.d (xk bk),.d (stD q),.d (stD hs)]/\(RoomOk rm)/\(uJ rm bk)/\(bk.length<=10000)/\(zL rm<=256)/\(StOk rm q)/\(∀sts:AF,Up' sts->(∀s,s∈sts↔Rch (λs=>zaf bk s hs) q s)->R (.d (x8 sts)) n)
def zd8.i{rm:AG}{q hs:AG}(F:RoomOk rm)(I:uJ rm bk)(B:bk.length<=10000)(J:zL rm<=256)(h1:StOk rm q)(h:∀sts:AF,Up' sts->(∀s,s∈sts↔Rch (λs=>zaf bk s hs) q s)->R (.d (x8 sts)) n)  : zd8 Pn [.d (xk bk),.d (stD q),.d (stD hs)] n R:=⟨rm,bk,q,hs,rfl,F,I,B,J,h1,h⟩
def zbk (T:Txt K mg t):FnOk P w K mg base CX0 2 t.f20 t.d20 ln (spV 3 true zd8):=by
 have G19:=zcr (P:=P) (w:=w) (base:=base) T
 show Fun.okW (k:=1) (fr:=true) [3,4] 3 T.q20.F yz rfl (by ext) rfl λbs A a3 s H E Pn hr=>⟨_,(zc (wS yt <| xC (i:=3) yz.nd (ziP (zcj hr) (kv 1) zlc))
   (zc (wS yt <| xC (i:=4) yz.nd (uT (za (kv 1) zf)))
   (zc (zgt bn (wT zo <| zJ (zjx hr.units) zpv (kb 4) (JE.bo (uT zf)) (zx _)) (zi (znP 4 rfl bn rfl T.q19 G19 hr (kv 0) (kv 2) (wG yf <| zt (i:=5) yz.nd) (zi (wS zH <| yH (ziU (zcj hr) (kb 5) (kb 3)) (zc (wS zbR <| zdo 3 (zcj hr) (kb 5) zlc)
   (zi (wS zdq <| zgs 4 (kv 5)))) zG)))))
   (zi (zX (z6 zh8 zkm (by rfl) T.b_sorted cw (zh (JE.bo (ym (zf7 rfl) zkl (by rfl) T.b_list cK (zh (kb 3) zk))) zk))))))),λws n R hF=>?_⟩
 obtain⟨rm,bk,O,hs,rfl,hR,hB,a4,hp,h1,r⟩:=hF;left;show⟨O,rfl,?_⟩;left;have a5:Kw (λs=>zaf bk s hs) rm O [O] [O] λ_=>False:=⟨by simp,λs z=>by rw[ao.mp z];exact h1,λs z=>by rw[ao.mp z];exact Rch.self,ao.mpr rfl,λs z=>z,λs z=>.inl z⟩;show zm8 (λk ρ n'=>n'=n/\∃ (kvs:List (AG×Dt)) (wt:AF) (v5:Option W),k=2 * (256 - kvs.length)+wt.length/\k<=600/\ρ=[some (.d (xk bk)),some (.d (stD O)),some (.d (stD hs)),some (.dt kvs),some (.d (x8 wt)),v5]/\Kw (λs=>zaf bk s hs) rm O (kvs.map λq:AG×Dt=>q.1) wt λ_=>False) _ ⟨rfl,[(O,.bl true)],[O],_,rfl,by change 2 * (256 - 1)+1<=600;lia,rfl,a5⟩ ?_;rintro k ρ n' ⟨rfl,kvs,wt,v5,rfl,be,rfl,Z⟩ C B X hC a7 hX;have ba:=zaX hR hp Z.nd Z.ok;rw[ab] at ba;left;show⟨ziY wt,ziY [],λb hb=>?_⟩;left;show zgF (λhn=>?_) (λhn=>?_)
 obtain⟨ac,h,rfl⟩:∃ac h,wt=ac++[h]:=by
  rcases eD wt with z | ⟨a,b',z⟩;rw[hb.mpr (by rw[z];rfl)] at hn;cases hn;exact⟨a,b',by rw[z,List.concat_eq_append]⟩
 have hh:=Z.wq h (aE _ (ao.mpr rfl));have an:=Z.ok h hh;left;show⟨ac.map stD,stD h,by rw[aD];rfl,?_⟩;left;show zc5.i hR hB a4 an.len ?_;left
 have k0:Kw (λs=>zaf bk s hs) rm O (kvs.map (·.1)) ac (· = h):=⟨Z.nd,Z.ok,Z.rc,Z.on,λs z=>Z.wq s (aQ _ z),λs z=>by
  rcases Z.cl s z with y | y | y;rcases au.mp y with y | y;exact .inl y;exact .inr (.inl (ao.mp y));exact y.elim;exact .inr (.inr y)⟩
 show yN (zaf bk h hs) (λs=>W.d (stD s)) (by rw[aJ];rfl) (λj ρ m'=>m'=n'/\∃ (I:List (AG×Dt)) (U:AF) (v5:Option W),ρ=[some (.d (xk bk)),some (.d (stD O)),some (.d (stD hs)),some (.dt I),some (.d (x8 U)),v5]/\Kw (λs=>zaf bk s hs) rm O (I.map (·.1)) U (· = h)/\h∈I.map (·.1)/\2 * (256 - I.length)+U.length+1<=2 * (256 - kvs.length)+(ac++[h]).length/\∀u∈(zaf bk h hs).take j,u∈I.map (·.1)) ⟨rfl,kvs,ac,_,rfl,k0,hh,by rw[ak,cO];lia,by simp⟩ ?_ ?_;rintro j u ρ m' hu ⟨rfl,I,U,v5,rfl,J,ad,ap,ag⟩ C' B' E' al _ bx;have as:=aG hu;have bb:=zhY hB an as;have a0:=zaX hR hp J.nd J.ok;rw[ab] at a0
 have tk:∀ {Y:AF},(∀s∈I.map (·.1),s∈Y)->u∈Y->∀s∈(zaf bk h hs).take (j+1),s∈Y:=λ{Y} y1 y2 s a1=>by
  rw[zn hu,au] at a1;rcases a1 with z | z;exact y1 s (ag s z);rw[ao.mp z];exact y2
 left;show⟨u,rfl,?_⟩;rw[zi7];left;show zgF (λhn=>?_) (λhn=>?_);have hn:u∉I.map (·.1):=of_decide_eq_false hn;have kw:=J.snoc ad as hn bb;have e3:(I++[(u,Dt.bl true)]).map (·.1)=I.map (·.1)++[u]:=by rw[aD];rfl
 rw[<- e3] at kw;have bc:=zaX hR hp kw.nd kw.ok;rw[ab,ak,cO] at bc;left;show⟨_,rfl,aX (by lia:_<=10000) (by ext),?_⟩;rw[zjK hn];left;have b0:=λs z=>J.wq s z;show⟨aX (by rw[ab];lia:_<=10000) (by ext),?_⟩;have e2:U.map stD++[stD u]=(U++[u]).map stD:=by rw[aD];rfl
 rw[e2];show al ⟨rfl,_,_,_,rfl,kw,?_,?_,?_⟩;rw[e3];exact aQ _ ad;rw[ak,ak,cO,cO];lia;rw[e3];exact tk (λs z=>aQ _ z) (aE _ (ao.mpr rfl));have hn:u∈I.map (·.1):=bD hn;left;exact al ⟨rfl,I,U,_,rfl,J,ad,ap,tk (λs z=>z) hn⟩;rintro ρ m' ⟨rfl,I,U,v5,rfl,J,ad,ap,ag⟩;rw[bG] at ag;show hC (2 * (256 - I.length)+U.length) (by lia) ⟨rfl,I,U,_,rfl,by lia,rfl,J.nd,J.ok,J.rc,J.on,J.wq,λs z=>?_⟩;rcases J.cl s z with y | y | y;exact .inl y;exact .inr (.inr (by rw[y];exact ag));exact .inr (.inr y)
 have hw:wt=[]:=by
  have:=hb.mp hn;exact eZ.mp (Dt.lst.inj this)
 subst hw;show a7 ?_;left;intro nd;left;show⟨kvs.map (·.1),rm.length,rfl,hR.pos,λz hz=>(Z.ok z hz).len,nd,λa2 bd hu=>r a2 hu λs=>(bd.mem_iff).trans ⟨Z.rc s,λz=>z (·∈kvs.map (·.1)) Z.on λa b ha hb=>?_⟩⟩;rcases Z.cl a ha with y | y | y;cases y;exact y.elim;exact y b hb
def zfX (K:AH):FV:=λPn q n R=>∃ (p:Addr) (rm:AG),q=[.pen p,.d (stD rm)]/\(xK K Pn p)/\(n+30<=1000000)/\(RoomOk rm)/\(∀v hs m,(v = .d (stD hs)\/(hs=[]/\v = .d .non))->m<=n+9->R v m)
def zfX.i{rm:AG}(q:xK K Pn p)(B:RoomOk rm)(h:∀v hs m,(v = .d (stD hs)\/(hs=[]/\v = .d .non))->m<=n+9->R v m)(hn:n+30<=1000000:=by lia):zfX K Pn [.pen p,.d (stD rm)] n R:=⟨p,rm,rfl,q,hn,B,h⟩
def zdB (T:Txt K mg t):FnOk P w K mg base CX0 2 t.f21 t.d21 lc (spV 2 false (zfX K)):=by
 have G1:=zF (P:=P) (w:=w) (base:=base) T
 show Fun.okW (k:=1) (fr:=false) [] 1 T.q21.F zbc rfl (by ext) rfl λac A U s H E Pn hr=>⟨_,(zc (wS zr <| zD (i:=2) zbc.nd (wE zp <| yM T.q1 G1 hr (za (kv 0) (za zj zf))))
   (zc (wS zH <| yH (wT zo <| zJ uv ze9 (kb 2) (JE.bo zj) (zx _)) (zi (zX ziQ)) zG)
   (zi (zX (ym zW xW (by rfl) T.b_tuple bq (zh (JE.bo (uh (N:=lC) (cix:=[none,some 2,some 0]) rfl (by walk_at "c") (wI yD <| z7 rfl T.b_range (zh (JE.bo (z6 yu uI (by rfl) T.b_len bf (zh (kb 1) zk))) zk)) (λ_ _ _ _=>(wG yf <| zt (i:=0) (show (lC:AM).Nodup by decide +kernel))) (λ_ _ _ _=>(zbK (JW.t (wW zaP <| zcJ (wT zo <| zJ uv ze9 (kb 1) (JE.bo zj) (zx _)) (zan (.inl rfl) (wT zo <| zJ uv ze9 (JE.bo (wE zp <| yM T.q1 G1 hr (za (kv 2) (za zj zf)))) (JE.bo zj) (zx _))))))) (λ_ _ _ _=>(kv 0)))) zk)))))),λws n R hF=>?_⟩
 obtain⟨p,rm,rfl,hP,hn,hR,r⟩:=hF;left;show dr hP λY w0 w1=>?_;have h8:=hR.few;left;show xS (λ_=>?_) (λ_=>?_);left;exact r _ [] _ (.inr ⟨rfl,rfl⟩) (by lia);left;rw[ab];show⟨⟨by lia,by lia⟩,?_⟩;rw[aO,xg];show zf5 (List.range rm.length) (λk:Nat=>W.d (.int (k:Int))) rfl (by rw[aB];exact aA h8 (by ext)) (λi B O acc=>O<=n+1+i/\i<=rm.length/\∃ (v:Option W) (hs:AG),B=[v,some (.d (.int Y)),some (.pen p)]/\acc=hs.map Dt.int) ⟨by lia,aK _,_,[],rfl,rfl⟩ ?_ ?_;rintro i k B O acc hk ⟨I,hi,v,hs,rfl,rfl⟩ C Z;obtain⟨q,J⟩:=ah.mp hk;rw[aB] at q;rw[cQ] at J;subst J;left;show xS (λhc=>?_) (λhc=>?_);left;show dr hP λt t0 t1=>?_;left;show xS (λhc=>?_) (λhc=>?_);exact Z ⟨by lia,q,_,hs++[(i:Int)],rfl,by rw[aD];rfl⟩;exact Z ⟨by lia,q,_,hs,rfl,rfl⟩;exact Z ⟨by lia,q,_,hs,rfl,rfl⟩;rintro B O acc ⟨I,hi,v,hs,rfl,rfl⟩;rw[aB] at I;exact r _ hs O (.inl rfl) (by lia)
def zky  : FV:=λPn q n R=>∃ (hs:AG) (v:W),q=[v]/\(v = .d (stD hs)\/(hs=[]/\v = .d .non))/\(R (.d (stD hs)) n)
def zky.i{hs:AG}(q:v = .d (stD hs)\/(hs=[]/\v = .d .non))(h:R (.d (stD hs)) n)  : zky Pn [v] n R:=⟨hs,v,rfl,q,h⟩
def zco (T:Txt K mg t):FnOk P w K mg base CX0 1 t.f22 t.d22 lH (spV 1 false zky):=by
 show Fun.okW (k:=0) (fr:=false) [] 0 T.q22.F zdR rfl (by ext) rfl λB A q s H E Pn O=>⟨_,(zc (wS zH <| yH (wT zo <| zqv (kb 0)) (zi (zX (yC zf))) zG)
   (zi (zX (kv 0)))),λU n R I=>?_⟩
 obtain⟨hs,v,rfl,J,r⟩:=I;left;rcases J with rfl | ⟨rfl,rfl⟩;left;exact r;left;exact r
def zg3  : FV:=λPn q n R=>∃ (sts:AF),q=[.d (x8 sts),.d (x8 sts)]/\(∀st∈sts,st.length<=8)/\(R (.d (.bl true)) n)
def zg3.i{sts:AF}(q:∀st∈sts,st.length<=8)(h:R (.d (.bl true)) n)  : zg3 Pn [.d (x8 sts),.d (x8 sts)] n R:=⟨sts,rfl,q,h⟩
def zbj (T:Txt K mg t):FnOk P w K mg base CX0 1 t.f23 t.d23 lF (spV 2 false zg3):=by
 show Fun.okW (k:=0) (fr:=false) [] 2 T.q23.F yZ rfl (by ext) rfl λZ A q s H E Pn Y=>⟨_,(zc (wS zH <| yH (JW.t (wW zje <| znR (wT zbU <| zez (wT zo <| zcI (JE.bo (wE zdr <| zdl (by rfl) T.b_isinstance T.b_list (kb 0))))) (zan (.inr rfl) (wT zo <| zJ zht zse (JE.bo (z6 yu uI (by rfl) T.b_len bf (zh (kb 0) zk))) (JE.bo (z6 yu uI (by rfl) T.b_len bf (zh (kb 1) zk))) (zx _))))) (zi (zX zlc)) zG)
   (zc (xB bn rfl (wI zll <| znN rfl T.b_zip (za (kv 0) (za (kv 1) zf))) (wG zgk <| zgr (n:=2) K rfl rfl (wH uX <| yF (wG yf <| zt (i:=2) yZ.nd) (wH uX <| yF (wG yf <| zt (i:=3) yZ.nd) (wH zgj zdm)))) (zc (wS zH <| yH (JW.t (wW zje <| znR (wT zbU <| zez (wT zo <| zcI (JE.bo (wE zdr <| zck (by rfl) T.b_isinstance T.b_tuple (kb 2))))) (zan (.inr rfl) (wT zo <| zJ (zjx Y.units) zpv (kb 2) (kb 3) (zx _))))) (zi (zX zlc)) zG)
   (zi (wS zH <| yH (wT zo <| zJ (zjx Y.units) zpv (JE.bo (uh (N:=[Ay]) (cix:=[none]) rfl (by walk_at "c") (wI zaQ <| zcH K rfl (kv 2)) (λ_ _ _ _=>(wG yf <| zt (i:=0) (show ([Ay]:AM).Nodup by decide +kernel))) (λ_ _ _ _=>(zbK (JW.t (wW zje <| znR (wT zbU <| zez (wT zo <| zcI (JE.bo (wE zdr <| zex (by rfl) T.b_isinstance T.b_int (kb 0))))) (zan (.inr rfl) (wT zo <| zcI (JE.bo (wE zdr <| zdk (by rfl) T.b_isinstance T.b_bool (kb 0))))))))) (λ_ _ _ _=>(kv 0)))) (JE.bo (uT zf)) (zx _)) (zi (zX zlc)) zG))))
   (zi (zX zlc)))),λws n R hF=>?_⟩
 obtain⟨sts,rfl,h8,r⟩:=hF;left;show zjt (λh=>absurd rfl h) (λ_=>?_);left;rw[zkw];show yN sts (λst=>W.d (.tup [stD st,stD st])) rfl (λi ρ m=>m=n/\∃I J,ρ=[some (.d (x8 sts)),some (.d (x8 sts)),I,J]) ⟨rfl,_,_,rfl⟩ ?_ ?_;rintro i st ρ m O ⟨rfl,I,J,rfl⟩ C B E hC _ _;have hl:=h8 st (aG O);left;show⟨ue,ue,λb U=>?_⟩;rw[U.mpr rfl];left;walk_at "cf";show zc9 st (λi=>.d (.int i)) (by rw[aJ];rfl) (λρ=>∃v,ρ=[v]) (λ_=>false) (λi=>.int i) (aA hl (by ext)) ⟨_,rfl⟩ ?_ ?_;rintro a ha ac ⟨v,rfl⟩ C hY hN;exact hN rfl ⟨_,rfl⟩;rw[List.filter_eq_nil_iff.mpr (λ_ _=>by simp)];left;show⟨uN (ns:=[]),uN (ns:=[]),λb U=>?_⟩;rw[U.mpr rfl];left;walk_at "cf";exact hC ⟨rfl,_,_,rfl⟩;rintro ρ m ⟨rfl,I,J,rfl⟩;left;exact r
def zfU{a b:AF}(B:Up' a)(F:Up' b)(q:∀y∈a,y.length=m)(h:∀z,z∈b↔z∈a):b=a:=(zby q F h).trans (zby q B λ_=>Iff.rfl).symm
def zqL (T:Txt K mg t):FnOk P w K mg base CX0 7 t.f24 t.d24 lm (zhF K):=by
 have G6:=zfF (P:=P) (w:=w) (base:=base) T;have G0:FnOk P w K mg base CX0 1 t.f0 t.d0 lm (zl6 K):=zfE T;have G1:=zF (P:=P) (w:=w) (base:=base) T;have G9:=zdC (P:=P) (w:=w) (base:=base) T;have G10:=zaU (P:=P) (w:=w) (base:=base) T;have G18:=zdz (P:=P) (w:=w) (base:=base) T;have G20:=zbk (P:=P) (w:=w) (base:=base) T;have G21:=zdB (P:=P) (w:=w) (base:=base) T;have G22:=zco (P:=P) (w:=w) (base:=base) T;have G23:=zbj (P:=P) (w:=w) (base:=base) T
 show ztS (S:=[]) (k:=6) (r:=8) [9] T.q24.F uG rfl rfl (by ext) λbl A a3 s H E Pn I=>⟨_,_,_,rfl,(uB (i:=1) uG.nd rfl (Or.inl rfl) (zhv T.q0 G0 I (zz (qv 0) yw))),(zc (wS zr <| zD (i:=2) uG.nd (uY yk uU (JE.bo (uT (za zj (za zj (za zj (za zj (za zj (za zj (za zj (za zj zf)))))))))) (JE.bo (wE zp <| yM T.q1 G1 I (za (kv 1) (za zj zf)))) (λ_ _=>rfl)))
   (zc (wS zr <| zD (i:=3) uG.nd (wE zp <| yM T.q9 G9 I (za (kv 1) (za (kv 2) zf))))
   (zc (wS zr <| zD (i:=4) uG.nd (wE zp <| yM T.q18 G18 I (za (kv 1) (za (kv 3) zf))))
   (zc (wS zr <| zD (i:=5) uG.nd (wE zp <| yM T.q10 G10 I (za (kv 1) (za (kv 3) zf))))
   (zc (xB bn rfl (wI yD <| z7 rfl T.b_range (zh (JE.bo (uY yk uU (JE.bo (uT (za zj (za zj zf)))) (JE.bo (ym zni zsc (by rfl) T.b_int PyProof.Rows.boot_int (zh (JE.bo (ztn uv ze9 (kb 2) (JE.bo zj) (zx _))) zk))) (λ_ _=>rfl))) zk)) (wG yf <| zt (i:=6) uG.nd) (zc (wS zr <| zD (i:=7) uG.nd (wE zp <| yM T.q21 G21 I (za (kv 1) (za (kv 3) zf))))
   (zc (wS zr <| zD (i:=8) uG.nd (wE zp <| yM T.q20 G20 I (za (kv 4) (za (kv 5) (za (wE zp <| yM T.q22 G22 I (za (kv 7) zf)) zf)))))
   (zc (wS yt <| xC (i:=9) uG.nd (wE zp <| zqr T.q6 G6 I (za (kv 3) (za (kv 4) (za (kv 5) (za (kv 7) zf))))))
   (zc (wS zH <| yH (wT zbU <| zez (wT zo <| zcI (JE.bo (wE znY <| zto T.q23 G23 I (zh (kb 9) (zh (kb 8) zk)))))) (zi (zX zlc)) zG)
   (zc (wS zfA <| zhi 9)
   (zc (wS zdq <| zgs 9 ziQ)
   (zc (wS zH <| yH (wT zbU <| zez (wT zo <| zcI (JE.bo (wE zp <| yM T.q23 G23 I (za (wE zp <| zqr T.q6 G6 I (za (kv 3) (za (kv 4) (za (kv 5) (za (kv 7) zf))))) (za (kv 8) zf)))))) (zi (zX zlc)) zG)
   (zi (wS zr <| zD (i:=5) uG.nd (wE zp <| yM T.q10 G10 I (za (kv 1) (za (kv 3) zf)))))))))))))
   (zi (zX (wE zp <| yM T.q23 G23 I (za (ztp T.q6 G6 I (za (kv 3) (za (kv 4) (za (kv 5) zf)))) (za (wE zp <| yM T.q20 G20 I (za (kv 4) (za (kv 5) (za (yC zf) zf)))) zf)))))))))),λp c ns as a4=>?_⟩
 have hP:xK K Pn p:=⟨c,ns,as,a4⟩;show zrE ?_;left;have hJ:Pn.J=J0:=by rw[as]
 show dr hP λa a0 a1=>?_;left;show zlw a0 a1 λx hx=>?_;obtain⟨q,rfl,ag⟩:∃q:Int,x = .int q/\(q=256\/(4<=q/\q<=64)):=by simp only[ay,bF,or_false] at hx;rcases hx with rfl | rfl | rfl | rfl | rfl | rfl | rfl | rfl <;> exact⟨_,rfl,by ext⟩
 clear hx;left;show zfY.i hP ag (hn:=by omega) λrm m U hp hm=>?_;left;show zfW.i hP U hp (hn:=by omega) λbk m2 hB bs bx=>?_;have h8:=U.few;left;show zd9.i hP U (hn:=by omega) λY m3 h1 b0=>?_;left;show zlw (by split <;> decide) (by split <;> decide) λy hy=>?_;obtain⟨rr,rfl,I⟩:∃r:Int,y = .int r/\(r=3\/r=1):=by simp only[ay,bF,or_false] at hy;rcases hy with rfl | rfl <;> exact⟨_,rfl,by ext⟩
 clear hy;left;show⟨⟨by omega,by omega⟩,zeq (λi ρ m'=>m'<=5100+100 * i/\i<=rr.toNat/\∃Y v6 v7 v8 v9,ρ=[none,some (.pen p),some (.d (.int q)),some (.d (stD rm)),some (.d (xk bk)),some (.d (stD Y)),v6,v7,v8,v9]/\StOk rm Y) ⟨by omega,aK _,_,_,_,_,_,rfl,h1⟩ ?_ ?_⟩;rintro i ρ m' hi ⟨a5,a7,Y,v6,v7,v8,v9,rfl,h1⟩ C B E hC _ _;left;show zfX.i hP U (hn:=by omega) λv hs m4 hv b1=>?_;left;show zky.i hv ?_;left;show zd8.i U hB (by omega) hp h1 λsts hu ac=>?_;left;show zg4.i hJ hv U hB hp h1 λZ al an ad=>?_;have O:∀y∈Z,y.length=rm.length:=λy hy=>(ad y hy).len;obtain rfl:=zfU al hu O λz=>(ac z).trans (an z).symm;have a2:∀st∈sts,st.length<=8:=λst ap=>by rw[O st ap];exact h8
 left;show zg3.i a2 ⟨rfl,?_⟩;have bc:=zaX U hp (zur hu) ad;left;show⟨aX (by rw[List.length_reverse,ab];omega:_<=10000) (by ext),?_⟩;left;show zg4.i hJ hv U hB hp h1 λbd ba bb b2=>?_;obtain rfl:=zfU hu ba O λz=>(bb z).trans (ac z).symm;left;show zg3.i a2 ?_;left;show zd9.i hP U (hn:=by omega) λbe m5 h2 b3=>?_;left;exact hC ⟨by omega,hi,_,_,_,_,_,rfl,h2⟩;rintro ρ m' ⟨a5,a7,Y,v6,v7,v8,v9,rfl,h1⟩;left;show zg4.i hJ (.inr ⟨rfl,rfl⟩) U hB hp h1 λZ al an ad=>?_;left;show zd8.i (hs:=[]) U hB (by omega) hp h1 λsts hu ac=>?_;have O:∀y∈Z,y.length=rm.length:=λy hy=>(ad y hy).len;obtain rfl:=zfU al hu O λz=>(ac z).trans (an z).symm;left;show zg3.i (λst ap=>by rw[O st ap];exact h8) ?_;left
end
def Dm{K:AH}{h:Heap}{mg:AI}{x:Str}{st:Stmt}{ps:AM}{f:Addr}{J kV B F q ct:Value}{O I:Option Addr}(X:K.In h)(G:h.Ns mainGlobals mg)(a:PySem.W.nsIn K mainGlobals x=some (some (.ref f)))(l:K.lookup f=some ⟨J,O,.func (PySem.W.fnOf x x (z5 st) (zu st) (zd st) .none kV B F I q ct),U⟩)(c:PySem.W.codeIn K q x=true)(k:PySem.W.keepIn K (.ref f)=true)(b:∀ (kV B F:Value) (I:Option Addr) (q ct:Value) (us:AN),us.length=ps.length->bindArgs (PySem.W.fnOf x x (z5 st) (zu st) (zd st) .none kV B F I q ct) ⟨us,[]⟩=pure (ps.zip us)):Dfn K mg x st ps f (PySem.W.fnOf x x (z5 st) (zu st) (zd st) .none kV B F I q ct):=⟨zgi l c k,(zgi l c k).binds b,PySem.W.mg_of X G a⟩
def DmD{K:AH}{h:Heap}{mg:AI}{x:Str}{st:Stmt}{ps:AM}{ds:AN}{f T:Addr}{Y kV F I B ct Z:Value}{od J O:Option Addr}{q:AK}(X:K.In h)(G:h.Ns mainGlobals mg)(a:PySem.W.nsIn K mainGlobals x=some (some (.ref f)))(l:K.lookup f=some ⟨Y,od,.func (PySem.W.fnOf x x (z5 st) (zu st) (zd st) (.ref T) kV F I J B ct),sl⟩)(c:PySem.W.codeIn K B x=true)(k:PySem.W.keepIn K (.ref f)=true)(t:K.lookup T=some ⟨Z,O,.seq q n2,U⟩)(b:∀us:AN,(us++[]).length=ps.length->∃k:Option AK->Sem (List (Str×Value)),bindArgs (PySem.W.fnOf x x (z5 st) (zu st) (zd st) (.ref T) kV F I J B ct) ⟨us,[]⟩=seqItems? (.ref T) >>= k/\k (some q)=pure (ps.zip (us++[])))(e:∀us:AN,(us++ds).length=ps.length->∃k:Option AK->Sem (List (Str×Value)),bindArgs (PySem.W.fnOf x x (z5 st) (zu st) (zd st) (.ref T) kV F I J B ct) ⟨us,[]⟩=seqItems? (.ref T) >>= k/\k (some q)=pure (ps.zip (us++ds))):DfnD K mg x st ps ds f (PySem.W.fnOf x x (z5 st) (zu st) (zd st) (.ref T) kV F I J B ct):=⟨ziB l c k,zf2 l rfl t b,zf2 l rfl t e,PySem.W.mg_of X G a⟩
def fin {l:PySem.W.OpenLaw}{w:Ab}{K:AH}{mg:AI}{fa:Addr}{t:Ad}(q:mg "law" = some (.ref fa))(T:Txt K mg t)(b:∀ (s:AZ) (v:Value),BindsTo s t.d24 ⟨[v],[]⟩ [("_law_script",v)]):∃fd:Ac,(∀ (s:AZ) (v:Value),BindsTo s fd ⟨[v],[]⟩ [("_law_script",v)])/\∀base:Heap,K.In base->base.Ns mainGlobals mg->FnOk l.prog w K mg base CX0 7 fa fd lm (zhF K):=by have e:=q.symm.trans T.q24.m;cases e;exact⟨_,b,λbase _ _=>zqL T⟩
def walk {l:PySem.W.OpenLaw}{q:Aa}{B:AM}{XP:(AI)->Heap->Prop}{YP:Ab->Heap->Prop}{d:DefRec}{K:Params->AH}(hn:l.most=some 63)(I:d.params.defaults=[])
  (J:∀ (w:Ab) (h:Heap),YP w h->(K w.params).In h)
  (F:∀ (w:Ab) (mg:AI) (fa:Addr) (h:Heap),(K w.params).In h->h.Ns mainGlobals mg->mg d.name=some (.ref fa)->
   ∃fd:Ac,(∀ (s:AZ) (u:Value),BindsTo s fd ⟨[u],[]⟩ [("_law_script",u)])/\∀base:Heap,(K w.params).In base->base.Ns mainGlobals mg->FnOk l.prog w (K w.params) mg base CX0 7 fa fd lm (zhF (K w.params))) :
  PySem.W.WalkO q B XP YP l.row.toRowW d [] (λf vs=>PySem.call f vs):=
 L2.zpF (n:=63) (k:=7) (x := "_law_script") (CX:=λ_=>CX0) (sp:=λw=>zhF (K w.params)) hn (by ext) I ⟨rfl,by ext,by ext⟩ J F (λ_ _ _ _ O U Y=>zl5 U Y O λ_=>rfl) λ_ _ _ _ _ z=>z
end Law
end
open PySem PySem.W PyProof.Rows
local macro_rules | `(tactic| walk_at "D")=>`(tactic| (dsimp only;refine' Law.Dm (by assumption) (by assumption) ?a ?l ?c ?k ?b;(case a=>k_is);(case l=>k_is);(case c=>k_is);(case k=>k_is);(case b=>(intro _ _ _ _ _ _ us hl;first | (obtain⟨_,e⟩:=L2.us_1 hl;subst e;rfl) | (obtain⟨_,_,e⟩:=L2.us_2 hl;subst e;rfl) | (obtain⟨_,_,_,e⟩:=L2.us_3 hl;subst e;rfl)))))
local macro_rules | `(tactic| walk_at "Z")=>`(tactic| (refine' PySem.W.mg_none_of (by assumption) (by assumption) ?z;(case z=>k_is)))
local macro_rules | `(tactic| walk_at "E")=>`(tactic| (dsimp only;refine' Law.DmD (by assumption) (by assumption) ?a ?l ?c ?k ?t ?b ?e;(case a=>k_is);(case l=>k_is);(case c=>k_is);(case k=>k_is);(case t=>k_is);(case b=>(intro us hl;first | (exact match us,hl with | [_,_,_,_],_=>⟨_,rfl,rfl⟩)));(case e=>(intro us hl;first | (exact match us,(show us.length=3 by rw[List.length_append] at hl;exact Nat.succ.inj hl) with | [_,_,_],_=>⟨_,rfl,rfl⟩)))))
theorem PySem.W.Fast.te326475631191316875:True:=.intro
set_option maxRecDepth 100000 in
set_option maxHeartbeats 0 in
theorem PySem.Challenge.cw_allelse_k14_what_is_reached_holds : PySem.Challenge.rw_allelse_k14_what_is_reached.Holds := by
 w_on;refine holds_law (by decide +kernel) λ_=>?_;k_head;(case hw=>w_witness2)
 k_fill
 refine Law.walk (l:=PySem.Challenge.rw_allelse_k14_what_is_reached) rfl rfl (λw h Y=>PySem.W.kIn_of Y) ?F
 case F=>
  intro w mg fa h KX G I;refine' Law.fin (t:=⟨_,_,_,_,_,_,_,_,_,_,_,_,_,_,_,_,_,_,_,_,_,_,_,_,_,_,_,_,_,_,_,_,_,_,_,_,_,_,_,_,_,_,_,_,_,_,_,_,_,_,_,_,_,_,_⟩) I ⟨?CL,?D0,?D1,?D2,?D3,?D4,?D5,?D6,?D7,?D8,?D9,?D10,?D11,?D12,?D13,?D14,?D15,?D16,?D17,?D18,?D19,?D20,?D21,?D22,?D23,?D24,?z_sorted,?z_range,?z_tuple,?z_zip,?z_len,?z_list,?z_abs,?z_isinstance,?z_int,?q⟩ λs v=>?b
  (case D0 | D1 | D2 | D3 | D5 | D7 | D8 | D9 | D10 | D11 | D12 | D13 | D14 | D15 | D16 | D17 | D18 | D19 | D20 | D21 | D22 | D23 | D24=>walk_at "D")
  (case D4 | D6=>walk_at "E")
  (case z_sorted | z_range | z_tuple | z_zip | z_len | z_list | z_abs | z_isinstance | z_int | q=>walk_at "Z")
  (case CL=>(dsimp only;refine' L3.Cm (by assumption) (by assumption) ?qa ?qa1 ?qi1 ?ql1 ?qc1 ?qk1 ?qt ?qa2 ?qi2 ?ql2 ?qc2 ?qk2 ?qpg ?qhd ?qpo ?qsa ?qmk ?qkc ?qn1 ?qn2 ?qn3 ?qn4 ?qb ?qe ?qbA;(case qa=>k_is);(case qa1=>k_is);(case qi1=>k_is);(case ql1=>k_is);(case qc1=>k_is);(case qk1=>k_is);(case qt=>k_is);(case qa2=>k_is);(case qi2=>k_is);(case ql2=>k_is);(case qc2=>k_is);(case qk2=>k_is);(case qpg=>k_is);(case qhd=>k_is);(case qpo=>k_is);(case qsa=>k_is);(case qmk=>k_is);(case qkc=>k_is);(case qn1=>k_is);(case qn2=>k_is);(case qn3=>k_is);(case qn4=>k_is);(case qb=>intro us B;exact match us,B with | [_,_,_,_],_=>⟨_,rfl,rfl⟩);(case qe=>intro us B;exact match us,(show us.length=3 by rw[List.length_append] at B;exact Nat.succ.inj B) with | [_,_,_],_=>⟨_,rfl,rfl⟩);(case qbA=>intro _ _ _ _ _ _ us B;exact match us,B with | [_,_],_=>rfl)))
  (case b=>exact .of_eq rfl)


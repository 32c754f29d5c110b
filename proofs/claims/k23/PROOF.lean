import PyProof.Rows.All
import Wide.All
import OpenK.AllK
import Wide.FinOn
import Lean
import PyProof.EqAt
import PyProof.EqKinds
import PyProof.TupleCall
import PySem.Challenge.RW_allelse_k23_rings_known
set_option Elab.async false
set_option linter.all false
set_option maxRecDepth 100000
set_option maxHeartbeats 4000000
section
local macro_rules | `(tactic| show $e)=>`(tactic|refine $e)
local macro_rules | `(tactic| ext)=>`(tactic|decide)
local macro_rules | `(tactic| right)=>`(tactic|simp_all)
local macro_rules | `(tactic| walk_at "v") => `(tactic| (first | exact Or.inl rfl | exact Or.inr (Or.inl rfl) | exact Or.inr (Or.inr rfl)))
local macro_rules | `(tactic| walk_at "l") => `(tactic| (first | exact Or.inl rfl | exact Or.inr rfl | assumption))
local macro_rules | `(tactic| walk_at "f") => `(tactic| (exact ⟨rfl, rfl, rfl, by decide +kernel, rfl, by decide +kernel, by decide +kernel⟩))
local macro_rules | `(tactic| walk_at "c") => `(tactic| (exact ⟨rfl, by decide +kernel, rfl⟩))
open PySem PySem.Spec
abbrev AA:=Value->Shared->Prop
abbrev AB:=List (Addr×Obj)
abbrev AE:=List (List Int×Addr)
abbrev AF:=List (List Int)
abbrev AG:=List Int
abbrev AH:=PySem.W.Frag
abbrev AI:=Str->Option Value
abbrev AJ:=Option Value
abbrev AK:=Array Value
abbrev AL:=Addr->Prop
abbrev AM:=List Str
abbrev AN:=List Value
abbrev AO:=List Expr
abbrev AQ:=Option Int
abbrev AR:=List Nat
abbrev AY:=List Addr
abbrev AZ:=Shared
abbrev Aa:=Program
abbrev Ab:=World
abbrev Ac:=FuncData
abbrev Ae:=Around
abbrev Ag(p:Program)(w:World)(A:Around){α:Type}:=@wpAny α (model p w) A
abbrev Ah(x:Str):Prop:=(x==("__debug__":Str))=false
abbrev Ai:Str:="self"
abbrev Aj:Str:="room"
abbrev Ak:Str:="book"
abbrev Am:Str:="held"
abbrev An:Str:="standing"
abbrev Ao:Str:="_law_pen_here"
abbrev Ap:Str:="_law_room_here"
abbrev Aq:Str:="_law_many"
abbrev Ar:Str:="_law_one"
abbrev As:Str:="_law_other"
abbrev At:Str:="_law_way"
abbrev Au:Str:="_law_book_here"
abbrev Av:Str:="_law_thing"
abbrev Aw:Str:="_law_at"
abbrev Ax:Str:="_law_worth"
abbrev Ay:Str:="_law_standing"
abbrev Az:Str:="thing"
abbrev A1:Str:="_law_boxes"
abbrev A5:Str:="_law_k"
abbrev A6:Str:="_law_given"
abbrev A7:Str:="_law_box"
abbrev A8:Str:="leads"
abbrev A9:Str:="_law_found"
abbrev BA:Str:="_law_longer"
abbrev BB:Str:="_law_better"
abbrev BC:Str:="_law_worse"
abbrev BD:Str:="_law_every"
abbrev BE:Str:="_law_snake_here"
namespace L2
open PyProof.Rows
abbrev aa:=@wpAny_bind
abbrev ab:=@List.length_map
abbrev ac:=@List.getElem?_eq_some_iff
abbrev ae:=@wpAny_pure
abbrev af:=@Nat.le_trans
abbrev ah:=@Nat.le_refl
abbrev ai:=@List.getElem?_eq_getElem
abbrev aj:=@Heap.get?_push_of_some
abbrev ak:=@List.length_append
abbrev am:=@List.mem_cons_self
abbrev ao:=@List.mem_singleton
abbrev aq:=@List.getElem?_map
abbrev ar:=@List.mem_of_getElem?
abbrev au:=@List.mem_map
abbrev aw:=@List.mem_cons_of_mem
abbrev ax:=@List.getElem?_set_ne
abbrev ay:=@List.length_range
abbrev az:=@List.map_cons
abbrev aA:=@Heap.lt_size
abbrev aB:=@List.map_map
abbrev aC:=@Heap.get?_push_size
abbrev aD:=@Option.map_eq_some_iff
abbrev aE:=@List.map_append
abbrev aF:=@List.mem_cons
abbrev aG:=@Nat.lt_of_le_of_lt
abbrev aH:=@PassesOwn.never
abbrev aI:=@List.mem_append
abbrev aJ:=@Bool.false_ne_true
abbrev aK:=@Nat.zero_le
abbrev aL:=@Nat.ne_of_lt
abbrev aM:=@List.getElem?_set_self
abbrev aN:=@PySem.boot_len
abbrev aO:=@List.length_cons
abbrev aP:=@Int.toNat_natCast
abbrev aQ:=@wpAny_mono
abbrev aR:=@Bool.false_eq_true
abbrev aS:=@List.getD_eq_getElem?_getD
abbrev aT:=@List.take_length
abbrev aU:=@List.mem_range
abbrev aV:=@List.length_take
abbrev aW:=@Nat.add_le_add_right
abbrev aX:=@List.mem_append_right
abbrev aY:=@List.size_toArray
abbrev aZ:=@wpAny_call_entry
abbrev a6:=@decide_eq_true
abbrev a8:=@Nat.add_le_add
abbrev a9:=@Nat.lt_of_lt_of_le
abbrev bc:=@List.all_eq_true
abbrev be:=@Array.length_toList
abbrev bf:=@List.getElem?_append_left
abbrev bg:=@decide_eq_false
abbrev bh:=@List.length_set
abbrev bi:=@List.getElem?_append_right
abbrev bj:=@wpAny_newObj_type
abbrev bm:=@Bool.and_eq_true
abbrev bn:=@List.eq_nil_of_length_eq_zero
abbrev bp:=@List.dropLast_concat_getLast
abbrev bq:=@wpAny_holding
abbrev br:=@wpAny_askSetting
abbrev bt:=@wpAny_setState_of
abbrev bu:=@Heap.SameBut.update
abbrev bv:=@PyProof.Rows.boot_tuple
abbrev bw:=@List.mem_filter
abbrev bz:=@Option.some.inj
abbrev bB:=@List.getElem_range
abbrev bC:=@List.getElem?_cons_succ
abbrev bD:=@List.pairwise_map
abbrev bE:=@List.mem_append_left
abbrev bF:=@List.mem_iff_getElem
abbrev bG:=@List.mem_of_mem_take
abbrev bH:=@PySem.W.kia_one
abbrev bI:=@List.find?_cons
abbrev bJ:=@Classical.byContradiction
abbrev bK:=@wpAny_standAt
abbrev bL:=@List.getElem_mem
abbrev bM:=@sizeLine_eq
abbrev bN:=@wpAny_truthy_bool
abbrev bO:=@List.length_singleton
abbrev bP:=@of_decide_eq_true
abbrev bQ:=@PySem.F.slot_dict_keyiterator_next
abbrev bR:=@PyProof.Rows.callWith_type1
abbrev bS:=@List.nodup_cons
abbrev bT:=@Obj.data_mapFields
abbrev bU:=@PySem.F.plainAttrs_list
abbrev bV:=@Array.getD_eq_getD_getElem?
abbrev bW:=@Nat.le_of_lt
abbrev bX:=@List.take_of_length_le
abbrev bY:=@PyProof.Rows.boot_list
abbrev bZ:=@List.filterMap_cons
abbrev b6:=@List.append_assoc
abbrev b7:=@List.pairwise_iff_getElem
abbrev b8:=@Bool.eq_iff_iff
abbrev b9:=@Heap.get?_update_self
abbrev cb:=@Int.emod_lt_of_pos
abbrev ce:=@List.pairwise_cons
abbrev cg:=@List.length_drop
abbrev cj:=@wpAny_typeNameOfWhole_keyiter
abbrev cm:=@Int.mul_le_mul_of_nonneg_left
abbrev cq:=@Nat.pow_le_pow_right
abbrev cr:=@PyProof.Rows.F.plain_set_update_loop
abbrev cu:=@Nat.lt_trichotomy
abbrev cv:=@List.nodup_append
abbrev cw:=@Nat.not_lt_zero
abbrev cx:=@F.slot_tuple_iterator_next
abbrev cy:=@Array.getElem?_eq_some_iff
abbrev cz:=@List.exists_cons_of_ne_nil
abbrev cA:=@List.getElem_inj
abbrev cB:=@wpAny_isInstance
abbrev cC:=@Nat.lt_irrefl
abbrev cD:=@List.any_cons
abbrev cE:=@List.all_cons
abbrev cF:=@wpAny_setField
abbrev cG:=@Array.getElem?_eq_getElem
abbrev cH:=@wpAny_passesOwn
abbrev cI:=@Int.emod_nonneg
abbrev cJ:=@AutoSeq1.wpAny_loadPart'
abbrev cK:=@Nat.le_of_lt_succ
abbrev cL:=@PySem.mem_of_lookup
abbrev cN:=@List.replicate_succ
abbrev cO:=@wpAny_attempt
abbrev cP:=@Int.eq_ofNat_of_zero_le
abbrev cQ:=@List.not_mem_nil
abbrev cR:=@List.mem_filterMap
abbrev cS:=@Int.natCast_nonneg
abbrev cT:=@Nat.le_succ
abbrev cU:=@wpAny_field
abbrev cV:=@Obj.isFreed_of_fields
abbrev cW:=@F.slot_enumerate_next
abbrev cY:=@List.contains_iff_mem
abbrev cZ:=@Bool.and_true
abbrev c5:=@List.reverse_cons
abbrev c6:=@Nat.lt_succ_of_lt
abbrev c7:=@List.count_append
abbrev c8:=@Array.getElem_toList
abbrev c9:=@List.mem_of_mem_drop
abbrev da:=@Heap.size_push
abbrev db:=@Int.mul_le_mul
abbrev de:=@isSubtype_stop
abbrev dg:=@PySem.F.args_dict_keyiterator_next_1
abbrev dh:=@PyProof.Rows.F.entry_set_update_loop
abbrev di:=@List.drop_eq_getElem_cons
abbrev dj:=@Nat.lt_succ_self
abbrev dl:=@List.getElem_map
abbrev dn:=@List.any_eq_true
abbrev dq:=@PySem.F.entry_dict_keyiterator_next
abbrev dr:=@List.length_pos_iff
abbrev du:=@List.filter_eq_self
abbrev dw:=@codeAny_mono
abbrev dy:=@List.getElem?_take_of_lt
abbrev dz:=@PySem.F.args_tuple_add_2
abbrev dB:=@wpAny_typeOf
abbrev dC:=@Nat.lt_succ_iff_lt_or_eq
abbrev dD:=@PyProof.Rows.boot_sorted
abbrev dE:=@wpAny_pyIter_tuple
abbrev dF:=@List.append_nil
abbrev dG:=@wpAny_Call_Name_kw
abbrev dH:=@PySem.F.entry_tuple_add
abbrev dJ:=@Array.append_empty
abbrev dL:=@List.pairwise_singleton
abbrev dM:=@codeAny_of_tree
abbrev dN:=@List.filter_cons_of_pos
abbrev dO:=@List.filter_cons_of_neg
abbrev dP:=@PySem.F.slot_tuple_add
abbrev dQ:=@List.take_sublist
abbrev dR:=@List.flatten_cons
abbrev dS:=@Obj.cls_mapFields
abbrev dU:=@wpAny_pyIter_enum
abbrev dW:=@List.ext_getElem?
abbrev dX:=@Nat.lt_succ_of_le
abbrev dY:=@Nat.ne_of_gt
abbrev dZ:=@List.map_nil
abbrev ee:=@List.take_append_drop
abbrev eh:=@PyProof.Rows.boot_abs
abbrev ei:=@PyProof.Rows.boot_all
abbrev en:=@Nat.succ_le_succ
abbrev eo:=@List.nodup_range
abbrev er:=@Array.mem_toList_iff
abbrev et:=@Around.under_plainId
abbrev eu:=@Paired.length
abbrev eA:=@F.args_tuple_iterator_next_1
abbrev eB:=@call_meets
abbrev eC:=@wpAny_execs_nil
abbrev eD:=@PySem.W.plainGet_of
abbrev eE:=@wpAny_specialOf
abbrev eF:=@List.length_nil
abbrev eG:=@F.entry_tuple_iterator_next
abbrev eI:=@PySem.W.kqd_eqv
abbrev eJ:=@Heap.get?_update_ne
abbrev eK:=@wpAny_setEntries_of
abbrev eL:=@List.map_congr_left
abbrev eM:=@Int.toNat_of_nonneg
abbrev eO:=@codeAny_builtin
abbrev eP:=@F.slot_zip_next
abbrev eQ:=@List.length_reverse
abbrev eR:=@PySem.W.callWith_K
abbrev eS:=@tupleKind_room_in1
abbrev eU:=@List.filterMap_map
abbrev eV:=@codeAny_loop
abbrev eW:=@Nat.add_sub_cancel
abbrev eX:=@Nat.succ_pos
abbrev eY:=@List.filter_append
abbrev eZ:=@List.map_inj_right
abbrev e7:=@List.nodup_nil
abbrev e8:=@Int.mul_nonneg
abbrev ff:=@wpAny_seqItems
abbrev fg:=@List.drop_zero
abbrev fj:=@wpAny_fieldsOf
abbrev fm:=@wpAny_pyIter_list
abbrev fq:=@Nat.mod_lt
abbrev fw:=@wpAny_pyIter_slot
abbrev fB:=@wpAny_dictEntries
abbrev fD:=@List.getElem_take
abbrev fE:=@List.flatMap_cons
abbrev fF:=@wpAny_noted
abbrev fG:=@wpAny_of_eq
abbrev fH:=@wpAny_handled
abbrev fJ:=@Int.lt_irrefl
abbrev fK:=@Bool.not_true
abbrev fL:=@noFill_tuple_add
abbrev fM:=@Nat.min_le_right
abbrev fN:=@List.ext_getElem
abbrev fO:=@wpAny_forIn_list
abbrev fP:=@List.mem_flatMap
abbrev fQ:=@Nat.sub_zero
abbrev fR:=@typeIs_int
abbrev fS:=@wpAny_rule
abbrev Key:=Sum Int Str
def zhf:Key->Value->Bool
 | .inl k,v=>Value.isInt k v
 | .inr x,v=>Value.isStrOf x v
def keyH (w:Ab):Key->Int
 | .inl k=>hashInt k
 | .inr x=>hashStr w x
def z8:∀ {k:Key} {v:Value},zhf k v=true->(∃i t,k=Sum.inl i/\v=Value.int i t)\/(∃x t,k=Sum.inr x/\v=Value.str x t)
 | .inl i,v,h=>by obtain⟨t,e⟩:=Value.isInt_shape (k:=i) (v:=v) h;exact .inl ⟨i,t,rfl,e⟩
 | .inr x,v,h=>by obtain⟨t,e⟩:=Value.isStrOf_shape (x:=x) (v:=v) h;exact .inr ⟨x,t,rfl,e⟩
def zfW (i:Int)(t:Tok):zhf (.inl i) (.int i t)=true:=by simp[zhf,Value.isInt]
def zkP (x:Str)(t:Tok):zhf (.inr x) (.str x t)=true:=by simp[zhf,Value.isStrOf]
def zs2 (a b:Int):decide ((Sum.inl a:Key)=Sum.inl b)=(a==b):=by grind
def zs5 (a b:Str):decide ((Sum.inr a:Key)=Sum.inr b)=decide (a=b):=by grind
def zs3 (a:Int)(b:Str):decide ((Sum.inl a:Key)=Sum.inr b)=false:=rfl
def zs4 (a:Str)(b:Int):decide ((Sum.inr a:Key)=Sum.inl b)=false:=rfl
def zV (prog:Aa)(w:Ab):PySem.KeyKind prog w Key where
 is:=zhf
 hash:=keyH w
 inj:=λv a b I F=>by
  rcases z8 I with ⟨i,t,rfl,rfl⟩ | ⟨x,t,rfl,rfl⟩;rcases z8 F with ⟨j,u,rfl,e⟩ | ⟨y,u,rfl,e⟩;injection e with q _;rw[q];exact nomatch e;rcases z8 F with ⟨j,u,rfl,e⟩ | ⟨y,u,rfl,e⟩;exact nomatch e;injection e with q _;rw[q]
 byValue:=λk v h=>by rcases z8 h with ⟨i,t,rfl,rfl⟩ | ⟨x,t,rfl,rfl⟩ <;> rfl
 pyHash:=λB h=>by
  rcases z8 B with ⟨i,t,rfl,rfl⟩ | ⟨x,t,rfl,rfl⟩;exact wpAny_pyHash_int h;exact wpAny_pyHash_str h
 eqBool:=λJ B h=>by
  rcases z8 J with ⟨i,t,rfl,rfl⟩ | ⟨x,t,rfl,rfl⟩;rcases z8 B with ⟨j,u,rfl,rfl⟩ | ⟨y,u,rfl,rfl⟩;rw[zs2] at h;exact wpAny_eqBool_int h;rw[zs3] at h;exact SeqAt.EqAt.int_str i t y u _ _ _ _ h;rcases z8 B with ⟨j,u,rfl,rfl⟩ | ⟨y,u,rfl,rfl⟩;rw[zs4] at h;exact SeqAt.EqAt.str_int x t j u _ _ _ _ h;rw[zs5] at h;exact wpAny_eqBool_str h
 «strs»:=λk x t v h=>by
  rcases z8 h with ⟨i,u,rfl,e⟩ | ⟨y,u,rfl,e⟩;exact nomatch e
  ·injection e with q _;subst q;cases v <;> rfl
def zhm (prog:Aa)(w:Ab)(i:Int)(t:Tok):(zV prog w).is (.inl i) (.int i t)=true:=zfW i t
def zhn (prog:Aa)(w:Ab)(x:Str)(t:Tok):(zV prog w).is (.inr x) (.str x t)=true:=zkP x t
inductive V where
 | non | bl (b:Bool) | int (i:Int) | str (x:Str) | byt (b:Array UInt8) | flt (b:UInt64) | ref (a:Addr) | ty (n:String)
 deriving DecidableEq
abbrev AT:=List V
def yB:V->Value->Prop
 | .non,u=>u=Value.none
 | .bl b,u=>u=Value.bool b
 | .int i,u=>∃t,u=Value.int i t
 | .str x,u=>∃t,u=Value.str x t
 | .byt b,u=>∃t,u=Value.bytes b t
 | .flt b,u=>∃t,u=Value.float b t
 | .ref a,u=>u=Value.ref a
 | .ty n,u=>u=Value.type n
abbrev zY:AT->AN->Prop:=Paired yB
def zY.length(r:zY xs us):xs.length=us.length:=eu r
def zY.get:∀ {xs:AT} {us:AN} {i:Nat} {x:V},zY xs us->xs[i]?=some x->∃u,us[i]?=some u/\yB x u
 | _,_,_,_,.nil,e=>by simp at e
 | _,_,0,_,.cons r _,e=>by right
 | _,_,i+1,x,.cons _ t,e=>by
  obtain⟨u,h1,h2⟩:=zY.get (i:=i) (x:=x) t (by simpa using e);right
def zY.set(r:yB x u):∀ {xs:AT} {us:AN} (i:Nat),zY xs us->zY (xs.set i x) (us.set i u)
 | _,_,_,.nil=>.nil
 | _,_,0,.cons _ t=>.cons r t
 | _,_,i+1,.cons q t=>.cons q (zY.set r i t)
def zY.append:∀ {xs ys:AT} {us q:AN},zY xs us->zY ys q->zY (xs++ys) (us++q)
 | _,_,_,_,.nil,s=>s
 | _,_,_,_,.cons r t,s=>.cons r (zY.append t s)
def zY.take:∀ {xs:AT} {us:AN} (n:Nat),zY xs us->zY (xs.take n) (us.take n)
 | _,_,0,_=>.nil
 | _,_,_+1,.nil=>.nil
 | _,_,n+1,.cons r t=>.cons r (zY.take n t)
def zY.drop:∀ {xs:AT} {us:AN} (n:Nat),zY xs us->zY (xs.drop n) (us.drop n)
 | _,_,0,r=>r
 | _,_,_+1,.nil=>.nil
 | _,_,n+1,.cons _ t=>zY.drop n t
def zgG:Option V->AJ->Prop
 | some v,some u=>yB v u
 | none,none=>True
 | _,_=>False
def KV {κ:Type}:List (κ×V)->List (κ×Value)->Prop:=Paired λ(p:κ×V) (q:κ×Value)=>p.1=q.1/\yB p.2 q.2
def kV:Key->V
 | .inl i=>.int i
 | .inr x=>.str x
inductive HO where
  | lst (xs:AT)
  | tup (xs:AT)
  | dK (kvs:List (Key×V)) | dT (kvs:List (List Key×V))
  | set (S:Int->Bool) (n:Nat)
  | ins (C dx:Addr) (fs:List (Str×V))
  | own (x:Addr)
  | xd (fs:List (Str×V))
  | met (f x:Addr)
  | rng (lo hi:Int)
  | frz (o:Obj) (u:HO)
  | tbl (ps:AK)
  | ext (φ:Heap->Prop)
abbrev Hp:=Addr->Option HO
def upd (H:Hp)(a:Addr)(o:HO):Hp:=λb=>if b=a then some o else H b
def zh:upd H a o a=some o:=by unfold upd;rw[if_pos rfl]
def zg(h:b≠a):upd H a o b=H b:=by unfold upd;rw[if_neg h]
def zfo:upd (upd H a o) a u=upd H a u:=by funext b;unfold upd;split <;> rfl
def zle {H:Hp}{a b:Addr}{o u:HO}(h:H a=some o)(h':H b=some u)(d:o≠u):a≠b:=by grind
def zc {H:Hp}{a b:Addr}{o:HO}(h:H a=some o)(h':H b=none):a≠b:=by grind
def zaM (h:Heap)(a:Addr)(items:AK):Prop:=∃o,h.get? a=some o/\o.cls = .type "tuple" /\ (∃n,o.data = .seq items n)/\o.dict=none
def zaM.tup(x:zaM h a items):IsTup h a items:=let ⟨o,h1,h2,h3,_⟩:=x;⟨o,h1,h2,h3⟩
def zaM.lt(x:zaM h a items):a<h.objs.size:=x.tup.lt
def zaM.new (h:Heap)(items:AK):zaM (h.push { cls:=.type "tuple",data:=.seq items }) h.objs.size items:=⟨_,aC _ rfl,rfl,⟨_,rfl⟩,rfl⟩
section
variable (P:Aa)(w:Ab)
def yo (H:Hp)(h:Heap)(a:Addr):HO->Prop
 | .lst xs=>xs.length<=sizeLine/\∃ (its:AN) (n:Nat),zY xs its/\h.get? a=some { cls:=.type "list",data:=.seq its.toArray n }
 | .tup xs=>xs.length<=sizeLine/\∃its:AN,zY xs its/\zaM h a its.toArray
 | .dK kvs=>kvs.length<=sizeLine/\(a==sysModules)=false/\∃vs,KV kvs vs/\h.DictOf (zV P w) a vs
 | .dT kvs=>kvs.length<=sizeLine/\(a==sysModules)=false/\∃xs:List (List Key×Addr×Value),
   Paired (λ(p:List Key×V) (q:List Key×Addr×Value)=>p.1=q.1/\H q.2.1=some (.tup (p.1.map kV))/\yB p.2 q.2.2) kvs xs/\
   ∃o es F,h.get? a=some o/\o.ExactDict/\o.data = .dict es F/\es.toList=xs.map (entryOfKey (tupleKind (zV P w)))/\(xs.map (·.1)).Nodup
 | .set S n=>h.SetOf (intKind P w) a S n
 | .ins C dx fs=>H dx=some (.own a)/\fs.length<=1000/\dx≠a/\h.get? a=some (PySem.W.instObj C dx)/\
   ∃mA,h.Ns1 dx mA/\(∀f,zgG (fs.lookup f) (mA f))/\PySem.Within mA (fs.map (·.1))
 | .own _=>∃o,h.get? a=some o
 | .xd fs=>∃mA,h.Ns1 a mA/\∀f,zgG (fs.lookup f) (mA f)
 | .rng lo hi=>∃t u v,h.get? a=some { cls:=.type "range",data:=.fields #[.int lo t,.int hi u,.int 1 v] }
 | .frz o u=>h.get? a=some o/\yo H h a u
 | .tbl ps=>h.get? a=some { cls:=.none,data:=.fields ps }
 | .met f x=>h.get? a=some (PySem.W.methodObj (.ref f) (.ref x))
 | .ext B=>B h/\(∃o,h.get? a=some o)/\∀h1 h2:Heap,B h1->(∀o,h1.get? a=some o->h2.get? a=some o)->B h2
def HOk (H:Hp)(h:Heap):Prop:=∀a o,H a=some o->yo P w H h a o
end
section
variable {P:Aa}{w:Ab}{H H':Hp}{h h':Heap}{a:Addr}{o:HO}
def yo.lt (x:yo P w H h a o):a<h.objs.size:=by
 cases o with
 | lst xs=>obtain⟨_,_,_,_,e⟩:=x;exact aA e
 | tup xs=>obtain⟨_,_,_,p⟩:=x;exact p.lt
 | dK kvs=>obtain⟨_,_,_,_,o,_,_,e,_⟩:=x;exact aA e
 | dT kvs=>obtain⟨_,_,_,_,o,_,_,e,_⟩:=x;exact aA e
 | set S n=>obtain⟨o,_,_,_,e,_⟩:=x;exact aA e
 | ins C dx fs=>obtain⟨_,_,_,e,_⟩:=x;exact aA e
 | own y=>obtain⟨_,e⟩:=x;exact aA e
 | xd fs=>obtain⟨_,⟨_,_,_,e,_⟩,_⟩:=x;exact aA e
 | rng lo hi=>obtain⟨_,_,_,e⟩:=x;exact aA e
 | frz ob u=>obtain⟨e,_⟩:=x;exact aA e
 | tbl ps=>exact aA (show h.get? a=some _ from x)
 | met f y=>exact aA (show h.get? a=some _ from x)
 | ext q=>obtain⟨_,⟨_,e⟩,_⟩:=x;exact aA e
def Paired.mapP {α B:Type}{F G:α->B->Prop}:∀ {l₁:List α} {q:List B},Paired F l₁ q->(∀a b,F a b->G a b)->Paired G l₁ q
 | _,_,.nil,_=>.nil
 | _,_,.cons r t,f=>.cons (f _ _ r) (Paired.mapP t f)
def Paired.imp' {α B:Type}{F G:α->B->Prop}(f:∀a b,F a b->G a b){l₁:List α}{q:List B}(r:Paired F l₁ q):Paired G l₁ q:=Paired.mapP r f
def yo.stay (x:yo P w H h a o)(k:∀b u,(b=a\/H b=some (.own a))->h.get? b=some u->h'.get? b=some u)
  (I:∀b,H b=some (.own a)->H' b=some (.own a)) (J:∀b xs,H b=some (.tup xs)->H' b=some (.tup xs)):yo P w H' h' a o:=by
 induction o with
 | lst xs=>obtain⟨z,its,n,r,e⟩:=x;exact⟨z,its,n,r,k _ _ (.inl rfl) e⟩
 | tup xs=>obtain⟨z,its,r,ob,e,c⟩:=x;exact⟨z,its,r,ob,k _ _ (.inl rfl) e,c⟩
 | dK kvs=>obtain⟨z,y,vs,r,ob,es,B,e,c⟩:=x;exact⟨z,y,vs,r,ob,es,B,k _ _ (.inl rfl) e,c⟩
 | dT kvs=>
  obtain⟨z,y,xs,r,ob,es,B,e,c⟩:=x;exact⟨z,y,xs,Paired.mapP r λp q z=>⟨z.1,J _ _ z.2.1,z.2.2⟩,ob,es,B,k _ _ (.inl rfl) e,c⟩
 | set S n=>obtain⟨ob,es,B,t,e,c⟩:=x;exact⟨ob,es,B,t,k _ _ (.inl rfl) e,c⟩
 | ins C dx fs=>
  obtain⟨d,z,L,e,mA,⟨F,es,B,O,c⟩,r⟩:=x;exact⟨I _ d,z,L,k _ _ (.inl rfl) e,mA,⟨F,es,B,k _ _ (.inr d) O,c⟩,r⟩
 | own y=>obtain⟨ob,e⟩:=x;exact⟨ob,k _ _ (.inl rfl) e⟩
 | xd fs=>obtain⟨mA,⟨F,es,B,e,c⟩,r⟩:=x;exact⟨mA,⟨F,es,B,k _ _ (.inl rfl) e,c⟩,r⟩
 | rng lo hi=>obtain⟨t,u,v,e⟩:=x;exact⟨t,u,v,k _ _ (.inl rfl) e⟩
 | frz ob u U=>obtain⟨e,q⟩:=x;exact⟨k _ _ (.inl rfl) e,U q⟩
 | tbl ps=>
  have e:h.get? a=some { cls:=.none,data:=.fields ps }:=x;change h'.get? a=some { cls:=.none,data:=.fields ps };exact k a _ (.inl rfl) e
 | met f y=>
  have e:h.get? a=some (PySem.W.methodObj (.ref f) (.ref y)):=x;change h'.get? a=some (PySem.W.methodObj (.ref f) (.ref y));exact k a _ (.inl rfl) e
 | ext Y=>obtain⟨p,⟨o,e⟩,st⟩:=x;exact⟨st _ _ p λo q=>k _ _ (.inl rfl) q,⟨o,k _ _ (.inl rfl) e⟩,st⟩
def HOk.lt (x:HOk P w H h)(e:H a=some o):a<h.objs.size:=(x a o e).lt
def HOk.fresh (x:HOk P w H h)(e:h.objs.size<=a):H a=none:=by
 cases q:H a with
 | none=>rfl
 | some u=>exact absurd (a9 (x.lt q) e) (cC _)
def HOk.kept (x:HOk P w H h)(k:∀b u,h.get? b=some u->h'.get? b=some u):HOk P w H h':=λa o e=>
 (x a o e).stay (λb u _ q=>k b u q) (λ_ q=>q) λ_ _ q=>q
def HOk.laid (x:HOk P w H h)(k:∀b u,h.get? b=some u->h'.get? b=some u)(J:h.objs.size<=a)(B:yo P w (upd H a o) h' a o):HOk P w (upd H a o) h':=λb u e=>by
 have F:=x.fresh J;by_cases I:b=a;subst I;rw[zh] at e;cases e;exact B;rw[zg I] at e;exact (x b u e).stay (λc v _ q=>k c v q) (λc q=>by rw[zg (zc q F)];exact q) λc xs q=>by rw[zg (zc q F)];exact q
end
def Rd (H:Hp)(a:Addr)(u:HO):Prop:=H a=some u\/∃o,H a=some (.frz o u)
def Rd.ok(r:Rd H a u)(x:HOk P w H h):yo P w H h a u:=by
 rcases r with r | ⟨o,r⟩;exact x a u r;obtain⟨_,q⟩:=x a _ r;exact q
def Mut:Option HO->Prop
 | some (.lst _)=>True
 | some (.dK _)=>True
 | some (.dT _)=>True
 | some (.set _ _)=>True
 | some (.ins _ _ _)=>True
 | some (.ext _)=>True
 | _=>False
section
variable {P:Aa}{w:Ab}{H:Hp}{h h':Heap}{x e:Addr}{o':HO}
def HOk.write (Z:HOk P w H h)(I:Mut (H x))(he:e=x\/H e=some (.own x))(k:∀b u,b≠e->h.get? b=some u->h'.get? b=some u)(J:∃u,h'.get? e=some u)
  (L:yo P w (upd H x o') h' x o'):HOk P w (upd H x o') h':=λb u q=>by
 have B:∀c y,H c=some (.own y)->c≠x:=λc y r z=>by subst z;rw[r] at I;exact I
 have F:∀c xs,H c=some (.tup xs)->c≠x:=λc xs r z=>by subst z;rw[r] at I;exact I
 by_cases U:b=x;subst U;rw[zh] at q;cases q;exact L;rw[zg U] at q;by_cases O:b=e
 have Y:H b=some (.own x):=by
  grind
 rw[q] at Y;cases Y;obtain⟨v,hv⟩:=J;exact⟨v,by rw[O];exact hv⟩;show (Z b u q).stay (λc v hc r=>k c v ?_ r) (λc r=>by rw[zg (B c b r)];exact r) λc xs r=>by rw[zg (F c xs r)];exact r
 grind
end
structure Un (fs ex:AY)(H H':Hp)(h h':Heap):Prop where
 keep:∀b o,h.get? b=some o->H b=none->b∉fs->b∉ex->h'.get? b=some o
 slot:∀b o,h.get? b=some o->H b=none->b∈fs->b∉ex->∃sl,h'.get? b=some { o with slots:=sl }
 free:∀b o,h.get? b=some o->H b=none->b∉ex->H' b=none
 there:∀b o,h.get? b=some o->b∉ex->∃o',h'.get? b=some o'
 tups:∀b xs,H b=some (.tup xs)->H' b=some (.tup xs)
 frzs:∀b o u,H b=some (.frz o u)->H' b=some (.frz o u)
 tbls:∀b ps,H b=some (.tbl ps)->∃more,H' b=some (.tbl (ps++more))
section
variable {fs fs' ex ex':AY}{H H1 H2:Hp}{h h1 h2 h':Heap}{a x e:Addr}{o:HO}
def Un.any(u:Un fs ex H H1 h h1)(q:h.get? b=some ob)(n:H b=none)(B:b∉ex):∃I,h1.get? b=some { ob with slots:=I }:=by
 by_cases F:b∈fs;exact u.slot b ob q n F B;exact⟨ob.slots,u.keep b ob q n F B⟩
def Un.kept (k:∀b u,h.get? b=some u->h'.get? b=some u):Un fs ex H H h h':=
 ⟨λb ob q _ _ _=>k b ob q,λb ob q _ _ _=>⟨ob.slots,k b ob q⟩,λ_ _ _ n _=>n,λb ob q _=>⟨ob,k b ob q⟩,λ_ _ q=>q,λ_ _ _ q=>q,λ_ ps q=>⟨#[],by rw[q];simp⟩⟩
def Un.refl:Un fs ex H H h h:=Un.kept λ_ _ q=>q
def Un.laid (k:∀b u,h.get? b=some u->h'.get? b=some u)(F:h.objs.size<=a)(B:H a=none):Un fs ex H (upd H a o) h h' where
 keep:=λb u q _ _ _=>k b u q
 slot:=λb u q _ _ _=>⟨u.slots,k b u q⟩
 free:=λb u q n _=>by rw[zg (aL (a9 (aA q) F))];exact n
 there:=λb u q _=>⟨u,k b u q⟩
 tups:=λb xs q=>by rw[zg (zc q B)];exact q
 frzs:=λb u xs q=>by rw[zg (zc q B)];exact q
 tbls:=λb ps q=>⟨#[],by rw[zg (zc q B),q];simp⟩
def Un.write (B:Mut (H x))(O:e=x\/H e=some (.own x))(k:∀b u,b≠e->h.get? b=some u->h'.get? b=some u)(J:∃u,h'.get? e=some u):Un fs ex H (upd H x o) h h':=by
 have L:∀b,H b=none->b≠x:=λb n z=>by subst z;rw[n] at B;exact B
 have I:∀b,H b=none->b≠e:=λb n z=>by grind
 have F:∀b u,H b=some u->¬ Mut (some u)->b≠x:=λb u q nm z=>by subst z;rw[q] at B;exact nm B
 show⟨λb u q n _ _=>k b u (I b n) q,λb u q n _ _=>⟨u.slots,k b u (I b n) q⟩,λb u q n _=>by rw[zg (L b n)];exact n,λb u q _=>?_,
  λb xs q=>by rw[zg (F b _ q λz=>z)];exact q,λb u xs q=>by rw[zg (F b _ q λz=>z)];exact q,λb ps q=>⟨#[],by rw[zg (F b _ q λz=>z),q];simp⟩⟩
 grind
end
def trk (h:Heap)(H:Hp):AY:=(List.range h.objs.size).filter λa=>(H a).isSome
def zmU (h:Heap)(H:Hp):Heap:=PySem.W.hideAll h (trk h H)
def zkt (h:Heap)(H:Hp):(zmU h H).objs.size=h.objs.size:=PySem.W.hideAll_size _ _
def zmV(e:h.get? b=some o)(n:H b=none):(zmU h H).get? b=some o:=
 PySem.W.hideAll_get _ e λB=>by
  have q:(H b).isSome=true:=(bw.mp B).2;right
def zqw(e:(zmU h H).get? b=some o):h.get? b=some o/\H b=none:=by
 have B:h.get? b=some o:=PySem.W.of_hideAll (trk h H) e;show⟨B,?_⟩
 cases q:H b with
 | none=>rfl
 | some x=>
  have F:b∈trk h H:=bw.mpr ⟨aU.mpr (aA B),by simp[q]⟩;have z:(zmU h H).get? b=none:=PySem.W.hideAll_none (trk h H) F;grind
def zpk (g h:Heap)(L:Addr):AB:=(List.range h.objs.size).filterMap λa=>if a=L\/(g.get? a).isSome=true then none else (h.get? a).map λo=>(a,o)
def zQ (g h:Heap)(L d:Addr):AB:=(zpk g h L).filter λp=>decide (p.1≠d)
structure Mod (K:AH)(mg:AI)(base:Heap):Prop where
 kin:K.In base
 glob:base.Ns mainGlobals mg
 blt:∃mb,base.Ns builtinsNs mb/\∀x:Str,x ≠ "__name__" -> mb x=bootBuiltins x
 nolimit:base.NoLimit
structure Cx where
 prog:Aa
 w:Ab
 K:AH
 mg:AI
 base:Heap
 A:Ae
 N:AM
 s₀:AZ
 H₀:Hp
 env:Env
 outer:List Env
 stack:List Env
 ex:AY
 fn:Str->Bool
 calm:Bool
 pn:AB
 xe:AA
abbrev Af (X:Cx){α:Type}:=@wpAny α (model X.prog X.w) X.A
def frs (l:List Env):AY:=l.filterMap (·.frame)
abbrev Cx.fs (X:Cx):AY:=frs X.outer
def Vis (q:Scope)(x:Str):Prop:=q.names.lookup x=some .local\/q.names.lookup x=some .cell\/q.names.lookup x=some .free
def Loc (q:Scope)(x:Str):Prop:=q.names.lookup x=some .local\/q.names.lookup x=some .cell
def Look (env:Env)(h:Heap)(m:AI)(x:Str)(u:Value):Prop:=
 (env.kindOf x=some .local/\m x=some u)\/((env.kindOf x=some .cell\/env.kindOf x=some .free)/\∃c,env.cells.lookup x=some c/\h.IsCell c (some u))
structure Cx.Ok (X:Cx):Prop where
 mod:Mod X.K X.mg X.base
 kind:X.env.scope.kind = .function
 glob:X.env.globals=mainGlobals
 blt:X.env.builtins=builtinsNs
 above:X.s₀.heap.objs.size<=X.env.locals
 inj:∀x y c,X.env.cells.lookup x=some c->X.env.cells.lookup y=some c->x=y
 has:∀x,(X.env.kindOf x=some .cell\/X.env.kindOf x=some .free)->∃c,X.env.cells.lookup x=some c
 cab:∀x c,X.fn x=true->X.env.cells.lookup x=some c->X.s₀.heap.objs.size<=c
 hd:X.calm=true->X.A.handled=none
 frames:X.A.frames=some X.stack
 stk:X.stack=X.outer\/(X.stack=X.env::X.outer/\X.env.frame=some X.env.locals)
 exf:∀b∈X.ex,b≠X.env.locals/\∀x c,X.env.cells.lookup x=some c->c≠b
 bs:∀b o,X.base.get? b=some o->X.s₀.heap.get? b=some o/\X.H₀ b=none
 bsz:X.base.objs.size<=X.s₀.heap.objs.size
 noex:∀b o,X.base.get? b=some o->b∉X.ex
 exfs:∀b∈X.ex,b∉X.fs
 funs:X.s₀.heap.FunFrames X.base X.outer
 frf:∀b∈X.fs,X.H₀ b=none
structure Inv (X:Cx)(pins:AB)(σ:List (Option V))(H:Hp)(s:AZ):Prop where
 ok:X.Ok
 os:s.os=X.s₀.os
 bare:AllBare s.gens
 base:Un X.fs X.ex X.H₀ H X.s₀.heap s.heap
 loc:∃m,s.heap.Ns X.env.locals m/\∀ (i:Nat) (x:Str) (v:V),X.N[i]?=some x->σ[i]?=some (some v)->Vis X.env.scope x->∃u,yB v u/\Look X.env s.heap m x u
 cell:∀x c,X.env.cells.lookup x=some c->∃v,s.heap.IsCell c v
 free:H X.env.locals=none
 freeC:∀x c,X.env.cells.lookup x=some c->H c=none
 pin:∀p∈X.pn++pins,s.heap.get? p.1=some p.2/\H p.1=none/\p.1≠X.env.locals/\p.1∉X.fs/\∀v,p.2.data≠.cell v
 hok:HOk X.prog X.w H s.heap
 len:σ.length=X.N.length
section
variable {X:Cx}{pins:AB}{σ:List (Option V)}{H H':Hp}{s:AZ}{h':Heap}
def Cx.Ok.nofr(q:X.Ok)(e:X.base.get? b=some o):b∉X.fs:=λB=>by
 have:=(q.funs.mem B).1;grind
def Inv.bs (I:Inv X pins σ H s):∀b o,X.base.get? b=some o->s.heap.get? b=some o/\H b=none:=λb o e=>
 ⟨I.base.keep b o (I.ok.bs b o e).1 (I.ok.bs b o e).2 (I.ok.nofr e) (I.ok.noex b o e),I.base.free b o (I.ok.bs b o e).1 (I.ok.bs b o e).2 (I.ok.noex b o e)⟩
def Inv.bk (I:Inv X pins σ H s):∀b o,X.base.get? b=some o->s.heap.get? b=some o:=λb o e=>(I.bs b o e).1
def Inv.mod (I:Inv X pins σ H s):Mod X.K X.mg X.base:=I.ok.mod
def Inv.kIn (I:Inv X pins σ H s):X.K.In s.heap:=I.ok.mod.kin.keeps I.bk
def Inv.lt (I:Inv X pins σ H s):X.env.locals<s.heap.objs.size:=let ⟨_,hn,_⟩:=I.loc;hn.lt
def Inv.sz (I:Inv X pins σ H s):X.s₀.heap.objs.size<=s.heap.objs.size:=af I.ok.above (bW I.lt)
def Inv.nofs (I:Inv X pins σ H s){a:Addr}(h:s.heap.objs.size<=a):a∉X.fs:=λq=>by obtain⟨_,o,B,_⟩:=I.ok.funs.mem q;exact absurd (a9 (aA B) (af I.sz h)) (cC _)
def Inv.cne (I:Inv X pins σ H s):∀x c,X.env.cells.lookup x=some c->c≠X.env.locals:=λx c e z=>by
 obtain⟨v,o,F,J⟩:=I.cell x c e;obtain⟨m,⟨o',es,L,q,B,_⟩,_⟩:=I.loc;grind
def Inv.funs (I:Inv X pins σ H s):s.heap.FunFrames X.base X.outer:=by
 have all:∀ (l:List Env),(∀b∈frs l,b∈X.fs)->X.s₀.heap.FunFrames X.base l->s.heap.FunFrames X.base l:=by
  intro l
  induction l with
  | nil=>intro _ _;trivial
  | cons env r J=>
   intro hs O;obtain⟨U,⟨L,o,q,Y,Z,hd⟩,hr⟩:=O;have B:L∈X.fs:=hs L (by unfold frs;rw[bZ,q];exact am);obtain⟨sl,e⟩:=I.base.slot L o Z (I.ok.frf L B) B λz=>I.ok.exfs L z B;exact⟨U,⟨L,_,q,Y,e,hd⟩,J (λb F=>hs b (by unfold frs;rw[bZ,q];exact aw _ F)) hr⟩
 exact all X.outer (λ_ F=>F) I.ok.funs
def Inv.stack (I:Inv X pins σ H s):s.heap.FunFrames X.base X.stack:=by
 rcases I.ok.stk with e | ⟨e,hf⟩;rw[e];exact I.funs;rw[e];obtain⟨m,q,_⟩:=I.loc;show .cons (by rw[I.ok.kind];decide) hf q ?_ I.funs;exact Heap.get?_none_of_le (af I.ok.bsz I.ok.above)
def Inv.stkSub (I:Inv X pins σ H s):∀b∈frs X.stack,b∈X.env.locals::X.fs:=λb q=>by
 rcases I.ok.stk with e | ⟨e,hf⟩;grind;rw[e] at q;unfold frs at q;rw[bZ,hf] at q;exact q
def Inv.stkFree (I:Inv X pins σ H s):∀b∈frs X.stack,H b=none:=λb q=>by
 rcases aF.mp (I.stkSub b q) with e | q;rw[e];exact I.free;obtain⟨_,o,B,_⟩:=I.ok.funs.mem q;exact I.base.free b o B (I.ok.frf b q) λz=>I.ok.exfs b z q
def Inv.step {g':Array GenState}{t':Nat}{d':Drawn}{ch:AY}(I:Inv X pins σ H s)
  (F:∀b∈ch,(b∈X.ex\/X.s₀.heap.objs.size<=b)/\b≠X.env.locals/\(∀x c,X.env.cells.lookup x=some c->c≠b)/\∀p∈X.pn++pins,p.1≠b)
  (O:∀b o,b≠X.env.locals->b∉X.fs->b∉ch->s.heap.get? b=some o->H b=none->h'.get? b=some o)
  (U:∀b o,b≠X.env.locals->b∈X.fs->b∉ch->s.heap.get? b=some o->H b=none->∃sl,h'.get? b=some { o with slots:=sl }) (J:∀b o,b∉ch->s.heap.get? b=some o->H b=none->H' b=none)
  (ap:∀b o,b∉ch->s.heap.get? b=some o->∃o',h'.get? b=some o')
  (ag:∀b xs,H b=some (.tup xs)->H' b=some (.tup xs)) (al:∀b o u,H b=some (.frz o u)->H' b=some (.frz o u)) (a0:∀b ps,H b=some (.tbl ps)->∃more,H' b=some (.tbl (ps++more)))
  (ns:∀m,s.heap.Ns X.env.locals m->h'.Ns X.env.locals m) (as:HOk X.prog X.w H' h') (hg:AllBare g') :
  Inv X pins σ H' { s with heap:=h',gens:=g',drawn:=d',toks:=t' }:=by
 have an:∀b o,X.s₀.heap.get? b=some o->b≠X.env.locals:=λb o e=>aL (a9 (aA e) I.ok.above)
 have Y:∀b o,X.s₀.heap.get? b=some o->b∉X.ex->b∉ch:=λb o e B Z=>by
  rcases (F b Z).1 with z | z;exact B z;exact absurd (a9 (aA e) z) (cC _)
 have L:∀x c,X.env.cells.lookup x=some c->∀v,s.heap.IsCell c v->h'.IsCell c v:=by
  rintro x c e v ⟨o,ho,hd⟩;have ad:c∉ch:=λz=>(F c z).2.2.1 x c e rfl;by_cases hc:c∈X.fs;obtain⟨sl,q⟩:=U c o (I.cne x c e) hc ad ho (I.freeC x c e);exact⟨_,q,hd⟩;exact⟨o,O c o (I.cne x c e) hc ad ho (I.freeC x c e),hd⟩
 show⟨I.ok,I.os,hg,⟨λb o e n Z B=>?_,λb o e n Z B=>?_,λb o e n B=>?_,λb o e B=>?_,λb xs e=>ag b xs (I.base.tups b xs e),λb o xs e=>al b o xs (I.base.frzs b o xs e),λb ps e=>?_⟩,?_,λx c e=>?_,?_,λx c e=>?_,λp hp=>?_,as,I.len⟩;exact O b o (an b o e) Z (Y b o e B) (I.base.keep b o e n Z B) (I.base.free b o e n B);obtain⟨sl,e1⟩:=I.base.slot b o e n Z B;obtain⟨av,e2⟩:=U b _ (an b o e) Z (Y b o e B) e1 (I.base.free b o e n B);exact⟨av,e2⟩;obtain⟨o',e1⟩:=I.base.there b o e B;exact J b o' (Y b o e B) e1 (I.base.free b o e n B);obtain⟨o',e1⟩:=I.base.there b o e B;right;obtain⟨m1,e1⟩:=I.base.tbls b ps e;grind;obtain⟨m,hn,hl⟩:=I.loc;show⟨m,ns m hn,λi x v e1 e2 e3=>?_⟩;obtain⟨u,r,l⟩:=hl i x v e1 e2 e3;show⟨u,r,?_⟩;rcases l with l | ⟨k,c,e,z⟩;exact .inl l;exact .inr ⟨k,c,e,L x c e _ z⟩;obtain⟨v,z⟩:=I.cell x c e;exact⟨v,L x c e v z⟩;obtain⟨m,⟨o,_,_,ho,_⟩,_⟩:=I.loc;exact J _ o (λz=>(F _ z).2.1 rfl) ho I.free;obtain⟨v,o,ho,hd⟩:=I.cell x c e;exact J c o (λz=>(F c z).2.2.1 x c e rfl) ho (I.freeC x c e);obtain⟨e,n,ne,nf,d⟩:=I.pin p hp;have ad:p.1∉ch:=λz=>(F p.1 z).2.2.2 p hp rfl;right
def Inv.un(I:Inv X pins σ H s)(u:Un X.fs [] H H' s.heap h')(B:HOk X.prog X.w H' h'):Inv X pins σ H' { s with heap:=h',toks:=t' }:=by
 obtain⟨m,⟨o,es,Z,L,r⟩,_⟩:=id I.loc;obtain⟨sl,O⟩:=u.any L I.free (by simp);exact I.step (g':=s.gens) (d':=s.drawn) (ch:=[]) (λ_ z=>nomatch z) (λb o _ F _ e n=>u.keep b o e n F (by simp)) (λb o _ F _ e n=>u.slot b o e n F (by simp)) (λb o _ e n=>u.free b o e n (by simp)) (λb o _ e=>u.there b o e (by simp)) u.tups u.frzs u.tbls (λm' U=>by obtain⟨o',es',J,q,Y⟩:=U;rw[L] at q;cases q;exact⟨_,es',J,O,Y⟩) B I.bare
def Inv.call(I:Inv X pins σ H s)(u:Un (frs X.stack) ch H H' s.heap h')(J:HOk X.prog X.w H' h')(Y:AllBare g')(B:∀b∈ch,(b∈X.ex\/X.s₀.heap.objs.size<=b)/\b≠X.env.locals/\(∀x c,X.env.cells.lookup x=some c->c≠b)/\∀p∈X.pn++pins,p.1≠b) :
  Inv X pins σ H' { s with heap:=h',gens:=g',drawn:=d',toks:=t' }:=by
 obtain⟨m,⟨o,es,ep,U,r⟩,_⟩:=id I.loc;obtain⟨sl,L⟩:=u.any U I.free λz=>(B _ z).2.1 rfl;exact I.step (ch:=ch) B (λb o L Z q e n=>u.keep b o e n (λz=>(aF.mp (I.stkSub b z)).elim L Z) q) (λb o _ _ q e n=>u.any e n q) (λb o q e n=>u.free b o e n q) (λb o q e=>u.there b o e q) u.tups u.frzs u.tbls (λm' hm=>by obtain⟨o',es',O,F,r'⟩:=hm;rw[U] at F;cases F;exact⟨_,es',O,L,r'⟩) J Y
def Inv.turned(I:Inv X pins σ H s)(k:∀b o,b≠B->s.heap.get? b=some o->h'.get? b=some o)(L:H B=none)(J:B≠X.env.locals)(h1:B∈X.ex\/X.s₀.heap.objs.size<=B)(h2:∀x c,X.env.cells.lookup x=some c->c≠B)(O:∀p∈X.pn++pins,p.1≠B):Inv X pins σ H { s with heap:=h',toks:=t' }:=by
 have U:∀b u,H b=some u->b≠B:=λb u e z=>by rw[z,L] at e;cases e
 show I.step (g':=s.gens) (d':=s.drawn) (ch:=[B]) (λb Y=>?_) (λb o _ _ F e _=>k b o (λz=>F (by simp[z])) e) (λb o _ _ F e _=>⟨o.slots,k b o (λz=>F (by simp[z])) e⟩) (λ_ _ _ _ n=>n)
  (λb o F e=>⟨o,k b o (λz=>F (by simp[z])) e⟩) (λ_ _ e=>e) (λ_ _ _ e=>e) (λb ps e=>⟨#[],by rw[e];simp⟩) (λm Z=>?_) (λb u e=>?_) I.bare
 have e:b=B:=by simpa using Y
 subst e;exact⟨h1,J,h2,O⟩;obtain⟨o,es,ep,ho,r⟩:=Z;exact⟨o,es,ep,k _ o (Ne.symm J) ho,r⟩;show (I.hok b u e).stay (λc v F q=>k c v ?_ q) (λ_ q=>q) λ_ _ q=>q;grind
def Inv.tok (I:Inv X pins σ H s)(t:Nat):Inv X pins σ H { s with toks:=t }:=I.un (h':=s.heap) (t':=t) Un.refl I.hok
def Inv.kept(I:Inv X pins σ H s)(k:∀b u,s.heap.get? b=some u->h'.get? b=some u):Inv X pins σ H { s with heap:=h',toks:=t' }:=I.un (Un.kept k) (I.hok.kept k)
def Inv.laid{a:Addr}(I:Inv X pins σ H s)(k:∀b u,s.heap.get? b=some u->h'.get? b=some u)(q:s.heap.objs.size<=a)(B:yo X.prog X.w (upd H a o) h' a o) :
  Inv X pins σ (upd H a o) { s with heap:=h',toks:=t' }:=I.un (Un.laid k q (I.hok.fresh q)) (I.hok.laid k q B)
def Inv.write(I:Inv X pins σ H s)(F:Mut (H x))(J:e=x\/H e=some (.own x))(k:∀b u,b≠e->s.heap.get? b=some u->h'.get? b=some u)(q:∃u,h'.get? e=some u)(B:yo X.prog X.w (upd H x o) h' x o):Inv X pins σ (upd H x o) { s with heap:=h',toks:=t' }:=I.un (Un.write F J k q) (I.hok.write F J k q B)
def Inv.pins_of(I:Inv X pins σ H s)(h:∀p∈q,s.heap.get? p.1=some p.2/\H p.1=none/\p.1≠X.env.locals/\p.1∉X.fs/\∀v,p.2.data≠.cell v):Inv X q σ H s:=
 ⟨I.ok,I.os,I.bare,I.base,I.loc,I.cell,I.free,I.freeC,λp B=>(aI.mp B).elim (λz=>I.pin p (bE _ z)) (h p),I.hok,I.len⟩
def zik {N:AM}(q:N.Nodup){i j:Nat}{x:Str}(a:N[i]?=some x)(b:N[j]?=some x):i=j:=by obtain⟨h1,B⟩:=ac.mp a;obtain⟨h2,F⟩:=ac.mp b;exact (cA q).mp (B.trans F.symm)
def zgy(I:Inv X pins σ H s)(hN:X.N.Nodup)(hi:X.N[i]?=some x)(J:Loc X.env.scope x)(r:yB v u)(h:∀s',Inv X pins (σ.set i (some v)) H s'->(∃a,Heap.SameBut a s.heap s'.heap/\(a=X.env.locals\/X.env.cells.lookup x=some a))->Q () s')(hf:X.fn x=true\/X.env.scope.names.lookup x=some .local:=by walk_at "l"):wpAny M A (storeName X.env x u) Q E s:=by
 obtain⟨m,hn,hl⟩:=id I.loc;have ag:(X.env.scope.kind==.class || (X.env.scope.kind==.module&&X.env.locals != X.env.globals))=false:=by rw[I.ok.kind];rfl
 have U:i<σ.length:=by rw[I.len];exact (ac.mp hi).1
 have Y:=I.cne
 have B:∀ {a:Addr} {h':Heap},(∃o,s.heap.get? a=some o/\H a=none)->Heap.SameBut a s.heap h'->HOk X.prog X.w H h':=λ{a h'} ha hs b ob e=>by
  obtain⟨_,_,ap⟩:=ha;show (I.hok b ob e).stay (λc w' L q=>(hs.2 c ?_).trans q) (λ_ q=>q) λ_ _ q=>q;grind
 rcases J with hk | hk;show wpAny_storeName_local hk hn (λh' as hs=>?_) ag;obtain⟨oL,_,_,av,_⟩:=id hn;show h _ ⟨I.ok,I.os,I.bare,⟨λb o e n Z J=>?_,λb o e n Z J=>?_,I.base.free,λb o e J=>?_,I.base.tups,I.base.frzs,I.base.tbls⟩,⟨_,as,λj y v' F O e3=>?_⟩,λy c e=>?_,I.free,I.freeC,λp hp=>?_,B ⟨oL,av,I.free⟩ hs,by simpa using I.len⟩ ⟨_,hs,.inl rfl⟩;exact (hs.2 b (aL (a9 (aA e) I.ok.above))).trans (I.base.keep b o e n Z J);obtain⟨sl,F⟩:=I.base.slot b o e n Z J;exact⟨sl,(hs.2 b (aL (a9 (aA e) I.ok.above))).trans F⟩;obtain⟨o',F⟩:=I.base.there b o e J;exact⟨o',(hs.2 b (aL (a9 (aA e) I.ok.above))).trans F⟩;by_cases hj:j=i;subst hj;rw[hi] at F;cases F;rw[aM U] at O;cases O;exact⟨u,r,.inl ⟨hk,by simp⟩⟩;rw[ax (Ne.symm hj)] at O;obtain⟨u',r',q⟩:=hl j y v' F O e3;show⟨u',r',?_⟩;rcases q with ⟨k,e⟩ | ⟨k,c,e,z⟩;show .inl ⟨k,?_⟩;have:y≠x:=λe=>hj (zik hN F (e ▸ hi));simp[this,e];exact .inr ⟨k,c,e,z.sameBut hs (Y y c e)⟩;obtain⟨w',z⟩:=I.cell y c e;exact⟨w',z.sameBut hs (Y y c e)⟩;obtain⟨e,n,ne,nf,d⟩:=I.pin p hp;exact⟨(hs.2 p.1 ne).trans e,n,ne,nf,d⟩
 have ad:X.fn x=true:=by
  grind
 obtain⟨c,L⟩:=I.ok.has x (.inl hk);obtain⟨w',z⟩:=I.cell x c L;show wpAny_storeName_cell I.ok.kind hk L z (λh' al hs=>?_);obtain⟨oc,a0,a1⟩:=id z;show h { s with heap:=h' } ⟨I.ok,I.os,I.bare,⟨λb o e n Z J=>?_,λb o e n Z J=>?_,I.base.free,λb o e J=>?_,I.base.tups,I.base.frzs,I.base.tbls⟩,⟨m,hn.sameBut hs (Ne.symm (Y x c L)),λj y v' F O e3=>?_⟩,λy c' e=>?_,I.free,I.freeC,λp hp=>?_,B ⟨oc,a0,I.freeC x c L⟩ hs,by simpa using I.len⟩ ⟨c,hs,.inr L⟩;exact (hs.2 b (aL (a9 (aA e) (I.ok.cab x c ad L)))).trans (I.base.keep b o e n Z J);obtain⟨sl,F⟩:=I.base.slot b o e n Z J;exact⟨sl,(hs.2 b (aL (a9 (aA e) (I.ok.cab x c ad L)))).trans F⟩;obtain⟨o',F⟩:=I.base.there b o e J;exact⟨o',(hs.2 b (aL (a9 (aA e) (I.ok.cab x c ad L)))).trans F⟩;by_cases hj:j=i;subst hj;rw[hi] at F;cases F;rw[aM U] at O;cases O;exact⟨u,r,.inr ⟨.inl hk,c,L,al⟩⟩;rw[ax (Ne.symm hj)] at O;obtain⟨u',r',q⟩:=hl j y v' F O e3;show⟨u',r',?_⟩;rcases q with q | ⟨k,c',e,z'⟩;exact .inl q;show .inr ⟨k,c',e,z'.sameBut hs ?_⟩;rintro rfl;exact hj (zik hN F (I.ok.inj _ _ _ e L ▸ hi));by_cases an:c'=c;subst an;exact⟨_,al⟩;obtain⟨w2,z2⟩:=I.cell y c' e;exact⟨w2,z2.sameBut hs an⟩;obtain⟨e,n,ne,nf,d⟩:=I.pin p hp;show⟨(hs.2 p.1 ?_).trans e,n,ne,nf,d⟩;intro q;right
def zfk(I:Inv X pins σ H s)(q:X.N.Nodup)(hi:X.N[i]?=some x)(B:Loc X.env.scope x)(r:yB v u)(h:∀s',Inv X pins (σ.set i (some v)) H s'->Q () s')(F:X.fn x=true\/X.env.scope.names.lookup x=some .local:=by walk_at "l"):wpAny M A (storeName X.env x u) Q E s:=
 zgy I q hi B r (λs' I' _=>h s' I') F
def Inv.call'(I:Inv X pins σ H s)(F:s'.os=s.os)(u:Un (frs X.stack) ch H H' s.heap s'.heap)(q:HOk X.prog X.w H' s'.heap)(J:AllBare s'.gens)(B:∀b∈ch,(b∈X.ex\/X.s₀.heap.objs.size<=b)/\b≠X.env.locals/\(∀x c,X.env.cells.lookup x=some c->c≠b)/\∀p∈X.pn++pins,p.1≠b):Inv X pins σ H' s':=by
 obtain⟨h',g',d',t',o'⟩:=s';have e:o'=s.os:=F;subst e;exact I.call (g':=g') (t':=t') (d':=d') u q J B
end
abbrev XK:=Value->Option Addr->Hp->Prop
abbrev St:=List (Option V)
abbrev VK:=V->Hp->Prop
abbrev TE:=St->Hp->VK->Prop
abbrev TT:=St->Hp->(Bool->Hp->Prop)->Prop
abbrev TA:=St->Hp->(AT->Hp->Prop)->Prop
structure Ends where
 nx:St->Hp->Prop
 rt:VK
 bk:St->Hp->Prop:=λ_ _=>False
 ct:St->Hp->Prop:=λ_ _=>False
abbrev TS:=Ends->St->Hp->Prop
def EP (X:Cx)(pins:AB)(σ:St)(Q:VK)(u:Value)(s':AZ):Prop:=∃v H',Inv X pins σ H' s'/\yB v u/\Q v H'
def TP (X:Cx)(pins:AB)(σ:St)(Q:Bool->Hp->Prop)(b:Bool)(s':AZ):Prop:=∃H',Inv X pins σ H' s'/\Q b H'
def AP (X:Cx)(pins:AB)(σ:St)(Q:AT->Hp->Prop)(us:AN)(s':AZ):Prop:=∃vs H',Inv X pins σ H' s'/\zY vs us/\Q vs H'
def SP (X:Cx)(pins:AB)(D:Ends)(f:Flow)(s':AZ):Prop:=
 match f with
 | .next=>∃ q H',Inv X pins q H' s'/\D.nx q H'
 | .brk=>∃ q H',Inv X pins q H' s'/\D.bk q H'
 | .cont=>∃ q H',Inv X pins q H' s'/\D.ct q H'
 | .ret u=>∃v q H',Inv X pins q H' s'/\yB v u/\D.rt v H'
def PE (X:Cx)(e:Expr)(t:TE):Prop:=
 ∀ (pins:AB) (s:AZ) (σ:St) (H:Hp) (Q:VK),Inv X pins σ H s->t σ H Q->Af X (eval e X.env) (EP X pins σ Q) X.xe s
def PT (X:Cx)(e:Expr)(t:TT):Prop:=
 ∀ (pins:AB) (s:AZ) (σ:St) (H:Hp) (Q:Bool->Hp->Prop),Inv X pins σ H s->t σ H Q->Af X (isTrue e X.env (eval e X.env)) (TP X pins σ Q) X.xe s
def PW (X:Cx)(e:Expr)(t:TT):Prop:=
 ∀ (q:Sem Value) (pins:AB) (s:AZ) (σ:St) (H:Hp) (Q:Bool->Hp->Prop),Inv X pins σ H s->t σ H Q->Af X (isTrue e X.env q) (TP X pins σ Q) X.xe s
def PW.pt(h:PW X e t):PT X e t:=h _
def PA (X:Cx)(es:AO)(t:TA):Prop:=
 ∀ (pos:Pos) (pins:AB) (s:AZ) (σ:St) (H:Hp) (Q:AT->Hp->Prop),Inv X pins σ H s->t σ H Q->Af X (spliced (backTo pos (starEach es X.env))) (AP X pins σ Q) X.xe s
def PS (X:Cx)(st:Stmt)(t:TS):Prop:=
 ∀ (pins:AB) (s:AZ) (σ:St) (H:Hp) (D:Ends),Inv X pins σ H s->t D σ H->Af X (exec st X.env) (SP X pins D) X.xe s
def PSs (X:Cx)(st:List Stmt)(t:TS):Prop:=
 ∀ (pins:AB) (s:AZ) (σ:St) (H:Hp) (D:Ends),Inv X pins σ H s->t D σ H->Af X (execs st X.env) (SP X pins D) X.xe s
def thn{α:Type}{t:Sem α}{Q Q':α->AZ->Prop}(h:wpAny M A t Q E s)(q:∀a s,Q a s->Q' a s):wpAny M A t Q' E s:=aQ h q λ_ _ x=>x
section
variable {X:Cx}
def zbL (i:Nat):TE:=λσ H Q=>∃v,σ[i]?=some (some v)/\Q v H
def tC (v:V):TE:=λ_ H Q=>Q v H
def zoQ {i:Nat}{x:Str}{pos:Pos}(J:X.N[i]?=some x)(L:Vis X.env.scope x)(B:Ah x:=by ext)(F:(x==("__classdict__" : Str))=false:=by ext):PE X (.Name x pos) (zbL i):=by
 intro pins s σ H Q I h;obtain⟨v,e,h⟩:=h;obtain⟨m,O,U⟩:=I.loc;obtain⟨u,r,l⟩:=U i x v J e L;have fin:EP X pins σ Q u s:=⟨v,H,I,r,h⟩;rcases l with ⟨q,hm⟩ | ⟨q,c,hc,hcell⟩;exact wpAny_Name (wpAny_loadName_local I.ok.kind q O hm fin) B;rcases q with q | q;exact wpAny_Name (wpAny_loadName_cell I.ok.kind q hc hcell fin) B;exact wpAny_Name (wpAny_loadName_free I.ok.kind q hc hcell fin F) B
def zoP {i j pos}:PE X (.Constant (.int i) j pos) (tC (.int i)):=λ_ _ _ H _ I h=>wpAny_Constant_int ⟨.int i,H,I.tok _,⟨_,rfl⟩,h⟩
def zwJ {b j pos}:PE X (.Constant (.bool b) j pos) (tC (.bl b)):=λ_ _ _ H _ I h=>Constant_bool ⟨.bl b,H,I,rfl,h⟩
def ztC {j pos}:PE X (.Constant .none j pos) (tC .non):=λ_ _ _ H _ I h=>Constant_none ⟨.non,H,I,rfl,h⟩
def ztF {x j pos}:PE X (.Constant (.str x) j pos) (tC (.str x)):=λ_ _ _ H _ I h=>Calls.Constant_str ⟨.str x,H,I.tok _,⟨_,rfl⟩,h⟩
def Gl (X:Cx)(x:Str):Prop:=X.env.kindOf x=some .globalImplicit
def zkS{E:AA}{pins:AB}{s:AZ}{σ:St}{H:Hp}{x:Str}{u:Value}{Q:AA}(I:Inv X pins σ H s)(q:Gl X x)(B:X.mg x=some u)(h:Q u s)(F:Ah x:=by ext):Af X (eval (.Name x pos) X.env) Q E s:=
 Calls.Name_function_global I.ok.kind q (Calls.loadGlobal_global (by rw[I.ok.glob];exact I.mod.glob.keeps I.bk) B h) F
def zcY {E:AA}{pins:AB}{s:AZ}{σ:St}{H:Hp}{x:Str}{u:Value}{pos:Pos}{Q:AA}(I:Inv X pins σ H s)(q:Gl X x)(B:X.mg x=none)(F:bootBuiltins x=some u)(h:Q u s)
  (J:x ≠ "__name__" := by ext) (L:Ah x:=by ext):Af X (eval (.Name x pos) X.env) Q E s:=by
 obtain⟨O,h1,h2⟩:=I.mod.blt;exact Calls.Name_function_global I.ok.kind q (Calls.loadGlobal_builtin (by rw[I.ok.glob];exact I.mod.glob.keeps I.bk) B (by rw[I.ok.blt];exact h1.keeps I.bk) ((h2 x J).trans F) h) L
def zqG {x:Str}{v:V}{u:Value}{pos:Pos}(q:Gl X x)(B:X.mg x=none)(F:bootBuiltins x=some u)(r:yB v u)(J:x ≠ "__name__" := by ext)(L:Ah x:=by ext):PE X (.Name x pos) (tC v):=
 λ_ _ _ H _ I h=>zcY I q B F ⟨v,H,I,r,h⟩ J L
variable {a b:Expr}{ta tb:TE}{pos:Pos}
def PC (X:Cx)(F:CmpOp)(a b:Expr)(t:TE):Prop:=
 ∀ (pins:AB) (s:AZ) (σ:St) (H:Hp) (Q:VK),Inv X pins σ H s->t σ H Q->
  Af X (eval a X.env) (λv q=>Af X (eval b X.env) (λu B=>Af X (compareOp F v u) (EP X pins σ Q) X.xe B) X.xe q) X.xe s
def zij(b:Expr)(h:q≠.In)(h2:q≠.NotIn):behindInMarks q b=false:=by
 have B:(q==CmpOp.In)=false:=by cases q <;> first | rfl | exact absurd rfl h
 have F:(q==CmpOp.NotIn)=false:=by cases q <;> first | rfl | exact absurd rfl h2
 cases b <;> simp[behindInMarks,B,F]
def tIsN (ta:TE):TE:=λσ H Q=>ta σ H λx H1=>Q (.bl (decide (x = .non))) H1
def yB.none_iff(r:yB x v):(v==Value.none)=decide (x = .non):=by
 cases x with
 | non=>cases r;rfl
 | bl _=>cases r;rfl
 | int _=>obtain⟨t,rfl⟩:=r;rfl
 | str _=>obtain⟨t,rfl⟩:=r;rfl
 | byt _=>obtain⟨t,rfl⟩:=r;rfl
 | flt _=>obtain⟨t,rfl⟩:=r;rfl
 | ref _=>cases r;rfl
 | ty _=>cases r;rfl
def zty {j pos'}(q:PE X a ta):PC X .Is a (.Constant .none j pos') (tIsN ta):=by intro pins s σ H Q I h;show thn (q pins s σ H _ I h)  ?_;rintro v J ⟨x,H1,I1,B,F⟩;exact Constant_none (is_none_gen ⟨.bl _,H1,I1,by rw[B.none_iff];rfl,F⟩)
def tB (t:TE):TT:=λσ H Q=>t σ H λx H1=>∃c,x = .bl c/\Q c H1
def zoT(h:PC X B a b t)(h1:behindInMarks B b=false:=by first | exact zij _ (by ext) (by ext) | rfl):PT X (.Compare a [B] [b] pos) (tB t):=by intro pins s σ H Q I F;show wpAny_isTrue_Compare1 (thn (h pins s σ H _ I F) λv O h1=>thn h1 λu U h2=>thn h2 λc Y ⟨x,H1,I1,J,L⟩=>?_) h1;obtain⟨d,rfl,q⟩:=L;cases J;exact bN ⟨H1,I1,q⟩
def ztV(h:PE X e t)(he:∀whole,isTrue e X.env whole=(do let v <- whole;standAt e.pos;holding [v] (truthy v)):=by intro _;rfl):PT X e (tB t):=by intro pins s σ H Q I hw;show isTrue_plain (thn (h pins s σ H _ I hw) λv s1 ⟨x,H1,I1,r1,q1⟩=>?_) (he _);obtain⟨d,rfl,q⟩:=q1;cases r1;exact bN ⟨H1,I1,q⟩
variable {tA tB':TT}{zQ:AO}
def zw1 (t u:TT):TT:=λσ H Q=>t σ H λc H1=>if c=true then u σ H1 Q else Q false H1
def tOr (t u:TT):TT:=λσ H Q=>t σ H λc H1=>if c=true then Q true H1 else u σ H1 Q
def tNot (t:TT):TT:=λσ H Q=>t σ H λc H1=>Q (!c) H1
def zq5 (q:PT X a tA):PW X (.BoolOp .And [a] pos) tA:=by
 intro B pins s σ H Q I h;show isTrue_and (thn (q pins s σ H Q I h) λc F e=>?_)
 cases c with
 | true=>exact isTrue_and_nil e
 | false=>exact e
def ztX (q:PT X a tA):PW X (.BoolOp .Or [a] pos) tA:=by
 intro B pins s σ H Q I h;show isTrue_or (thn (q pins s σ H Q I h) λc F e=>?_)
 cases c with
 | false=>exact isTrue_or_nil e
 | true=>exact e
def ztW (B:PT X a tA)(F:PW X (.BoolOp .And (b::zQ) pos) tB'):PW X (.BoolOp .And (a::b::zQ) pos) (zw1 tA tB'):=by
 intro J pins s σ H Q I h;show isTrue_and (thn (B pins s σ H _ I h)  ?_);rintro c L ⟨H1,I1,q⟩
 cases c with
 | true=>exact F J pins L σ H1 Q I1 q
 | false=>exact⟨H1,I1,q⟩
def zwO (B:PT X a tA)(F:PW X (.BoolOp .Or (b::zQ) pos) tB'):PW X (.BoolOp .Or (a::b::zQ) pos) (tOr tA tB'):=by
 intro J pins s σ H Q I h;show isTrue_or (thn (B pins s σ H _ I h)  ?_);rintro c L ⟨H1,I1,q⟩
 cases c with
 | true=>exact⟨H1,I1,q⟩
 | false=>exact F J pins L σ H1 Q I1 q
def ztU (q:PT X a tA):PT X (.UnaryOp .Not a pos) (tNot tA):=by intro pins s σ H Q I h;exact isTrue_not (q pins s σ H (λc H1=>Q (!c) H1) I h)
def zuw (ta tb:TE):TE:=λσ H Q=>ta σ H λx H1=>∃c,x = .bl c/\if c=true then tb σ H1 Q else Q (.bl false) H1
def zuD (ta:TE):TE:=λσ H Q=>ta σ H λx H1=>∃c,x = .bl c/\Q (.bl (!c)) H1
def ztE{op}(h:PE X a t):PE X (.BoolOp op [a] pos) t:=λpins s σ H Q I q=>BoolOp_one (h pins s σ H Q I q)
def ztz (B:PE X a ta)(F:PE X (.BoolOp .And (b::zQ) pos) tb):PE X (.BoolOp .And (a::b::zQ) pos) (zuw ta tb):=by
 intro pins s σ H Q I h;show BoolOp_and (thn (B pins s σ H _ I h)  ?_);rintro v J ⟨x,H1,I1,L,q⟩;obtain⟨c,rfl,q⟩:=q;cases L;show bN ?_
 cases c with
 | true=>exact F pins J σ H1 Q I1 q
 | false=>exact⟨.bl false,H1,I1,rfl,q⟩
def ztD (B:PE X a ta):PE X (.UnaryOp .Not a pos) (zuD ta):=by intro pins s σ H Q I h;show UnaryOp_ (thn (B pins s σ H _ I h)  ?_);rintro v J ⟨x,H1,I1,F,q⟩;obtain⟨c,rfl,q⟩:=q;cases F;exact not_of (bN ⟨.bl (!c),H1,I1,rfl,q⟩)
def tIf (t:TT)(ta tb:TE):TE:=λσ H Q=>t σ H λc H1=>if c=true then ta σ H1 Q else tb σ H1 Q
def znw(F:PT X c tA)(J:PE X a ta)(L:PE X b tb):PE X (.IfExp c a b pos) (tIf tA ta tb):=by
 intro pins s σ H Q I h;show wpAny_IfExp (thn (F pins s σ H _ I h)  ?_);rintro d q ⟨H1,I1,B⟩
 cases d with
 | true=>exact J pins q σ H1 Q I1 B
 | false=>exact L pins q σ H1 Q I1 B
end
def SqL (K:AH)(H:Hp)(a:Addr)(xs:AT):Prop:=
 Rd H a (.lst xs)\/
  ∃ (o:Obj) (its:AK) (n:Nat),K.lookup a=some o/\o.cls = .type "list" /\ o.dict=none/\o.data = .seq its n/\its.size<=sizeLine/\zY xs its.toList
def SqT (K:AH)(H:Hp)(a:Addr)(xs:AT):Prop:=
 Rd H a (.tup xs)\/
  ∃ (o:Obj) (its:AK) (n:Nat),K.lookup a=some o/\o.cls = .type "tuple" /\ o.data = .seq its n/\its.size<=sizeLine/\zY xs its.toList
def absV:Value->Option V
 | .none=>some .non
 | .bool b=>some (.bl b)
 | .int i _=>some (.int i)
 | .str x _=>some (.str x)
 | .bytes b _=>some (.byt b)
 | .float b _=>some (.flt b)
 | .ref a=>some (.ref a)
 | .type n=>some (.ty n)
 | _=>none
def yB.abs(r:yB x u):absV u=some x:=by
 cases x with
 | non=>cases r;rfl
 | bl _=>cases r;rfl
 | int _=>obtain⟨t,rfl⟩:=r;rfl
 | str _=>obtain⟨t,rfl⟩:=r;rfl
 | byt _=>obtain⟨t,rfl⟩:=r;rfl
 | flt _=>obtain⟨t,rfl⟩:=r;rfl
 | ref _=>cases r;rfl
 | ty _=>cases r;rfl
def yB.inj(r:yB x u)(q:yB y u):x=y:=bz (r.abs.symm.trans q.abs)
def zY.inj:∀ {xs ys:AT} {us:AN},zY xs us->zY ys us->xs=ys
 | _,_,_,.nil,.nil=>rfl
 | _,_,_,.cons r t,.cons q t'=>by rw[r.inj q,zY.inj t t']
section
variable {X:Cx}{pins:AB}{σ:St}{H:Hp}{s:AZ}{a:Addr}{xs ys:AT}
def SqL.of {K:AH}(h:H a=some (.lst xs)):SqL K H a xs:=.inl (.inl h)
def SqT.of {K:AH}(h:H a=some (.tup xs)):SqT K H a xs:=.inl (.inl h)
def Inv.list (I:Inv X pins σ H s)(h:SqL X.K H a xs):∃its:AN,zY xs its/\PlainL s.heap a its.toArray/\xs.length<=sizeLine:=by
 rcases h with h | ⟨o,its,n,hk,hc,hd,hs,hz,r⟩;obtain⟨z,its,n,r,e⟩:=h.ok I.hok;exact⟨its,r,⟨_,n,e,rfl,rfl,rfl⟩,z⟩;show⟨its.toList,r,⟨o,n,I.kIn a o hk,hc,hd,by simpa using hs⟩,?_⟩;have e:=r.length;grind
def Inv.tuple (I:Inv X pins σ H s)(h:SqT X.K H a xs):∃its:AN,zY xs its/\IsTup s.heap a its.toArray/\xs.length<=sizeLine:=by
 rcases h with h | ⟨o,its,n,hk,hc,hs,hz,r⟩;obtain⟨z,its,r,p⟩:=h.ok I.hok;exact⟨its,r,p.tup,z⟩;show⟨its.toList,r,⟨o,I.kIn a o hk,hc,n,by simpa using hs⟩,?_⟩;have e:=r.length;grind
def Inv.list_inj (I:Inv X pins σ H s)(h:SqL X.K H a xs)(h':SqL X.K H a ys):xs=ys:=by
 obtain⟨its,r,⟨o,n,e,_,_,d⟩,_⟩:=I.list h;obtain⟨its',B,⟨o',J,q,_,_,d'⟩,_⟩:=I.list h';rw[e] at q;cases q;rw[d] at d';injection d' with F _;have:its=its':=by simpa using congrArg Array.toList F
 subst this;exact r.inj B
def Inv.tuple_inj (I:Inv X pins σ H s)(h:SqT X.K H a xs)(h':SqT X.K H a ys):xs=ys:=by
 obtain⟨its,r,⟨o,e,_,n,d⟩,_⟩:=I.tuple h;obtain⟨its',B,⟨o',q,_,J,d'⟩,_⟩:=I.tuple h';rw[e] at q;cases q;rw[d] at d';injection d' with F _;have:its=its':=by simpa using congrArg Array.toList F
 subst this;exact r.inj B
end
abbrev Cx.wish (X:Cx)(E:AA):Cx:={ X with xe:=E }
abbrev Cx.nox (X:Cx):Cx:=X.wish λ_ _=>False
def Cx.Ok.wish {X:Cx}(q:X.Ok)(E:AA):(X.wish E).Ok:=
 ⟨q.mod,q.kind,q.glob,q.blt,q.above,q.inj,q.has,q.cab,q.hd,q.frames,q.stk,q.exf,q.bs,q.bsz,q.noex,q.exfs,q.funs,q.frf⟩
def Cx.Ok.unwish{X:Cx}(q:(X.wish E).Ok):X.Ok:=
 ⟨q.mod,q.kind,q.glob,q.blt,q.above,q.inj,q.has,q.cab,q.hd,q.frames,q.stk,q.exf,q.bs,q.bsz,q.noex,q.exfs,q.funs,q.frf⟩
section
variable {X:Cx}{pins:AB}{σ:St}{H:Hp}{s:AZ}{E:AA}
def Inv.wish (I:Inv X pins σ H s)(E:AA):Inv (X.wish E) pins σ H s:=⟨I.ok.wish E,I.os,I.bare,I.base,I.loc,I.cell,I.free,I.freeC,I.pin,I.hok,I.len⟩
def Inv.unwish (I:Inv (X.wish E) pins σ H s):Inv X pins σ H s:=⟨I.ok.unwish,I.os,I.bare,I.base,I.loc,I.cell,I.free,I.freeC,I.pin,I.hok,I.len⟩
def SP.unwish(h:SP (X.wish E) pins D f s'):SP X pins D f s':=by
 cases f with
 | next=>obtain⟨B,H',I,q⟩:=h;exact⟨B,H',I.unwish,q⟩
 | brk=>obtain⟨B,H',I,q⟩:=h;exact⟨B,H',I.unwish,q⟩
 | cont=>obtain⟨B,H',I,q⟩:=h;exact⟨B,H',I.unwish,q⟩
 | ret u=>obtain⟨v,B,H',I,r,q⟩:=h;exact⟨v,B,H',I.unwish,r,q⟩
def PSs.nox{st:List Stmt}(h:PSs X.nox st t):PSs X st t:=λpins s σ H D I B=>
 aQ (h pins s σ H D (I.wish _) B) (λ_ _ q=>q.unwish) λ_ _ z=>False.elim z
end
section
variable {X:Cx}{st:Stmt}{zQ:List Stmt}{t u:TS}{e:Expr}{te:TE}{pos:Pos}
def zrK:TS:=λD σ H=>D.nx σ H
def zrL (t u:TS):TS:=λD σ H=>t { D with nx:=u D } σ H
def zlx:PSs X [] zrK:=λ_ _ σ H _ I h=>eC ⟨σ,H,I,h⟩
def zbC (h1:PS X st t)(h2:PSs X zQ u):PSs X (st::zQ) (zrL t u):=by
 intro pins s σ H D I h;show wpAny_execs_cons (thn (h1 pins s σ H { D with nx:=u D } I h) λf F q=>?_)
 cases f with
 | next=>
  obtain⟨B,H',I',q⟩:=q;exact h2 pins F B H' D I' q
 | ret v=>exact q
 | brk=>exact q
 | cont=>exact q
def ze3 (h1:PS X st t):PSs X [st] t:=by
 intro pins s σ H D I h;show wpAny_execs_cons (thn (h1 pins s σ H D I h) λf B q=>?_)
 cases f with
 | next=>exact eC q
 | ret v=>exact q
 | brk=>exact q
 | cont=>exact q
def Inv.quiet{pins:AB}{σ:St}{H:Hp}(I:Inv X pins σ H s):interactive X.env=false:=by simp[interactive,I.ok.kind]
def zrI (te:TE):TS:=λD σ H=>te σ H λ_ H1=>D.nx σ H1
def zq1 (q:PE X e te)(hs:swapsWith e none pos.line X.env=pure false:=by rfl):PS X (.Expr e pos) (zrI te):=by intro pins s σ H D I h;exact wpAny_Expr_any (thn (q pins s σ H _ I h) <| by rintro v F ⟨x,H1,I1,J,B⟩;exact⟨σ,H1,I1,B⟩) I.quiet hs
def zuF (te:TE):TS:=λD σ H=>te σ H D.rt
def zoS (q:PE X e te):PS X (.Return (some e) pos) (zuF te):=by intro pins s σ H D I h;exact wpAny_Return_some (thn (q pins s σ H _ I h) <| by rintro v J ⟨x,H1,I1,B,F⟩;exact⟨x,σ,H1,I1,B,F⟩)
def zw4 (c:TT)(t u:TS):TS:=λD σ H=>c σ H λb H1=>if b=true then t D σ H1 else u D σ H1
def ztS(F:PT X c tc)(J:PSs X a t)(L:PSs X b u):PS X (.If c a b pos) (zw4 tc t u):=by
 intro pins s σ H D I h;show wpAny_If (thn (F pins s σ H _ I h)  ?_);rintro d q ⟨H1,I1,B⟩
 cases d with
 | true=>exact J pins q σ H1 D I1 B
 | false=>exact L pins q σ H1 D I1 B
end
abbrev TG:=V->St->Hp->(St->Hp->Prop)->Prop
abbrev TGs:=AT->St->Hp->(St->Hp->Prop)->Prop
def PG (X:Cx)(q:Expr)(t:TG):Prop:=
 ∀ (pins:AB) (s:AZ) (σ:St) (H:Hp) (v:V) (u:Value) (Q:St->Hp->Prop),Inv X pins σ H s->yB v u->t v σ H Q->
  Af X (assign q X.env u) (λ_ s'=>∃ B H',Inv X pins B H' s'/\Q B H') X.xe s
def PGs (X:Cx)(B:AO)(t:TGs):Prop:=
 ∀ (pins:AB) (s:AZ) (σ:St) (H:Hp) (vs:AT) (us:AN) (Q:St->Hp->Prop),Inv X pins σ H s->zY vs us->t vs σ H Q->
  Af X (assignInOrder ((assignEach B X.env).map (·.2)) us) (λ_ s'=>∃ q H',Inv X pins q H' s'/\Q q H') X.xe s
abbrev zvA:=V->V->V->Hp->(Hp->Prop)->Prop
def PSet (X:Cx)(t:zvA):Prop:=
 ∀ (pins:AB) (s:AZ) (σ:St) (H:Hp) (o i v:V) (q B u:Value) (Q:Hp->Prop),Inv X pins σ H s->yB o q->yB i B->yB v u->t o i v H Q->
  Af X (setItem q B u) (λ_ s'=>∃H',Inv X pins σ H' s'/\Q H') X.xe s
abbrev TIp:=V->V->Hp->VK->Prop
def PIp (X:Cx)(q:Operator)(t:TIp):Prop:=
 ∀ (pins:AB) (s:AZ) (σ:St) (H:Hp) (x y:V) (v u:Value) (Q:VK),Inv X pins σ H s->yB x v->yB y u->t x y H Q->
  Af X (inplaceOp q v u) (EP X pins σ Q) X.xe s
section
variable {X:Cx}{pos:Pos}
def zag (i:Nat):TG:=λv σ H Q=>Q (σ.set i (some v)) H
def zqS(q:X.N.Nodup)(hi:X.N[i]?=some x)(B:Loc X.env.scope x)(F:X.fn x=true\/X.env.scope.names.lookup x=some .local:=by walk_at "l"):PG X (.Name x pos) (zag i):=by intro pins s σ H v u Q I r h;exact wpAny_assign_Name (zfk I q hi B r (λs' I'=>⟨_,H,I',h⟩) F)
def gNil:TGs:=λvs σ H Q=>vs=[]/\Q σ H
def zsK (t:TG)(u:TGs):TGs:=λvs σ H Q=>∃v r,vs=v::r/\t v σ H λq H'=>u r q H' Q
def zqT:PGs X [] gNil:=by intro pins s σ H vs us Q I r h;obtain⟨e,h⟩:=h;subst e;cases r;exact assignInOrder_nil ⟨σ,H,I,h⟩
def znz(h1:PG X e t)(h2:PGs X es u)(hs:(assignEach (e::es) X.env).map (·.2)=assign e X.env::(assignEach es X.env).map (·.2):=by rfl):PGs X (e::es) (zsK t u):=by
 intro pins s σ H vs us Q I r h;obtain⟨v,O,B,h⟩:=h;subst B
 cases r with
 | cons r F=>
  rw[hs];show assignInOrder_cons (thn (h1 pins s σ H _ _ _ I r h)  ?_);rintro _ J ⟨q,H1,I1,L⟩;exact h2 pins J q H1 _ _ Q I1 F L
def zv2 (K:AH)(n:Nat)(t:TGs):TG:=λv σ H Q=>∃a xs,v = .ref a/\SqT K H a xs/\xs.length=n/\t xs σ H Q
def ztN {es:AO}{k:Nat}{t:TGs}{n:Nat}(J:X.calm=true)(h:PGs X es t)
  (L:(assignEach es X.env).length=n:=by rfl) (q:(assignEach es X.env).findIdx? (·.1)=none:=by rfl):PG X (.Tuple es k pos) (zv2 X.K n t):=by
 intro pins s σ H v u Q I r B;obtain⟨a,xs,O,U,Y,B⟩:=B;subst O;cases r;obtain⟨its,F,Z,hz⟩:=I.tuple U;show assign_Tuple_tuple (I.ok.hd J) Z (by simp[L,<- Y,F.length]) q λh' hx=>?_;have I1:Inv X pins σ H { s with heap:=h' }:=I.kept (t':=s.toks) λb o e=>hx b o (aL (aA e)) e;exact h pins _ σ H xs _ Q I1 (by simpa using F) B
def gSub (to ti:TE)(t:zvA):TG:=λv σ H Q=>to σ H λo H1=>ti σ H1 λi H2=>t o i v H2 λH3=>Q σ H3
def ztM(ho:PE X o to)(hi:PE X i ti)(hs:PSet X t)(ha:∀v,assign (.Subscript o i pos) X.env v=(do
   let ov <- holding [v] (eval o X.env)
   let iv <- holding [v,ov] (eval i X.env)
   standAt pos
   holding [v,ov,iv] (setItem ov iv v)
   release [v,ov,iv] []):=by intro _;rfl):PG X (.Subscript o i pos) (gSub to ti t):=by
 intro pins s σ H v u Q I r h;rw[ha];show aa (bq (thn (ho pins s σ H _ I h)  ?_));rintro ov s1 ⟨x,H1,I1,r1,q1⟩;show aa (bq (thn (hi pins s1 σ H1 _ I1 q1)  ?_));rintro iv s2 ⟨y,H2,I2,r2,q2⟩;show aa (bK (aa (bq (thn (hs pins s2 σ H2 x y v ov iv u _ I2 r1 r2 r q2)  ?_))));rintro _ s3 ⟨H3,I3,q3⟩;exact wpAny_release ⟨σ,H3,I3,q3⟩
def zgK (te:TE)(g:TG):TS:=λD σ H=>te σ H λx H1=>g x σ H1 D.nx
def ztP(B:PE X e te)(F:PG X tg g)(hs:swapsWithSole [tg] e pos.line X.env=pure false:=by rfl)(J:swappedStores [tg] e X.env=pure none:=by rfl)(h1:(assignEach [tg] X.env).map (·.2)=[assign tg X.env]:=by rfl):PS X (.Assign [tg] e pos) (zgK te g):=by
 intro pins s σ H D I h;show wpAny_Assign_stores (thn (B pins s σ H _ I h) λv L ⟨x,H1,I1,O,U⟩=>?_) hs J;rw[h1];exact thn (F pins L σ H1 x v _ I1 O U) λ_ Y q=>q
def ztT(q:X.N.Nodup)(hi:X.N[i]?=some x)(B:Loc X.env.scope x)(F:PE X e te)(hs:swapsWith e (some (.Name x pos')) pos.line X.env=pure false:=by rfl)(J:X.fn x=true\/X.env.scope.names.lookup x=some .local:=by walk_at "l") :
  PS X (.Assign [.Name x pos'] e pos) (zgK te (zag i)):=by
 intro pins s σ H D I h;show wpAny_Assign_Name (thn (F pins s σ H _ I h) λv U ⟨y,H1,I1,L,O⟩=>?_) hs;exact zfk I1 q hi B L (λY I2=>⟨_,H1,I2,O⟩) J
def tAug (i:Nat)(te:TE)(ti:TIp):TS:=λD σ H=>∃x,σ[i]?=some (some x)/\te σ H λy H1=>ti x y H1 λz H2=>D.nx (σ.set i (some z)) H2
def ztQ(Y:X.N.Nodup)(hi:X.N[i]?=some x)(L:Loc X.env.scope x)(Z:PE X e te)(ho:PIp X J ti)(hf:X.fn x=true\/X.env.scope.names.lookup x=some .local:=by walk_at "l") :
  PS X (.AugAssign (.Name x pos') J e pos) (tAug i te ti):=by
 intro pins s σ H D I h;obtain⟨v,e1,h⟩:=h;obtain⟨m,hn,hl⟩:=I.loc;have O:Vis X.env.scope x:=by rcases L with k | k;exact .inl k;exact .inr (.inl k)
 obtain⟨u,r,l⟩:=hl i x v hi e1 O;show wpAny_AugAssign_Name ?_;have U:Af X (eval e X.env) (λw B=>Af X (inplaceOp J u w) (λr F=>Af X (storeName X.env x r) (λ_=>SP X pins D .next) X.xe F) X.xe B) X.xe s:=by show thn (Z pins s σ H _ I h)  ?_;rintro w s1 ⟨y,H1,I1,r1,q1⟩;show thn (ho pins s1 σ H1 v y u w _ I1 r r1 q1)  ?_;rintro z s2 ⟨zv,H2,I2,r2,q2⟩;exact zfk I2 Y hi L r2 (λs3 I3=>⟨_,H2,I3,q2⟩) hf
 rcases l with ⟨q,hm⟩ | ⟨q,c,hc,hcell⟩;exact wpAny_loadName_local I.ok.kind q hn hm U;rcases q with q | q;exact wpAny_loadName_cell I.ok.kind q hc hcell U;rcases L with k | k;have:X.env.scope.names.lookup x=some .free:=q;right;have:X.env.scope.names.lookup x=some .free:=q;right
def ipI (f:Int->Int->Int):TIp:=λx y H Q=>∃i j,x = .int i/\y = .int j/\Q (.int (f i j)) H
def zsQ:PIp X .Add (ipI λi j=>i+j):=by intro pins s σ H x y v u Q I B F h;obtain⟨i,j,J,L,q⟩:=h;subst J;subst L;obtain⟨t,rfl⟩:=B;obtain⟨t',rfl⟩:=F;exact iadd_int ⟨.int _,H,I.tok _,⟨_,rfl⟩,q⟩
def zuK (c:TT)(tb:TS):TS:=λD σ H=>∃W:Nat->St->Hp->Prop,(∃m,W m σ H)/\∀m σ H,W m σ H->
 c σ H λb H1=>if b=true then ∃N:St->Hp->Prop,(∀ q H',N q H'->∃B,B<m/\W B q H')/\tb { D with nx:=N,ct:=N,bk:=D.nx } σ H1 else D.nx σ H1
def znE(hp:PassesOwn (model X.prog X.w) X.A X.env X.xe)(hc:PT X c tc)(hb:PSs X body tb):PS X (.While c body [] pos) (zuK tc tb):=by
 intro pins s σ H D I h;obtain⟨W,⟨m0,w0⟩,F⟩:=h;show wpAny_While (codeAny_whileLoop (λn s'=>∃ J H',Inv X pins J H' s'/\W n J H') ?_ m0 ⟨σ,H,I,w0⟩);rintro n s1 ⟨B,H1,I1,w1⟩;show cH hp (thn (hc pins s1 B H1 _ I1 (F n B H1 w1))  ?_);rintro b s2 ⟨H2,I2,L⟩
 cases b with
 | true=>
  obtain⟨N,hN,L⟩:=L;rw[if_pos rfl];show cH hp (thn (hb pins s2 B H2 _ I2 L) λf s3 O=>?_)
  cases f with
  | next=>
   obtain⟨q,H3,I3,U⟩:=O;obtain⟨Y,Z,w3⟩:=hN q H3 U;exact⟨Y,Z,q,H3,I3,w3⟩
  | cont=>
   obtain⟨q,H3,I3,U⟩:=O;obtain⟨Y,Z,w3⟩:=hN q H3 U;exact⟨Y,Z,q,H3,I3,w3⟩
  | brk=>exact O
  | ret v=>exact O
 | false=>
  rw[if_neg aJ];exact eC ⟨B,H2,I2,L⟩
end
structure It where
 go:Nat->Hp->Prop
 yld:Nat->Hp->V->Hp->Prop
 stop:Nat->Hp->Prop
def zgF (X:Cx)(pins:AB)(H:Hp)(b:Addr):Prop:=
 H b=none/\b≠X.env.locals/\b∉X.fs/\(b∈X.ex\/X.s₀.heap.objs.size<=b)/\(∀x c,X.env.cells.lookup x=some c->c≠b)/\∀p∈X.pn++pins,p.1≠b
def Inv.fpOk {X:Cx}{pins:AB}{σ:St}{H H':Hp}{s:AZ}{b:Addr}(I:Inv X pins σ H s)(B:s.heap.objs.size<=b)(F:H' b=none):zgF X pins H' b:=by
 show⟨F,dY (a9 I.lt B),I.nofs B,.inr (af I.sz B),λx c e z=>?_,λp J z=>?_⟩;obtain⟨v,q⟩:=I.cell x c e;exact absurd (a9 q.lt (by rw[z];exact B)) (cC _);exact absurd (a9 (aA (I.pin p J).1) (by rw[z];exact B)) (cC _)
structure Turn (P:Aa)(w:Ab)(K:AH)(tg:Expr)(J:It)(fp:AY)(it:Addr)(tn:Nat->Heap->Prop):Prop where
 mem:it∈fp
 obj:∀i h,tn i h->∀b∈fp,∃o,h.get? b=some o/\∀v,o.data≠.cell v
 keep:∀i h h',tn i h->(∀b∈fp,∀o,h.get? b=some o->h'.get? b=some o)->tn i h'
 item:∀ (X:Cx),X.prog=P->X.w=w->X.K=K->X.calm=true->∀ (i:Nat) (pins:AB) (s:AZ) (σ:St) (H:Hp) (E:AA),Inv X pins σ H s->(∀b∈fp,zgF X pins H b)->tn i s.heap->J.go i H->
  wpAny (model P w) X.A (pyNext (.ref it)) (λr s1=>∃u,r=some u/\
   wpAny (model P w) X.A (letOwnedTupleGo tg (.ref it) u) (λ_ s2=>∃x H',Inv X pins σ H' s2/\yB x u/\J.yld i H x H'/\tn (i+1) s2.heap/\∀b∈fp,H' b=none) E s1) E s
 done:∀ (X:Cx),X.prog=P->X.w=w->X.K=K->X.calm=true->∀ (i:Nat) (pins:AB) (s:AZ) (σ:St) (H:Hp) (E:AA),Inv X pins σ H s->(∀b∈fp,zgF X pins H b)->tn i s.heap->J.stop i H->
  wpAny (model P w) X.A (pyNext (.ref it)) (λr s1=>r=none/\Inv X pins σ H s1) E s
 self:∀ (A:Ae) (i:Nat) (s:AZ) (Q:AA) (E:AA),tn i s.heap->Q (.ref it) s->wpAny (model P w) A (pyIter (.ref it)) Q E s
abbrev TI:=St->Hp->(It->Hp->Prop)->Prop
def PIE (X:Cx)(pins:AB)(σ:St)(tg:Expr)(R:It->Hp->Prop)(q:Value)(B:AZ):Prop:=
 ∃ (F:Addr) (I:AY) (L:Nat->Heap->Prop) (J:It) (H':Hp),q = .ref F/\Inv X pins σ H' B/\Turn X.prog X.w X.K tg J I F L/\L 0 B.heap/\(∀b∈I,zgF X pins H' b)/\R J H'
def PI (X:Cx)(tg iter:Expr)(wi:TI):Prop:=
 ∀ (pins:AB) (s:AZ) (σ:St) (H:Hp) (R:It->Hp->Prop),Inv X pins σ H s->wi σ H R->
  Af X (eval iter X.env) (λv q=>Af X (pyIter v) (PIE X pins σ tg R) X.xe q) X.xe s
def zmT(F:s.heap.get? B=some o)(I:o.cls = .type n)(J:o.data = .fields vs)(L:["enumerate","zip","dict_itemiterator","dict_reverseitemiterator","odict_iterator","itertools.zip_longest","itertools.pairwise"].contains n=false)(q:Q () s):wpAny M A (letOwnedTupleGo tg (.ref B) u) Q E s:=by
 unfold letOwnedTupleGo
 cases tg <;> first
  | exact ae q
  | (cases u <;> first
    | exact ae q
    | (show aa (wpAny_load F ?_)
       rw[I,J];change wpAny M A (if (["enumerate","zip","dict_itemiterator","dict_reverseitemiterator","odict_iterator","itertools.zip_longest","itertools.pairwise"].contains n&&vs[0]?==some (rawInt _))=true then _ else _) Q E s;rw[if_neg (by lia)];exact ae q))
def Itl (K:AH)(a:Addr):It:=
 ⟨λi H=>∃xs x,SqL K H a xs/\xs[i]?=some x,λi H x H'=>H'=H/\∀xs,SqL K H a xs->xs[i]?=some x,λi H=>∃xs,SqL K H a xs/\xs.length<=i⟩
def Itt (K:AH)(a:Addr):It:=
 ⟨λi H=>∃xs x,SqT K H a xs/\xs[i]?=some x,λi H x H'=>H'=H/\∀xs,SqT K H a xs->xs[i]?=some x,λi H=>∃xs,SqT K H a xs/\xs.length<=i⟩
def Itr (lo:Int)(n:Nat):It:=⟨λi _=>i<n,λi H x H'=>H'=H/\x = .int (lo+i),λi _=>n<=i⟩
def zl8{P:Aa}{w:Ab}{K:AH}(a q:Addr):Turn P w K tg (Itl K a) [q] q (λi h=>h.IsListIter q a i) where
 mem:=by simp
 obj:=λi h st b B=>by
  have e:b=q:=by simpa using B
  subst e;obtain⟨o,e,c,d⟩:=st;right
 keep:=λi h h' st k=>st.at λo e=>k q (by simp) o e
 item:=by intro X O U Y hc i pins s σ H E I J st Z;subst O U Y;obtain⟨xs,x,L,hx⟩:=Z;obtain⟨its,rv,p,hz⟩:=I.list L;obtain⟨u,hu,ru⟩:=rv.get hx;obtain⟨f0,f1,f2,f3,f4,f5⟩:=J q (by simp);show wpAny_pyNext_list_item st p.isList (x:=u) (by simpa using hu) λh' F sb=>?_;have I1:Inv X pins σ H { s with heap:=h' }:=I.turned (t':=s.toks) (λb o B e=>(sb.2 b B).trans e) f0 f1 f3 f4 f5;obtain⟨o,e,c,d⟩:=id F;exact⟨u,rfl,zmT (s:={ s with heap:=h' }) e c d (by ext) ⟨x,H,I1,ru,⟨rfl,λys hy=>by rw[I.list_inj hy L];exact hx⟩,F,λb B=>(J b B).1⟩⟩
 done:=by intro X O U Y hc i pins s σ H E I J st Z;subst O U Y;obtain⟨xs,L,hx⟩:=Z;obtain⟨its,rv,p,hz⟩:=I.list L;obtain⟨f0,f1,f2,f3,f4,f5⟩:=J q (by simp);have hl:=rv.length;exact wpAny_pyNext_list_end (I.ok.hd hc) st p.isList (by simp;lia) λh' eb=>⟨rfl,I.turned (t':=s.toks) (λb o B e=>eb b o B e) f0 f1 f3 f4 f5⟩
 self:=λ_ _ _ _ _ st h=>wpAny_pyIter_listiter st h
def zjo{P:Aa}{w:Ab}{K:AH}(a q:Addr):Turn P w K tg (Itt K a) [q] q (λi h=>h.IsTupleIter q a i) where
 mem:=by simp
 obj:=λi h st b B=>by
  have e:b=q:=by simpa using B
  subst e;obtain⟨o,e,c,d⟩:=st;right
 keep:=λi h h' st k=>st.at λo e=>k q (by simp) o e
 item:=by intro X O U Y hc i pins s σ H E I J st Z;subst O U Y;obtain⟨xs,x,L,hx⟩:=Z;obtain⟨its,rv,p,hz⟩:=I.tuple L;obtain⟨u,hu,ru⟩:=rv.get hx;obtain⟨f0,f1,f2,f3,f4,f5⟩:=J q (by simp);show wpAny_pyNext_tuple_item st (show s.heap.IsTuple a its.toArray from p) (x:=u) (by simpa using hu) λh' F sb=>?_;have I1:Inv X pins σ H { s with heap:=h' }:=I.turned (t':=s.toks) (λb o B e=>(sb.2 b B).trans e) f0 f1 f3 f4 f5;obtain⟨o,e,c,d⟩:=id F;exact⟨u,rfl,zmT (s:={ s with heap:=h' }) e c d (by ext) ⟨x,H,I1,ru,⟨rfl,λys hy=>by rw[I.tuple_inj hy L];exact hx⟩,F,λb B=>(J b B).1⟩⟩
 done:=by intro X O U Y hc i pins s σ H E I J st Z;subst O U Y;obtain⟨xs,L,hx⟩:=Z;obtain⟨its,rv,p,hz⟩:=I.tuple L;obtain⟨f0,f1,f2,f3,f4,f5⟩:=J q (by simp);have hl:=rv.length;exact wpAny_pyNext_tuple_end (I.ok.hd hc) st (show s.heap.IsTuple a its.toArray from p) (by simp;lia) λh' eb=>⟨rfl,I.turned (t':=s.toks) (λb o B e=>eb b o B e) f0 f1 f3 f4 f5⟩
 self:=λ_ _ _ _ _ st h=>wpAny_pyIter_tupleiter st h
def zjn{P:Aa}{w:Ab}{K:AH}(q:Addr)(lo:Int)(n:Nat):Turn P w K tg (Itr lo n) [q] q (λi h=>IsRangeIter h q (lo+(i:Nat) * 1) ((n:Int) - (i:Nat)) 1) where
 mem:=by simp
 obj:=λi h st b B=>by right
 keep:=λi h h' st k=>k q (by simp) _ st
 item:=by intro X L O U Y i pins s σ H E I J st Z;subst L O U;obtain⟨f0,f1,f2,f3,f4,f5⟩:=J q (by simp);have W:=Walks.range (prog:=X.prog) (w:=X.w) (I.ok.hd Y) q lo 1 n;show W.item i s _ _ Z st λv h' tk hv F kk=>?_;obtain⟨t,rfl⟩:=hv;have I1:Inv X pins σ H { s with heap:=h',toks:=tk }:=I.turned (λb o B e=>kk b o (by simpa using B) e) f0 f1 f3 f4 f5;show⟨_,rfl,zmT (s:={ s with heap:=h',toks:=tk }) (n := "range_iterator") F rfl rfl (by ext) ⟨.int (lo+i),H,I1,⟨t,?_⟩,⟨rfl,rfl⟩,F,λb B=>(J b B).1⟩⟩;rw[Int.mul_one]
 done:=by intro X L O U Y i pins s σ H E I J st Z;subst L O U;obtain⟨f0,f1,f2,f3,f4,f5⟩:=J q (by simp);exact wpAny_pyNext_range_end (I.ok.hd Y) st (by have:n<=i:=Z;lia) λh' eb=>⟨rfl,I.turned (t':=s.toks) (λb o B e=>eb b o B e) f0 f1 f3 f4 f5⟩
 self:=λ_ _ _ _ _ st h=>wpAny_pyIter_rangeiter st h
section
variable {X:Cx}{tg:Expr}
def zpW (K:AH)(tl:TE):TI:=λσ H R=>tl σ H λx H1=>∃a,x = .ref a/\(∃xs,SqL K H1 a xs)/\R (Itl K a) H1
def zv4 (K:AH)(tl:TE):TI:=λσ H R=>tl σ H λx H1=>∃a,x = .ref a/\(∃xs,SqT K H1 a xs)/\R (Itt K a) H1
def zqV(F:PE X l tl):PI X tg l (zpW X.K tl):=by
 intro pins s σ H R I h;show thn (F pins s σ H _ I h)  ?_;rintro v B ⟨x,H1,I1,J,L⟩;obtain⟨a,e,⟨xs,O⟩,q⟩:=L;subst e;cases J;obtain⟨its,Y,p,Z⟩:=I1.list O;show fm p.isList ?_;show⟨B.heap.objs.size,[B.heap.objs.size],_,_,H1,rfl,I1.kept (t':=B.toks) λb o e=>aj _ e,zl8 a _,⟨_,aC _ rfl,rfl,rfl⟩,λb U=>?_,q⟩;have e:b=B.heap.objs.size:=by simpa using U
 subst e;exact I1.fpOk (ah _) (I1.hok.fresh (ah _))
def ztO(F:PE X l tl):PI X tg l (zv4 X.K tl):=by
 intro pins s σ H R I h;show thn (F pins s σ H _ I h)  ?_;rintro v B ⟨x,H1,I1,J,L⟩;obtain⟨a,e,⟨xs,O⟩,q⟩:=L;subst e;cases J;obtain⟨its,Y,p,Z⟩:=I1.tuple O;show dE (show B.heap.IsTuple a its.toArray from p) ?_;show⟨B.heap.objs.size,[B.heap.objs.size],_,_,H1,rfl,I1.kept (t':=B.toks) λb o e=>aj _ e,zjo a _,⟨_,aC _ rfl,rfl,rfl⟩,λb U=>?_,q⟩;have e:b=B.heap.objs.size:=by simpa using U
 subst e;exact I1.fpOk (ah _) (I1.hok.fresh (ah _))
def znQ{pins:AB}{σ:St}{H:Hp}{s:AZ}{R:It->Hp->Prop}{E:AA}{lo hi:Int}{t u v:Tok}(I:Inv X pins σ H s)(h1:-(2 ^ 62)<=lo)(h2:lo<2 ^ 62)(B:-(2 ^ 62)<=hi)(F:hi<2 ^ 62)(q:R (Itr lo (hi - lo).toNat) H):Af X (pyIter (.ref s.heap.objs.size)) (PIE X pins σ tg R) E { s with heap:=s.heap.push { cls:=.type "range",data:=.fields #[.int lo t,.int hi u,.int 1 v] },toks:=tk }:=by
 show wpAny_pyIter_range (IsRange.new ..) (small_one h1 h2 B F) ?_;have I1:Inv X pins σ H { s with heap:=s.heap.push { cls:=.type "range",data:=.fields #[.int lo t,.int hi u,.int 1 v] },toks:=tk }:=I.kept λb o e=>aj _ e
 show⟨(s.heap.push { cls:=.type "range",data:=.fields #[.int lo t,.int hi u,.int 1 v] }).objs.size,[(s.heap.push { cls:=.type "range",data:=.fields #[.int lo t,.int hi u,.int 1 v] }).objs.size],_,_,H,rfl,
  I1.kept (t':=tk) λb o e=>aj _ e,zjn _ lo (hi - lo).toNat,?_,λb J=>?_,q⟩
 ·have L:lo+((0:Nat):Int) * 1=lo:=by simp
  have O:(((hi - lo).toNat:Nat):Int) - ((0:Nat):Int)=Builtin.Range.rangeSize lo hi 1:=by rw[rangeSize_one];split <;> lia
  change IsRangeIter _ _ (lo+((0:Nat):Int) * 1) ((((hi - lo).toNat:Nat):Int) - ((0:Nat):Int)) 1;rw[L,O];exact aC _ rfl
 have e:b=(s.heap.push { cls:=.type "range",data:=.fields #[.int lo t,.int hi u,.int 1 v] }).objs.size:=by simpa using J
 subst e;exact I1.fpOk (ah _) (I1.hok.fresh (ah _))
def zsM (ta:TA):TI:=λσ H R=>ta σ H λvs H1=>∃j:Int,vs=[.int j]/\-(2 ^ 62)<=j/\j<2 ^ 62/\R (Itr 0 j.toNat) H1
def zlu(F:Gl X "range")(J:X.mg "range" = none)(L:PA X [a] ta)(hs:starEach [a] X.env=[(false,eval a X.env)]:=by rfl):PI X tg (.Call (.Name "range" p) [a] [] pos) (zsM ta):=by
 intro pins s σ H R I h;show Call_ (zcY I F J boot_range (bR (thn (L pos pins s σ H _ I h) λus Z ⟨vs,H1,I1,O,B⟩=>?_) hs rfl));obtain⟨j,e,B,U,q⟩:=B;subst e
 cases O with
 | cons r Y=>
  cases Y;obtain⟨t,rfl⟩:=r;exact call_range_1 (znQ I1 (by lia) (by lia) B U (by simpa using q))
def zw3 (wi:TI)(g:TG)(tb:TS):TS:=λD σ H=>wi σ H λJ H1=>∃W:Nat->Nat->St->Hp->Prop,(∃m,W 0 m σ H1)/\∀i m σ H,W i m σ H->
 (J.stop i H/\D.nx σ H)\/(J.go i H/\∃N:St->Hp->Prop,(∀ q H',N q H'->∃F,F<m/\W (i+1) F q H')/\∀x H',J.yld i H x H'->g x σ H' λB H2=>tb { D with nx:=N,ct:=N,bk:=D.nx } B H2)
def zgj (q:AY)(h:Heap):AB:=q.filterMap λb=>(h.get? b).map λo=>(b,o)
def zbZ(B:b∈q)(e:h.get? b=some o):(b,o)∈zgj q h:=cR.mpr ⟨b,B,by rw[e];rfl⟩
def zlk(F:p∈zgj B h):p.1∈B/\h.get? p.1=some p.2:=by
 obtain⟨b,I,e⟩:=cR.mp F
 cases q:h.get? b with
 | none=>rw[q] at e;cases e
 | some o=>
  grind
def Inv.pinned {pins:AB}{σ:St}{H:Hp}{s:AZ}{q:AY}(I:Inv X pins σ H s)(F:∀b∈q,zgF X pins H b)(J:∀b∈q,∃o,s.heap.get? b=some o/\∀v,o.data≠.cell v):Inv X (pins++zgj q s.heap) σ H s:=
 I.pins_of λp L=>(aI.mp L).elim (λz=>I.pin p (aX _ z)) λz=>by
  obtain⟨B,e⟩:=zlk z;obtain⟨O,U,Y,_⟩:=F p.1 B;obtain⟨o,Z,d⟩:=J p.1 B;right
def Inv.unpinned{pins pl:AB}{σ:St}{H:Hp}(I:Inv X (pins++pl) σ H s):Inv X pins σ H s:=I.pins_of λp q=>I.pin p (aX _ (bE _ q))
def ztR(hp:PassesOwn (model X.prog X.w) X.A X.env X.xe)(hc:X.calm=true)(hi:PI X tg iter wi)(hg:PG X tg g)(B:PSs X body tb)(hs:∀x,foldedSetIterable iter X.env x=pure x:=by intro _;rfl):PS X (.For tg iter body [] pos) (zw3 wi g tb):=by
 intro pins s σ H D I h;show wpAny_For (thn (hi pins s σ H _ I h) λv s1 h1=>thn h1 λav s2 h2=>?_) hs;obtain⟨it,fp,tn,J,H2,e,I2,T,an,f2,W,⟨m0,w0⟩,ad⟩:=h2;subst e;have F:∀ {H':Hp},(∀b∈fp,H' b=none)->∀b∈fp,zgF X pins H' b:=λhn b B=>⟨hn b B,(f2 b B).2⟩;show codeAny_forLoop_any (λn s'=>∃i L H',Inv X pins L H' s'/\tn i s'.heap/\(∀b∈fp,H' b=none)/\W i n L H') ?_ m0 ⟨0,σ,H2,I2,an,λb B=>(f2 b B).1,w0⟩;rintro n s3 ⟨i,O,H3,I3,ag,al,w3⟩;rcases ad i n O H3 w3 with ⟨stop,qn⟩ | ⟨go,N,hN,step⟩
 ·show cH hp (thn (T.done X rfl rfl rfl hc i pins s3 O H3 X.xe I3 (F al) ag stop)  ?_);rintro r s4 ⟨hr,I4⟩;subst hr;exact eC ⟨O,H3,I4,qn⟩
 ·show cH hp (thn (T.item X rfl rfl rfl hc i pins s3 O H3 X.xe I3 (F al) ag go)  ?_);rintro r s4 ⟨u,hr,h4⟩;subst hr;show cH hp (thn h4  ?_);rintro _ s5 ⟨x,H5,I5,r5,y5,Z,ap⟩;have I5':=I5.pinned (F ap) (T.obj _ _ Z);show cH hp (thn (hg _ s5 O H5 x u _ I5' r5 (step x H5 y5))  ?_);rintro _ s6 ⟨as,H6,I6,q6⟩;show cH hp (thn (B _ s6 as H6 _ I6 q6) λf s7 Y=>?_);have U:∀ {q:St} {H7:Hp},Inv X (pins++zgj fp s5.heap) q H7 s7->N q H7->∃m,m<n/\∃i L H',Inv X pins L H' s7/\tn i s7.heap/\(∀b∈fp,H' b=none)/\W i m L H':=λ{q H7} I7 n7=>by obtain⟨m',hm,w7⟩:=hN q H7 n7;show⟨m',hm,i+1,q,H7,I7.unpinned,T.keep _ _ _ Z λb B o e=>(I7.pin (b,o) (aX _ (aX _ (zbZ B e)))).1,λb B=>?_,w7⟩;obtain⟨o,e,d⟩:=T.obj _ _ Z b B;exact (I7.pin (b,o) (aX _ (aX _ (zbZ B e)))).2.1
  cases f with
  | next=>obtain⟨q,H7,I7,n7⟩:=Y;exact U I7 n7
  | cont=>obtain⟨q,H7,I7,n7⟩:=Y;exact U I7 n7
  | brk=>obtain⟨q,H7,I7,Y⟩:=Y;exact⟨q,H7,I7.unpinned,Y⟩
  | ret v=>obtain⟨x7,q,H7,I7,r7,Y⟩:=Y;exact⟨x7,q,H7,I7.unpinned,r7,Y⟩
end
def zmO {K:AH}{a:Addr}{xs:AT}{g:TG}{tb:TS}{D:Ends}{σ:St}{H:Hp}(Pv:Nat->St->Hp->Prop)(L:Pv 0 σ H)(O:∀i σ H,i<=xs.length->Pv i σ H->SqL K H a xs)
  (hs:∀i x σ H,xs[i]?=some x->Pv i σ H->g x σ H λB H2=>tb { D with nx:=Pv (i+1),ct:=Pv (i+1),bk:=D.nx } B H2) (U:∀ σ H,Pv xs.length σ H->D.nx σ H) :
  ∃W:Nat->Nat->St->Hp->Prop,(∃m,W 0 m σ H)/\∀i m σ H,W i m σ H->
   ((Itl K a).stop i H/\D.nx σ H)\/((Itl K a).go i H/\∃N:St->Hp->Prop,(∀ F H',N F H'->∃J,J<m/\W (i+1) J F H')/\∀x H',(Itl K a).yld i H x H'->g x σ H' λB H2=>tb { D with nx:=N,ct:=N,bk:=D.nx } B H2):=by
 show⟨λi m σ H=>m=xs.length - i/\i<=xs.length/\Pv i σ H,⟨xs.length,by simp,aK _,L⟩,?_⟩;rintro i m σ H ⟨rfl,hi,p⟩;have q:=O i σ H hi p;by_cases I:i<xs.length;show .inr ⟨⟨xs,xs[i],q,by simp[I]⟩,Pv (i+1),λF H' Y=>⟨xs.length - (i+1),by lia,rfl,I,Y⟩,λx H' y=>?_⟩;obtain⟨e,y⟩:=y;subst e;exact hs i x σ _ (y xs q) p;have e:i=xs.length:=by lia
 subst e;exact .inl ⟨⟨xs,q,ah _⟩,U σ H p⟩
def zpS {K:AH}{a:Addr}{xs:AT}{g:TG}{tb:TS}{D:Ends}{σ:St}{H:Hp}(Pv:Nat->St->Hp->Prop)(L:Pv 0 σ H)(O:∀i σ H,i<=xs.length->Pv i σ H->SqT K H a xs)
  (hs:∀i x σ H,xs[i]?=some x->Pv i σ H->g x σ H λB H2=>tb { D with nx:=Pv (i+1),ct:=Pv (i+1),bk:=D.nx } B H2) (U:∀ σ H,Pv xs.length σ H->D.nx σ H) :
  ∃W:Nat->Nat->St->Hp->Prop,(∃m,W 0 m σ H)/\∀i m σ H,W i m σ H->
   ((Itt K a).stop i H/\D.nx σ H)\/((Itt K a).go i H/\∃N:St->Hp->Prop,(∀ F H',N F H'->∃J,J<m/\W (i+1) J F H')/\∀x H',(Itt K a).yld i H x H'->g x σ H' λB H2=>tb { D with nx:=N,ct:=N,bk:=D.nx } B H2):=by
 show⟨λi m σ H=>m=xs.length - i/\i<=xs.length/\Pv i σ H,⟨xs.length,by simp,aK _,L⟩,?_⟩;rintro i m σ H ⟨rfl,hi,p⟩;have q:=O i σ H hi p;by_cases I:i<xs.length;show .inr ⟨⟨xs,xs[i],q,by simp[I]⟩,Pv (i+1),λF H' Y=>⟨xs.length - (i+1),by lia,rfl,I,Y⟩,λx H' y=>?_⟩;obtain⟨e,y⟩:=y;subst e;exact hs i x σ _ (y xs q) p;have e:i=xs.length:=by lia
 subst e;exact .inl ⟨⟨xs,q,ah _⟩,U σ H p⟩
abbrev R2:=V->V->Hp->VK->Prop
def OpR (X:Cx)(f:Value->Value->Sem Value)(r:R2):Prop:=
 ∀ (pins:AB) (s:AZ) (σ:St) (H:Hp) (x y:V) (v u:Value) (Q:VK),Inv X pins σ H s->yB x v->yB y u->r x y H Q->
  Af X (f v u) (EP X pins σ Q) X.xe s
def UnR (X:Cx)(f:Value->Sem Value)(r:V->Hp->VK->Prop):Prop:=
 ∀ (pins:AB) (s:AZ) (σ:St) (H:Hp) (x:V) (v:Value) (Q:VK),Inv X pins σ H s->yB x v->r x H Q->
  Af X (f v) (EP X pins σ Q) X.xe s
def zdw (X:Cx)(f:Value)(r:AT->Hp->VK->Prop):Prop:=
 ∀ (pins:AB) (s:AZ) (σ:St) (H:Hp) (xs:AT) (us:AN) (Q:VK),Inv X pins σ H s->zY xs us->r xs H Q->
  Af X (call f us) (EP X pins σ Q) X.xe s
def TruR (X:Cx)(r:V->Hp->(Bool->Hp->Prop)->Prop):Prop:=
 ∀ (pins:AB) (s:AZ) (σ:St) (H:Hp) (x:V) (v:Value) (Q:Bool->Hp->Prop),Inv X pins σ H s->yB x v->r x H Q->
  Af X (truthy v) (TP X pins σ Q) X.xe s
def tOp (r:R2)(ta tb:TE):TE:=λσ H Q=>ta σ H λx H1=>tb σ H1 λy H2=>r x y H2 Q
def tUn (r:V->Hp->VK->Prop)(ta:TE):TE:=λσ H Q=>ta σ H λx H1=>r x H1 Q
def rI (C:Int->Int->Prop)(g:Int->Int->V):R2:=λx y H Q=>∃i j,x = .int i/\y = .int j/\C i j/\Q (g i j) H
def rI0 (g:Int->Int->V):R2:=λx y H Q=>∃i j,x = .int i/\y = .int j/\Q (g i j) H
def rU (g:Int->V):V->Hp->VK->Prop:=λx H Q=>∃i,x = .int i/\Q (g i) H
section
variable {X:Cx}{a b c:Expr}{ta tb tc:TE}{pos:Pos}
def zvD(J:PE X a ta)(L:PE X b tb){pins:AB}{σ:St}{H:Hp}{R:V->V->Hp->Prop}(I:Inv X pins σ H s)(h:ta σ H λx H1=>tb σ H1 λy H2=>R x y H2){Q:AA}{f:Value->Value->Sem Value}(O:∀v u F x y H2,Inv X pins σ H2 F->yB x v->yB y u->R x y H2->Af X (f v u) Q X.xe F) :
  Af X (eval a X.env) (λv q=>Af X (eval b X.env) (λu B=>Af X (f v u) Q X.xe B) X.xe q) X.xe s:=by
 show thn (J pins s σ H _ I h)  ?_;rintro v U ⟨x,H1,I1,Y,Z⟩;show thn (L pins U σ H1 _ I1 Z)  ?_;rintro u F ⟨y,H2,I2,r2,q2⟩;exact O v u F x y H2 I2 Y r2 q2
def zwL(F:OpR X (binaryOp B) r)(J:PE X a ta)(L:PE X b tb):PE X (.BinOp a B b pos) (tOp r ta tb):=by intro pins s σ H Q I h;exact wpAny_BinOp (zvD J L I h λv u O x y H2 I2 U Y q=>F pins O σ H2 x y v u Q I2 U Y q)
def ztG(B:UnR X (unaryOp q) r)(F:PE X a ta):PE X (.UnaryOp q a pos) (tUn r ta):=by intro pins s σ H Q I h;exact UnaryOp_ (thn (F pins s σ H _ I h) <| by rintro v J ⟨x,H1,I1,L,O⟩;exact B pins J σ H1 x v Q I1 L O)
def opI{C:Int->Int->Prop}{g:Int->Int->Int}(B:∀ (i j:Int) (t u:Tok) (s:AZ) (Q:AA) (E:AA),C i j->Q (.int (g i j) s.toks) { s with toks:=s.toks+1 }->Af X (f (.int i t) (.int j u)) Q E s) :
  OpR X f (rI C λi j=>.int (g i j)):=by
 intro pins s σ H x y v u Q I F J h;obtain⟨i,j,rfl,rfl,L,q⟩:=h;obtain⟨t,rfl⟩:=F;obtain⟨t',rfl⟩:=J;exact B i j t t' s _ _ L ⟨.int (g i j),H,I.tok _,⟨_,rfl⟩,q⟩
def opI0{g:Int->Int->Int}(B:∀ (i j:Int) (t u:Tok) (s:AZ) (Q:AA) (E:AA),Q (.int (g i j) s.toks) { s with toks:=s.toks+1 }->Af X (f (.int i t) (.int j u)) Q E s) :
  OpR X f (rI0 λi j=>.int (g i j)):=by
 intro pins s σ H x y v u Q I F J h;obtain⟨i,j,rfl,rfl,q⟩:=h;obtain⟨t,rfl⟩:=F;obtain⟨t',rfl⟩:=J;exact B i j t t' s _ _ ⟨.int (g i j),H,I.tok _,⟨_,rfl⟩,q⟩
def zvm{g:Int->Int->Bool}(B:∀ (i j:Int) (t u:Tok) (s:AZ) (Q:AA) (E:AA),Q (.bool (g i j)) s->Af X (f (.int i t) (.int j u)) Q E s) :
  OpR X f (rI0 λi j=>.bl (g i j)):=by
 intro pins s σ H x y v u Q I F J h;obtain⟨i,j,rfl,rfl,q⟩:=h;obtain⟨t,rfl⟩:=F;obtain⟨t',rfl⟩:=J;exact B i j t t' s _ _ ⟨.bl (g i j),H,I,rfl,q⟩
def zr2 (i j:Int):Prop:=0<j/\j<1073741824
def CPow (i j:Int):Prop:=0<=j/\j<=1000000/\i.natAbs<2 ^ 64
def zu5 (i j:Int):Prop:=(-(2 ^ 64)<i/\i<2 ^ 64)\/(-(2 ^ 64)<j/\j<2 ^ 64)
def zu5.ok {i j:Int}(h:zu5 i j):IntMulOk i j:=by
 rcases h with ⟨h1,h2⟩ | ⟨h1,h2⟩;exact .of_left (intBits_le_64 h1 h2);exact .of_right (intBits_le_64 h1 h2)
def ztk:OpR X (binaryOp .Add) (rI0 λi j=>.int (i+j)):=opI0 λ_ _ _ _ _ _ _ q=>add_int q
def ztr:OpR X (binaryOp .Sub) (rI0 λi j=>.int (i - j)):=opI0 λ_ _ _ _ _ _ _ q=>sub_int q
def zto:OpR X (binaryOp .Mult) (rI zu5 λi j=>.int (i * j)):=opI λ_ _ _ _ _ _ _ B q=>mul_int q B.ok
def zqD:OpR X (binaryOp .FloorDiv) (rI zr2 λi j=>.int (i / j)):=opI λi j _ _ _ _ _ B q=>by have h1:(0:Int)<j:=B.1;have h2:j<1073741824:=B.2;exact floordiv_int (by lia) (by rw[Int.fdiv_eq_ediv_of_nonneg i (by lia)];exact q) (.inl (PyProof.noPylong_small (by lia)))
def ztn:OpR X (binaryOp .Mod) (rI (λ_ j=>0<j) λi j=>.int (i % j)):=opI λi j _ _ _ _ _ B q=>by have h1:(0:Int)<j:=B;exact mod_int' (by lia) (by rw[Int.fmod_eq_emod_of_nonneg i (by lia)];exact q)
def ztp:OpR X (binaryOp .Pow) (rI CPow λi j=>.int (i ^ j.toNat)):=opI λ_ _ _ _ _ _ _ B q=>pow_int_small B.1 B.2.1 B.2.2 q
def unI{g:Int->Int}(B:∀ (i:Int) (t:Tok) (s:AZ) (Q:AA) (E:AA),Q (.int (g i) s.toks) { s with toks:=s.toks+1 }->Af X (f (.int i t)) Q E s) :
  UnR X f (rU λi=>.int (g i)):=by
 intro pins s σ H x v Q I F h;obtain⟨i,rfl,q⟩:=h;obtain⟨t,rfl⟩:=F;exact B i t s _ _ ⟨.int (g i),H,I.tok _,⟨_,rfl⟩,q⟩
def zpe:UnR X (unaryOp .USub) (rU λi=>.int (-i)):=unI λ_ _ _ _ _ q=>neg_int q
end
def zw0:V->V->Bool
 | .non,.non=>true | .non,.int _=>true | .int _,.non=>true | .non,.bl _=>true | .bl _,.non=>true | .non,.str _=>true | .str _,.non=>true
 | .int _,.int _=>true | .bl _,.bl _=>true | .str _,.str _=>true | .byt _,.byt _=>true
 | .int _,.str _=>true | .str _,.int _=>true | .bl _,.str _=>true | .str _,.bl _=>true
 | _,_=>false
def rEq:R2:=λx y H Q=>zw0 x y=true/\Q (.bl (decide (x=y))) H
def rNe:R2:=λx y H Q=>zw0 x y=true/\Q (.bl (!decide (x=y))) H
def zj5 {i j:Int}:decide (V.int i=V.int j)=(i==j):=by rw[b8];simp
def zos:decide (V.bl i=V.bl j)=(i==j):=by rw[b8];simp
def zj6:decide (V.str i=V.str j)=(i==j):=by rw[b8];simp
def zj4:decide (V.byt i=V.byt j)=(i.toList==j.toList):=by
 rw[b8];right
section
variable {X:Cx}{a b c:Expr}{ta tb tc:TE}{pos:Pos}
def yc{pins:AB}{σ:St}{H:Hp}{Q:VK}(I:Inv X pins σ H s)(q:Q (.bl k) H)(e:k=B):EP X pins σ Q (.bool B) s:=by subst e;exact⟨.bl k,H,I,rfl,q⟩
def zwC:OpR X (compareOp .Eq) rEq:=by
 intro pins s σ H x y v u Q I F B h;obtain⟨hs,q⟩:=h
 cases x with
 | non=>
  cases F
  cases y with
  | non=>cases B;exact PySem.EqNone.eq_none_none (yc I q (by simp))
  | bl j=>cases B;exact PySem.EqNone.eq_none_bool (yc I q (by simp))
  | int j=>obtain⟨t',rfl⟩:=B;exact PySem.EqNone.eq_none_int (yc I q (by simp))
  | str j=>obtain⟨t',rfl⟩:=B;exact PySem.EqNone.eq_none_str (yc I q (by simp))
  | _=>exact absurd (show false=true from hs) aJ
 | bl i=>
  cases F
  cases y with
  | non=>cases B;exact PySem.EqNone.eq_bool_none (yc I q (by simp))
  | bl j=>cases B;exact eq_bool (yc I q zos)
  | str j=>obtain⟨t',rfl⟩:=B;exact PySem.EqMixed.eq_bool_str (yc I q (by simp))
  | _=>exact absurd (show false=true from hs) aJ
 | int i=>
  obtain⟨t,rfl⟩:=F
  cases y with
  | non=>cases B;exact PySem.EqNone.eq_int_none (yc I q (by simp))
  | int j=>obtain⟨t',rfl⟩:=B;exact eq_int (yc I q zj5)
  | str j=>obtain⟨t',rfl⟩:=B;exact PySem.EqMixed.eq_int_str (yc I q (by simp))
  | _=>exact absurd (show false=true from hs) aJ
 | str i=>
  obtain⟨t,rfl⟩:=F
  cases y with
  | non=>cases B;exact PySem.EqNone.eq_str_none (yc I q (by simp))
  | bl j=>cases B;exact PySem.EqMixed.eq_str_bool (yc I q (by simp))
  | int j=>obtain⟨t',rfl⟩:=B;exact PySem.EqMixed.eq_str_int (yc I q (by simp))
  | str j=>obtain⟨t',rfl⟩:=B;exact eq_str (yc I q zj6)
  | _=>exact absurd (show false=true from hs) aJ
 | byt i=>
  obtain⟨t,rfl⟩:=F
  cases y with
  | byt j=>obtain⟨t',rfl⟩:=B;exact PySem.W.eq_bytes (yc I q zj4)
  | _=>exact absurd (show false=true from hs) aJ
 | _=>cases y <;> exact absurd (show false=true from hs) aJ
def zwH:OpR X (compareOp .NotEq) rNe:=by
 intro pins s σ H x y v u Q I F B h;obtain⟨hs,q⟩:=h
 cases x with
 | non=>
  cases F
  cases y with
  | non=>cases B;exact PySem.EqNone.ne_none_none (yc I q (by simp))
  | bl j=>cases B;exact PySem.EqNone.ne_none_bool (yc I q (by simp))
  | int j=>obtain⟨t',rfl⟩:=B;exact PySem.EqNone.ne_none_int (yc I q (by simp))
  | str j=>obtain⟨t',rfl⟩:=B;exact PySem.EqNone.ne_none_str (yc I q (by simp))
  | _=>exact absurd (show false=true from hs) aJ
 | bl i=>
  cases F
  cases y with
  | non=>cases B;exact PySem.EqNone.ne_bool_none (yc I q (by simp))
  | bl j=>cases B;exact ne_bool (yc I q (congrArg not zos))
  | str j=>obtain⟨t',rfl⟩:=B;exact PySem.EqMixed.ne_bool_str (yc I q (by simp))
  | _=>exact absurd (show false=true from hs) aJ
 | int i=>
  obtain⟨t,rfl⟩:=F
  cases y with
  | non=>cases B;exact PySem.EqNone.ne_int_none (yc I q (by simp))
  | int j=>obtain⟨t',rfl⟩:=B;exact ne_int (yc I q (congrArg not zj5))
  | str j=>obtain⟨t',rfl⟩:=B;exact PySem.EqMixed.ne_int_str (yc I q (by simp))
  | _=>exact absurd (show false=true from hs) aJ
 | str i=>
  obtain⟨t,rfl⟩:=F
  cases y with
  | non=>cases B;exact PySem.EqNone.ne_str_none (yc I q (by simp))
  | bl j=>cases B;exact PySem.EqMixed.ne_str_bool (yc I q (by simp))
  | int j=>obtain⟨t',rfl⟩:=B;exact PySem.EqMixed.ne_str_int (yc I q (by simp))
  | str j=>obtain⟨t',rfl⟩:=B;exact ne_str (yc I q (congrArg not zj6))
  | _=>exact absurd (show false=true from hs) aJ
 | byt i=>
  obtain⟨t,rfl⟩:=F
  cases y with
  | byt j=>obtain⟨t',rfl⟩:=B;exact PySem.W.ne_bytes (yc I q (congrArg not zj4))
  | _=>exact absurd (show false=true from hs) aJ
 | _=>cases y <;> exact absurd (show false=true from hs) aJ
def zwG:OpR X (compareOp .Lt) (rI0 λi j=>.bl (decide (i<j))):=zvm λ_ _ _ _ _ _ _ q=>lt_int q
def zwF:OpR X (compareOp .LtE) (rI0 λi j=>.bl (decide (i<=j))):=zvm λ_ _ _ _ _ _ _ q=>le_int q
def zwE:OpR X (compareOp .Gt) (rI0 λi j=>.bl (decide (j<i))):=zvm λ_ _ _ _ _ _ _ q=>gt_int q
def zwD:OpR X (compareOp .GtE) (rI0 λi j=>.bl (decide (j<=i))):=zvm λ_ _ _ _ _ _ _ q=>ge_int q
def zw(b:Expr)(h:q≠.In:=by ext)(h2:q≠.NotIn:=by ext):behindInMarks q b=false:=by
 have B:(q==CmpOp.In)=false:=by cases q <;> first | rfl | exact absurd rfl h
 have F:(q==CmpOp.NotIn)=false:=by cases q <;> first | rfl | exact absurd rfl h2
 cases b <;> simp[behindInMarks,B,F]
def zqH(F:OpR X (compareOp B) r)(J:PE X a ta)(L:PE X b tb)(O:behindInMarks B b=false):PE X (.Compare a [B] [b] pos) (tOp r ta tb):=by intro pins s σ H Q I h;exact wpAny_Compare1 (zvD J L I h λv u U x y H2 I2 Y Z q=>F pins U σ H2 x y v u Q I2 Y Z q) O
def zrM (t:TE):TT:=λσ H Q=>t σ H λx H'=>∃k,x = .bl k/\Q k H'
def zq2(B:OpR X (compareOp q) r)(F:PE X a ta)(J:PE X b tb)(L:behindInMarks q b=false):PT X (.Compare a [q] [b] pos) (zrM (tOp r ta tb)):=by
 intro pins s σ H Q I h
 show wpAny_isTrue_Compare1 (thn (F pins s σ H _ I h) λv O ⟨x,H1,I1,U,Y⟩=>thn (J pins O σ H1 _ I1 Y) λu Z ⟨y,H2,I2,r2,q2⟩=>
  thn (B pins Z σ H2 x y v u _ I2 U r2 q2) λc s3 ⟨z,H3,I3,r3,k,e,q3⟩=>?_) L
 subst e;cases r3;exact bN ⟨H3,I3,q3⟩
def zl0 (r q:R2)(ta tb tc:TE):TE:=λσ H Q=>ta σ H λx H1=>tb σ H1 λy H2=>r x y H2 λz H3=>∃k,z = .bl k/\
 (if k=true then tc σ H3 λw' H4=>q y w' H4 Q else Q (.bl false) H3)
def znu(U:OpR X (compareOp B) r)(F:OpR X (compareOp q) J)(Y:PE X a ta)(Z:PE X b tb)(hc:PE X c tc)(hm:lastMarks [B,q] [b,c]=false:=by with_unfolding_all rfl):PE X (.Compare a [B,q] [b,c] pos) (zl0 r J ta tb tc):=by
 intro pins s σ H Q I h
 show Compare_chain (thn (Y pins s σ H _ I h) λv s1 ⟨x,H1,I1,r1,q1⟩=>chain_link (thn (Z pins s1 σ H1 _ I1 q1) λu s2 ⟨y,H2,I2,L,q2⟩=>
  thn (U pins s2 σ H2 x y v u _ I2 r1 L q2) λd s3 ⟨z,H3,I3,r3,k,e,O⟩=>?_)) hm
 subst e;cases r3;show bN ?_
 cases k with
 | false=>exact ite_ff ⟨.bl false,H3,I3,rfl,O⟩
 | true=>exact ite_tt (chain_last (thn (hc pins s3 σ H3 _ I3 O) <| by rintro w' s4 ⟨z',H4,I4,r4,q4⟩;exact F pins s4 σ H4 y z' u w' Q I4 L r4 q4))
def zvB (K:AH)(x:V)(H:Hp)(k:Bool):Prop:=
 match x with
 | .non=>k=false
 | .bl b=>k=b
 | .int i=>k=(i != 0)
 | .str y=>y.length<=sizeLine/\k=((y.length:Int) != 0)
 | .byt y=>y.size<=sizeLine/\k=((y.size:Int) != 0)
 | .ref p=>(∃xs,SqL K H p xs/\k = !xs.isEmpty)\/(∃xs,SqT K H p xs/\k = !xs.isEmpty)\/∃kvs,H p=some (.dK kvs)/\k = !kvs.isEmpty
 | _=>False
def zi0 {κ:Type}{kvs:List (κ×V)}{vs:List (κ×Value)}(r:KV kvs vs):(!vs.isEmpty) = !kvs.isEmpty:=by cases r <;> rfl
def zdR(r:zY xs its):(!its.toArray.isEmpty) = !xs.isEmpty:=by cases r <;> simp
def zf1:(sizeLine:Nat)<2 ^ 63:=by rw[bM];decide
def zuL:TruR X (λx H Q=>∃k,zvB X.K x H k/\Q k H):=by
 intro pins s σ H x v Q I J h;obtain⟨k,e,q⟩:=h;have Y:=zf1;have hs:sizeLine=16777216:=bM
 cases x with
 | non=>
  cases J;have B:k=false:=e;subst B;exact truthy_none ⟨H,I,q⟩
 | bl b=>
  cases J;have B:k=b:=e;subst B;exact bN ⟨H,I,q⟩
 | int i=>
  obtain⟨t,rfl⟩:=J;have B:k=(i != 0):=e;subst B;exact PySem.P.truthy_int ⟨H,I,q⟩
 | str y=>
  obtain⟨t,rfl⟩:=J;obtain⟨O,B⟩:y.length<=sizeLine/\k=((y.length:Int) != 0):=e;subst B;exact PySem.P.truthy_str (by lia) ⟨H,I.tok _,q⟩
 | byt y=>
  obtain⟨t,rfl⟩:=J;obtain⟨O,B⟩:y.size<=sizeLine/\k=((y.size:Int) != 0):=e;subst B;exact PySem.W.truthy_bytes (by lia) ⟨H,I.tok _,q⟩
 | ref p=>
  cases J;have B:(∃xs,SqL X.K H p xs/\k = !xs.isEmpty)\/(∃xs,SqT X.K H p xs/\k = !xs.isEmpty)\/∃kvs,H p=some (.dK kvs)/\k = !kvs.isEmpty:=e;rcases B with ⟨xs,hx,B⟩ | ⟨xs,hx,B⟩ | ⟨kvs,hx,B⟩;subst B;obtain⟨its,r,pl,L⟩:=I.list hx;have F:=r.length;exact wpAny_truthy_list pl.isList (by simp only[aY];lia) ⟨H,I.tok _,by rw[zdR r];exact q⟩;subst B;obtain⟨its,r,pl,L⟩:=I.tuple hx;have F:=r.length;exact truthy_tuple pl (by simp only[aY];lia) ⟨H,I.tok _,by rw[zdR r];exact q⟩;subst B;obtain⟨L,U,vs,r,m⟩:kvs.length<=sizeLine/\(p==sysModules)=false/\∃vs,KV kvs vs/\s.heap.DictOf (zV X.prog X.w) p vs:=I.hok p _ hx;have F:kvs.length=vs.length:=eu r;exact wpAny_truthy_dict U m (by lia) ⟨H,I.tok _,by rw[zi0 r];exact q⟩
 | _=>exact (show False from e).elim
def znF (ha:PE X a ta)(he:∀whole,isTrue a X.env whole=(do let v <- whole;standAt a.pos;holding [v] (truthy v))) :
  PT X a (λσ H Q=>ta σ H λx H'=>∃k,zvB X.K x H' k/\Q k H'):=by
 intro pins s σ H Q I h;exact isTrue_plain (thn (ha pins s σ H _ I h) <| by rintro v s1 ⟨x,H1,I1,r1,q1⟩;exact zuL pins s1 σ H1 x v Q I1 r1 q1) (he _)
def zba(r:zY [x] us):∃u,us=[u]/\yB x u:=by
 cases r with
 | cons q B=>cases B;exact⟨_,rfl,q⟩
def zu2(r:zY [x,y] us):∃u w',us=[u,w']/\yB x u/\yB y w':=by
 cases r with
 | cons q B=>
  cases B with
  | cons F I=>cases I;exact⟨_,_,rfl,q,F⟩
def zmw:zdw X (.builtin "abs") (λxs H Q=>∃i,xs=[.int i]/\Q (.int (if i<0 then -i else i)) H):=by intro pins s σ H xs us Q I r h;obtain⟨i,rfl,q⟩:=h;obtain⟨u,rfl,t,rfl⟩:=zba r;exact call_abs_int λu tk=>⟨.int (if i<0 then -i else i),H,I.tok _,⟨_,rfl⟩,q⟩
def zjK (F:X.calm=true):zdw X (.builtin "max") (λxs H Q=>∃i j,xs=[.int i,.int j]/\Q (.int (if j > i then j else i)) H):=by
 intro pins s σ H xs us Q I r h;obtain⟨i,j,rfl,q⟩:=h;obtain⟨u,w',rfl,⟨t,rfl⟩,⟨t',rfl⟩⟩:=zu2 r;show max_two_ints (I.ok.hd F) λh' tk k=>⟨_,H,I.kept k,?_,q⟩;by_cases B:j > i;rw[if_pos B,if_pos B];exact⟨_,rfl⟩;rw[if_neg B,if_neg B];exact⟨_,rfl⟩
def zr8 (K:AH)(x:V)(H:Hp)(n:Nat):Prop:=
 match x with
 | .str y=>y.length<=sizeLine/\n=y.length
 | .byt y=>y.size<=sizeLine/\n=y.size
 | .ref p=>(∃xs,SqL K H p xs/\n=xs.length)\/∃xs,SqT K H p xs/\n=xs.length
 | _=>False
def zmy:zdw X (.builtin "len") (λxs H Q=>∃x n,xs=[x]/\zr8 X.K x H n/\Q (.int n) H):=by
 intro pins s σ H xs us Q I r h;obtain⟨x,n,rfl,e,q⟩:=h;obtain⟨u,rfl,rx⟩:=zba r;have hl:=zf1;have hs:sizeLine=16777216:=bM
 cases x with
 | str y=>
  obtain⟨t,rfl⟩:=rx;obtain⟨hy,e'⟩:y.length<=sizeLine/\n=y.length:=e;subst e';exact len_str (by lia) ⟨.int _,H,I.tok _,⟨_,rfl⟩,q⟩
 | byt y=>
  obtain⟨t,rfl⟩:=rx;obtain⟨hy,e'⟩:y.size<=sizeLine/\n=y.size:=e;subst e';exact PySem.W.len_bytes (by lia) ⟨.int _,H,I.tok _,⟨_,rfl⟩,q⟩
 | ref p=>
  cases rx;have e':(∃xs,SqL X.K H p xs/\n=xs.length)\/∃xs,SqT X.K H p xs/\n=xs.length:=e;rcases e' with ⟨xs,hx,e'⟩ | ⟨xs,hx,e'⟩;subst e';obtain⟨its,r',pl,hz⟩:=I.list hx;have hlen:=r'.length;exact Calls.call_len_list pl.isList (by simp only[aY];lia) ⟨.int xs.length,H,I.tok _,⟨_,by simp only[aY];rw[hlen]⟩,q⟩;subst e';obtain⟨its,r',pl,hz⟩:=I.tuple hx;have hlen:=r'.length;exact len_tuple pl (by simp only[aY];lia) ⟨.int xs.length,H,I.tok _,⟨_,by simp only[aY];rw[hlen]⟩,q⟩
 | _=>exact (show False from e).elim
end
structure ObjM (h:Heap)(x dx C:Addr)(mA:AI):Prop where
 obj:h.get? x=some (PySem.W.instObj C dx)
 ns:h.Ns1 dx mA
 ne:dx≠x
def zkZ {h:Heap}{dx:Addr}{mA:AI}(n:h.Ns1 dx mA):∃F,h.get? dx=some F/\∀name,PySem.W.lookIn name F=some (mA name):=by
 obtain⟨o,es,Y,I,J,L,_,O⟩:=n;show⟨o,I,λname=>?_⟩;have e:=O name;unfold nsFind findBy at e;rw[<- Array.find?_toList] at e;unfold PySem.W.lookIn;rw[J];dsimp only;split;right
 ·rename_i q;rw[q] at e
  have a:es.toList.any (·.refKey)=false:=by rw[List.any_eq_false];intro y U;obtain⟨z,t,B⟩:=L y (er.mp U);simp[DictEntry.refKey,B]
  grind
def ObjM.look(I:ObjM h x dx C mA):∃q,PySem.W.InstAt h x (PySem.W.instObj C dx) C (some q)/\∀name,PySem.W.lookIn name q=some (mA name):=
 let ⟨q,ho,hl⟩:=zkZ I.ns
 ⟨q,⟨I.obj,rfl,rfl,ho⟩,hl⟩
section
variable {prog:Aa}{w:Ab}{A:Ae}{E:AA}{s:AZ}{K:AH}{x dx C f:Addr}{mA:AI}{name:Str}{v:Value}
def zpT(X:K.In s.heap)(I:ObjM s.heap x dx C mA)(F:PySem.W.plainGet K C name=true)(L:PySem.W.hasDictIn K C=true)(O:PySem.W.findIn K (.ref C) name=some none)(U:mA name=some v)(B:PySem.W.handedIn v=true)(h:Q v { s with toks:=s.toks+1 }) :
  Ag prog w A (getAttr (.ref x) name q) Q E s:=by
 obtain⟨Z,J,Y⟩:=I.look;exact PySem.W.get_value X J (eD F).1 (PySem.W.findObj_own L O rfl (by rw[Y,U])) B h
def zmS(X:K.In s.heap)(I:ObjM s.heap x dx C mA)(q:PySem.W.plainGet K C name=true)(B:PySem.W.findIn K (.ref C) name=some (some (.ref f)))(F:PySem.W.isFn K (.ref f)=true)(L:mA name=none)(h:Q (.ref f,[.ref x]) s) :
  Ag prog w A (getMethod (.ref x) name pl) Q E s:=by
 obtain⟨O,J,U⟩:=I.look;exact PySem.W.method_fn X J (eD q).1 (eD q).2 B (beq_iff_eq.mp F) (by change (PySem.W.lookIn name O).map (·.isSome)=some false;rw[U,L];rfl) h
def zry(X:K.In s.heap)(I:ObjM s.heap x dx C mA)(hs:PySem.W.findIn K (.ref C) "__setattr__" = some (some (.builtin "object.__setattr__")))(Y:PySem.W.plainOver K C=true)(Z:PySem.W.takerIn K C name=some none)(hh:PySem.W.hasDictIn K C=true)(hw:PySem.Within mA ns)(hsz:ns.length<=sizeLine)(h:∀h',ObjM h' x dx C (λy=>if y=name then some v else mA y)->Heap.SameBut dx s.heap h'->Q () { s with heap:=h',toks:=s.toks+2 }) :
  Ag prog w A (setAttr (.ref x) name v) Q E s:=by
 obtain⟨od,J,hl⟩:=I.look;show PySem.W.set_plain X J hs (PySem.W.osa_open (s:={ s with toks:=s.toks+1 }) (r:=none) X J Y Z λb=>?_);obtain⟨cd,hc,F⟩:=PySem.W.any_some hh;have hx:s.heap.get? x=some ⟨.ref C,some dx,.plain,#[]⟩:=I.obj;show aa (ae (aa (aa (wpAny_loadPart hx (aa (PySem.W.Looks.here (s:={ s with toks:=s.toks+1 }) (PySem.W.looks_clsIn X hc) ?_))))));rw[F];show ae (a:=some dx) (aa (ae (aa ?_)));show wpAny_nsSet1 (s:={ s with toks:=s.toks+1 }) I.ns λh' q B=>?_;obtain⟨oD,ad,ag,L,O,U⟩:=q.count (PySem.Within.cons name v hw);show aa (wpAny_lookBehind L (by rw[O];exact pastItsLine_dict (af U (by right))) ?_);exact ae (h _ ⟨(B.2 _ (Ne.symm I.ne)).trans I.obj,q,I.ne⟩ B)
def znk(X:K.In s.heap)(F:PySem.W.makesIn K C=true)(hi:PySem.W.findIn K (.ref C) "__init__" = some (some (.ref f)))(I:PySem.W.typeIn K (.ref f)=some (.type "function"))(h:codeAny (model prog w) (A.under (.builtin "type.__call__" ⟨.ref C::vs,B⟩)) (.call (.ref f) ⟨.ref (s.heap.objs.size+1)::vs,B⟩) (PySem.W.InitBack (s.heap.objs.size+1) R)
   { s with heap:=(s.heap.push PySem.W.emptyDict).push (PySem.W.instObj C s.heap.objs.size) }) :
  codeAny (model prog w) A (.call (.ref C) ⟨vs,B⟩) R s:=by
 obtain⟨J,g,d,t,L⟩:=s;exact PySem.W.make_core (PySem.W.makes_of X F) (PySem.W.looks_findIn X hi) (λq=>PySem.W.bind_fn X q I) (.inl rfl) h
end
def zcu (f:Str)(v:V):List (Str×V)->List (Str×V)
 | []=>[(f,v)]
 | (g,x)::r=>if g=f then (g,v)::r else (g,x)::zcu f v r
def zc1 (f g:Str)(v:V):∀fs:List (Str×V),(zcu f v fs).lookup g=if g=f then some v else fs.lookup g
 | []=>by
  change List.lookup g [(f,v)]=_;grind
 | (k,x)::r=>by
  have q:=zc1 f g v r;rw[show zcu f v ((k,x)::r)=(if k=f then (k,v)::r else (k,x)::zcu f v r) from rfl];grind
def zcX (f:Str)(v:V):∀fs:List (Str×V),f∈(zcu f v fs).map (·.1)/\∀g,g∈fs.map (·.1)->g∈(zcu f v fs).map (·.1)
 | []=>⟨by simp[zcu],λg h=>by simp at h⟩
 | (k,x)::r=>by
  obtain⟨q,B⟩:=zcX f v r;rw[show zcu f v ((k,x)::r)=(if k=f then (k,v)::r else (k,x)::zcu f v r) from rfl];grind
def zcZ (f:Str)(v:V):∀fs:List (Str×V),(zcu f v fs).length<=fs.length+1
 | []=>by simp[zcu]
 | (k,x)::r=>by
  have q:=zcZ f v r;rw[show zcu f v ((k,x)::r)=(if k=f then (k,v)::r else (k,x)::zcu f v r) from rfl];grind
def zgG.some_of(r:zgG (some v) o):∃u,o=some u/\yB v u:=by
 cases o with
 | none=>exact (show False from r).elim
 | some u=>exact⟨u,rfl,r⟩
def zgG.none_of(r:zgG none o):o=none:=by
 cases o with
 | none=>rfl
 | some u=>exact (show False from r).elim
def zks(r:yB v u):PySem.W.handedIn u=true:=by
 cases v with
 | non=>cases (show u=Value.none from r);rfl
 | bl b=>cases (show u=Value.bool b from r);rfl
 | int i=>obtain⟨t,e⟩:=(show ∃t,u=Value.int i t from r);cases e;rfl
 | str x=>obtain⟨t,e⟩:=(show ∃t,u=Value.str x t from r);cases e;rfl
 | byt b=>obtain⟨t,e⟩:=(show ∃t,u=Value.bytes b t from r);cases e;rfl
 | flt b=>obtain⟨t,e⟩:=(show ∃t,u=Value.float b t from r);cases e;rfl
 | ref a=>cases (show u=Value.ref a from r);rfl
 | ty n=>cases (show u=Value.type n from r);rfl
section
variable {P:Aa}{w:Ab}{H H':Hp}{h h':Heap}{a C dx:Addr}{fs fs':List (Str×V)}
def zez (B:HOk P w H h)(e:H a=some (.ins C dx fs)):∃mA,ObjM h a dx C mA/\(∀f,zgG (fs.lookup f) (mA f))/\PySem.Within mA (fs.map (·.1))/\fs.length<=1000/\H dx=some (.own a):=by obtain⟨d,z,F,ob,mA,n,r,q⟩:=(show yo P w H h a (.ins C dx fs) from B a _ e);exact⟨mA,⟨ob,n,F⟩,r,q,z,d⟩
end
structure Cls (K:AH)(C:Addr):Prop where
 pg:PySem.W.plainGet K C Str.empty=true
 hd:PySem.W.hasDictIn K C=true
 po:PySem.W.plainOver K C=true
 sa:PySem.W.findIn K (.ref C) "__setattr__" = some (some (.builtin "object.__setattr__"))
def Cls.get {K:AH}{C:Addr}(c:Cls K C)(f:Str):PySem.W.plainGet K C f=true:=c.pg
def zaN (K:AH)(C:Addr)(f:Str):Prop:=PySem.W.findIn K (.ref C) f=some none
def zaN.taker{K:AH}{C:Addr}(n:zaN K C f):PySem.W.takerIn K C f=some none:=by unfold PySem.W.takerIn;rw[show PySem.W.findIn K (.ref C) f=some none from n];rfl
structure Meth (K:AH)(C:Addr)(m:Str)(f:Addr):Prop where
 at_:PySem.W.findIn K (.ref C) m=some (some (.ref f))
 fn:PySem.W.isFn K (.ref f)=true
 kp:PySem.W.keepIn K (.ref f)=true
section
variable {X:Cx}{pins:AB}{σ:St}{H:Hp}{s:AZ}{a C dx:Addr}{fs:List (Str×V)}{f:Str}{v:V}{A:Ae}{E:AA}
def ziV(I:Inv X pins σ H s)(e:H a=some (.ins C dx fs))(c:Cls X.K C)(n:zaN X.K C f)(l:fs.lookup f=some v)(h:∀u s',Inv X pins σ H s'->yB v u->Q u s'):wpAny (model X.prog X.w) A (getAttr (.ref a) f b) Q E s:=by
 obtain⟨mA,O,r,_,_,_⟩:=zez I.hok e;obtain⟨u,B,q⟩:=zgG.some_of (v:=v) (o:=mA f) (by rw[<- l];exact r f);exact zpT I.kIn O (c.get f) c.hd n B (zks q) (h u _ (I.tok _) q)
def ziX(I:Inv X pins σ H s)(e:H a=some (.ins C dx fs))(c:Cls X.K C)(k:Meth X.K C m g)(l:fs.lookup m=none)(h:Q (.ref g,[.ref a]) s):wpAny (model X.prog X.w) A (getMethod (.ref a) m pl) Q E s:=by
 obtain⟨mA,O,r,_,_,_⟩:=zez I.hok e;have q:mA m=none:=zgG.none_of (by rw[<- l];exact r m);exact zmS I.kIn O (c.get m) k.at_ k.fn q h
def zjk(I:Inv X pins σ H s)(e:H a=some (.ins C dx fs))(c:Cls X.K C)(n:zaN X.K C f)(hl:fs.length<1000)(F:yB y u)(h:∀s',Inv X pins σ (upd H a (.ins C dx (zcu f y fs))) s'->Q () s'):wpAny (model X.prog X.w) A (setAttr (.ref a) f u) Q E s:=by
 obtain⟨mA,O,r,wi,_,B⟩:=zez I.hok e;have J:(fs.map (·.1)).length<=sizeLine:=by rw[ab,bM];lia
 show zry I.kIn O c.sa c.po n.taker c.hd wi J λh' O' L=>h _ ?_;have U:∃o,h'.get? dx=some o:=let ⟨o,_,_,e',_⟩:=O'.ns;⟨o,e'⟩;show I.write (x:=a) (e:=dx) (by rw[e];exact True.intro) (.inr B) (λb q Y z=>(L.2 b Y).trans z) U ?_;show⟨by rw[zg O.ne];exact B,?_,O.ne,O'.obj,_,O'.ns,λg=>?_,λg Z=>?_⟩;have:=zcZ f y fs;lia;change zgG ((zcu f y fs).lookup g) (if g=f then some u else mA g);rw[zc1];by_cases q:g=f;rw[if_pos q,if_pos q];exact F;right;by_cases q:g=f;rw[q];exact (zcX f y fs).1;show (zcX f y fs).2 g (wi g λz=>Z ?_);grind
def Inv.made (I:Inv X pins σ H s):Inv X pins σ (upd (upd H s.heap.objs.size (.own (s.heap.objs.size+1))) (s.heap.objs.size+1) (.ins C s.heap.objs.size []))
  { s with heap:=(s.heap.push PySem.W.emptyDict).push (PySem.W.instObj C s.heap.objs.size) }:=by
 have B:(s.heap.push PySem.W.emptyDict).get? s.heap.objs.size=some PySem.W.emptyDict:=aC s.heap rfl
 have J:((s.heap.push PySem.W.emptyDict).push (PySem.W.instObj C s.heap.objs.size)).get? (s.heap.objs.size+1)=some (PySem.W.instObj C s.heap.objs.size):=by
  have:=aC (s.heap.push PySem.W.emptyDict) (o:=PySem.W.instObj C s.heap.objs.size) rfl;right
 have L:(s.heap.push PySem.W.emptyDict).Ns s.heap.objs.size (λ_=>none):=⟨PySem.W.emptyDict,#[],_,B,rfl,(λe O=>absurd O (by simp)),λ_=>rfl⟩;have I1:=I.laid (a:=s.heap.objs.size) (o:=.own (s.heap.objs.size+1)) (h':=s.heap.push PySem.W.emptyDict) (t':=s.toks) (λb u q=>aj _ q) (ah _) ⟨_,B⟩;show I1.laid (a:=s.heap.objs.size+1) (o:=.ins C s.heap.objs.size []) (t':=s.toks) (λb u q=>aj _ q) (Nat.le_of_eq (da _ _)) ?_;have F:s.heap.objs.size≠s.heap.objs.size+1:=aL (dj _);show⟨by rw[zg F,zh],aK _,F,J,λ_=>none,(Heap.Ns1.of_empty L).at λo q=>aj _ q,λ_=>True.intro,λy U=>absurd rfl U⟩
def zpn(B:attributeBase e f env (eval e env)=eval e env)(h:Ag prog w A (eval e env) (λo q=>Ag prog w A (getAttr o f true) Q E q) E s):Ag prog w A (eval (.Attribute e f pos) env) Q E s:=
 Attribute_any_ h (by rw[arm_eval_Attribute,B])
end
def zrJ (K:AH)(ta:TE)(f:Str):TE:=λσ H Q=>ta σ H λx H1=>∃a C dx fs v,x = .ref a/\H1 a=some (.ins C dx fs)/\Cls K C/\zaN K C f/\fs.lookup f=some v/\Q v H1
def zur (K:AH)(ta tv:TE)(f:Str):TS:=λD σ H=>tv σ H λy H1=>ta σ H1 λx H2=>∃a C dx fs,x = .ref a/\H2 a=some (.ins C dx fs)/\Cls K C/\zaN K C f/\fs.length<1000/\
 D.nx σ (upd H2 a (.ins C dx (zcu f y fs)))
def zve (X:Cx)(q:Operator)(B:V->V->Hp->VK->Prop):Prop:=
 ∀ (pins:AB) (s:AZ) (σ:St) (H:Hp) (x y:V) (u v:Value) (Q:VK),Inv X pins σ H s->yB x u->yB y v->B x y H Q->Af X (inplaceOp q u v) (EP X pins σ Q) X.xe s
section
variable {X:Cx}{o e value:Expr}{f:Str}{pos pos' tpos:Pos}{ta tv:TE}
def zd3 (B:PE X e ta)(F:attributeBase e f X.env (eval e X.env)=eval e X.env):PE X (.Attribute e f pos) (zrJ X.K ta f):=by intro pins s σ H Q I h;show zpn F (thn (B pins s σ H _ I h)  ?_);rintro u U ⟨x,H1,I1,J,a,C,dx,fs,v,ex,L,c,n,l,q⟩;subst ex;obtain rfl:u=Value.ref a:=J;exact ziV I1 L c n l λY Z I2 O=>⟨v,H1,I2,O,q⟩
def zit (B:PE X o ta)(F:PE X value tv)(hs:swapsWith value (some (.Attribute o f pos')) pos.line X.env=pure false):PS X (.Assign [.Attribute o f pos'] value pos) (zur X.K ta tv f):=by intro pins s σ H D I h;show plainObj_wpAny_Assign_Attribute (thn (F pins s σ H _ I h) λu J ⟨y,H1,I1,L,q⟩=>thn (B pins J σ H1 _ I1 q) λO s2 ⟨x,H2,I2,U,a,C,dx,fs,ex,Y,c,n,l,Z⟩=>?_) hs;subst ex;obtain rfl:O=Value.ref a:=U;exact zjk I2 Y c n l L λs3 I3=>⟨σ,_,I3,Z⟩
def rAdd:V->V->Hp->VK->Prop:=λx y H Q=>∃i j,x = .int i/\y = .int j/\Q (.int (i+j)) H
def rSub:V->V->Hp->VK->Prop:=λx y H Q=>∃i j,x = .int i/\y = .int j/\Q (.int (i - j)) H
def zsO:zve X .Add rAdd:=by rintro pins s σ H x y u v Q I B F ⟨i,j,rfl,rfl,q⟩;obtain⟨t,rfl⟩:=(show ∃t,u=Value.int i t from B);obtain⟨t',rfl⟩:=(show ∃t',v=Value.int j t' from F);exact PyProof.Rows.iadd_int ⟨.int (i+j),H,I.tok _,⟨_,rfl⟩,q⟩
def zsP:zve X .Sub rSub:=by rintro pins s σ H x y u v Q I B F ⟨i,j,rfl,rfl,q⟩;obtain⟨t,rfl⟩:=(show ∃t,u=Value.int i t from B);obtain⟨t',rfl⟩:=(show ∃t',v=Value.int j t' from F);exact PyProof.Rows.isub_int ⟨.int (i - j),H,I.tok _,⟨_,rfl⟩,q⟩
variable {pins:AB}{σ:St}{H:Hp}{s:AZ}{A:Ae}{E:AA}{Q:AA}{c:Value}{b:Bool}
inductive TyOf (K:AH) (H:Hp):V->Value->Prop where
 | non:TyOf K H .non (.type "NoneType")
 | bl (x:Bool):TyOf K H (.bl x) (.type "bool")
 | int (i:Int):TyOf K H (.int i) (.type "int")
 | str (x:Str):TyOf K H (.str x) (.type "str")
 | flt (x:UInt64):TyOf K H (.flt x) (.type "float")
 | lst {a:Addr} {xs:AT} (e:H a=some (.lst xs)):TyOf K H (.ref a) (.type "list")
 | frz {a:Addr} {o:Obj} {xs:AT} (e:H a=some (.frz o (.lst xs))):TyOf K H (.ref a) (.type "list")
 | tup {a:Addr} {xs:AT} (e:H a=some (.tup xs)):TyOf K H (.ref a) (.type "tuple")
 | dK {a:Addr} {kvs:List (Key×V)} (e:H a=some (.dK kvs)):TyOf K H (.ref a) (.type "dict")
 | dT {a:Addr} {kvs:List (List Key×V)} (e:H a=some (.dT kvs)):TyOf K H (.ref a) (.type "dict")
 | ins {a C dx:Addr} {fs:List (Str×V)} (e:H a=some (.ins C dx fs)) (cl:Cls K C) (ha:PySem.W.findIn K (.ref C) "__class__" = some (some (.builtin "object.__class__")))
   (hn:PySem.W.specialIn K (.builtin "object.__class__") "__get__" = some (some (.builtin "getset_descriptor.__get__"))) (htk:PySem.W.takesIn K (.builtin "object.__class__")=some true)
   (hm:PySem.W.mroIn K C (.type "object")=some true):TyOf K H (.ref a) (.ref C)
def zkE(I:Inv X pins σ H s)(B:yB x u)(ty:TyOf X.K H x t)(e:PySem.W.kitOne X.K t c=some b)(h:∀tk,Q (.bool b) { s with toks:=tk }) :
  wpAny (model X.prog X.w) A (call (.builtin "isinstance") [u,c]) Q E s:=by
 cases ty with
 | non=>cases (show u=Value.none from B);exact bH PySem.W.kitx_none I.kIn True.intro e (λz=>nomatch z) h
 | bl y=>cases (show u=Value.bool y from B);exact bH PySem.W.kitx_bool I.kIn True.intro e (λz=>nomatch z) h
 | int i=>obtain⟨t,q⟩:=(show ∃t,u=Value.int i t from B);cases q;exact bH PySem.W.kitx_int I.kIn True.intro e (λz=>nomatch z) h
 | str y=>obtain⟨t,q⟩:=(show ∃t,u=Value.str y t from B);cases q;exact bH PySem.W.kitx_str I.kIn True.intro e (λz=>nomatch z) h
 | flt y=>obtain⟨t,q⟩:=(show ∃t,u=Value.float y t from B);cases q;exact bH PySem.W.kitx_float I.kIn True.intro e (λz=>nomatch z) h
 | @lst a xs F=>
  cases (show u=Value.ref a from B);obtain⟨_,_,n,_,h1⟩:=(show yo X.prog X.w H s.heap a (.lst xs) from I.hok a _ F);exact bH PySem.W.kitx_list I.kIn ⟨_,h1,rfl⟩ e (λz=>nomatch z) h
 | @frz a ob xs F=>
  cases (show u=Value.ref a from B);obtain⟨_,_,_,n,_,h1⟩:=(show yo X.prog X.w H s.heap a (.frz ob (.lst xs)) from I.hok a _ F);exact bH PySem.W.kitx_list I.kIn ⟨_,h1,rfl⟩ e (λz=>nomatch z) h
 | @tup a xs F=>
  cases (show u=Value.ref a from B);obtain⟨_,_,_,p⟩:=(show yo X.prog X.w H s.heap a (.tup xs) from I.hok a _ F);obtain⟨o,h1,h2,_⟩:=p;exact bH PySem.W.kitx_tuple I.kIn ⟨o,h1,h2⟩ e (λz=>nomatch z) h
 | @dK a kvs F=>
  cases (show u=Value.ref a from B);obtain⟨_,_,vs,_,p⟩:=(show yo X.prog X.w H s.heap a (.dK kvs) from I.hok a _ F);obtain⟨o,es,Y,h1,h2,_⟩:=p;exact bH PySem.W.kitx_dict I.kIn ⟨o,h1,h2.1⟩ e (λz=>nomatch z) h
 | @dT a kvs F=>
  cases (show u=Value.ref a from B);obtain⟨_,_,xs,_,o,es,Y,h1,h2,_⟩:=(show yo X.prog X.w H s.heap a (.dT kvs) from I.hok a _ F);exact bH PySem.W.kitx_dict I.kIn ⟨o,h1,h2.1⟩ e (λz=>nomatch z) h
 | @ins a C dx fs F U Z hn L hm=>
  cases (show u=Value.ref a from B);obtain⟨mA,O,_⟩:=zez I.hok F;obtain⟨od,J,_⟩:=O.look;exact bH (PySem.W.kitx_own (U.get _) U.hd Z hn L hm) I.kIn J e (λz=>nomatch z) h
end
structure Room (k:Nat)(A:Ae):Prop where
 hd:A.handled=none
 dp:A.depth+3 * k+5<recursionLimit
 un:A.units+16 * k+200<cLine
def Room.mono {j k:Nat}{A:Ae}(r:Room k A)(h:j<=k):Room j A:=⟨r.hd,by have:=r.dp;lia,by have:=r.un;lia⟩
def Room.deeper(r:Room (k+1) A)(env:Env):Room k (A.deeper env):=
 ⟨r.hd,by have:=r.dp;change A.depth+1+3 * k+5<_;lia,by have:=r.un;change A.units+3+16 * k+200<_;lia⟩
def zi5{A:Ae}:(A.under (.builtin "type.__call__" ⟨.ref C::us,q⟩)).depth=A.depth+1:=by first | rfl | simp[Around.under,Code.weight,Code.isCreation,Code.isGuard,Code.isCaller,Code.frames,Code.isFrame,guardIds]
def zi6{A:Ae}:(A.under (.builtin "type.__call__" ⟨.ref C::us,q⟩)).units=A.units+1:=by first | rfl | simp[Around.under,Code.cUnits,Code.frames,Code.isFrame]
def Room.make(r:Room (k+1) A)(C:Addr)(us:AN)(q:List (Str×Value)):Room k (A.under (.builtin "type.__call__" ⟨.ref C::us,q⟩)):=
 ⟨r.hd,by have:=r.dp;rw[zi5];lia,by have:=r.un;rw[zi6];lia⟩
def Room.depth(r:Room k A):A.depth<recursionLimit:=by have:=r.dp;lia
def Room.units(r:Room k A):A.units+64<cLine:=by have:=r.un;lia
def zpb:TA:=λ_ H Q=>Q [] H
def za8 (ta:TE)(q:TA):TA:=λσ H Q=>ta σ H λx H1=>q σ H1 λxs H2=>Q (x::xs) H2
section
variable {X:Cx}{e:Expr}{es:AO}{te:TE}{t:TA}{pos:Pos}
def zoO:PA X [] zpb:=λ_ _ _ _ H Q I h=>Calls.spliced_nil ⟨[],H,I,.nil,h⟩
def zb4 (q:PE X e te)(B:PA X es t)(hs:starEach (e::es) X.env=(false,eval e X.env)::starEach es X.env:=by rfl):PA X (e::es) (za8 te t):=by intro pos pins s σ H Q I h;rw[hs];change wpAny _ _ (spliced ((false,eval e X.env)::backTo pos (starEach es X.env))) _ _ s;show Calls.spliced_cons (thn (q pins s σ H _ I h)  ?_);rintro u F ⟨x,H1,I1,J,L⟩;exact thn (B pos pins F σ H1 _ I1 L) <| by rintro us Y ⟨xs,H2,I2,O,U⟩;exact⟨x::xs,H2,I2,.cons J O,U⟩
end
abbrev Sp:=AT->Hp->VK->XK->Prop
abbrev CXT:=List Env->Hp->AZ->XK->AA
structure Env0 (P:Aa)(w:Ab)(K:AH)(mg:AI)(base:Heap)(A:Ae)(outer:List Env)(s:AZ)(H:Hp):Prop where
 frames:A.frames=some outer
 mod:Mod K mg base
 bs:∀b o,base.get? b=some o->s.heap.get? b=some o/\H b=none
 bsz:base.objs.size<=s.heap.objs.size
 funs:s.heap.FunFrames base outer
 frf:∀b∈frs outer,H b=none
 hok:HOk P w H s.heap
 bare:AllBare s.gens
def CE (q:List Env)(P:Aa)(w:Ab)(H:Hp)(s:AZ)(Q:VK)(u:Value)(s':AZ):Prop:=
 ∃v H',s'.os=s.os/\AllBare s'.gens/\Un (frs q) [] H H' s.heap s'.heap/\HOk P w H' s'.heap/\yB v u/\Q v H'
def CR (CX:CXT)(q:List Env)(P:Aa)(w:Ab)(H:Hp)(s:AZ)(Q:VK)(E:XK)(r:Result)(s':AZ):Prop:=
 match r with
 | .ok (.ret u)=>CE q P w H s Q u s'
 | .ok _=>False
 | .error e=>CX q H s E e s'
structure FnOk (P:Aa)(w:Ab)(K:AH)(mg:AI)(base:Heap)(CX:CXT)(k:Nat)(f:Addr)(fd:Ac)(ps:AM)(sp:Sp):Prop where
 len:∀vs H Q E,sp vs H Q E->vs.length=ps.length
 run:∀ (A:Ae) (outer:List Env) (s:AZ) (H:Hp) (args:Args) (us:AN) (vs:AT) (Q:VK) (E:XK),Room k A->Env0 P w K mg base A outer s H->BindsTo s fd args (ps.zip us)->zY vs us->sp vs H Q E->
  codeAny (model P w) A (.call (.ref f) args) (CR CX outer P w H s Q E) s
def FnOk.mono{P:Aa}{w:Ab}{K:AH}{mg:AI}{base:Heap}{CX:CXT}{f:Addr}{fd:Ac}{ps:AM}(F:FnOk P w K mg base CX j f fd ps sp)(h:j<=k) :
  FnOk P w K mg base CX k f fd ps sp:=⟨F.len,λA q s H args us vs Q E B=>F.run A q s H args us vs Q E (B.mono h)⟩
def FnOk.imp{P:Aa}{w:Ab}{K:AH}{mg:AI}{base:Heap}{CX:CXT}{f:Addr}{fd:Ac}{ps:AM}{sp I:Sp}(F:FnOk P w K mg base CX k f fd ps sp)(h:∀vs H Q E,I vs H Q E->sp vs H Q E):FnOk P w K mg base CX k f fd ps I:=
 ⟨λvs H Q E q=>F.len vs H Q E (h _ _ _ _ q),λA B s H args us vs Q E J L O U hs=>F.run A B s H args us vs Q E J L O U (h _ _ _ _ hs)⟩
def Env0.make{P:Aa}{w:Ab}{K:AH}{mg:AI}{base:Heap}{A:Ae}{q:List Env}{s:AZ}(e:Env0 P w K mg base A q s H)(C:Addr)(us:AN)(B:List (Str×Value)) :
  Env0 P w K mg base (A.under (.builtin "type.__call__" ⟨.ref C::us,B⟩)) q s H:=⟨by first | exact e.frames | (simpa [Around.under,Code.envs,Code.isFrame,pushEnvs] using e.frames),e.mod,e.bs,e.bsz,e.funs,e.frf,e.hok,e.bare⟩
section
variable {X:Cx}{pins:AB}{σ:St}{H:Hp}{s s':AZ}
def Inv.env0 (I:Inv X pins σ H s):Env0 X.prog X.w X.K X.mg X.base X.A X.stack s H:=
 ⟨I.ok.frames,I.ok.mod,I.bs,af I.ok.bsz I.sz,I.stack,I.stkFree,I.hok,I.bare⟩
def Inv.after(I:Inv X pins σ H s)(h:CE X.stack X.prog X.w H s Q u s'):EP X pins σ Q u s':=by obtain⟨v,H',L,B,O,F,r,q⟩:=h;obtain⟨U,g,d,t,J⟩:=s';obtain rfl:J=s.os:=L;exact⟨v,H',I.call (h':=U) (g':=g) (d':=d) (t':=t) (ch:=[]) O F B (λb z=>absurd z (by simp)),r,q⟩
end
def zdt (sp:Sp)(dvs:AT)(E:XK)(t:TA):TE:=λσ H Q=>t σ H λvs H1=>sp (vs++dvs) H1 Q E
def zuC (C:Addr)(m:Str)(sp:Sp)(dvs:AT)(E:XK)(ta:TE)(t:TA):TE:=λσ H Q=>ta σ H λx H1=>∃a dx fs,x = .ref a/\H1 a=some (.ins C dx fs)/\fs.lookup m=none/\
 t σ H1 λvs H2=>sp (x::(vs++dvs)) H2 Q E
def zuB (C:Addr)(sp:Sp)(dvs:AT)(E:XK)(t:TA):TE:=λσ H Q=>t σ H λvs H1=>∀x dx,H1 x=none->H1 dx=none->dx≠x->
 sp (.ref x::(vs++dvs)) (upd (upd H1 dx (.own x)) x (.ins C dx [])) (λv H2=>v = .non/\Q (.ref x) H2) E
def zaJ (K:AH)(fd:Ac)(ps:AM)(ds:AN):Prop:=
 ∀ (s:AZ) (us:AN),K.In s.heap->(us++ds).length=ps.length->BindsTo s fd ⟨us,[]⟩ (ps.zip (us++ds))
def zaJ.all {K:AH}{fd:Ac}{ps:AM}(h:∀us:AN,us.length=ps.length->bindArgs fd ⟨us,[]⟩=pure (ps.zip us)):zaJ K fd ps []:=λs us _ q=>by rw[dF] at q ⊢;exact .of_eq (h us q)
def zdK (CX:CXT)(X:Cx)(E:XK):Prop:=∀ (pins:AB) (σ:St) (H:Hp) (s:AZ) (e:Value) (s':AZ),Inv X pins σ H s->CX X.stack H s E e s'->X.xe e s'
section
variable {X:Cx}{CX:CXT}{k:Nat}{f C:Addr}{fd:Ac}{ps:AM}{sp:Sp}{dvs:AT}{ds:AN}{E:XK}{x m:Str}{p pos apos:Pos}{e o:Expr}{es:AO}{ta:TE}{t:TA}
def zo1{pins:AB}{σ:St}{H:Hp}{s:AZ}{Q:VK}{vs:AT}(F:FnOk X.prog X.w X.K X.mg X.base CX k f fd ps sp)(J:Room k X.A)(L:zaJ X.K fd ps ds)(O:zY dvs ds)(U:zdK CX X E)(I:Inv X pins σ H s)(r:zY vs us)(h:sp (vs++dvs) H Q E):Af X (call (.ref f) us) (EP X pins σ Q) X.xe s:=by
 have B:zY (vs++dvs) (us++ds):=r.append O;have Y:(us++ds).length=ps.length:=by rw[<- B.length];exact F.len _ _ _ _ h
 show wpAny_call (dw (F.run X.A X.stack s H ⟨us,[]⟩ (us++ds) (vs++dvs) Q E J I.env0 (L s us I.kIn Y) B h) λr s' q=>?_)
 cases r with
 | error e=>exact U pins σ H s e s' I q
 | ok fl=>
  cases fl with
  | ret u=>exact I.after q
  | next=>exact False.elim q
  | brk=>exact False.elim q
  | cont=>exact False.elim q
def zhu (F:FnOk X.prog X.w X.K X.mg X.base CX k f fd ps sp)(L:Room k X.A)(O:Gl X x)(U:X.mg x=some (.ref f))(Y:PySem.W.keepIn X.K (.ref f)=true)(Z:zaJ X.K fd ps ds)(hd:zY dvs ds)(hx:zdK CX X E)
  (ha:PA X (e::es) t) (B:Ah x:=by ext) (he:starEach (e::es) X.env=(false,eval e X.env)::starEach es X.env:=by rfl) (J:(backTo pos (starEach es X.env)).any (·.1)=false:=by rfl) :
  PE X (.Call (.Name x p) (e::es) [] pos) (zdt sp dvs E t):=by
 intro pins s σ H Q I h;show dG (zkS I O U ?_ B);show eR (h₀:=X.base) I.ok.mod.kin Y (thn (ha pos pins s σ H _ I h) λus s1 ⟨vs,H1,I1,r,q⟩=>⟨I1.kIn,?_⟩) he J;exact zo1 F L Z hd hx I1 r q
def zqN {pl:Sem Bool}(he:PE X o ta)(c:Cls X.K C)(hm:Meth X.K C m f)(F:FnOk X.prog X.w X.K X.mg X.base CX k f fd ps sp)(hr:Room k X.A)(hb:zaJ X.K fd ps ds)(hd:zY dvs ds)(hx:zdK CX X E)(ha:PA X (e::es) t)
  (hst:starEach (e::es) X.env=(false,eval e X.env)::starEach es X.env:=by rfl) (hpl:(backTo pos (starEach es X.env)).any (·.1)=false:=by rfl)
  (ht:eval (.Call (.Attribute o m apos) (e::es) [] pos) X.env=(do
   let ov <- eval o X.env
   standAt apos.atName
   let (f,first) <- holding [ov] (getMethod ov m pl)
   callWith pos f first (backTo pos (starEach (e::es) X.env)) (backToKw pos (keywordEach [] X.env))):=by rfl) :
  PE X (.Call (.Attribute o m apos) (e::es) [] pos) (zuC C m sp dvs E ta t):=by
 intro pins s σ H Q I h;show PySem.W.methodCall_KW (pl:=pl) (thn (he pins s σ H _ I h) λu s1 ⟨x,H1,I1,rx,a,dx,fs,ex,ea,l,q⟩=>?_) ht;subst ex;obtain rfl:u=Value.ref a:=rx;show ziX I1 ea c hm l ?_;show eR (first:=[.ref a]) (h₀:=X.base) I.ok.mod.kin hm.kp (thn (ha pos pins s1 σ H1 _ I1 q) λus s2 ⟨vs,H2,I2,r,q2⟩=>⟨I2.kIn,?_⟩) hst hpl;exact zo1 (us:=.ref a::us) (vs:=.ref a::vs) F hr hb hd hx I2 (.cons rfl r) q2
structure Mk (K:AH)(C f:Addr):Prop where
 makes:PySem.W.makesIn K C=true
 init:PySem.W.findIn K (.ref C) "__init__" = some (some (.ref f))
 fn:PySem.W.isFn K (.ref f)=true
 kp:PySem.W.keepIn K (.ref C)=true
def znY{pins:AB}{σ:St}{H:Hp}{s:AZ}{Q:VK}{vs:AT}(M:Mk X.K C f)(F:FnOk X.prog X.w X.K X.mg X.base CX k f fd ps sp)(L:Room (k+1) X.A)(O:zaJ X.K fd ps ds)(U:zY dvs ds)(Y:zdK CX X E)(I:Inv X pins σ H s)(r:zY vs us)(h:∀x dx,H x=none->H dx=none->dx≠x->sp (.ref x::(vs++dvs)) (upd (upd H dx (.own x)) x (.ins C dx [])) (λv H2=>v = .non/\Q (.ref x) H2) E) :
  Af X (call (.ref C) us) (EP X pins σ Q) X.xe s:=by
 have B:=h (s.heap.objs.size+1) s.heap.objs.size (I.hok.fresh (cT _)) (I.hok.fresh (ah _)) (aL (dj _));have I2:=Inv.made (C:=C) I;have J:zY (V.ref (s.heap.objs.size+1)::(vs++dvs)) (Value.ref (s.heap.objs.size+1)::(us++ds)):=.cons rfl (r.append U);have Z:(Value.ref (s.heap.objs.size+1)::us++ds).length=ps.length:=by have e:=J.length;rw[F.len _ _ _ _ B] at e;exact e.symm
 show wpAny_call (znk (f:=f) I.kIn M.makes M.init (beq_iff_eq.mp M.fn) (dw (F.run _ X.stack _ _ ⟨Value.ref (s.heap.objs.size+1)::us,[]⟩ (Value.ref (s.heap.objs.size+1)::(us++ds)) _ _ E (L.make C us [])
  (I2.env0.make C us []) (O _ (Value.ref (s.heap.objs.size+1)::us) I2.kIn Z) J B) λr s' q=>?_))
 cases r with
 | error e=>exact Y pins σ _ _ e s' I2 q
 | ok fl=>
  cases fl with
  | ret u=>
   obtain⟨v,H',I3,rv,ev,q3⟩:=I2.after q;subst ev;exact⟨rv,⟨V.ref (s.heap.objs.size+1),H',I3,rfl,q3⟩⟩
  | next=>exact False.elim q
  | brk=>exact False.elim q
  | cont=>exact False.elim q
def zqM (M:Mk X.K C f)(F:FnOk X.prog X.w X.K X.mg X.base CX k f fd ps sp)(L:Room (k+1) X.A)(O:Gl X x)(U:X.mg x=some (.ref C))(Y:zaJ X.K fd ps ds)(Z:zY dvs ds)(hx:zdK CX X E)
  (ha:PA X (e::es) t) (B:Ah x:=by ext) (he:starEach (e::es) X.env=(false,eval e X.env)::starEach es X.env:=by rfl) (J:(backTo pos (starEach es X.env)).any (·.1)=false:=by rfl) :
  PE X (.Call (.Name x p) (e::es) [] pos) (zuB C sp dvs E t):=by
 intro pins s σ H Q I h;show dG (zkS I O U ?_ B);show eR (h₀:=X.base) I.ok.mod.kin M.kp (thn (ha pos pins s σ H _ I h) λus s1 ⟨vs,H1,I1,r,q⟩=>⟨I1.kIn,?_⟩) he J;exact znY M F L Y Z hx I1 r q
variable {ks:AM}{kpos:Pos}{kws:List Keyword}{te:TE}{tk:TA}{nm:Option Str}
variable {g:AN->AN->AN}{gV:AT->AT->AT}
end
structure FnScope (N P:AM)(sc:Scope):Prop where
 kind:sc.kind = .function
 co:sc.isCoroutine=false
 gen:sc.isGenerator=false
 nd:N.Nodup
 pre:N.take P.length=P
 par:∀x∈P,sc.names.lookup x=some .local\/sc.names.lookup x=some .cell
 nofree:∀y∈sc.names,y.2≠.free
def zfz {B:Str->Option NameKind}{x:Str}:∀ {q:List (Str×Value)} {m:AI},(∀v,(x,v)∉q)->bindL B q m x=m x
 | [],_,_=>rfl
 | (n,v)::r,m,h=>by
  unfold bindL;rw[zfz λw F=>h w (aw _ F)];split
  all_goals grind
def zfx {B:Str->Option NameKind}{x:Str}:∀ {q:List (Str×Value)} {m:AI},(∀v,(x,v)∉q)->bindC B q m x=m x
 | [],_,_=>rfl
 | (n,v)::r,m,h=>by
  unfold bindC;rw[zfx λw F=>h w (aw _ F)];split
  all_goals grind
def zfy {q:Str->Option NameKind}{x:Str}{v:Value}:∀ {P:AM} {vs:AN} {i:Nat} {m:AI},P.Nodup->P[i]?=some x->vs[i]?=some v->q x=some .local->
  bindL q (P.zip vs) m x=some v
 | [],_,_,_,_,h,_,_=>by simp at h
 | _::_,[],_,_,_,_,h,_=>by simp at h
 | p::P,w::vs,0,m,B,h1,h2,F=>by simp at h1 h2;subst h1;subst h2;change bindL q ((p,w)::P.zip vs) m p=_;unfold bindL;rw[zfz λv I=>(bS.mp B).1 (List.of_mem_zip I).1,if_pos F];simp
 | p::P,w::vs,i+1,m,B,h1,h2,F=>by change bindL q ((p,w)::P.zip vs) m x=_;unfold bindL;exact zfy (i:=i) (bS.mp B).2 (by simpa using h1) (by simpa using h2) F
def zfw {q:Str->Option NameKind}{x:Str}{v:Value}:∀ {P:AM} {vs:AN} {i:Nat} {m:AI},P.Nodup->P[i]?=some x->vs[i]?=some v->q x≠some .local->
  bindC q (P.zip vs) m x=some v
 | [],_,_,_,_,h,_,_=>by simp at h
 | _::_,[],_,_,_,_,h,_=>by simp at h
 | p::P,w::vs,0,m,B,h1,h2,F=>by simp at h1 h2;subst h1;subst h2;change bindC q ((p,w)::P.zip vs) m p=_;unfold bindC;rw[zfx λv I=>(bS.mp B).1 (List.of_mem_zip I).1,if_neg F];simp
 | p::P,w::vs,i+1,m,B,h1,h2,F=>by change bindC q ((p,w)::P.zip vs) m x=_;unfold bindC;exact zfw (i:=i) (bS.mp B).2 (by simpa using h1) (by simpa using h2) F
def xi (N:AM)(vs:AT):St:=vs.map some++List.replicate (N.length - vs.length) none
def zdN (CX:CXT)(P:Aa)(w:Ab)(K:AH)(mg:AI)(base:Heap)(N:AM)(qual:Str)(scope:Scope)(f:Addr)(cd:Value)(A:Ae)(outer:List Env)(s:AZ)(H:Hp)(E:XK):Cx where
 prog:=P
 w:=w
 K:=K
 mg:=mg
 base:=base
 A:=A.deeper (envOfC qual scope s.heap.objs.size f cd)
 N:=N
 s₀:=s
 H₀:=H
 env:=envOfC qual scope s.heap.objs.size f cd
 outer:=outer
 stack:=envOfC qual scope s.heap.objs.size f cd::outer
 ex:=[]
 calm:=true
 fn:=λ_=>true
 pn:=[]
 xe:=λe s'=>wpAny (model P w) (A.deeper (envOfC qual scope s.heap.objs.size f cd)) (leaving (envOfC qual scope s.heap.objs.size f cd) e) (λ_ s''=>CX outer H s E e s'') (λe' s''=>CX outer H s E e' s'') s'
def zhT{B:Scope}(h:B.names.lookup x=some .cell):∃c,(cellsFrom n B.names []).lookup x=some c:=by have q:=PySem.W.cellsFrom_some B.names n [] (.inl h);exact Option.isSome_iff_exists.mp q
def zky{CX:CXT}{P:Aa}{w:Ab}{K:AH}{mg:AI}{base:Heap}{N ps:AM}{F:Str}{scope:Scope}{f:Addr}{Y:Value}{A:Ae}{B:List Env}{s Z:AZ}{H:Hp}{E:XK}{vs:AT}(S:FnScope N ps scope)(hd:A.handled=none)(I:Env0 P w K mg base A B s H)(hl:vs.length=ps.length)(r:zY vs us)(x:InCallC s s.heap.objs.size (bindL (envOfC F scope s.heap.objs.size f Y).kindOf (ps.zip us) λ_=>none) (cellsFrom (s.heap.objs.size+1) scope.names []) (bindC (envOfC F scope s.heap.objs.size f Y).kindOf (ps.zip us) λ_=>none) Z) :
  Inv (zdN CX P w K mg base N F scope f Y A B s H E) [] (xi N vs) H Z:=by
 have ad:ps.length<=N.length:=by have:=congrArg List.length S.pre;rw[aV] at this;lia
 obtain⟨h1,tk,rfl,hk⟩:=x.done;have J:∀b:Addr,b∉(zdN CX P w K mg base N F scope f Y A B s H E).ex:=λb z=>absurd (show b∈([]:AY) from z) (by simp)
 show⟨⟨I.mod,S.kind,rfl,rfl,ah _,λy z c h1 h2=>?_,λy L=>?_,λy c _ h=>?_,λ_=>hd,Around.frames_deeper I.frames,.inr ⟨rfl,rfl⟩,λb z=>absurd z (J b),I.bs,I.bsz,λb _ _=>J b,λb z=>absurd z (J b),I.funs,I.frf⟩,
  rfl,I.bare,Un.kept hk,⟨_,x.toInCall.ns,λi y v h1 h2 h3=>?_⟩,λy c h=>⟨_,x.cell y c h⟩,I.hok.fresh (ah _),λy c h=>?_,λp O=>absurd (show p∈([]:AB) from O) (by simp),I.hok.kept hk,?_⟩
 exact name_of_addr x.apart (cL h1) (cL h2);have L:scope.names.lookup y=some .cell\/scope.names.lookup y=some .free:=L;rcases L with L | L;exact zhT L;exact absurd rfl (S.nofree _ (cL L));exact bW (x.above y c (cL h))
 have hi:i<vs.length:=by
  unfold xi at h2;by_cases hi:i<vs.length;exact hi;rw[bi (by simpa using hi)] at h2;rw[List.getElem?_replicate] at h2;right
 have ha:vs[i]?=some v:=by
  unfold xi at h2;rw[bf (by simpa using hi),aq] at h2;right
 obtain⟨u,hu,rv⟩:=r.get ha;have O:ps[i]?=some y:=by rw[<- S.pre,dy (by lia)];exact h1
 have U:ps.Nodup:=by rw[<- S.pre];exact S.nd.sublist (dQ _ _)
 show⟨u,rv,?_⟩;rcases S.par y (ar O) with k | k;exact .inl ⟨k,zfy U O hu k⟩;obtain⟨c,e⟩:=zhT (n:=s.heap.objs.size+1) k;show .inr ⟨.inl k,c,e,?_⟩;have q:=x.cell y c e;rw[zfw U O hu (by change scope.names.lookup y≠_;rw[k];decide)] at q;exact q;exact I.hok.fresh (bW (x.above y c (cL h)));unfold xi;change _=N.length;grind
def zsI{CX:CXT}{P:Aa}{w:Ab}{K:AH}{mg:AI}{base:Heap}{f:Addr}{name F:Str}{O:Arguments}{body:List Stmt}{scope:Scope}{dV kV ad pm L ct oc:Value}{an od:Option Addr}{N ps:AM}{sp:Sp}(lk:K.lookup f=some ⟨oc,od,.func (PySem.W.fnOf name F O body scope dV kV ad pm an L ct),ap⟩)(as:PySem.W.codeIn K L F=true)(S:FnScope N ps scope)(ag:∀vs H Q E,sp vs H Q E->vs.length=ps.length)(Y:∀ (A:Ae) (B:List Env) (s:AZ) (H:Hp) (vs:AT) (Q:VK) (E:XK),Room k (A.deeper (envOfC F scope s.heap.objs.size f L))->sp vs H Q E->
   ∃t,PSs (zdN CX P w K mg base N F scope f L A B s H E) body t/\t { nx:=λ_ H'=>Q .non H',rt:=Q } (xi N vs) H) :
  FnOk P w K mg base CX (k+1) f (PySem.W.fnOf name F O body scope dV kV ad pm an L ct) ps sp:=by
 show⟨ag,λA B s H args us vs Q E hr e0 hb r al=>?_⟩;have hl:=ag _ _ _ _ al;have KX:K.In s.heap:=e0.mod.kin.keeps λb o e=>(e0.bs b o e).1;have lim:s.heap.NoLimit:=e0.mod.nolimit.keeps λb o e=>(e0.bs b o e).1
 have Z:∀y∈ps.zip us,scope.names.lookup y.1=some .local\/(scope.names.lookup y.1=some .cell/\((cellsFrom (s.heap.objs.size+1) scope.names []).lookup y.1).isSome=true):=by
  rintro⟨n,v⟩ hy;rcases S.par n (List.of_mem_zip hy).1 with q | q;exact .inl q;exact .inr ⟨q,PySem.W.cellsFrom_some _ _ _ (.inl q)⟩
 show codeAny_call_function hr.depth (KX _ _ lk) rfl S.co S.gen rfl (PySem.W.codeRec_of KX as) (hb _ _ _ _ ?_);show wpAny_newFunctionEnv_cells S.kind Z λenv he s1 x=>?_;subst he;show⟨lim.keeps x.toInCall.keep,codeAny_func ?_⟩;obtain⟨t,ht,hq⟩:=Y A B s H vs Q E (hr.deeper _) al;have I:Inv (zdN CX P w K mg base N F scope f L A B s H E) [] (xi N vs) H s1:=zky S hr.hd e0 hl r x;show aQ (ht [] s1 (xi N vs) H _ I hq) (λfl s' hs=>?_) λe s' hs=>hs
 have fin:∀ {U:St} {H':Hp} {v:V} {u:Value},Inv (zdN CX P w K mg base N F scope f L A B s H E) [] U H' s'->yB v u->Q v H'->CE B P w H s Q u s':=
  λ{U H' v u} J rv q=>⟨v,H',J.os,J.bare,J.base,J.hok,rv,q⟩
 cases fl with
 | ret u=>
  obtain⟨v,U,H',J,rv,q⟩:=hs;exact fin J rv q
 | next=>
  obtain⟨U,H',J,q⟩:=hs;exact fin (v:=V.non) (u:=Value.none) J rfl q
 | brk=>
  obtain⟨_,_,_,q⟩:=hs;exact False.elim q
 | cont=>
  obtain⟨_,_,_,q⟩:=hs;exact False.elim q
section
variable {X:Cx}{x:Str}{p pos:Pos}{e:Expr}{es:AO}{t:TA}{id T:String}{r:AT->Hp->VK->Prop}
def tCB (r:AT->Hp->VK->Prop)(t:TA):TE:=λσ H Q=>t σ H λvs H1=>r vs H1 Q
def znt (F:zdw X (.builtin id) r)(J:Gl X x)(L:X.mg x=none)(O:bootBuiltins x=some (.builtin id))(U:PA X (e::es) t)(Y:x ≠ "__name__" := by ext)(q:Ah x:=by ext)
  (Z:starEach (e::es) X.env=(false,eval e X.env)::starEach es X.env:=by rfl) (B:(backTo pos (starEach es X.env)).any (·.1)=false:=by rfl):PE X (.Call (.Name x p) (e::es) [] pos) (tCB r t):=by
 intro pins s σ H Q I h;show dG (zcY I J L O ?_ Y q);exact PyProof.Rows.callWith_builtin1 (thn (U pos pins s σ H _ I h) <| by rintro us s1 ⟨vs,H1,I1,r1,q1⟩;exact F pins s1 σ H1 vs us Q I1 r1 q1) Z B
def zlr (F:zdw X (.type T) r)(J:Gl X x)(L:X.mg x=none)(O:bootBuiltins x=some (.type T))(U:PA X (e::es) t)(Y:x ≠ "__name__" := by ext)(q:Ah x:=by ext)
  (Z:starEach (e::es) X.env=(false,eval e X.env)::starEach es X.env:=by rfl) (B:(backTo pos (starEach es X.env)).any (·.1)=false:=by rfl):PE X (.Call (.Name x p) (e::es) [] pos) (tCB r t):=by
 intro pins s σ H Q I h;show dG (zcY I J L O ?_ Y q);exact bR (thn (U pos pins s σ H _ I h) <| by rintro us s1 ⟨vs,H1,I1,r1,q1⟩;exact F pins s1 σ H1 vs us Q I1 r1 q1) Z B
end
section
variable {κ:Type}[DecidableEq κ]
def um (kvs:List (κ×V))(k:κ):Option V:=(kvs.find? λkv=>decide (kv.1=k)).map (·.2)
def zad (kvs:List (κ×V))(k:κ)(v:V):List (κ×V):=
 if (kvs.any λkv=>decide (kv.1=k))=true then kvs.map (λkv=>if kv.1=k then (kv.1,v) else kv) else kvs++[(k,v)]
def ya{p:κ×V}(e:p.1=k):um (p::r) k=some p.2:=by simp[um,bI,e]
def yj{p:κ×V}{r:List (κ×V)}(e:¬ p.1=k):um (p::r) k=um r k:=by simp[um,bI,e]
def zbM (k:κ):∀kvs:List (κ×V),(kvs.any λkv=>decide (kv.1=k))=(um kvs k).isSome
 | []=>rfl
 | p::r=>by
  rw[cD];by_cases e:p.1=k;simp only[ya e,a6 e,Bool.true_or,Option.isSome_some];rw[yj e,bg e,Bool.false_or];exact zbM k r
def ziH (k j:κ)(y:V):∀kvs:List (κ×V),um (kvs.map λkv=>if kv.1=k then (kv.1,y) else kv) j=(um kvs j).map λx=>if j=k then y else x
 | []=>rfl
 | p::r=>by
  have q:=ziH k j y r;rw[az];by_cases h:p.1=k;rw[if_pos h];by_cases e:p.1=j;rw[ya (p:=(p.1,y)) e,ya e,Option.map_some,if_pos (e.symm.trans h)];rw[yj (p:=(p.1,y)) e,yj e,q];rw[if_neg h];by_cases e:p.1=j;rw[ya (p:=p) e,ya e,Option.map_some,if_neg (λz=>h (e.trans z))];rw[yj (p:=p) e,yj e,q]
def zgA (k j:κ)(y:V):∀kvs:List (κ×V),um kvs k=none->um (kvs++[(k,y)]) j=if j=k then some y else um kvs j
 | [],_=>by
  by_cases e:k=j;rw[if_pos e.symm];exact ya (p:=(k,y)) e;rw[if_neg (λz=>e z.symm)];exact yj (p:=(k,y)) e
 | p::r,q=>by
  rw[List.cons_append];have B:¬ p.1=k:=λz=>by rw[ya z] at q;cases q
  rw[yj B] at q;have F:=zgA k j y r q;by_cases e:p.1=j;rw[ya e,ya e,if_neg (λz=>B (e.trans z))];rw[yj e,yj e,F]
def zod (kvs:List (κ×V))(k j:κ)(y:V):um (zad kvs k y) j=if j=k then some y else um kvs j:=by
 unfold zad;by_cases a:(kvs.any λkv=>decide (kv.1=k))=true;rw[if_pos a,ziH];rw[zbM] at a;by_cases e:j=k;obtain⟨x,q⟩:=Option.isSome_iff_exists.mp a;grind;right;rw[if_neg a];show zgA k j y kvs ?_;rw[zbM] at a;right
def xZ (kvs:List (κ×V))(k:κ)(v:V):(zad kvs k v).length<=kvs.length+1:=by
 unfold zad;split
 all_goals right
def znG {kvs:List (κ×V)}{k:κ}(v:V)(h:um kvs k=none):zad kvs k v=kvs++[(k,v)]:=by
 unfold zad;rw[zbM,h];right
def zgG.isSome_eq(r:zgG o u):o.isSome=u.isSome:=by
 cases o with
 | none=>cases u with
  | none=>rfl
  | some _=>exact (show False from r).elim
 | some _=>cases u with
  | none=>exact (show False from r).elim
  | some _=>rfl
def KV.val(r:KV kvs vs)(k:κ):zgG (um kvs k) (valueAt vs k):=by
 unfold KV at r
 induction r with
 | nil=>exact True.intro
 | @cons p q ps B h t I=>
  obtain⟨h1,h2⟩:=h;by_cases e:p.1=k;have F:q.1=k:=h1.symm.trans e;have b:valueAt (q::B) k=some q.2:=by simp[valueAt,bI,F]
  rw[ya e,b];exact h2;have F:¬ q.1=k:=λz=>e (h1.trans z);have b:valueAt (q::B) k=valueAt B k:=by simp[valueAt,bI,F]
  rw[yj e,b];exact I
def KV.any(r:KV kvs vs)(k:κ):(kvs.any λkv=>decide (kv.1=k))=vs.any λkv=>decide (kv.1=k):=by
 unfold KV at r
 induction r with
 | nil=>rfl
 | cons h t q=>rw[cD,cD,q,h.1]
def KV.repl {kvs:List (κ×V)}{vs:List (κ×Value)}(r:KV kvs vs)(k:κ){y:V}{u:Value}(F:yB y u) :
  KV (kvs.map λkv=>if kv.1=k then (kv.1,y) else kv) (vs.map λkv=>if kv.1=k then (kv.1,u) else kv):=by
 unfold KV at r ⊢
 induction r with
 | nil=>exact .nil
 | @cons p q ps I h t B=>
  rw[az,az];show .cons ?_ B;grind
def KV.put(r:KV kvs vs)(k:κ)(q:yB y u):KV (zad kvs k y) (stored vs k u):=by
 unfold zad stored;rw[r.any k];by_cases e:(vs.any λkv=>decide (kv.1=k))=true;rw[if_pos e,if_pos e];exact r.repl k q;rw[if_neg e,if_neg e];exact Paired.snoc r ⟨rfl,q⟩
def KV.length {kvs:List (κ×V)}{vs:List (κ×Value)}(r:KV kvs vs):kvs.length=vs.length:=eu r
end
def zi3(r:yB (kV k) u):(zV P w).is k u=true:=by
 cases k with
 | inl i=>obtain⟨t,e⟩:=(show ∃t,u=Value.int i t from r);subst e;exact zhm P w i t
 | inr x=>obtain⟨t,e⟩:=(show ∃t,u=Value.str x t from r);subst e;exact zhn P w x t
def zfS:∀ {ks:List Key} {us:AN},zY (ks.map kV) us->ItemsAre (zV P w) ks us
 | [],_,r=>by rw[dZ] at r;cases r;exact .nil
 | k::ks,_,r=>by
  rw[az] at r
  cases r with
  | cons h t=>exact .cons (zi3 h) (zfS t)
abbrev KT (H:Hp):List (List Key×V)->List (List Key×Addr×Value)->Prop:=Paired λp q=>p.1=q.1/\H q.2.1=some (.tup (p.1.map kV))/\yB p.2 q.2.2
def KT.val(r:KT H kvs xs)(k:List Key):zgG (um kvs k) ((atKey xs k).map (·.2)):=by
 induction r with
 | nil=>exact True.intro
 | @cons p q ps B h t I=>
  obtain⟨h1,_,h2⟩:=h;by_cases e:p.1=k;have F:q.1=k:=h1.symm.trans e;have b:atKey (q::B) k=some q.2:=by simp[atKey,bI,F]
  rw[ya e,b];exact h2;have F:¬ q.1=k:=λz=>e (h1.trans z);have b:atKey (q::B) k=atKey B k:=by simp[atKey,bI,F]
  rw[yj e,b];exact I
def KT.repl(r:KT H kvs xs)(k:List Key)(F:yB y u) :
  KT H (kvs.map λkv=>if kv.1=k then (kv.1,y) else kv) (xs.map (putAt k u)):=by
 induction r with
 | nil=>exact .nil
 | @cons p q ps I h t B=>
  rw[az,az];show .cons ?_ B;obtain⟨h1,h2,J⟩:=h;unfold putAt;by_cases e:p.1=k
  all_goals right
def KT.put(r:KT H kvs xs)(k:List Key)(F:H b=some (.tup (k.map kV)))(B:yB y u) :
  KT H (zad kvs k y) (storedH xs k b u):=by
 have e:(kvs.any λkv=>decide (kv.1=k))=(atKey xs k).isSome:=by rw[zbM,(r.val k).isSome_eq,Option.isSome_map]
 unfold zad storedH;rw[e];by_cases q:(atKey xs k).isSome=true;rw[if_pos q,if_pos q];exact r.repl k B;rw[if_neg q,if_neg q];exact Paired.snoc r ⟨rfl,F,B⟩
def KT.keeps(r:KT H kvs xs)(q:∀b ys,H b=some (.tup ys)->H' b=some (.tup ys)):KT H' kvs xs:=
 Paired.mapP r λ_ _ z=>⟨z.1,q _ _ z.2.1,z.2.2⟩
section
variable {P:Aa}{w:Ab}{H:Hp}{h:Heap}{a:Addr}
def zrp(q:HOk P w H h)(e:Rd H a u):yo P w H h a u:=e.ok q
def zmH(q:HOk P w H h)(e:Rd H a (.dK kvs)):kvs.length<=sizeLine/\(a==sysModules)=false/\∃vs,KV kvs vs/\h.DictOf (zV P w) a vs:=
 show yo P w H h a (.dK kvs) from zrp q e
def zpC(q:HOk P w H h)(e:H a=some (.dK kvs)):kvs.length<=sizeLine/\(a==sysModules)=false/\∃vs,KV kvs vs/\h.DictOf (zV P w) a vs:=zmH q (.inl e)
def zfX(q:HOk P w H h)(e:H a=some (.tup (ks.map kV))):(tupleKind (zV P w)).is h ks a:=by obtain⟨_,its,r,o,h1,h2,⟨n,B⟩,_⟩:=(show yo P w H h a (.tup (ks.map kV)) from q a _ e);exact⟨o,its.toArray,n,h1,h2,B,by simpa using zfS r⟩
def zmJ(F:HOk P w H h)(e:Rd H a (.dT kvs)):kvs.length<=sizeLine/\(a==sysModules)=false/\
  ∃xs,KT H kvs xs/\h.DictOfH (tupleKind (zV P w)) a xs:=by
 obtain⟨z,y,xs,r,o,es,I,h1,h2,J,L,O⟩:=(show yo P w H h a (.dT kvs) from zrp F e);show⟨z,y,xs,r,o,es,I,h1,h2,J,L,λx B=>?_,O⟩
 have all:∀ {l:List (List Key×V)} {m:List (List Key×Addr×Value)},KT H l m->∀x∈m,(tupleKind (zV P w)).is h x.1 x.2.1:=by
  intro l m q
  induction q with
  | nil=>intro x B;exact nomatch B
  | @cons p q ps Y Z t U=>
   intro x B;rcases aF.mp B with e | B;subst e;exact zfX F (by right);exact U x B
 exact all r x B
def zsB(q:HOk P w H h)(e:H a=some (.dT kvs)):kvs.length<=sizeLine/\(a==sysModules)=false/\
  ∃xs,KT H kvs xs/\h.DictOfH (tupleKind (zV P w)) a xs:=zmJ q (.inl e)
end
def zbO (H:Hp)(a:Addr)(y:V)(r:Option V):Prop:=
 (∃kvs k,Rd H a (.dK kvs)/\y=kV k/\r=um kvs k)\/∃kvs k b,Rd H a (.dT kvs)/\y = .ref b/\H b=some (.tup (k.map kV))/\r=um kvs k
def zdx (H:Hp)(a:Addr)(y v:V)(H':Hp):Prop:=
 (∃kvs k,H a=some (.dK kvs)/\y=kV k/\kvs.length<sizeLine/\H'=upd H a (.dK (zad kvs k v)))\/
 ∃kvs k b,H a=some (.dT kvs)/\y = .ref b/\H b=some (.tup (k.map kV))/\kvs.length<sizeLine/\H'=upd H a (.dT (zad kvs k v))
def zbO.k {H:Hp}{a:Addr}{kvs:List (Key×V)}{k:Key}(e:H a=some (.dK kvs)):zbO H a (kV k) (um kvs k):=.inl ⟨kvs,k,.inl e,rfl,rfl⟩
def zbO.t {H:Hp}{a b:Addr}{kvs:List (List Key×V)}{k:List Key}(e:H a=some (.dT kvs))(q:H b=some (.tup (k.map kV))):zbO H a (.ref b) (um kvs k):=.inr ⟨kvs,k,b,.inl e,rfl,q,rfl⟩
def zdx.k {H:Hp}{a:Addr}{kvs:List (Key×V)}{k:Key}{v:V}(e:H a=some (.dK kvs))(q:kvs.length<sizeLine):zdx H a (kV k) v (upd H a (.dK (zad kvs k v))):=.inl ⟨kvs,k,e,rfl,q,rfl⟩
def zdx.t {H:Hp}{a b:Addr}{kvs:List (List Key×V)}{k:List Key}{v:V}(e:H a=some (.dT kvs))(q:H b=some (.tup (k.map kV)))(B:kvs.length<sizeLine) :
  zdx H a (.ref b) v (upd H a (.dT (zad kvs k v))):=.inr ⟨kvs,k,b,e,rfl,q,B,rfl⟩
section
variable {X:Cx}{pins:AB}{σ:St}{H:Hp}{s:AZ}{a:Addr}{y v:V}{u r:Value}{o:Option V}{A:Ae}{E:AA}
def Inv.big (I:Inv X pins σ H s):sysModules<s.heap.objs.size:=by have h:mainGlobals<s.heap.objs.size:=(I.mod.glob.keeps I.bk).lt;exact Nat.lt_trans (by ext) h
def zfH(U:A.units+1<cLine)(I:Inv X pins σ H s)(g:zbO H a y (some v))(O:yB y u)(h:∀w' s',Inv X pins σ H s'->yB v w'->Q w' s') :
  wpAny (model X.prog X.w) A (getItem (.ref a) u) Q E s:=by
 rcases g with ⟨kvs,k,e,ey,l⟩ | ⟨kvs,k,b,e,ey,eb,l⟩;subst ey;obtain⟨z,Y,vs,q,F⟩:=zmH I.hok e;obtain⟨w',J,B⟩:=zgG.some_of (v:=v) (o:=valueAt vs k) (by rw[l];exact q.val k);exact wpAny_getItem_of (zi3 O) F.mapOf J (h w' _ (I.tok _) B);subst ey;cases (show u=Value.ref b from O);obtain⟨z,Y,xs,q,F⟩:=zmJ I.hok e;obtain⟨w',J,B⟩:=zgG.some_of (v:=v) (o:=(atKey xs k).map (·.2)) (by rw[l];exact q.val k);obtain⟨p,Z,L⟩:=aD.mp J;show wpAny_getItem_heap (eS U) (zfX I.hok eb) F Z ?_;rw[L];exact h w' _ (I.tok _) B
def zpB(O:A.units+1<cLine)(I:Inv X pins σ H s)(g:zbO H a y o)(L:yB y u)(h:∀s',Inv X pins σ H s'->Q (.bool (!o.isSome)) s') :
  wpAny (model X.prog X.w) A (compareOp .NotIn u (.ref a)) Q E s:=by
 rcases g with ⟨kvs,k,e,ey,l⟩ | ⟨kvs,k,b,e,ey,eb,l⟩;subst ey;obtain⟨z,F,vs,B,J⟩:=zmH I.hok e;show wpAny_notIn_of (zi3 L) F J.mapOf ?_;rw[<- (B.val k).isSome_eq,<- l];exact h _ (I.tok _);subst ey;cases (show u=Value.ref b from L);obtain⟨z,F,xs,B,J⟩:=zmJ I.hok e;show wpAny_notIn_heap (eS O) (zfX I.hok eb) F J ?_;have q:=(B.val k).isSome_eq;rw[Option.isSome_map] at q;rw[<- q,<- l];exact h _ (I.tok _)
def zcO(I:Inv X pins σ H s)(F:Mut (H a))(hs:Heap.SameBut a s.heap h')(J:∃q,h'.get? a=some q)(B:yo X.prog X.w (upd H a ob) h' a ob) :
  Inv X pins σ (upd H a ob) { s with heap:=h',toks:=t' }:=
 I.write (x:=a) (e:=a) F (.inl rfl) (λb q L z=>(hs.2 b L).trans z) J B
def zj8(z:kvs.length<=sizeLine)(B:(a==sysModules)=false)(q:KV kvs vs)(F:h'.DictOf (zV P w) a vs) :
  yo P w H' h' a (.dK kvs):=⟨z,B,vs,q,F⟩
def zfI(hu:A.units+1<cLine)(I:Inv X pins σ H s)(g:zdx H a y v H')(Z:yB y u)(rv:yB v r)(h:∀s',Inv X pins σ H' s'->Q () s') :
  wpAny (model X.prog X.w) A (setItem (.ref a) u r) Q E s:=by
 rcases g with ⟨kvs,k,e,ey,l,eH⟩ | ⟨kvs,k,b,e,ey,eb,l,eH⟩;subst ey eH;obtain⟨z,L,vs,B,O⟩:=zpC I.hok e;have U:vs.length<=sizeLine:=by rw[<- B.length];exact z
 have Y:(zad kvs k v).length<=sizeLine:=by have:=xZ kvs k v;lia
 show wpAny_setItem_pairs (hsz:=U) (zi3 Z) O λh' F hs=>h _ ?_;have he:∃q,h'.get? a=some q:=let ⟨q,_,_,J,_⟩:=F;⟨q,J⟩;exact zcO I (by rw[e];exact True.intro) hs he (zj8 Y L (B.put k rv) F);subst ey eH;cases (show u=Value.ref b from Z);obtain⟨z,L,xs,B,O⟩:=zsB I.hok e;have U:xs.length<=sizeLine:=by rw[<- eu B];exact z
 have Y:(zad kvs k v).length<=sizeLine:=by have:=xZ kvs k v;lia
 show wpAny_setItem_heap (hsz:=U) (eS hu) (zfX I.hok eb) O λh' F hs=>h _ ?_;obtain⟨q,es,ep,J,h2,h3,h4,_,h5⟩:=F;show zcO I (by rw[e];exact True.intro) hs ⟨q,J⟩ ⟨Y,L,_,(B.put k eb rv).keeps λc ys ec=>?_,q,es,ep,J,h2,h3,h4,h5⟩;rw[zg (by grind)];exact ec
variable {kvs:List (Key×V)}{k:Key}
end
def zsb (i:Expr):Prop:=∀q B,subscripted i false q B=operate [q,B] (getItem q B)
def zrF {prog:Aa}{w:Ab}{A:Ae}{E:AA}{s:AZ}{env:Env}{value q:Expr}{pos:Pos}{T id:String}{Q:AA}
  (Y:typeLookup (.type T) "__getitem__" = pure (some (.builtin id))) (hs:zsb q)
  (h:Ag prog w A (eval value env) (λo I=>Ag prog w A (eval q env) (λi B=>B.TypeIs o T/\Ag prog w A (getItem o i) Q E B) E I) E s) :
  Ag prog w A (eval (.Subscript value q pos) env) Q E s:=by
 show Subscript_ (aQ h (λo I L=>aQ L (λi B F=>?_) λ_ _ x=>x) λ_ _ x=>x);obtain⟨U,F⟩:=F;unfold subscriptTail;show aa ?_;rw[getitemInPython_of_ne U.not_modules];show aa (eE U Y ?_);have fin:Ag prog w A (subscripted q false o i) (λr J=>Ag prog w A (letTemporaryGo value o r >>= λ_=>pure r) Q E J) E B:=by rw[hs o i];exact wpAny_operating (aQ F (λr J O=>aa (wpAny_letTemporaryGo (ae O))) λ_ _ x=>x)
 first
  | exact ae (aa fin)
  | exact aa (by grind)
  | exact aa fin
def zgT{X:Cx}{pins:AB}{σ:St}{H:Hp}{s:AZ}{a:Addr}{y:V}(I:Inv X pins σ H s)(g:zbO H a y o):s.TypeIs (.ref a) "dict" := by
 rcases g with ⟨kvs,k,e,_,_⟩ | ⟨kvs,k,b,e,_,_,_⟩;obtain⟨_,_,vs,_,q⟩:=zmH I.hok e;exact q.typeIs;obtain⟨_,_,xs,_,q⟩:=zmJ I.hok e;exact q.typeIs
def zrG (td ty:TE):TE:=λσ H Q=>td σ H λx H1=>ty σ H1 λy H2=>∃a v,x = .ref a/\zbO H2 a y (some v)/\Q v H2
def zl2 (ty td:TE):TE:=λσ H Q=>ty σ H λy H1=>td σ H1 λx H2=>∃a o,x = .ref a/\zbO H2 a y o/\Q (.bl (!o.isSome)) H2
def zrx (td ty tv:TE):TS:=λD σ H=>tv σ H λv H1=>td σ H1 λx H2=>ty σ H2 λy H3=>∃a H4,x = .ref a/\zdx H3 a y v H4/\D.nx σ H4
def zwZ (td ty tv:TE)(q:V->V->Hp->VK->Prop):TS:=λD σ H=>td σ H λx H1=>ty σ H1 λy H2=>∃a v,x = .ref a/\zbO H2 a y (some v)/\
 tv σ H2 λB H3=>q v B H3 λz H4=>∃H5,zdx H4 a y z H5/\D.nx σ H5
section
variable {X:Cx}{o i e value:Expr}{pos pos' tpos:Pos}{td ty tv:TE}
def zls (B:X.A.units+1<cLine)(J:PE X o td)(hi:PE X i ty)(hs:zsb i):PE X (.Subscript o i pos) (zrG td ty):=by intro pins s σ H Q I h;show zrF PySem.F.slot_dict_getitem.lookup hs (thn (J pins s σ H _ I h) λu L ⟨x,H1,I1,O,U⟩=>thn (hi pins L σ H1 _ I1 U)  ?_);rintro iv s2 ⟨y,H2,I2,Y,a,v,ex,g,Z⟩;subst ex;obtain rfl:u=Value.ref a:=O;exact⟨zgT I2 g,zfH B I2 g Y λw' s3 I3 q=>⟨v,H2,I3,q,Z⟩⟩
def zlq (q:X.A.units+1<cLine)(hi:PE X i ty)(B:PE X o td):PC X .NotIn i o (zl2 ty td):=by intro pins s σ H Q I h;show thn (hi pins s σ H _ I h) λZ F ⟨y,H1,I1,J,L⟩=>thn (B pins F σ H1 _ I1 L)  ?_;rintro u s2 ⟨x,H2,I2,O,a,U,ex,g,Y⟩;subst ex;obtain rfl:u=Value.ref a:=O;exact zpB q I2 g J λs3 I3=>⟨.bl (!U.isSome),H2,I3,rfl,Y⟩
def zlw (q:X.A.units+1<cLine)(B:PE X o td)(hi:PE X i ty)(F:PE X value tv)(hs:swapsWith value (some (.Subscript o i pos')) pos.line X.env=pure false) :
  PS X (.Assign [.Subscript o i pos'] value pos) (zrx td ty tv):=by
 intro pins s σ H D I h;show wpAny_Assign_Subscript (thn (F pins s σ H _ I h) λr J ⟨v,H1,I1,L,O⟩=>thn (B pins J σ H1 _ I1 O) λu U ⟨x,H2,I2,Y,Z⟩=>thn (hi pins U σ H2 _ I2 Z) λiv s3 ⟨y,H3,I3,ry,a,H4,ex,g,q3⟩=>?_) hs;subst ex;obtain rfl:u=Value.ref a:=Y;exact zfI q I3 g ry L λs4 I4=>⟨σ,H4,I4,q3⟩
def zq0(hu:X.A.units+1<cLine)(ho:PE X o td)(hi:PE X i ty)(hv:PE X value tv)(hop:zve X op rd)(ha:∀ov iv new,augStore i ov iv new=(do holding [new,ov,iv] (setItem ov iv new);release [new,ov,iv] [];pure .next)):PS X (.AugAssign (.Subscript o i tpos) op value pos) (zwZ td ty tv rd):=by
 intro pins s σ H D I h;show wpAny_AugAssign_SubscriptAny (thn (ho pins s σ H _ I h) λu s1 ⟨x,H1,I1,rx,q1⟩=>thn (hi pins s1 σ H1 _ I1 q1) λiv s2 ⟨y,H2,I2,ry,a,v,ex,g,q2⟩=>?_) ha;subst ex;obtain rfl:u=Value.ref a:=rx;show zfH hu I2 g ry λw' s3 I3 rw'=>thn (hv pins s3 σ H2 _ I3 q2) λw2 s4 ⟨y2,H3,I4,ry2,q3⟩=>thn (hop pins s4 σ H3 v y2 w' w2 _ I4 rw' ry2 q3)  ?_;rintro w3 s5 ⟨z,H4,I5,rz,H5,g5,q4⟩;exact zfI hu I5 g5 ry rz λs6 I6=>⟨σ,H5,I6,q4⟩
end
def zev(h:Heap)(q:sysModules<h.objs.size):yo P w H (h.push { cls:=.type "dict",data:=.dict #[] }) h.objs.size (.dK []):=
 ⟨aK _,beq_eq_false_iff_ne.mpr (Ne.symm (aL q)),[],.nil,Heap.DictOf.new h⟩
def zhZ(h:Heap)(q:sysModules<h.objs.size):yo P w H (h.push { cls:=.type "dict",data:=.dict #[] }) h.objs.size (.dT []):=
 ⟨aK _,beq_eq_false_iff_ne.mpr (Ne.symm (aL q)),[],.nil,_,#[],0,aC _ rfl,⟨rfl,rfl,rfl⟩,rfl,rfl,e7⟩
def zo8:TE:=λ_ H Q=>∀p,H p=none->Q (.ref p) (upd H p (.dK []))
def zo9:TE:=λ_ H Q=>∀p,H p=none->Q (.ref p) (upd H p (.dT []))
section
variable {X:Cx}{pos:Pos}
def znv:PE X (.Dict [] [] pos) zo8:=λpins s σ H Q I h=>
 wpAny_Dict_empty ⟨.ref s.heap.objs.size,_,I.laid (a:=s.heap.objs.size) (o:=.dK []) (t':=s.toks) (λ_ _ q=>aj _ q) (ah _) (zev s.heap I.big),rfl,h _ (I.hok.fresh (ah _))⟩
def zio:PE X (.Dict [] [] pos) zo9:=λpins s σ H Q I h=>
 wpAny_Dict_empty ⟨.ref s.heap.objs.size,_,I.laid (a:=s.heap.objs.size) (o:=.dT []) (t':=s.toks) (λ_ _ q=>aj _ q) (ah _) (zhZ s.heap I.big),rfl,h _ (I.hok.fresh (ah _))⟩
end
def zl4:List (TE×TE)->St->Hp->(List (V×V)->Hp->Prop)->Prop
 | [],_,H,Q=>Q [] H
 | (tk,tv)::r,σ,H,Q=>tk σ H λx H1=>tv σ H1 λy H2=>zl4 r σ H2 λps H3=>Q ((x,y)::ps) H3
abbrev VV:List (V×V)->List (Value×Value)->Prop:=Paired λp q=>yB p.1 q.1/\yB p.2 q.2
def PPs (X:Cx)(pos:Pos)(B:List (Option Expr))(q:AO)(F:List (TE×TE)):Prop:=
 ∀ (pins:AB) (s:AZ) (σ:St) (H:Hp) (Q:List (V×V)->Hp->Prop),Inv X pins σ H s->zl4 F σ H Q->
  Af X (evalPairs (pairTrees B q X.env pos)) (λvs s'=>∃ps H',Inv X pins σ H' s'/\VV ps vs/\Q ps H') X.xe s
def zqZ:PPs X pos [] [] []:=λpins s σ H Q I h=>pairTrees_nil_walk ⟨[],H,I,.nil,h⟩
def znC(F:PE X k tk)(J:PE X v tv)(L:PPs X pos ks vs q) :
  PPs X pos (some k::ks) (v::vs) ((tk,tv)::q):=λpins s σ H Q I h=>
 pairTrees_cons_walk (thn (F pins s σ H _ I h) λu O ⟨x,H1,I1,U,Y⟩=>thn (J pins O σ H1 _ I1 Y) λw2 Z ⟨y,H2,I2,ry,q2⟩=>
  thn (L pins Z σ H2 _ I2 q2) <| by rintro ws s3 ⟨ps,H3,I3,B,q3⟩;exact⟨(x,y)::ps,H3,I3,.cons ⟨U,ry⟩ B,q3⟩)
def zc5 (kvs more:List (Key×V)):List (Key×V):=more.foldl (λacc kv=>zad acc kv.1 kv.2) kvs
def KV.merge:∀ {more:List (Key×V)} {B:List (Key×Value)} {kvs:List (Key×V)} {vs:List (Key×Value)},KV more B->KV kvs vs->KV (zc5 kvs more) (merged vs B):=by
 intro more B kvs vs r;unfold KV at r
 induction r generalizing kvs vs with
 | nil=>intro q;exact q
 | @cons p q ps J h t F=>
  intro I
  have e:KV (zad kvs p.1 p.2) (stored vs q.1 q.2):=by
   have:=I.put p.1 h.2;right
  exact F e
def zbq:∀ (more kvs:List (Key×V)),(zc5 kvs more).length<=kvs.length+more.length
 | [],kvs=>by change kvs.length<=kvs.length+0;lia
 | p::r,kvs=>by
  have h1:=zbq r (zad kvs p.1 p.2);have h2:=xZ kvs p.1 p.2;change (zc5 (zad kvs p.1 p.2) r).length<=_;grind
def zdM:∀ {kvs:List (Key×V)} {F:List (Value×Value)},VV (kvs.map λkv=>(kV kv.1,kv.2)) F->∃B,Carries (zV P w) F B/\KV kvs B
 | [],_,r=>by rw[dZ] at r;cases r;exact⟨[],True.intro,.nil⟩
 | p::kvs,_,r=>by
  rw[az] at r
  cases r with
  | @cons a b as J h t=>
   obtain⟨B,c,q⟩:=zdM (P:=P) (w:=w) t;obtain⟨L,I⟩:=b;exact⟨(p.1,I)::B,⟨zi3 h.1,rfl,c⟩,.cons ⟨rfl,h.2⟩ q⟩
def zux (q:List (TE×TE)):TE:=λσ H Q=>∀p,H p=none->zl4 q σ (upd H p (.dK [])) λps H2=>H2 p=some (.dK [])/\∃kvs:List (Key×V),ps=kvs.map (λkv=>(kV kv.1,kv.2))/\kvs.length<=15/\Q (.ref p) (upd H2 p (.dK (zc5 [] kvs)))
def zqI(h:PPs X pos B F J)(L:B.all (·.isSome)=true)(Z:B.length=F.length)(h0:B≠[])(U:B.length<=15):PE X (.Dict B F pos) (zux J):=by
 intro pins s σ H Q I q;have hn:=I.hok.fresh (ah s.heap.objs.size);have I1:=I.laid (a:=s.heap.objs.size) (o:=.dK []) (h':=s.heap.push { cls:=.type "dict",data:=.dict #[] }) (t':=s.toks) (λ_ _ q=>aj _ q) (ah _) (zev s.heap I.big);show wpAny_Dict_walk (knd:=zV X.prog X.w) L Z h0 U (thn (h pins _ σ _ _ I1 (q _ hn))  ?_);rintro ws s2 ⟨ps,H2,I2,Y,e,kvs,ep,lk,q2⟩;subst ep;obtain⟨rs,c,rk⟩:=zdM (P:=X.prog) (w:=X.w) Y;obtain⟨z,hd,ad,r0,dd⟩:=zpC I2.hok e;cases r0;show⟨rs,c,dd,λh' O hs=>⟨.ref s.heap.objs.size,_,?_,rfl,q2⟩⟩;have hz:(zc5 [] kvs).length<=sizeLine:=by have h1:=zbq kvs [];rw[eF] at h1;rw[bM];lia
 have he:∃q,h'.get? s.heap.objs.size=some q:=let ⟨q,_,_,hq,_⟩:=O;⟨q,hq⟩;exact zcO I2 (by rw[e];exact True.intro) hs he (zj8 hz hd (rk.merge .nil) O)
section
variable {X:Cx}{pins:AB}{σ:St}{H:Hp}{s:AZ}{a:Addr}{y d:V}{u r:Value}{o:Option V}{A:Ae}{E:AA}
variable {o e f:Expr}{apos cpos:Pos}{td ty tx:TE}
variable {kvs:List (Key×V)}
end
end L2
namespace HT
open PyProof.Rows
def lexLt:AG->AG->Bool
 | [],[]=>false
 | [],_::_=>true
 | _::_,[]=>false
 | x::xs,y::ys=>if x=y then lexLt xs ys else decide (x<y)
section
open PySem.SeqAt
open PySem.AutoSeq1 (wpAny_loadPart')
open PySem.MeetsSeq PySem.MeetsSeq2 PySem.MeetsSeq3
variable {prog:Aa}{w:Ab}{A:Ae}{E:AA}{s:AZ}
def cat_tup(ht:IsTup s.heap t vs.toArray)(hb:IsTup s.heap b q.toArray)(hv:vs≠[])(h1:q=[]->Q (.ref t) s)(h2:q≠[]->Q (.ref s.heap.objs.size) { s with heap:=s.heap.push { cls:=.type "tuple",data:=.seq (vs++q).toArray } })(hsz:vs.length+q.length<=sizeLine):Ag prog w A (binaryOp .Add (.ref t) (.ref b)) Q E s:=by
 obtain⟨⟨cls,dd,data,sl⟩,U,hc,n,hd⟩:=id ht;obtain⟨⟨ad,I,Z,J⟩,B,L,n2,O⟩:=id hb;simp only at hc hd L O;subst hc hd L O;have e:vs.toArray++q.toArray=(vs++q).toArray:=by simp
 by_cases Y:q=[]
 ·exact concat_meets ⟨_,U,rfl⟩ ⟨_,B,rfl⟩ noFill_tuple_add seq_tuple_add PySem.F.slot_tuple_add PySem.F.entry_tuple_add (PySem.F.args_tuple_add_2 _ _)
   (tuple_addW1 t b vs.toArray q.toArray n n2 dd I sl J (by simpa using hv) (by simp[Y])) ⟨U,B,h1 Y⟩
 ·show concat_meets ⟨_,U,rfl⟩ ⟨_,B,rfl⟩ noFill_tuple_add seq_tuple_add PySem.F.slot_tuple_add PySem.F.entry_tuple_add (PySem.F.args_tuple_add_2 _ _)
   (tuple_addW2 t b vs.toArray q.toArray n n2 dd I sl J (by simpa using hv) (by simpa using Y) (by right)) ⟨U,B,?_⟩
  rw[e];exact h2 Y
def sIx (n d:Nat):AQ->Nat
 | none=>d
 | some v=>if v<0 then (v+(n:Int)).toNat else min v.toNat n
def sIx_none (n d:Nat):sIx n d none=d:=rfl
def sIx_nat (n d k:Nat):sIx n d (some (k:Int))=min k n:=by change (if (k:Int)<0 then ((k:Int)+(n:Int)).toNat else min (k:Int).toNat n)=min k n;rw[if_neg (by lia),Int.toNat_natCast]
def zus (n d:Nat)(B:d<=n)(o:AQ):sIx n d o<=n:=by
 cases o with
 | none=>exact B
 | some v=>
  change (if v<0 then (v+(n:Int)).toNat else min v.toNat n)<=n;by_cases q:v<0;rw[if_pos q];lia;rw[if_neg q];exact Nat.min_le_right _ _
def zjO (v:Int)(n d:Nat):(if v<0 then max (v+(n:Int)) 0 else min v (n:Int))=((sIx n d (some v):Nat):Int):=by
 change (if v<0 then max (v+(n:Int)) 0 else min v (n:Int))=(((if v<0 then (v+(n:Int)).toNat else min v.toNat n):Nat):Int);grind
def ziL (lo hi:AQ)(n:Nat):Builtin.Slice.sliceAdjust lo hi 1 (n:Int)=(((sIx n 0 lo:Nat):Int),((sIx n n hi:Nat):Int)):=by
 have h1:¬ ((1:Int)<0):=by lia
 unfold Builtin.Slice.sliceAdjust;simp only[h1,if_false];show Prod.ext ?_ ?_
 cases lo with
 | none=>rfl
 | some v=>exact zjO v n 0
 cases hi with
 | none=>rfl
 | some v=>exact zjO v n n
def zjd (i j:Nat):Builtin.Slice.slicePlaces (i:Int) (j:Int) 1=j - i:=by
 unfold Builtin.Slice.slicePlaces;have h1:(1:Int) > 0:=by lia
 simp only[h1,if_true,Int.ediv_one];split <;> lia
def zeb{o:AQ}{Q:AQ->AZ->Prop}(p:IsPart v o)(h:Q o s):Ag prog w A (Builtin.Slice.slicePartIndex v) Q E s:=by
 cases p with
 | none=>exact slicePart_none h
 | int i t=>exact slicePart_int h
def u9{lo hi:AQ}{Q:Int×Int×Nat->AZ->Prop}(hs:s.heap.IsSliceOf J F I .none)(pl:IsPart F lo)(L:IsPart I hi)(h:Q (((sIx n 0 lo:Nat):Int),1,sIx n n hi - sIx n 0 lo) s):Ag prog w A (Builtin.Slice.sliceApplied (.ref J) (pure (n:Int))) Q E s:=by
 obtain⟨U,q,O,B⟩:=id hs;unfold Builtin.Slice.sliceApplied Builtin.Slice.sliceFields;show wpAny_bind (wpAny_bind (wpAny_field q B (x:=F) rfl (wpAny_bind (wpAny_field q B (x:=I) rfl (wpAny_bind (wpAny_field q B (x:=.none) rfl (wpAny_pure ?_)))))));show wpAny_bind (slicePart_none ?_);change wpAny _ _ (if ((1:Int)==0)=true then _ else _) _ _ s;rw[if_neg (by ext)];show wpAny_bind (zeb pl (wpAny_bind (zeb L (wpAny_bind (wpAny_pure ?_)))));change wpAny _ _ (match Builtin.Slice.sliceAdjust lo hi 1 (n:Int) with | (lo,hi)=>pure (lo,(1:Int),Builtin.Slice.slicePlaces lo hi 1)) _ _ s;rw[ziL lo hi n];change wpAny _ _ (pure (((sIx n 0 lo:Nat):Int),(1:Int),Builtin.Slice.slicePlaces ((sIx n 0 lo:Nat):Int) ((sIx n n hi:Nat):Int) 1)) _ _ s;rw[zjd];exact wpAny_pure h
def znB (xs:AK)(i k:Nat):((List.range k).filterMap λ(m:Nat)=>xs[((i:Int)+(m:Int) * 1).toNat]?).toArray=((xs.toList.drop i).take k).toArray:=by
 have e:(λ(m:Nat)=>xs[((i:Int)+(m:Int) * 1).toNat]?)=λm=>xs[i+m]?:=by
  funext m;have:((i:Int)+(m:Int) * 1).toNat=i+m:=by lia
  rw[this]
 rw[e];have:=pick_run xs i k;rw[List.filterMap_map] at this;have q:((λx=>xs[x]?) ∘ λx=>i+x)=λm=>xs[i+m]?:=rfl;right
def getItem_tuple_cut{lo hi:AQ}(B:IsTup s.heap t items)(hs:s.heap.IsSliceOf F U Y .none)(pl:IsPart U lo)(Z:IsPart Y hi)(hw:¬ (sIx items.size 0 lo=0/\sIx items.size items.size hi=items.size))(h:Q (.ref s.heap.objs.size) { s with heap:=s.heap.push { cls:=.type "tuple",data:=.seq ((items.toList.drop (sIx items.size 0 lo)).take (sIx items.size items.size hi - sIx items.size 0 lo)).toArray } })(hsz:items.size<=sizeLine):Ag prog w A (getItem (.ref t) (.ref F)) Q E s:=by
 have q:sizeOk (.seq ((items.toList.drop (sIx items.size 0 lo)).take (sIx items.size items.size hi - sIx items.size 0 lo)).toArray):=by change ((items.toList.drop (sIx items.size 0 lo)).take (sIx items.size items.size hi - sIx items.size 0 lo)).toArray.size<=sizeLine;rw[List.size_toArray,List.length_take,List.length_drop,Array.length_toList];lia
 have hj:sIx items.size items.size hi<=items.size:=zus _ _ (Nat.le_refl _) hi;obtain⟨os,I,J,ad⟩:=id hs;have L:s.TypeIs (.ref F) "slice" := ⟨os,I,J⟩;unfold getItem;try with_reducible show wpAny_holding ?_
 first | show wpAny_bind (wpAny_pure ?_) | skip
 show wpAny_bind (wpAny_sequenceKey B.typeIs (by ext) ?_)
 show wpAny_bind (wpAny_callSpecial?_slot (name:=Str.ofString "__getitem__") B.typeIs PyProof.Rows.slot_tuple_getitem
  (wpAny_call_entry PyProof.Rows.slot_tuple_getitem B.typeIs entry_tuple_getitem ?_ (args_tuple_getitem _ _)))
 change wpAny _ _ (Builtin.Tuple.tupleItemsOf (.ref t) >>= _) _ _ s;show wpAny_bind (tupleItemsOf_ B ?_);show wpAny_bind (wpAny_typeOf L ?_);rw[if_pos (by ext)];show wpAny_bind (u9 hs pl Z ?_);have O:¬ ((((sIx items.size 0 lo:Nat):Int)==0&&(1:Int)==1&&(sIx items.size items.size hi - sIx items.size 0 lo)==items.size)=true):=by grind
 change wpAny _ _ (if (((sIx items.size 0 lo:Nat):Int)==0&&(1:Int)==1&&(sIx items.size items.size hi - sIx items.size 0 lo)==items.size)=true then _ else _) _ _ s;rw[if_neg O,znB]
 first
  | exact wpAny_bind (m:=Builtin.Tuple.tupleExact _) (wpAny_newObj_type (wpAny_pure ⟨_,rfl,wpAny_pure h⟩) q)
  | exact wpAny_bind (by grind) (by grind)
  | exact wpAny_bind (by grind)
  | exact wpAny_bind (by grind)
end
end HT
namespace L2
open PyProof.Rows
abbrev TO:=St->Hp->(AQ->Hp->Prop)->Prop
def PO (X:Cx)(e:Option Expr)(t:TO):Prop:=
 ∀ (pins:AB) (s:AZ) (σ:St) (H:Hp) (Q:AQ->Hp->Prop),Inv X pins σ H s->t σ H Q->
  Af X (evalPart e X.env) (λu s'=>∃o H',Inv X pins σ H' s'/\IsPart u o/\Q o H') X.xe s
def zl3:TO:=λ_ H Q=>Q none H
def zuE (t:TE):TO:=λσ H Q=>t σ H λx H1=>∃i,x = .int i/\Q (some i) H1
section
variable {X:Cx}{e:Expr}{te:TE}{lo hi:Option Expr}{tl th:TO}{pos p2:Pos}
def zqX:PO X none zl3:=by intro pins s σ H Q I h;rw[evalPart_none];exact ae ⟨none,H,I,.none,h⟩
def zqY (h:PE X e te):PO X (some e) (zuE te):=by intro pins s σ H Q I B;rw[evalPart_some];show thn (h pins s σ H _ I B)  ?_;rintro u L ⟨x,H1,I1,F,J⟩;obtain⟨i,rfl,q⟩:=J;obtain⟨t,rfl⟩:=F;exact⟨some i,H1,I1,.int i t,q⟩
def SlR (X:Cx)(r:V->AQ->AQ->Hp->VK->Prop):Prop:=
 ∀ (pins:AB) (s:AZ) (σ:St) (H:Hp) (x:V) (v q B:Value) (lo hi:AQ) (F:Addr) (Q:VK),Inv X pins σ H s->yB x v->s.heap.IsSliceOf F q B .none->IsPart q lo->IsPart B hi->r x lo hi H Q->
  ∃T id,typeLookup (.type T) "__getitem__" = pure (some (.builtin id))/\s.TypeIs v T/\Af X (getItem v (.ref F)) (EP X pins σ Q) X.xe s
def tSl (r:V->AQ->AQ->Hp->VK->Prop)(te:TE)(tl th:TO):TE:=λσ H Q=>te σ H λx H1=>tl σ H1 λl H2=>th σ H2 λu H3=>r x l u H3 Q
def znx {r:V->AQ->AQ->Hp->VK->Prop}(L:SlR X r)(O:PE X e te)(U:PO X lo tl)(Y:PO X hi th):PE X (.Subscript e (.Slice lo hi none p2) pos) (tSl r te tl th):=by intro pins s σ H Q I h;show Subscript_ (thn (O pins s σ H _ I h)  ?_);rintro v Z ⟨x,H1,I1,r1,q1⟩;show wpAny_Slice (thn (U pins Z σ H1 _ I1 q1) λF s2 ⟨l,H2,I2,pl,q2⟩=>thn (Y pins s2 σ H2 _ I2 q2)  ?_);rintro J B ⟨u,H3,I3,pu,q3⟩;rw[evalPart_none];show ae ?_;have I4:Inv X pins σ H3 { B with heap:=B.heap.push { cls:=.type "slice",data:=.fields #[F,J,.none] } }:=I3.kept (t':=B.toks) λb ob q=>aj _ q;obtain⟨T,id,hT,ht,hg⟩:=L pins { B with heap:=B.heap.push { cls:=.type "slice",data:=.fields #[F,J,.none] } } σ H3 x v F J l u B.heap.objs.size Q I4 r1 (Heap.IsSliceOf.new ..) pl pu q3;change Af X (subscriptTail e (.Slice lo hi none p2) v (.ref B.heap.objs.size)) (EP X pins σ Q) X.xe { B with heap:=B.heap.push { cls:=.type "slice",data:=.fields #[F,J,.none] } };exact tail_any (ops:=[.ref B.heap.objs.size,v]) ht hT hg (by with_unfolding_all rfl)
def zdv (xs:AT)(lo hi:AQ):AT:=(xs.drop (HT.sIx xs.length 0 lo)).take (HT.sIx xs.length xs.length hi - HT.sIx xs.length 0 lo)
def za1 (xs:AT)(lo hi:AQ):(zdv xs lo hi).length<=xs.length:=by unfold zdv;rw[aV,cg];lia
def rSlT (K:AH):V->AQ->AQ->Hp->VK->Prop:=λx lo hi H Q=>∃a xs,x = .ref a/\SqT K H a xs/\
 ¬ (HT.sIx xs.length 0 lo=0/\HT.sIx xs.length xs.length hi=xs.length)/\∀p,H p=none->Q (.ref p) (upd H p (.tup (zdv xs lo hi)))
def zuu:SlR X (rSlT X.K):=by
 intro pins s σ H x v Z vu lo hi sl Q I L hs pl O h;obtain⟨a,xs,rfl,U,Y,q⟩:=h;cases L;obtain⟨its,r,F,J⟩:=I.tuple U;have B:its.toArray.size=xs.length:=by rw[aY];exact r.length.symm
 show⟨"tuple",_,PyProof.Rows.slot_tuple_getitem.lookup,F.typeIs,?_⟩;show HT.getItem_tuple_cut F hs pl O (by rw[B];exact Y) ?_ (by rw[B];exact J);rw[B];show⟨.ref s.heap.objs.size,_,I.laid (t':=s.toks) (o:=.tup (zdv xs lo hi)) (λb ob q=>aj _ q) (ah _) ?_,rfl,q _ (I.hok.fresh (ah _))⟩;exact⟨af (za1 xs lo hi) J,_,(r.drop (HT.sIx xs.length 0 lo)).take (HT.sIx xs.length xs.length hi - HT.sIx xs.length 0 lo),zaM.new _ _⟩
def zwR (K:AH):R2:=λx y H Q=>∃a b xs ys,x = .ref a/\y = .ref b/\SqT K H a xs/\SqT K H b ys/\xs≠[]/\xs.length+ys.length<=sizeLine/\
 (ys=[]->Q (.ref a) H)/\(ys≠[]->∀p,H p=none->Q (.ref p) (upd H p (.tup (xs++ys))))
def zY.nil_iff(r:zY xs us):us=[]↔xs=[]:=by
 cases r with
 | nil=>simp
 | cons _ _=>simp
def zqC:OpR X (binaryOp .Add) (zwR X.K):=by intro pins s σ H x y v u Q I L O h;obtain⟨a,b,xs,ys,rfl,rfl,U,Y,Z,hz,q1,q2⟩:=h;cases L;cases O;obtain⟨its,F,p1,_⟩:=I.tuple U;obtain⟨J,B,p2,_⟩:=I.tuple Y;show HT.cat_tup p1 p2 (λz=>Z (F.nil_iff.mp z)) (λz=>⟨.ref a,H,I,rfl,q1 (B.nil_iff.mp z)⟩) (λz=>?_) (by rw[<- F.length,<- B.length];exact hz);show⟨.ref s.heap.objs.size,_,I.laid (t':=s.toks) (o:=.tup (xs++ys)) (λb ob q=>aj _ q) (ah _) ?_,rfl,q2 (λw=>z (B.nil_iff.mpr w)) _ (I.hok.fresh (ah _))⟩;exact⟨by right,_,F.append B,zaM.new _ _⟩
end
def ixN (n:Nat)(i:Int):Option Nat:=if 0<=i then (if i<n then some i.toNat else none) else if -(n:Int)<=i then some (i+n).toNat else none
def atI {α:Type}(xs:List α)(i:Int):Option α:=(ixN xs.length i).bind λj=>xs[j]?
def zhb {n:Nat}{i:Int}{j:Nat}(h:ixN n i=some j):seqIndex? i n=some j/\j<n/\-(n:Int)<=i/\i<n:=by
 unfold ixN at h;by_cases q:0<=i;rw[if_pos q] at h;by_cases h1:i<n;rw[if_pos h1] at h;have e:i.toNat=j:=bz h;exact⟨by rw[seqIndex_of q h1,e],by lia,by lia,h1⟩;right;rw[if_neg q] at h;by_cases h1:-(n:Int)<=i;rw[if_pos h1] at h;have e:(i+n).toNat=j:=bz h;exact⟨by rw[seqIndex_neg (by lia) h1,e],by lia,h1,by lia⟩;right
def zjC {α:Type}{xs:List α}{i:Int}{v:α}(h:atI xs i=some v):∃j,seqIndex? i xs.length=some j/\xs[j]?=some v/\j<xs.length/\-(xs.length:Int)<=i/\i<xs.length:=by
 unfold atI at h
 cases e:ixN xs.length i with
 | none=>rw[e] at h;cases h
 | some j=>
  rw[e] at h;obtain⟨h1,h2,q,B⟩:=zhb e;exact⟨j,h1,h,h2,q,B⟩
def zjD {α:Type}{xs:List α}{j:Nat}{v:α}(h:xs[j]?=some v):atI xs (j:Int)=some v:=by
 have q:j<xs.length:=(ac.mp h).1
 have e:ixN xs.length (j:Int)=some j:=by
  unfold ixN;right
 unfold atI;rw[e];exact h
def zgL (b:Expr):Prop:=∀o i,subscripted b false o i=operate [o,i] (getItem o i)
def IxR (X:Cx)(r:R2):Prop:=
 ∀ (value q:Expr) (pins:AB) (s:AZ) (σ:St) (H:Hp) (x y:V) (v u:Value) (Q:VK),Inv X pins σ H s->yB x v->yB y u->r x y H Q->
  subscripted q false v u=operate [v,u] (getItem v u)->Af X (subscriptTail value q v u) (EP X pins σ Q) X.xe s
def MtR (X:Cx)(id:String)(r:V->AT->Hp->VK->Prop):Prop:=
 ∀ (pins:AB) (s:AZ) (σ:St) (H:Hp) (x:V) (xs:AT) (v:Value) (us:AN) (Q:VK),Inv X pins σ H s->yB x v->zY xs us->r x xs H Q->
  Af X (call (.builtin id) (v::us)) (EP X pins σ Q) X.xe s
section
variable {X:Cx}{a b:Expr}{ta tb:TE}{pos:Pos}
def zwK(B:IxR X r)(F:PE X a ta)(J:PE X b tb)(hs:zgL b):PE X (.Subscript a b pos) (tOp r ta tb):=by intro pins s σ H Q I h;exact Subscript_ (zvD F J I h λv u L x y H2 I2 O U q=>B a b pins L σ H2 x y v u Q I2 O U q (hs _ _))
def zvp (K:AH):R2:=λx y H Q=>∃p xs i v,x = .ref p/\y = .int i/\SqL K H p xs/\atI xs i=some v/\Q v H
def zua (K:AH):R2:=λx y H Q=>∃p xs i v,x = .ref p/\y = .int i/\SqT K H p xs/\atI xs i=some v/\Q v H
def zp2:IxR X (zvp X.K):=by
 intro value B pins s σ H x y v u Q I U Y h hs;obtain⟨p,xs,i,z,rfl,rfl,Z,he,q⟩:=h;cases U;obtain⟨t,rfl⟩:=Y;obtain⟨its,r,pl,hz⟩:=I.list Z;obtain⟨j,h1,h2,h3,h4,h5⟩:=zjC he;obtain⟨w,L,F⟩:=r.get h2;have hl:=r.length;have hn:=zf1;have fin:EP X pins σ Q w s:=⟨z,H,I,F,q⟩;by_cases O:0<=i
 have J:i.toNat=j:=by
  rw[seqIndex_of O h5] at h1;right
 exact item_listR pl.isList O (by lia) (by rw[J];simpa using L) fin hs
 have J:(i+(its.toArray.size:Int)).toNat=j:=by
  rw[seqIndex_neg (by lia) h4] at h1;right
 exact subscriptTail_builtinR (x:=w) pl.isList.typeIs slot_list_getitem.lookup
  (wpAny_getItem_list_neg (Q:=λr s'=>r=w/\EP X pins σ Q r s') pl.isList (by lia) (by right) (by lia) (by rw[J];simpa using L) ⟨rfl,fin⟩) hs
def zsV:IxR X (zua X.K):=by
 intro value B pins s σ H x y v u Q I J L h hs;obtain⟨p,xs,i,z,rfl,rfl,O,U,q⟩:=h;cases J;obtain⟨t,rfl⟩:=L;obtain⟨its,r,pl,Z⟩:=I.tuple O;obtain⟨j,h1,h2,h3,h4,h5⟩:=zjC U;obtain⟨w,Y,F⟩:=r.get h2;have hl:=r.length;have hn:=zf1;have fin:EP X pins σ Q w s:=⟨z,H,I,F,q⟩
 exact subscriptTail_builtinR (x:=w) pl.typeIs slot_tuple_getitem.lookup
  (getItem_tuple (j:=j) (Q:=λr s'=>r=w/\EP X pins σ Q r s') pl (by lia) (by lia) (by right) (by simpa using Y) ⟨rfl,fin⟩) hs
def zi7 (its:AN)(n j:Nat)(u:Value):Obj.mapSeq (·.setIfInBounds j u) { cls:=.type "list",data:=.seq its.toArray n }={ cls:=.type "list",data:=.seq (its.set j u).toArray n }:=by simp[Obj.mapSeq]
def Inv.lst {pins:AB}{σ:St}{H:Hp}{s:AZ}{p:Addr}{xs:AT}(I:Inv X pins σ H s)(h:H p=some (.lst xs)) :
  ∃ (its:AN) (n:Nat),zY xs its/\s.heap.get? p=some { cls:=.type "list",data:=.seq its.toArray n }/\xs.length<=sizeLine:=by
 obtain⟨z,its,n,r,e⟩:=I.hok p _ h;exact⟨its,n,r,e,z⟩
def Inv.lstUpd{pins:AB}{σ:St}{H:Hp}{s:AZ}{p:Addr}{xs ys:AT}{its its':AN}{f:Obj->Obj}(I:Inv X pins σ H s)(h:H p=some (.lst xs))(J:s.heap.get? p=some { cls:=.type "list",data:=.seq its.toArray n })(F:f { cls:=.type "list",data:=.seq its.toArray n }={ cls:=.type "list",data:=.seq its'.toArray B })(r:zY ys its')(L:ys.length<=sizeLine)(t:Nat) :
  Inv X pins σ (upd H p (.lst ys)) { s with heap:=s.heap.update p f,toks:=t }:=by
 have e:(s.heap.update p f).get? p=some { cls:=.type "list",data:=.seq its'.toArray B }:=by rw[b9 f J (by rw[F] <;> rfl),F]
 show I.write (x:=p) (e:=p) (by rw[h];trivial) (.inl rfl) (λb u O q=>(Heap.get?_update_other _ _ (Ne.symm O)).trans q) ⟨_,e⟩ ?_;exact⟨L,its',B,r,e⟩
def zwT:V->V->V->Hp->(Hp->Prop)->Prop:=λo i v H Q=>∃p xs k j,o = .ref p/\i = .int k/\H p=some (.lst xs)/\ixN xs.length k=some j/\Q (upd H p (.lst (xs.set j v)))
def zn1:PSet X zwT:=by
 intro pins s σ H o i v ov iv u Q I O U Y h;obtain⟨p,xs,k,j,rfl,rfl,J,Z,q⟩:=h;cases O;obtain⟨t,rfl⟩:=U;obtain⟨its,n,r,B,hz⟩:=I.lst J;obtain⟨h1,h2,h3,h4⟩:=zhb Z;have hl:=r.length;have hn:=zf1
 have I':Inv X pins σ (upd H p (.lst (xs.set j v))) { s with heap:=s.heap.update p (Obj.mapSeq (·.setIfInBounds j u)) }:=
  I.lstUpd J B (zi7 its n j u) (r.set Y j) (by right) s.toks
 by_cases L:0<=k
 have F:k.toNat=j:=by
  rw[seqIndex_of L h4] at h1;right
 exact PySem.W.ki_setAt B L (by lia) (by right) (by rw[F];exact⟨_,I',q⟩)
 have F:(k+(its.toArray.size:Int)).toNat=j:=by
  rw[seqIndex_neg (by lia) h3] at h1;right
 exact PySem.W.ki_setBack B (by lia) (by right) (by lia) (by rw[F];exact⟨_,I',q⟩)
def zgw (lo hi:AQ)(n:Nat):(sliceBounds lo hi none n).1=((HT.sIx n 0 lo:Nat):Int)/\(sliceBounds lo hi none n).2.1=((HT.sIx n n hi:Nat):Int)/\(sliceBounds lo hi none n).2.2=1:=by
 show⟨?_,?_,rfl⟩
 ·cases lo with
  | none=>simp[sliceBounds,HT.sIx]
  | some i=>
   simp only[sliceBounds,HT.sIx,Option.getD_none,show (1:Int) > 0 by ext,if_true];by_cases h:i<0
   ·simp only[h,if_true] <;> lia
   ·simp only[h,if_false] <;> lia
 ·cases hi with
  | none=>simp[sliceBounds,HT.sIx]
  | some i=>
   simp only[sliceBounds,HT.sIx,Option.getD_none,show (1:Int) > 0 by ext,if_true];by_cases h:i<0
   ·simp only[h,if_true] <;> lia
   ·simp only[h,if_false] <;> lia
def zff (its:AN)(lo hi:AQ):slicePick its.toArray lo hi none=((its.drop (HT.sIx its.length 0 lo)).take (HT.sIx its.length its.length hi - HT.sIx its.length 0 lo)).toArray:=by obtain⟨h1,h2,q⟩:=zgw lo hi its.toArray.size;unfold slicePick;rw[h1,h2,q];simp only[sliceRange_one,pick_run,aY] <;> rfl
def rSlL (K:AH):V->AQ->AQ->Hp->VK->Prop:=λx lo hi H Q=>∃a xs,x = .ref a/\SqL K H a xs/\∀p,H p=none->Q (.ref p) (upd H p (.lst (zdv xs lo hi)))
def zrB:SlR X (rSlL X.K):=by intro pins s σ H x v Y Z lo hi sl Q I J hs pl L h;obtain⟨a,xs,rfl,O,q⟩:=h;cases J;obtain⟨its,r,F,U⟩:=I.list O;have B:=r.length;show⟨"list",_,slot_list_getitem.lookup,F.isList.typeIs,?_⟩;show wpAny_getItem_list_slice F.isList hs pl L .none (by simp) ?_ (by grind);rw[zff,<- B];show⟨.ref s.heap.objs.size,_,I.laid (t':=s.toks) (o:=.lst (zdv xs lo hi)) (λb ob q=>aj _ q) (ah _) ?_,rfl,q _ (I.hok.fresh (ah _))⟩;exact⟨af (za1 xs lo hi) U,_,0,(r.drop (HT.sIx xs.length 0 lo)).take (HT.sIx xs.length xs.length hi - HT.sIx xs.length 0 lo),aC _ rfl⟩
def zdB:V->Bool
 | .non=>true
 | .bl _=>true
 | .int _=>true
 | .str _=>true
 | _=>false
def eqV:V->V->Bool
 | .non,.non=>true
 | .bl a,.bl b=>a==b
 | .bl a,.int b=>(if a then 1 else 0)==b
 | .int a,.bl b=>a==(if b then 1 else 0)
 | .int a,.int b=>a==b
 | .str a,.str b=>a==b
 | _,_=>false
def zsD(B:yB y u)(q:yB x v)(I:zdB y=true)(F:zdB x=true):SeqAt.EqAt A s u v (eqV y x):=by
 cases y with
 | non=>
  cases B
  cases x with
  | non=>cases q;exact SeqAt.EqAt.same _
  | bl b=>cases q;exact SeqAt.EqAt.none_bool b
  | int b=>obtain⟨t,rfl⟩:=q;exact SeqAt.EqAt.none_int b t
  | str b=>obtain⟨t,rfl⟩:=q;exact SeqAt.EqAt.none_str b t
  | _=>exact absurd (show false=true from F) aJ
 | bl a=>
  cases B
  cases x with
  | non=>cases q;exact SeqAt.EqAt.bool_none a
  | bl b=>cases q;exact SeqAt.EqAt.bool_bool a b
  | int b=>obtain⟨t,rfl⟩:=q;exact SeqAt.EqAt.bool_int a b t
  | str b=>obtain⟨t,rfl⟩:=q;exact SeqAt.EqAt.bool_str a b t
  | _=>exact absurd (show false=true from F) aJ
 | int a=>
  obtain⟨t',rfl⟩:=B
  cases x with
  | non=>cases q;exact SeqAt.EqAt.int_none a t'
  | bl b=>cases q;exact SeqAt.EqAt.int_bool a t' b
  | int b=>obtain⟨t,rfl⟩:=q;exact SeqAt.EqAt.int_int a t' b t
  | str b=>obtain⟨t,rfl⟩:=q;exact SeqAt.EqAt.int_str a t' b t
  | _=>exact absurd (show false=true from F) aJ
 | str a=>
  obtain⟨t',rfl⟩:=B
  cases x with
  | non=>cases q;exact SeqAt.EqAt.str_none a t'
  | bl b=>cases q;exact SeqAt.EqAt.str_bool a t' b
  | int b=>obtain⟨t,rfl⟩:=q;exact SeqAt.EqAt.str_int a t' b t
  | str b=>obtain⟨t,rfl⟩:=q;exact SeqAt.EqAt.str_str a t' b t
  | _=>exact absurd (show false=true from F) aJ
 | _=>exact absurd (show false=true from I) aJ
def eqU (x:V)(u:Value):Bool:=match u with
 | .none=>eqV .non x
 | .bool b=>eqV (.bl b) x
 | .int i _=>eqV (.int i) x
 | .str z _=>eqV (.str z) x
 | _=>false
def zot(r:yB y u)(f:zdB y=true):eqU x u=eqV y x:=by
 cases y with
 | non=>cases r;rfl
 | bl b=>cases r;rfl
 | int i=>obtain⟨t,rfl⟩:=r;rfl
 | str z=>obtain⟨t,rfl⟩:=r;rfl
 | _=>exact absurd (show false=true from f) aJ
def zcI:∀ {xs:AT} {us:AN},zY xs us->xs.all zdB=true->us.any (eqU x)=xs.any λy=>eqV y x
 | _,_,.nil,_=>rfl
 | y::xs,u::us,.cons r t,f=>by rw[cE,bm] at f;rw[cD,cD,zot r f.1,zcI t f.2]
def zbt {A:Ae}{s:AZ}{x:V}{v:Value}(B:yB x v)(F:zdB x=true):∀ {xs:AT} {us:AN},zY xs us->xs.all zdB=true->∀u∈us,SeqAt.EqAt A s u v (eqU x u)
 | _,_,.nil,_=>by grind
 | y::xs,u::us,.cons r t,f=>λI q=>by
  rw[cE,bm] at f;rcases aF.mp q with rfl | q;rw[zot r f.1];exact zsD r B f.1 F;exact zbt B F t f.2 I q
def inV (x:V)(xs:AT):Bool:=xs.any λy=>eqV y x
def rIn (K:AH)(q:Bool):R2:=λx y H Q=>∃p xs,y = .ref p/\(SqL K H p xs\/SqT K H p xs)/\zdB x=true/\xs.all zdB=true/\Q (.bl (if q then !inV x xs else inV x xs)) H
def zlm:OpR X (compareOp .In) (rIn X.K false):=by
 intro pins s σ H x y v u Q I J O h;obtain⟨p,xs,rfl,B,L,fs,q⟩:=h;cases O;rcases B with B | B;obtain⟨its,r,pl,U⟩:=I.list B;show SeqAt.in_listAt (eqU x) pl.isList (λw F=>zbt J L r fs w (by simpa using F)) ⟨.bl _,H,I,rfl,?_⟩;rw[show its.toArray.any (eqU x)=its.any (eqU x) by simp,zcI r fs];exact q;obtain⟨its,r,pl,U⟩:=I.tuple B;show SeqAt.in_tupleAt (eqU x) pl (λw F=>zbt J L r fs w (by simpa using F)) ⟨.bl _,H,I,rfl,?_⟩;rw[show its.toArray.any (eqU x)=its.any (eqU x) by simp,zcI r fs];exact q
def zge:OpR X (compareOp .NotIn) (rIn X.K true):=by
 intro pins s σ H x y v u Q I J O h;obtain⟨p,xs,rfl,B,L,fs,q⟩:=h;cases O;rcases B with B | B;obtain⟨its,r,pl,U⟩:=I.list B;show SeqAt.notIn_listAt (eqU x) pl.isList (λw F=>zbt J L r fs w (by simpa using F)) ⟨.bl _,H,I,rfl,?_⟩;rw[show its.toArray.any (eqU x)=its.any (eqU x) by simp,zcI r fs];exact q;obtain⟨its,r,pl,U⟩:=I.tuple B;show SeqAt.notIn_tupleAt (eqU x) pl (λw F=>zbt J L r fs w (by simpa using F)) ⟨.bl _,H,I,rfl,?_⟩;rw[show its.toArray.any (eqU x)=its.any (eqU x) by simp,zcI r fs];exact q
def zfA:zdw X (.type "list") (λxs H Q=>∃p ys,xs=[.ref p]/\(SqL X.K H p ys\/SqT X.K H p ys)/\∀l,H l=none->Q (.ref l) (upd H l (.lst ys))):=by
 intro pins s σ H xs us Q I r h;obtain⟨p,ys,rfl,J,q⟩:=h;obtain⟨u,rfl,rx⟩:=zba r;cases rx
 have fin:∀ (its:AN),zY ys its->ys.length<=sizeLine->∀ (h':Heap) (B:Nat),(∀b o',s.heap.get? b=some o'->h'.get? b=some o')->
   h'.get? s.heap.objs.size=some { cls:=.type "list",dict:=none,data:=.seq its.toArray B,slots:=#[] }->EP X pins σ Q (.ref s.heap.objs.size) { s with heap:=h' }:=λits F L h' B O e=>
  ⟨.ref s.heap.objs.size,_,I.laid (t':=s.toks) O (ah _) (show yo X.prog X.w _ h' _ (.lst ys) from ⟨L,its,B,F,e⟩),rfl,q _ (I.hok.fresh (ah _))⟩
 rcases J with J | J;obtain⟨its,F,pl,L⟩:=I.list J;have U:=F.length;obtain⟨o,Y,Z,n,hd⟩:=pl.isList;exact call_list_seq p (.inl rfl) Y Z hd (λh' B O e=>fin its F L h' B O e) (by grind);obtain⟨its,F,pl,L⟩:=I.tuple J;have U:=F.length;obtain⟨o,Y,Z,n,hd⟩:=pl;exact call_list_seq p (.inr rfl) Y Z hd (λh' B O e=>fin its F L h' B O e) (by grind)
def zep:zdw X (.type "tuple") (λxs H Q=>∃p ys,xs=[.ref p]/\((SqL X.K H p ys/\∀l,H l=none->Q (.ref l) (upd H l (.tup ys)))\/(SqT X.K H p ys/\Q (.ref p) H))):=by
 intro pins s σ H xs us Q I r h;obtain⟨p,ys,rfl,h⟩:=h;obtain⟨u,rfl,L⟩:=zba r;cases L;rcases h with ⟨hq,q⟩ | ⟨hq,q⟩;obtain⟨its,B,pl,F⟩:=I.list hq;have J:=B.length;show call_tuple_list pl.isList (λh' O=>?_) (by grind);have I1:Inv X pins σ H { s with heap:=h' }:=I.kept (t':=s.toks) O
 have I2:Inv X pins σ (upd H h'.objs.size (.tup ys)) { s with heap:=h'.push { cls:=.type "tuple",data:=.seq its.toArray } }:=
  I1.laid (t':=s.toks) (λb o e=>aj _ e) (ah _) (show yo X.prog X.w _ _ _ (.tup ys) from ⟨F,its,B,zaM.new _ _⟩)
 exact⟨.ref h'.objs.size,_,I2,rfl,q _ (I1.hok.fresh (ah _))⟩;obtain⟨its,B,pl,F⟩:=I.tuple hq;exact call_tuple_same pl ⟨.ref p,H,I,rfl,q⟩
def tyV (K:AH)(T:String)(x:V)(H:Hp):Prop:=match x with
 | .str _=>T = "str"
 | .int _=>T = "int"
 | .ref p=>(T = "list" /\ ∃xs,SqL K H p xs)\/(T = "tuple" /\ ∃o,K.lookup p=some o/\o.cls = .type "tuple" /\ o.dict=none)\/
   (T = "dict" /\ ((∃kvs,H p=some (.dK kvs))\/∃kvs,H p=some (.dT kvs)))\/(T = "set" /\ ∃S n,H p=some (.set S n))
 | _=>False
def zuN {pins:AB}{σ:St}{H:Hp}{s:AZ}{T:String}{x:V}{v:Value}(I:Inv X pins σ H s)(r:yB x v)(ty:tyV X.K T x H) :
  s.TypeIs v T/\∀a,v = .ref a->∃ob,s.heap.get? a=some ob/\ob.dict=none:=by
 cases x with
 | str z=>
  obtain⟨t,rfl⟩:=r;cases (show T = "str" from ty);exact⟨typeIs_str s z t,λ_ e=>nomatch e⟩
 | int i=>
  obtain⟨t,rfl⟩:=r;cases (show T = "int" from ty);exact⟨fR s i t,λ_ e=>nomatch e⟩
 | ref p=>
  cases r;rcases ty with ⟨rfl,xs,hq⟩ | ⟨rfl,o,q,hc,B⟩ | ⟨rfl,q⟩ | ⟨rfl,S,n,q⟩;obtain⟨its,_,pl,_⟩:=I.list hq;show⟨pl.isList.typeIs,λa e=>?_⟩;cases e;obtain⟨o,n,e,c,B,_⟩:=pl;exact⟨o,e,B⟩;show⟨⟨o,I.kIn p o q,hc⟩,λa e=>?_⟩;cases e;exact⟨o,I.kIn _ o q,B⟩
  have z:∃o,s.heap.get? p=some o/\o.ExactDict:=by
   rcases q with ⟨kvs,q⟩ | ⟨kvs,q⟩;obtain⟨_,_,_,_,o,_,_,e,ex,_⟩:=I.hok p _ q;exact⟨o,e,ex⟩;obtain⟨_,_,_,_,o,_,_,e,ex,_⟩:=I.hok p _ q;exact⟨o,e,ex⟩
  obtain⟨o,e,ex⟩:=z;show⟨⟨o,e,ex.1⟩,λa F=>?_⟩;cases F;exact⟨o,e,ex.2.1⟩;obtain⟨o,_,_,_,e,ex,_⟩:=I.hok p _ q;show⟨⟨o,e,ex.1⟩,λa F=>?_⟩;cases F;exact⟨o,e,ex.2.1⟩
 | _=>exact False.elim ty
def tBM (K:AH)(T:String)(r:V->AT->Hp->VK->Prop)(to:TE)(t:TA):TE:=λσ H Q=>to σ H λx H1=>tyV K T x H1/\t σ H1 λxs H2=>r x xs H2 Q
variable {o e:Expr}{es:AO}{to:TE}{t:TA}{name:Str}{apos cpos:Pos}{T id:String}{r:V->AT->Hp->VK->Prop}
def ztA (Z:PlainAttrs T)(J:Slot T name id)(O:typeOf (.builtin id)=pure (.type "method_descriptor"))(hm:MtR X id r)(ho:PE X o to)(ha:PA X (e::es) t)
  (B:attributeBase o name X.env (eval o X.env)=eval o X.env:=by rfl)
  (L:((backTo cpos (starEach (e::es) X.env)).all (λx=>!x.1)&&(backToKw cpos (keywordEach [] X.env)).all (λx=>x.1.isSome)
   && decide ((e::es).length+([]:List Keyword).length+(if ([]:List Keyword).isEmpty then 0 else 1)<30))=true:=by rfl)
  (F:(apos.endLine==cpos.line)=true:=by rfl) (hs:starEach (e::es) X.env=(false,eval e X.env)::starEach es X.env:=by rfl) (q:(backTo cpos (starEach es X.env)).any (·.1)=false:=by rfl) :
  PE X (.Call (.Attribute o name apos) (e::es) [] cpos) (tBM X.K T r to t):=by
 intro pins s σ H Q I h;show wpAny_Call_method_late B L F rfl (thn (ho pins s σ H _ I h)  ?_);rintro v s1 ⟨x,H1,I1,U,ty,q1⟩;obtain⟨h1,h2⟩:=zuN I1 U ty;show⟨T,id,Z,J,O,h1,h2,?_⟩;have Y:=ha cpos pins s1 σ H1 _ I1 q1;rw[hs] at Y ⊢;show Calls.callWith_builtin (by change (false || (backTo cpos (starEach es X.env)).any (·.1))=false;rw[q] <;> rfl) (Calls.evalArgs_plain ?_);exact thn Y <| by rintro us s2 ⟨vs,H2,I2,r2,q2⟩;exact hm pins s2 σ H2 x vs v us Q I2 U r2 q2
end
def MtM (X:Cx)(id:String)(r:V->AT->Hp->VK->Prop):Prop:=
 ∀ (pins:AB) (s:AZ) (σ:St) (H:Hp) (x:V) (xs:AT) (v:Value) (us:AN) (Q:VK),Inv X pins σ H s->yB x v->zY xs us->r x xs H Q->
  Af X (call (.builtin id) (v::us)) (EP X pins σ Q) X.xe s
def zY.one:∀ {x:V} {us:AN},zY [x] us->∃u,us=[u]/\yB x u
 | _,_,.cons r .nil=>⟨_,rfl,r⟩
def zY.eraseIdx:∀ {xs:AT} {us:AN} (i:Nat),zY xs us->zY (xs.eraseIdx i) (us.eraseIdx i)
 | _,_,_,.nil=>.nil
 | _,_,0,.cons _ t=>t
 | _,_,i+1,.cons r t=>.cons r (zY.eraseIdx i t)
def zY.rep(h:zY xs us):∀k:Nat,zY (List.replicate k xs).flatten (List.replicate k us).flatten
 | 0=>.nil
 | k+1=>by rw[cN,cN,dR,dR];exact zY.append h (zY.rep h k)
def zf0 {α:Type}:∀ (l:List α) (i:Nat),(l.eraseIdx i).length<=l.length
 | [],_=>ah _
 | _::_,0=>cT _
 | _::r,i+1=>en (zf0 r i)
def zfO (its:AN):∀ (k:Nat) (acc:AN),
  List.foldl (λx1 q=>x1++q) acc.toArray (List.replicate k its.toArray)=(acc++(List.replicate k its).flatten).toArray
 | 0,acc=>by simp
 | k+1,acc=>by
  have e:acc.toArray++its.toArray=(acc++its).toArray:=by simp
  have B:(acc++its)++(List.replicate k its).flatten=acc++(List.replicate (k+1) its).flatten:=by grind
  rw[<- B,<- zfO its k (acc++its),<- e,cN,List.foldl_cons]
section
variable {X:Cx}{pins:AB}{σ:St}{H:Hp}{s:AZ}{l b:Addr}{xs ys zs:AT}
def Inv.lset{its its':AN}{f:AK->AK}(I:Inv X pins σ H s)(B:H l=some (.lst xs))(e:s.heap.get? l=some { cls:=.type "list",data:=.seq its.toArray n })(F:f its.toArray=its'.toArray)(J:zY ys its')(L:ys.length<=sizeLine) :
  Inv X pins σ (upd H l (.lst ys)) { s with heap:=s.heap.update l (Obj.mapSeq f),toks:=t' }:=by
 have q:=PySem.IsL.update e f;rw[F] at q;show I.write (x:=l) (e:=l) (by rw[B];exact trivial) (.inl rfl) (λY u O U=>(Heap.get?_update_other s.heap (Obj.mapSeq f) (Ne.symm O)).trans U) ⟨_,q⟩ ?_;exact⟨L,its',_,J,q⟩
def Inv.lnew(I:Inv X pins σ H s)(B:zY ys its)(F:ys.length<=sizeLine) :
  Inv X pins σ (upd H s.heap.objs.size (.lst ys)) { s with heap:=s.heap.push { cls:=.type "list",data:=.seq its.toArray },toks:=t' }:=
 I.laid (λ_ _ q=>aj _ q) (ah _) ⟨F,its,0,B,aC _ rfl⟩
def Inv.fresh (I:Inv X pins σ H s):H s.heap.objs.size=none:=I.hok.fresh (ah _)
def Inv.lstM (I:Inv X pins σ H s)(q:H l=some (.lst xs)):xs.length<=sizeLine/\∃ (its:AN) (n:Nat),zY xs its/\xs.length=its.length/\s.heap.get? l=some { cls:=.type "list",data:=.seq its.toArray n }:=by obtain⟨z,its,n,r,e⟩:=I.hok l _ q;exact⟨z,its,n,r,r.length,e⟩
def zil(h:n<=sizeLine):Builtin.List.listTooLong n=false:=by
 unfold Builtin.List.listTooLong;right
def zhz:V->AT->Hp->VK->Prop:=λx vs H Q=>∃l xs y,x = .ref l/\vs=[y]/\H l=some (.lst xs)/\xs.length<sizeLine/\Q .non (upd H l (.lst (xs++[y])))
def zf4:MtM X "list.append" zhz:=by intro pins s σ H x vs v us Q I J L h;obtain⟨l,xs,y,rfl,rfl,B,U,q⟩:=h;cases J;obtain⟨u,rfl,O⟩:=L.one;obtain⟨z,its,n,r,Y,e⟩:=I.lstM B;show eB F.slot_list_append ⟨_,e,rfl⟩ F.entry_list_append (F.args_list_append_2 _ _) (PySem.list_append l its.toArray n u (by grind)) ⟨e,?_⟩;show⟨.non,_,I.lset (its':=its++[u]) B e (by simp) (r.append (.cons O .nil)) ?_,rfl,q⟩;rw[ak,bO];lia
def zrl:V->AT->Hp->VK->Prop:=λx vs H Q=>∃l b xs zs,x = .ref l/\vs=[.ref b]/\H l=some (.lst xs)/\H b=some (.lst zs)/\xs.length+zs.length<=sizeLine/\Q .non (upd H l (.lst (xs++zs)))
def zla:MtM X "list.extend" zrl:=by
 intro pins s σ H x vs v us Q I O U h;obtain⟨l,b,xs,zs,rfl,rfl,L,Y,hz,q⟩:=h;cases O;obtain⟨u,rfl,Z⟩:=U.one;cases Z;obtain⟨z,its,n,r,hl,e⟩:=I.lstM L;obtain⟨z2,B,n2,r2,ad,e2⟩:=I.lstM Y;have hsz:its.toArray.size+B.toArray.size<=sizeLine:=by rw[aY,aY];lia
 have J:¬ (!its.toArray.isEmpty&&Builtin.List.listTooLong (its.toArray.size+B.toArray.size))=true:=by
  rw[zil hsz,Bool.and_false];grind
 show eB F.slot_list_extend ⟨_,e,rfl⟩ F.entry_list_extend (F.args_list_extend_2 _ _)
  (AutoSeq1.list_extend_list_list_0 l its.toArray n b B.toArray n2 J (by lia) (by lia)) ⟨e,e2,?_⟩
 show⟨.non,_,I.lset (its':=its++B) L e (by simp) (r.append r2) ?_,rfl,q⟩;right
def zoX:V->AT->Hp->VK->Prop:=λx vs H Q=>∃l xs i k y,x = .ref l/\vs=[.int i]/\H l=some (.lst xs)/\-(2 ^ 63)<=i/\i<2 ^ 63/\seqIndex? i xs.length=some k/\xs[k]?=some y/\Q y (upd H l (.lst (xs.eraseIdx k)))
def zig:MtM X "list.pop" zoX:=by
 intro pins s σ H x vs v us Q I L O h;obtain⟨l,xs,i,k,y,rfl,rfl,J,h1,h2,Z,U,q⟩:=h;cases L;obtain⟨u,rfl,Y⟩:=O.one;obtain⟨t,rfl⟩:=Y;obtain⟨z,its,n,r,hl,e⟩:=I.lstM J;obtain⟨w,hw,B⟩:=r.get U
 show eB F.slot_list_pop ⟨_,e,rfl⟩ F.entry_list_pop (F.args_list_pop_2 _ _)
  (MeetsSeq.list_pop_at l its.toArray n i t k w (fitsIndex_both h1 h2) (by right) (by right) (by right)) ⟨e,?_⟩
 show⟨y,_,I.lset (its':=its.eraseIdx k) J e ?_ (r.eraseIdx k) ?_,B,q⟩;right;have:=zf0 xs k;lia
def rCat:R2:=λx y H Q=>∃l b xs zs,x = .ref l/\y = .ref b/\H l=some (.lst xs)/\H b=some (.lst zs)/\xs.length+zs.length<=sizeLine/\∀p,H p=none->Q (.ref p) (upd H p (.lst (xs++zs)))
def ztl:OpR X (binaryOp .Add) rCat:=by
 intro pins s σ H x y v u Q I F J h;obtain⟨l,b,xs,zs,rfl,rfl,L,O,hz,q⟩:=h;cases F;cases J;obtain⟨z,its,n,r,hl,e⟩:=I.lstM L;obtain⟨z2,B,n2,U,Y,Z⟩:=I.lstM O;show PySem.P.add_list e Z ?_ (by right);have ea:its.toArray++B.toArray=(its++B).toArray:=by simp
 rw[ea];exact⟨.ref _,_,I.lnew (t':=s.toks) (r.append U) (by right),rfl,q _ I.fresh⟩
def zvq:R2:=λx y H Q=>∃l k xs,x = .ref l/\y = .int k/\H l=some (.lst xs)/\-(2 ^ 63)<=k/\k<2 ^ 63/\xs.length * k.toNat<=sizeLine/\
 ∀p,H p=none->Q (.ref p) (upd H p (.lst (List.replicate k.toNat xs).flatten))
def zqd {α:Type}(xs:List α)(k:Nat):(List.replicate k xs).flatten.length=k * xs.length:=by right
def ztq:OpR X (binaryOp .Mult) zvq:=by
 intro pins s σ H x y v u Q I rx ry h;obtain⟨l,k,xs,rfl,rfl,hH,h1,h2,hz,q⟩:=h;cases rx;obtain⟨t,rfl⟩:=ry;obtain⟨z,its,n,r,hl,e⟩:=I.lstM hH;have hlen:its.toArray.size * k.toNat<=sizeLine:=by rw[aY,<- hl];exact hz
 have hcap:¬ its.toArray.size * k.toNat > (2 ^ 63 - 1) / 8:=by
  have:(sizeLine:Nat)<=(2 ^ 63 - 1) / 8:=by ext
  lia
 have hfit:¬ (!Builtin.List.listFitsIndex k)=true:=by
  rw[fitsIndex_both h1 h2];grind
 have hlong:¬ Builtin.List.listTooLong (its.toArray.size * k.toNat)=true:=by
  rw[zil hlen];grind
 have hnew:List.foldl (λx1 x2=>x1++x2) #[] (List.replicate (if its.toArray.isEmpty=true then 0 else k.toNat) its.toArray)=(List.replicate k.toNat its).flatten.toArray:=by
  have f0:∀m:Nat,List.foldl (λx1 x2=>x1++x2) #[] (List.replicate m its.toArray)=(List.replicate m its).flatten.toArray:=λm=>by
   have:=zfO its m [];right
  rw[f0]
  cases its with
  | nil=>simp
  | cons a r'=>rw[if_neg (by simp)]
 show wpAny_binaryOp_repeat_ref (T := "list") (U := "int") (by ext) ⟨_,e,rfl⟩ (λs'=>fR s' k t) noFill_list_mul F.fills_int_mul F.slot_int_rmul repeat_list F.slot_int_index.lookup
  (eB F.slot_int_rmul (fR s k t) F.entry_int_rmul (F.args_int_rmul_2 _ _) (int___rmul___int_list k t l its.toArray n)
   ⟨e,rfl,⟨_,e,rfl⟩,eB F.slot_list_mul ⟨_,e,rfl⟩ F.entry_list_mul (F.args_list_mul_2 _ _) (AutoListH.list___mul___list_int_3 l its.toArray n k t hfit hcap hlong) ⟨e,?_⟩⟩)
 rw[hnew];exact⟨.ref _,_,I.lnew (t':=s.toks) (r.rep k.toNat) (by rw[zqd,Nat.mul_comm];exact hz),rfl,q _ I.fresh⟩
variable {prog:Aa}{w:Ab}{A:Ae}{E:AA}
end
end L2
namespace Att
open PySem.W PySem.Calls PyProof.Rows
def zcS:∀ (ns:AG) (vs:AN),WellAll P h vs (ns.map WData.int)->IntsAre vs ns:=by
 intro ns
 induction ns with
 | nil=>
  intro vs w;rw[List.map_nil] at w;cases w;exact .nil
 | cons n ns q=>
  intro vs w;rw[List.map_cons] at w
  cases w with
  | cons a b=>
   cases a;exact .cons _ _ (q _ b)
def zlP{l:OpenLaw}(hn:l.most=some n){P:Params}{h:Heap}{q:AN}(B:l.row.toRowW.claim.pre args=true)(J:WellAll P h q args) :
  ∃a vs ns,q=[Value.ref a]/\args=[WData.list (ns.map WData.int)]/\h.get? a=some { cls:=.type "list",data:=.seq vs.toArray }/\IntsAre vs ns/\ns.length<=n:=by
 have L:WShape.hasAll [] args [.list .int]=true:=(pre_splitW B).1;have O:l.pre.holds [] { args:=args }=true:=(pre_splitW B).2;obtain⟨d,r,rfl,h1,h2⟩:=hasAllW_cons L;obtain rfl:=hasAllW_nil h2;obtain⟨xs,rfl,Y⟩:=hasW_list h1;obtain⟨ns,rfl⟩:=items_int Y
 have F:ns.length<=n:=by
  unfold OpenLaw.pre at O
  have U:(WTm.not (.lt (.lit (.int (n:Int))) (.len (.arg 0)))).holds [] { args:=[.list (ns.map .int)] }=true:=by
   have U:=(holds_andW O).1;right
  have h5:=condW_of U (w_not (w_lt w_lit (w_len_list (w_arg rfl))));grind
 cases J with
 | cons Z w2=>
  cases w2
  cases Z with
  | list ho I=>exact⟨_,_,ns,rfl,rfl,ho,zcS ns _ I,F⟩
def zlv (l:OpenLaw)(args:List WData):l.row.toRowW.claim.post args (.bool true) args=true:=
 postW_of (r:=l.row.toRowW) (X:=(true==true))
  (show WShape.has [] (.bool true) .bool=true by first | rfl | decide | simp[WShape.has,WShape.arms,WShape.armsAll])
  (show (WTm.eq .res (.lit (.bool true))).value [] { args:=args,res:=some (.bool true),after:=args }=some (.bool (true==true)) from w_eq_bool (w_res rfl) w_lit) rfl
def attach_call{l:OpenLaw}{q:Aa}{F:AM}{XP:(AI)->Heap->Prop}{YP:Ab->Heap->Prop}{d:DefRec}(hn:l.most=some n)(ag:d.params.defaults=[])(O:∀ (w:Ab) (I B:AZ) (mg mb:AI) (fa:Addr) (o:Obj) (pm cd J:Value) (a:Addr) (vs:AN) (ns:AG),
   Ground q F [] XP w I mg mb B.heap->YP w B.heap->
   B.heap.get? fa=some o->o.data = .func (docDef d.name d.params d.body d.scope pm cd J)->B.heap.CodeRec cd d.name->mg d.name=some (.ref fa)->
   B.heap.get? a=some { cls:=.type "list",data:=.seq vs.toArray }->IntsAre vs ns->ns.length<=n->B.gens = #[]->
   codeAny (model l.prog w) callerA (.call (.ref fa) ⟨[.ref a],[]⟩) (λr s'=>r = .ok (.ret (.bool true))/\OldK B.heap s'.heap/\s'.os=B.os/\AllBare s'.gens) B) :
  WalkO q F XP YP l.row.toRowW d [] (λf vs=>PySem.call f vs):=by
 intro w I B mg mb G Y fa o pm cd J dV kV ho hd al hD an hg args av as U a0 a1 ap a2;obtain rfl:dV = .none:=Dflts.none hD ag;obtain rfl:kV = .none:=Dflts.noKw hD;obtain⟨a,vs,ns,rfl,rfl,Z,L,ad⟩:=zlP hn U ap;show enter_call (codeAny_mono (O w I B mg mb fa o pm cd J a vs ns G Y ho (fd_plain hd) al an Z L ad hg) λr s' hq=>?_);obtain⟨rfl,h2,h3,h4⟩:=hq;exact⟨.inl ⟨.bool true,.bool true,[],rfl,λ_=>rfl,.bool true,zlv l _,λ_=>⟨List.Pairwise.nil,λ_ hm=>(nomatch hm)⟩⟩,h2,h3,h4⟩
section
variable {prog:Aa}{w:Ab}{A:Ae}{E:AA}{s:AZ}{K:Frag}
def ledger (h:Heap)(L d:Addr):AB:=(List.range h.objs.size).filterMap λa=>if a=L\/a=d then none else (h.get? a).map λo=>(a,o)
end
end Att
namespace L2
open PyProof.Rows
def zgB:∀ {vs:AN} {ns:AG},IntsAre vs ns->zY (ns.map V.int) vs
 | _,_,.nil=>.nil
 | _,_,.cons n t h=>.cons ⟨t,rfl⟩ (zgB h)
def zvx (H:Hp):Prop:=∀b,H b=none\/∃o xs,H b=some (.frz o (.lst xs))
def znc{P:Aa}{w:Ab}{K:AH}{mg mb:AI}{CX:CXT}{fa a:Addr}{fd:Ac}{sp:Sp}{B:AZ}{vs:AN}{ns:AG}(KX:K.In B.heap)(Y:B.heap.Ns mainGlobals mg)(J:B.heap.Ns builtinsNs mb)(ap:∀x:Str,x ≠ "__name__" -> mb x=bootBuiltins x)(Z:B.heap.NoLimit)(hg:B.gens = #[])(ha:B.heap.get? a=some { cls:=.type "list",data:=.seq vs.toArray })(hi:IntsAre vs ns)(hl:ns.length<=sizeLine)(hr:Room k callerA)(F:∀base:Heap,K.In base->base.Ns mainGlobals mg->FnOk P w K mg base CX k fa fd [x] sp)(U:∀ (s:AZ) (u:Value),BindsTo s fd ⟨[u],[]⟩ [(x,u)])(as:∀H:Hp,zvx H->SqL K H a (ns.map V.int)->sp [.ref a] H (λv _=>v = .bl true) λ_ _ _=>False)(av:∀H e s',CX [] H B (λ_ _ _=>False) e s'->False) :
  codeAny (model P w) callerA (.call (.ref fa) ⟨[.ref a],[]⟩) (λr s'=>r = .ok (.ret (.bool true))/\OldK B.heap s'.heap/\s'.os=B.os/\AllBare s'.gens) B:=by
 have rv:=zgB hi;have a1:=hi.length
 have O:∀H:Hp,zvx H->SqL K H a (ns.map V.int)->HOk P w H B.heap->(∀b,H b≠none->b=a)->(H a≠none->K.lookup a=none)->
   codeAny (model P w) callerA (.call (.ref fa) ⟨[.ref a],[]⟩) (λr s'=>r = .ok (.ret (.bool true))/\OldK B.heap s'.heap/\s'.os=B.os/\AllBare s'.gens) B:=by
  intro H hO hS ad hA hK;have I:∀ {b:Addr} {o:Obj},B.heap.get? b=some o->H b=none->(zmU B.heap H).get? b=some o:=λe n=>zmV e n;have a0:∀ {b:Addr} {o:Obj} {es:Array DictEntry} {ep:Nat},B.heap.get? b=some o->o.data = .dict es ep->H b=none:=λ{b o es ep} e d=>by grind
  have L:∀ {b:Addr} {m:AI},B.heap.Ns b m->(zmU B.heap H).Ns b m:=λ{b m} ⟨o,es,ep,e,d,r⟩=>⟨o,es,ep,I e (a0 e d),d,r⟩;have ag:K.In (zmU B.heap H):=λb o e=>I (KX b o e) (by grind);have hM:Mod K mg (zmU B.heap H):=⟨ag,L Y,⟨mb,L J,ap⟩,let ⟨mc,h1,h2⟩:=Z;⟨mc,L h1,h2⟩⟩;have e0:Env0 P w K mg (zmU B.heap H) callerA [] B H:=⟨rfl,hM,λb o e=>zqw e,Nat.le_of_eq (zkt _ _),trivial,λb J=>absurd (show b∈([]:AY) from J) (by simp),ad,.of_eq hg⟩;show dw ((F _ ag (L Y)).run callerA [] B H ⟨[.ref a],[]⟩ [.ref a] [.ref a] _ _ hr e0 (U B (.ref a)) (.cons rfl .nil) (as H hO hS)) λr s' h=>?_
  cases r with
  | error e=>exact (av H e s' h).elim
  | ok fl=>
   cases fl with
   | next=>exact False.elim h
   | brk=>exact False.elim h
   | cont=>exact False.elim h
   | ret u=>
    obtain⟨v,H',os,al,un,an,r',q⟩:=h;have q':v = .bl true:=q;subst q';obtain rfl:u=Value.bool true:=r';show⟨rfl,OldK.of_keep λb o e=>?_,os,al⟩
    cases q:H b with
    | none=>exact un.keep b o e q (by intro z;exact absurd (show b∈([]:AY) from z) (by simp)) (by simp)
    | some u=>
     rcases hO b with z | ⟨ob,xs,z⟩;grind;have z2:=un.frzs b ob _ z;obtain⟨e1,_⟩:=ad b _ z;obtain⟨e2,_⟩:=an b _ z2;grind
 cases hk:K.lookup a with
 | some o=>
  have e:=KX a o hk;rw[ha] at e;cases e;show O (λ_=>none) (λ_=>.inl rfl) (.inr ⟨_,vs.toArray,_,hk,rfl,rfl,rfl,by right,by simpa using rv⟩) (λb u z=>by lia) (by grind) λz=>absurd rfl z
 | none=>
  show O (λb=>if b=a then some (.frz { cls:=.type "list",data:=.seq vs.toArray } (.lst (ns.map V.int))) else none) (λb=>?_) (.inl (.inr ⟨{ cls:=.type "list",data:=.seq vs.toArray },if_pos rfl⟩)) (λb u z=>?_) (λb z=>?_) λ_=>hk;by_cases J:b=a;exact .inr ⟨_,_,if_pos J⟩;exact .inl (if_neg J);by_cases J:b=a;have z':=(if_pos J).symm.trans z;cases z';subst J;exact⟨ha,by right,vs,_,rv,ha⟩;right;grind
def zrZ{l:PySem.W.OpenLaw}{q:Aa}{I:AM}{XP:(AI)->Heap->Prop}{YP:Ab->Heap->Prop}{d:DefRec}{K:Params->AH}{CX:Ab->CXT}{sp:Ab->Sp}(hn:l.most=some n)(U:n<=sizeLine)(Z:d.params.defaults=[])(hr:Room k callerA)(hY:∀ (w:Ab) (h:Heap),YP w h->(K w.params).In h)(F:∀ (w:Ab) (mg:AI) (fa:Addr) (h:Heap),(K w.params).In h->h.Ns mainGlobals mg->mg d.name=some (.ref fa)->
   ∃fd:Ac,(∀ (s:AZ) (u:Value),BindsTo s fd ⟨[u],[]⟩ [(x,u)])/\
    ∀base:Heap,(K w.params).In base->base.Ns mainGlobals mg->FnOk l.prog w (K w.params) mg base (CX w) k fa fd [x] (sp w))(ad:∀ (w:Ab) (H:Hp) (a:Addr) (ns:AG),ns.length<=n->zvx H->SqL (K w.params) H a (ns.map V.int)->sp w [.ref a] H (λv _=>v = .bl true) λ_ _ _=>False)(ag:∀ (w:Ab) (H:Hp) (s:AZ) (e:Value) (s':AZ),CX w [] H s (λ_ _ _=>False) e s'->False) :
  PySem.W.WalkO q I XP YP l.row.toRowW d [] (λf vs=>PySem.call f vs):=by
 show Att.attach_call hn Z λw an L mg mb fa o pm cd ap a vs ns G Y ho hd as al O J B hg=>?_;have KX:=hY w _ Y;obtain⟨fd,hb,hF⟩:=F w mg fa _ KX G.T.g al;exact znc KX G.T.g G.T.b G.T.builtins G.T.nolimit hg O J (af B U) hr hF hb (λH hO hS=>ad w H a ns B hO hS) λH e s'=>ag w H L e s'
def yk (s:Stmt):Arguments:=match s with
 | .FunctionDef _ a _ _ _ _ _ _ _ _=>a
 | _=>{ posonlyargs:=[],args:=[],vararg:=none,kwonlyargs:=[],kw_defaults:=[],kwarg:=none,defaults:=[] }
def zJ (s:Stmt):List Stmt:=match s with
 | .FunctionDef _ _ b _ _ _ _ _ _ _=>b
 | _=>[]
def zd (s:Stmt):Scope:=match s with
 | .FunctionDef _ _ _ _ _ _ q _ _ _=>q
 | _=>{ kind:=.function,names:=[],isGenerator:=false,isCoroutine:=false }
abbrev CX0:CXT:=λ_ _ _ _ _ _=>False
abbrev E0:XK:=λ_ _ _=>False
def zlp:zdK CX0 X E0:=λ_ _ _ _ _ _ _ h=>h.elim
structure Fun (K:AH)(x qual:Str)(st:Stmt)(f:Addr)(fd:Ac):Prop where
 ex:∃ (oc:Value) (od:Option Addr) (kV doc pm:Value) (an:Option Addr) (cdv ct:Value) (osl:Array AJ),
  fd=PySem.W.fnOf x qual (yk st) (zJ st) (zd st) .none kV doc pm an cdv ct/\K.lookup f=some ⟨oc,od,.func fd,osl⟩/\PySem.W.codeIn K cdv qual=true
 kp:PySem.W.keepIn K (.ref f)=true
section
variable {P:Aa}{w:Ab}{K:AH}{mg:AI}{base:Heap}
def Fun.ok{x I:Str}{st:Stmt}{f:Addr}{fd:Ac}{N ps:AM}{sp:Sp}(F:Fun K x I st f fd)(S:FnScope N ps (zd st))(O:∀vs H Q E,sp vs H Q E->vs.length=ps.length)(L:∀ (J:Value) (A:Ae) (B:List Env) (s:AZ) (H:Hp) (vs:AT) (Q:VK) (E:XK),Room k (A.deeper (envOfC I (zd st) s.heap.objs.size f J))->sp vs H Q E->
   ∃t,PSs (zdN CX0 P w K mg base N I (zd st) f J A B s H E).nox (zJ st) t/\t { nx:=λ_ H'=>Q .non H',rt:=Q } (xi N vs) H):FnOk P w K mg base CX0 (k+1) f fd ps sp:=by
 obtain⟨oc,od,kV,Z,pm,an,J,ct,ad,rfl,lk,U⟩:=F.ex;show zsI lk U S O λA B s H vs Q E hr Y=>?_;obtain⟨t,h,q⟩:=L J A B s H vs Q E hr Y;exact⟨t,h.nox,q⟩
def Fun.binds {x q:Str}{st:Stmt}{f:Addr}{fd:Ac}{ps:AM}(F:Fun K x q st f fd)
  (h:∀ (kV B J:Value) (L:Option Addr) (I ct:Value) (us:AN),us.length=ps.length->bindArgs (PySem.W.fnOf x q (yk st) (zJ st) (zd st) .none kV B J L I ct) ⟨us,[]⟩=pure (ps.zip us)):zaJ K fd ps []:=by
 obtain⟨Y,Z,kV,B,J,L,I,ct,O,rfl,lk,U⟩:=F.ex;exact .all (h kV B J L I ct)
def zh3{x q:Str}{st:Stmt}{f:Addr}{U J:Option Addr}{kV F L B ct:Value}(l:K.lookup f=some ⟨O,U,.func (PySem.W.fnOf x q (yk st) (zJ st) (zd st) .none kV F L J B ct),I⟩)(c:PySem.W.codeIn K B q=true)(k:PySem.W.keepIn K (.ref f)=true):Fun K x q st f (PySem.W.fnOf x q (yk st) (zJ st) (zd st) .none kV F L J B ct):=⟨⟨O,U,kV,F,L,J,B,ct,I,rfl,l,c⟩,k⟩
end
def xN(q:Room k A):A.units+1<cLine:=aG (Nat.add_le_add_left (by decide:1<=64) _) q.units
def zaA(h:n<=1000):n<sizeLine:=aG h (by ext)
section
variable {X:Cx}
def pv (i:Nat){x:Str}{pos:Pos}(B:X.N[i]?=some x:=by rfl)(F:Vis X.env.scope x:=by walk_at "v")(I:Ah x:=by ext)
  (q:(x==("__classdict__" : Str))=false:=by ext):PE X (.Name x pos) (zbL i):=zoQ B F I q
end
def zsT {A B:Prop}(h:B):if false=true then A else B:=by grind
def iteT {A B:Prop}(h:A):if true=true then A else B:=by grind
def zoy {c A B:Prop}[Decidable c](h1:c->A)(h2:¬ c->B):if c then A else B:=by grind
def yJ (H H':Hp):Prop:=∀b o,H b=some o->H' b=some o
def yJ.trans(a:yJ H H1)(b:yJ H1 H2):yJ H H2:=λc o h=>b c o (a c o h)
def yJ.free(e:yJ H H')(h:H' l=Option.none):H l=Option.none:=by
 cases q:H l with
 | none=>rfl
 | some o=>
  rw[e l o q] at h;cases h
def yJ.seq{K:AH}{H H':Hp}{a:Addr}(e:yJ H H')(h:SqL K H a xs):SqL K H' a xs:=by
 rcases h with (h | ⟨o,h⟩) | h;exact .inl (.inl (e _ _ h));exact .inl (.inr ⟨o,e _ _ h⟩);exact .inr h
section
variable {κ:Type}[DecidableEq κ]
variable {X:Cx}
def zgP:zdw X (.builtin "isinstance") (λxs H Q=>∃x T t b,xs=[x,.ty T]/\TyOf X.K H x t/\PySem.W.kitOne X.K t (.type T)=some b/\Q (.bl b) H):=by intro pins s σ H xs us Q I r h;obtain⟨x,T,t,b,rfl,ty,e,q⟩:=h;obtain⟨u,c,rfl,B,F⟩:=zu2 r;cases F;exact zkE I B ty e λtk=>⟨.bl b,H,I.tok tk,rfl,q⟩
def zhr:OpR X (compareOp .IsNot) (λx y H Q=>∃a b,x = .bl a/\y = .bl b/\Q (.bl (a != b)) H):=by intro pins s σ H x y v u Q I B F h;obtain⟨a,b,rfl,rfl,q⟩:=h;cases B;cases F;exact isnot_bool ⟨.bl _,H,I,rfl,q⟩
def zlF (K:AH):R2:=λx y H Q=>∃a b xs ys,x = .ref a/\y = .ref b/\H a=some (.tup xs)/\H b=some (.tup ys)/\xs.length+ys.length<=sizeLine/\
 ∀p H',H' p=some (.tup (xs++ys))->yJ H H'->Q (.ref p) H'
def zqB:OpR X (binaryOp .Add) (zlF X.K):=by
 intro pins s σ H x y v u Q I rx ry h;obtain⟨a,b,xs,ys,rfl,rfl,ha,O,hz,q⟩:=h;by_cases hx:xs=[]
 ·subst hx;cases rx;cases ry;obtain⟨its,r1,p1,_⟩:=I.tuple (.of ha);obtain⟨B,r2,p2,_⟩:=I.tuple (.of O);obtain⟨⟨cls,dd,data,sl⟩,ho,hc,n,hd⟩:=id p1;obtain⟨⟨ad,U,Y,Z⟩,F,J,n2,L⟩:=id p2;simp only at hc hd J L;subst hc hd J L;have hi:its=[]:=r1.nil_iff.mpr rfl
  exact concat_meets ⟨_,ho,rfl⟩ ⟨_,F,rfl⟩ fL seq_tuple_add dP dH (dz _ _)
   (tuple_addW0 a b its.toArray B.toArray n n2 dd U sl Z (by simp[hi])) ⟨ho,F,⟨.ref b,H,I,rfl,q b H O λ_ _ e=>e⟩⟩
 show zqC pins s σ H _ _ v u Q I rx ry ⟨a,b,xs,ys,rfl,rfl,.of ha,.of O,hx,hz,λe=>?_,λe p hp=>?_⟩;subst e;exact q a H (by right) λ_ _ e=>e;exact q p _ zh λc o e=>by rw[zg (zc e hp)];exact e
end
end L2
namespace HT
open PyProof.Rows
section
variable {prog:Aa}{w:Ab}{A:Ae}{E:AA}{s:AZ}
def getItem_tuple_whole{lo hi:AQ}(q:IsTup s.heap t items)(hs:s.heap.IsSliceOf F O U .none)(pl:IsPart O lo)(Y:IsPart U hi)(hw:sIx items.size 0 lo=0/\sIx items.size items.size hi=items.size)(h:Q (.ref t) s)(hsz:items.size<=sizeLine):Ag prog w A (getItem (.ref t) (.ref F)) Q E s:=by
 obtain⟨Z,I,J,ad⟩:=id hs;have L:s.TypeIs (.ref F) "slice" := ⟨Z,I,J⟩;unfold getItem;try with_reducible show wpAny_holding ?_
 first | show wpAny_bind (wpAny_pure ?_) | skip
 show wpAny_bind (wpAny_sequenceKey q.typeIs (by ext) ?_)
 show wpAny_bind (wpAny_callSpecial?_slot (name:=Str.ofString "__getitem__") q.typeIs PyProof.Rows.slot_tuple_getitem
  (wpAny_call_entry PyProof.Rows.slot_tuple_getitem q.typeIs entry_tuple_getitem ?_ (args_tuple_getitem _ _)))
 change wpAny _ _ (Builtin.Tuple.tupleItemsOf (.ref t) >>= _) _ _ s;show wpAny_bind (tupleItemsOf_ q ?_);show wpAny_bind (wpAny_typeOf L ?_);rw[if_pos (by ext)];show wpAny_bind (u9 hs pl Y ?_);have B:(((sIx items.size 0 lo:Nat):Int)==0&&(1:Int)==1&&(sIx items.size items.size hi - sIx items.size 0 lo)==items.size)=true:=by right
 change wpAny _ _ (if (((sIx items.size 0 lo:Nat):Int)==0&&(1:Int)==1&&(sIx items.size items.size hi - sIx items.size 0 lo)==items.size)=true then _ else _) _ _ s;rw[if_pos B];unfold Builtin.Tuple.tupleIsExact;show wpAny_bind (wpAny_bind (wpAny_typeOf q.typeIs ?_));show wpAny_pure ?_;rw[if_pos (by ext)];show wpAny_bind (wpAny_rule ?_);exact wpAny_pure ⟨_,rfl,wpAny_pure h⟩
end
end HT
namespace L2
open PyProof.Rows
section
variable {X:Cx}
def rSlA:V->AQ->AQ->Hp->VK->Prop:=λx lo hi H Q=>∃a xs,x = .ref a/\H a=some (.tup xs)/\∀p H',H' p=some (.tup (zdv xs lo hi))->yJ H H'->Q (.ref p) H'
def zrC:SlR X rSlA:=by
 intro pins s σ H x v Y Z lo hi sl Q I F hs pl J h;obtain⟨a,xs,rfl,L,q⟩:=h;by_cases O:HT.sIx xs.length 0 lo=0/\HT.sIx xs.length xs.length hi=xs.length;cases F;obtain⟨its,r,U,hz⟩:=I.tuple (.of L);have B:its.toArray.size=xs.length:=by rw[aY];exact r.length.symm
 show⟨"tuple",_,PyProof.Rows.slot_tuple_getitem.lookup,U.typeIs,?_⟩;show HT.getItem_tuple_whole U hs pl J (by rw[B];exact O) ⟨.ref a,H,I,rfl,q a H ?_ λ_ _ e=>e⟩ (by rw[B];exact hz);unfold zdv;grind;exact zuu pins s σ H _ v Y Z lo hi sl Q I F hs pl J ⟨a,xs,rfl,.of L,O,λp hp=>q p _ zh λc o e=>by rw[zg (zc e hp)];exact e⟩
inductive Dt where
 | non | bl (b:Bool) | int (i:Int) | str (x:Str) | tup (l:List Dt) | lst (l:List Dt) | dct
abbrev AS:=List Dt
mutual
def Is (H:Hp):Dt->V->Prop
 | .non,v=>v = .non
 | .bl b,v=>v = .bl b
 | .int i,v=>v = .int i
 | .str x,v=>v = .str x
 | .tup l,v=>∃a xs,v = .ref a/\H a=some (.tup xs)/\IsL H l xs
 | .lst l,v=>∃a xs,v = .ref a/\H a=some (.lst xs)/\IsL H l xs
 | .dct,v=>∃a kvs,v = .ref a/\H a=some (.dK kvs)/\um kvs (Sum.inr "at" : Key)=none
def IsL (H:Hp):AS->AT->Prop
 | [],xs=>xs=[]
 | d::ds,xs=>∃x r,xs=x::r/\Is H d x/\IsL H ds r
end
def kO (d:Addr)(ob:Obj):HO:=.ext λh=>h.get? d=some ob
open Classical in
@[reducible] noncomputable def pnK:HO->Option (List (Key×V))
 | .dK kvs=>some kvs
 | .ext q=>if (∃d ob,(∃h:Heap,h.get? d=some ob)/\q=λh=>h.get? d=some ob) then some [(Sum.inr "at",.non)] else none
 | _=>none
def zB (H H':Hp):Prop:=∀b o,H b=some o->(∀kvs,pnK o=some kvs->um kvs (Sum.inr "at" : Key)=none)->H' b=some o
def zB.refl (H:Hp):zB H H:=λ_ _ e _=>e
def zB.trans(a:zB H H1)(b:zB H1 H2):zB H H2:=λc o e n=>b c o (a c o e n) n
def zB.same(a:yJ H H1):zB H H1:=λc o e _=>a c o e
def zB.upd(h:H p=none):zB H (upd H p o):=λc u e _=>by rw[zg (zc e h)];exact e
def yJ.upd(h:H p=none):yJ H (upd H p o):=λc u e=>by rw[zg (zc e h)];exact e
def zB.tup(a:zB H H1)(h:H p=some (.tup xs)):H1 p=some (.tup xs):=a _ _ h λ_ e=>by cases e
def zB.lst(a:zB H H1)(h:H p=some (.lst xs)):H1 p=some (.lst xs):=a _ _ h λ_ e=>by cases e
mutual
def Is.stay {H H1:Hp}(a:zB H H1):∀ {d:Dt} {v:V},Is H d v->Is H1 d v
 | .non,_,h=>h
 | .bl _,_,h=>h
 | .int _,_,h=>h
 | .str _,_,h=>h
 | .tup l,v,h=>by obtain⟨p,xs,e,hp,hl⟩:=h;exact⟨p,xs,e,a.tup hp,IsL.stay a hl⟩
 | .lst l,v,h=>by obtain⟨p,xs,e,hp,hl⟩:=h;exact⟨p,xs,e,a.lst hp,IsL.stay a hl⟩
 | .dct,v,h=>by obtain⟨p,kvs,e,hp,hl⟩:=h;exact⟨p,kvs,e,a _ _ hp λkvs' e=>by cases e;exact hl,hl⟩
def IsL.stay {H H1:Hp}(a:zB H H1):∀ {ds:AS} {xs:AT},IsL H ds xs->IsL H1 ds xs
 | [],_,h=>h
 | d::ds,xs,h=>by obtain⟨x,r,e,h1,h2⟩:=h;exact⟨x,r,e,Is.stay a h1,IsL.stay a h2⟩
end
def IsL.length:∀ {ds:AS} {xs:AT},IsL H ds xs->xs.length=ds.length
 | [],_,h=>by cases h;rfl
 | d::ds,xs,h=>by obtain⟨x,r,rfl,_,h2⟩:=h;rw[aO,aO,IsL.length h2]
def IsL.get:∀ {ds:AS} {xs:AT} {i:Nat} {x:V},IsL H ds xs->xs[i]?=some x->∃d,ds[i]?=some d/\Is H d x
 | [],_,_,_,h,e=>by cases h;simp at e
 | d::ds,xs,i,x,h,e=>by
  obtain⟨y,r,rfl,h1,h2⟩:=h
  cases i with
  | zero=>simp at e;subst e;exact⟨d,rfl,h1⟩
  | succ i=>
   obtain⟨d',q,B⟩:=IsL.get (i:=i) (x:=x) h2 (by simpa using e);right
def IsL.getD:∀ {ds:AS} {xs:AT} {i:Nat} {d:Dt},IsL H ds xs->ds[i]?=some d->∃x,xs[i]?=some x/\Is H d x
 | [],_,_,_,_,e=>by simp at e
 | d::ds,xs,i,x,h,e=>by
  obtain⟨y,r,rfl,h1,h2⟩:=h
  cases i with
  | zero=>simp at e;subst e;exact⟨y,rfl,h1⟩
  | succ i=>
   obtain⟨d',q,B⟩:=IsL.getD (i:=i) (d:=x) h2 (by simpa using e);right
def IsL.append:∀ {ds es:AS} {xs ys:AT},IsL H ds xs->IsL H es ys->IsL H (ds++es) (xs++ys)
 | [],_,_,_,h,k=>by cases h;exact k
 | d::ds,es,xs,ys,h,k=>by obtain⟨y,r,rfl,h1,h2⟩:=h;exact⟨y,r++ys,rfl,h1,IsL.append h2 k⟩
def IsL.take:∀ {ds:AS} {xs:AT} (n:Nat),IsL H ds xs->IsL H (ds.take n) (xs.take n)
 | _,_,0,_=>by simp[IsL]
 | [],_,n+1,h=>by cases h;simp[IsL]
 | d::ds,xs,n+1,h=>by obtain⟨y,r,rfl,h1,h2⟩:=h;exact⟨y,r.take n,rfl,h1,IsL.take n h2⟩
def IsL.drop:∀ {ds:AS} {xs:AT} (n:Nat),IsL H ds xs->IsL H (ds.drop n) (xs.drop n)
 | _,_,0,h=>h
 | [],_,n+1,h=>by cases h;simp[IsL]
 | d::ds,xs,n+1,h=>by obtain⟨y,r,rfl,h1,h2⟩:=h;exact IsL.drop n h2
def IsL.one(h:Is H d x):IsL H [d] [x]:=⟨x,[],rfl,h,rfl⟩
def IsL.ints:∀ {ns:AG},IsL H (ns.map .int) (ns.map .int)
 | []=>rfl
 | n::ns=>⟨_,_,rfl,rfl,IsL.ints⟩
def IsL.of_ints:∀ {ns:AG} {xs:AT},IsL H (ns.map .int) xs->xs=ns.map .int
 | [],_,h=>h
 | n::ns,xs,h=>by obtain⟨y,r,rfl,h1,h2⟩:=h;cases h1;rw[IsL.of_ints h2];rfl
def Dt.ty:Dt->String
 | .non => "NoneType" | .bl _ => "bool" | .int _ => "int" | .str _ => "str" | .tup _ => "tuple" | .lst _ => "list" | .dct => "dict"
def Is.ty {K:AH}{H:Hp}:∀ {d:Dt} {v:V},Is H d v->TyOf K H v (.type d.ty)
 | .non,_,h=>by cases h;exact .non
 | .bl _,_,h=>by cases h;exact .bl _
 | .int _,_,h=>by cases h;exact .int _
 | .str _,_,h=>by cases h;exact .str _
 | .tup l,v,h=>by obtain⟨p,xs,rfl,q,B⟩:=h;exact .tup q
 | .lst l,v,h=>by obtain⟨p,xs,rfl,q,B⟩:=h;exact .lst q
 | .dct,v,h=>by obtain⟨p,xs,rfl,q,B⟩:=h;exact .dK q
abbrev Dt.isTup:Dt->Bool
 | .tup _=>true | _=>false
abbrev Dt.isLst:Dt->Bool
 | .lst _=>true | _=>false
abbrev Dt.isInt:Dt->Bool
 | .int _=>true | .bl _=>true | _=>false
abbrev Dt.isBl:Dt->Bool
 | .bl _=>true | _=>false
def Dt.isWhole:Dt->Bool
 | .int _=>true | _=>false
def zqb (K:AH)(d:Dt):PySem.W.kitOne K (.type d.ty) (.type "tuple")=some d.isTup:=by cases d <;> rfl
def zqa (K:AH)(d:Dt):PySem.W.kitOne K (.type d.ty) (.type "list")=some d.isLst:=by cases d <;> rfl
def zp9 (K:AH)(d:Dt):PySem.W.kitOne K (.type d.ty) (.type "int")=some d.isInt:=by cases d <;> rfl
def zs6 (K:AH)(d:Dt):PySem.W.kitOne K (.type d.ty) (.type "bool")=some d.isBl:=by cases d <;> rfl
end
def ziM (env:Env):List (Str×NameKind)->List (Str×Addr)->List (Str×Addr)
 | [],cs=>cs
 | x::r,cs=>ziM env r (if (x.2==NameKind.free)=true then (x.1,(env.cells.lookup x.1).getD 0)::cs else cs)
def ziN(h:∀x∈scope.names,x.2 = .free->∃c,env.cells.lookup x.1=some c):closureFor scope env=pure (ziM env scope.names []):=by
 have gen:∀ (names:List (Str×NameKind)) (cs:List (Str×Addr)),(∀x∈names,x.2 = .free->∃c,env.cells.lookup x.1=some c)->
   (forIn names cs (λx r=>match x with
    | (name,kind)=>if (kind==NameKind.free)=true then do let a <- cellOf env name;pure (ForInStep.yield ((name,a)::r)) else pure (ForInStep.yield r)):Sem (List (Str×Addr)))=pure (ziM env names cs):=by
  intro names
  induction names with
  | nil=>intro cs _;rfl
  | cons x r ih=>
   intro cs hh;obtain⟨n,k⟩:=x;rw[List.forIn_cons];by_cases hk:(k==NameKind.free)=true;obtain⟨c,hc⟩:=hh (n,k) am (eq_of_beq hk);have hc':env.cells.lookup n=some c:=hc;have e:cellOf env n=pure c:=by unfold cellOf;rw[hc']
   simp only[hk,if_true,e,pure_bind];rw[ih _ λy hy=>hh y (aw _ hy)];change pure _=pure (ziM env r (if (k==NameKind.free)=true then (n,(env.cells.lookup n).getD 0)::cs else cs));right;simp only[hk,pure_bind];have e2:ziM env ((n,k)::r) cs=ziM env r cs:=by change ziM env r (if (k==NameKind.free)=true then _ else cs)=_;rw[if_neg hk]
   right
 unfold closureFor;have:=gen scope.names [] h;simpa using this
def zcL:∀ {names:List (Str×NameKind)} {cs:List (Str×Addr)} {x:Str} {c:Addr},(∀y∈names,y.2 = .free->∃c,env.cells.lookup y.1=some c)->(ziM env names cs).lookup x=some c->env.cells.lookup x=some c\/cs.lookup x=some c
 | [],_,_,_,_,h=>.inr h
 | (n,k)::r,cs,x,c,B,h=>by
  have q:=zcL (names:=r) (x:=x) (c:=c) (λy F=>B y (aw _ F)) h;rcases q with q | q;exact .inl q;by_cases I:(k==NameKind.free)=true;obtain⟨J,L⟩:=B (n,k) am (eq_of_beq I);grind;right
def zdL:∀ {names:List (Str×NameKind)} {cs:List (Str×Addr)} {x:Str},(∃c,cs.lookup x=some c)->∃c,(ziM env names cs).lookup x=some c
 | [],_,_,h=>h
 | (n,k)::r,cs,x,h=>by
  show zdL (names:=r) ?_;grind
def zcv:∀ {names:List (Str×NameKind)} {cs:List (Str×Addr)} {x:Str},names.lookup x=some .free->∃c,(ziM env names cs).lookup x=some c
 | [],_,_,h=>by simp at h
 | (n,k)::r,cs,x,h=>by
  rw[List.lookup_cons] at h
  cases e:x==n with
  | true=>
   rw[e] at h;have h':some k=some NameKind.free:=h;cases h';show zdL (names:=r) ?_;right
  | false=>
   rw[e] at h;exact zcv (names:=r) h
def xa {env:Env}:∀ {names:List (Str×NameKind)} {x:Str} {k:NameKind},(∀y∈names,y.2≠.cell)->
  (names.map λ(n,k)=>if (k==NameKind.free&&env.scope.kind==.function&&env.kindOf n==some .cell) then (n,NameKind.cell) else (n,k)).lookup x=some k->(k = .cell\/k = .free)->names.lookup x=some .free
 | [],_,_,_,h,_=>by simp at h
 | (n,k)::r,x,q,B,h,I=>by
  have J:=@xa env r x q (λy F=>B y (aw _ F));grind
def x4 {env:Env}:∀ {names:List (Str×NameKind)} {x:Str},names.lookup x=some .free->
  (names.map λ(n,k)=>if (k==NameKind.free&&env.scope.kind==.function&&env.kindOf n==some .cell) then (n,NameKind.cell) else (n,k)).lookup x=some .cell\/
  (names.map λ(n,k)=>if (k==NameKind.free&&env.scope.kind==.function&&env.kindOf n==some .cell) then (n,NameKind.cell) else (n,k)).lookup x=some .free
 | [],_,h=>by simp at h
 | (n,k)::r,x,h=>by
  have q:=@x4 env r x;grind
def zC (X:Cx)(scope:Scope)(N:AM)(C:Addr)(s:AZ)(H:Hp)(ex:AY):Cx where
 prog:=X.prog
 w:=X.w
 K:=X.K
 mg:=X.mg
 base:=X.base
 A:=X.A
 N:=N
 s₀:=s
 H₀:=H
 env:=compEnvC scope (ziM X.env scope.names []) C X.env
 outer:=X.stack
 stack:=X.stack
 ex:=ex
 fn:=λ_=>false
 calm:=X.calm
 pn:=[]
 xe:=λ_ _=>False
def caps (XN:AM)(Xnames names:List (Str×NameKind))(N:AM)(cix:List (Option Nat)):Bool:=
 N.length==cix.length&&(names.all λy=>y.2 != .cell)&&((N.zip cix).all λp=>match p.2 with
  | none=>true
  | some i=>XN[i]?==some p.1&&names.lookup p.1==some .free&&(Xnames.lookup p.1==some .cell || Xnames.lookup p.1==some .free)) &&
 (names.all λy=>y.2 != .free || (Xnames.lookup y.1==some .cell || Xnames.lookup y.1==some .free))
def zcw (σ:St)(cix:List (Option Nat)):St:=cix.map λo=>match o with
 | none=>none
 | some i=>(σ[i]?).join
structure CompOk (X:Cx)(scope:Scope)(N:AM)(cix:List (Option Nat)):Prop where
 kind:scope.kind = .function
 names:∀x∈scope.names,x.2 = .local->scope.names.lookup x.1=some .local
 caps:caps X.N X.env.scope.names scope.names N cix=true
section
variable {X:Cx}{pins:AB}{σ:St}{H:Hp}{s:AZ}{scope:Scope}{N:AM}{cix:List (Option Nat)}
def CompOk.cell (c:CompOk X scope N cix):∀y∈scope.names,y.2≠.cell:=λy q e=>by
 have h:=c.caps;unfold L2.caps at h;rw[bm,bm,bm] at h;have:=bc.mp h.1.1.2 y q;right
def CompOk.len (c:CompOk X scope N cix):N.length=cix.length:=by
 have h:=c.caps;unfold L2.caps at h;right
def CompOk.cells (c:CompOk X scope N cix)(B:X.Ok):∀x∈scope.names,x.2 = .free->∃a,X.env.cells.lookup x.1=some a:=λx F e=>by
 have h:=c.caps;unfold L2.caps at h;rw[bm] at h;have q:=bc.mp h.2 x F;rw[e] at q;have I:(X.env.scope.names.lookup x.1==some NameKind.cell || X.env.scope.names.lookup x.1==some NameKind.free)=true:=by simpa using q
 rcases Bool.or_eq_true_iff.mp I with q | q;exact B.has _ (.inl (eq_of_beq q));exact B.has _ (.inr (eq_of_beq q))
def CompOk.cap (c:CompOk X scope N cix){j i:Nat}{x:Str}(h1:N[j]?=some x)(h2:cix[j]?=some (some i)):X.N[i]?=some x/\scope.names.lookup x=some .free/\(X.env.scope.names.lookup x=some .cell\/X.env.scope.names.lookup x=some .free):=by
 have h:=c.caps;unfold L2.caps at h;rw[bm,bm] at h;have B:(x,some i)∈N.zip cix:=by show ar (i:=j) ?_;rw[List.getElem?_zip_eq_some];exact⟨h1,h2⟩
 have q:=bc.mp h.1.2 _ B;grind
def zmY {fp:AY}{h':Heap}{tk:Nat}{m:AI}(I:Inv X pins σ H s)(c:CompOk X scope N cix)(Y:∀b∈fp,zgF X pins H b)(ad:∀b∈fp,b<s.heap.objs.size)
  (hn:h'.Ns s.heap.objs.size m) (Z:∀b o,s.heap.get? b=some o->h'.get? b=some o) :
  Inv (zC X scope N s.heap.objs.size s H fp) [] (zcw σ cix) H { s with heap:=h',toks:=tk }:=by
 have ag:=c.cells I.ok
 have B:∀x a,(ziM X.env scope.names []).lookup x=some a->X.env.cells.lookup x=some a:=λx a e=>by
  rcases zcL ag e with z | z;exact z;simp at z
 show⟨⟨I.mod,c.kind,I.ok.glob,I.ok.blt,ah _,λx y a e1 e2=>I.ok.inj x y a (B x a e1) (B y a e2),λx hx=>?_,λx a z _=>absurd (show (false:Bool)=true from z) (by ext),I.ok.hd,I.ok.frames,.inl rfl,
  λb J=>⟨aL (ad b J),λx a e=>(Y b J).2.2.2.2.1 x a (B x a e)⟩,I.bs,af I.ok.bsz I.sz,λb o e J=>?_,λb J z=>?_,I.stack,I.stkFree⟩,
  I.os ▸ rfl,I.bare,Un.kept Z,⟨m,hn,λj x v h1 h2 h3=>?_⟩,λx a e=>?_,I.hok.fresh (ah _),λx a e=>I.freeC x a (B x a e),λp hp=>absurd (show p∈([]:AB) from hp) (by simp),I.hok.kept Z,?_⟩
 have al:((relabel scope X.env).names.lookup x=some .cell\/(relabel scope X.env).names.lookup x=some .free):=hx;rcases al with z | z;exact zcv (xa c.cell z (.inl rfl));exact zcv (xa c.cell z (.inr rfl));rcases (Y b J).2.2.2.1 with z | z;exact I.ok.noex b o e z;exact absurd (a9 (aA e) (af I.ok.bsz z)) (cC _);rcases aF.mp (I.stkSub b z) with e | e;exact (Y b J).2.1 e;exact (Y b J).2.2.1 e;have an:N[j]?=some x:=h1;unfold zcw at h2;rw[aq] at h2
 cases e:cix[j]? with
 | none=>rw[e] at h2;cases h2
 | some o=>
  rw[e] at h2
  cases o with
  | none=>cases h2
  | some i=>
   have F:(σ[i]?).join=some v:=bz h2
   have O:σ[i]?=some (some v):=by
    cases q:σ[i]? with
    | none=>rw[q] at F;cases F
    | some z=>rw[q] at F;have:z=some v:=F;rw[this]
   obtain⟨q1,q2,q3⟩:=c.cap an e;obtain⟨m0,as,ap⟩:=I.loc;obtain⟨u,ru,hu⟩:=ap i x v q1 O (q3.elim (λz=>.inr (.inl z)) λz=>.inr (.inr z));show⟨u,ru,.inr ⟨x4 q2,?_⟩⟩;rcases hu with ⟨z,_⟩ | ⟨_,a,ha,hcell⟩;have z':X.env.scope.names.lookup x=some .local:=z;right;obtain⟨a',U⟩:=zcv (env:=X.env) (cs:=[]) q2;have:a'=a:=by have:=(B x a' U).symm.trans ha;exact bz this
   subst this;obtain⟨oc,L,hd⟩:=hcell;exact⟨a',U,oc,Z _ _ L,hd⟩
 obtain⟨v,oc,L,hd⟩:=I.cell x a (B x a e);exact⟨v,oc,Z _ _ L,hd⟩;change (zcw σ cix).length=N.length;unfold zcw;rw[ab,c.len]
def zg2(x:HOk P w H h)(B:H a=none)(hs:Heap.SameBut a h h'):HOk P w H h':=λb o e=>by
 show (x b o e).stay (λc u F q=>(hs.2 c ?_).trans q) (λ_ q=>q) λ_ _ q=>q;grind
def ziZ{U:St}{H':Hp}{s':AZ}(I:Inv X pins σ H s)(L:∀b∈O,zgF X pins H b)(I':Inv (zC X scope N s.heap.objs.size s H O) [] U H' s')(hs:Heap.SameBut s.heap.objs.size s'.heap F) :
  Inv X pins σ H' { s' with heap:=F }:=by
 have Y:∀b o,s.heap.get? b=some o->b≠s.heap.objs.size:=λb o e=>aL (aA e);have u:=I'.base;show Inv.call' (ch:=O) I I'.os ⟨λb o e n B J=>?_,λb o e n B J=>?_,u.free,λb o e J=>?_,u.tups,u.frzs,u.tbls⟩ (zg2 I'.hok I'.free hs) I'.bare λb B=>⟨(L b B).2.2.2.1,(L b B).2.1,(L b B).2.2.2.2.1,(L b B).2.2.2.2.2⟩;exact (hs.2 b (Y b o e)).trans (u.keep b o e n B J);obtain⟨Z,q⟩:=u.slot b o e n B J;exact⟨Z,(hs.2 b (Y b o e)).trans q⟩;obtain⟨o',q⟩:=u.there b o e J;exact⟨o',(hs.2 b (Y b o e)).trans q⟩
variable {prog:Aa}{w:Ab}{A:Ae}{R:Result->AZ->Prop}
def zer(I:Nat->AZ->Prop)(turn:∀n s,I n s->Ag prog w A (pyNext it) (λr s₁=>match r with
   | none=>R (.ok .next) s₁
   | some v=>Ag prog w A (letOwnedTupleGo target it v) (λ_ s₂=>Ag prog w A (assign target env v) (λ_ s₃=>
     Ag prog w A (forIn ifs true λc r=>if r=true then do let ok <- isTrue c env (eval c env);pure (ForInStep.yield ok) else pure (ForInStep.yield r)) (λok s₄=>
      if ok=true then Ag prog w A (eval elt env) (λx s₅=>
       Ag prog w A (call (.builtin "list.append") [acc,x]) (λ_ s₆=>∃m,m<n/\I m s₆) (λ_ _=>False) s₅) (λ_ _=>False) s₄
      else ∃m,m<n/\I m s₄) (λ_ _=>False) s₃) (λ_ _=>False) s₂) (λ_ _=>False) s₁) (λ_ _=>False) s)(n:Nat)(h:I n s) :
  codeAny (model prog w) A (.compLoop (.ListComp elt [⟨target,iter,ifs,0⟩] scope pos) 0 it acc env) R s:=by
 show eV rfl I (λn s hI=>?_) n h;change wpAny _ A ((compTurn (.ListComp elt [⟨target,iter,ifs,0⟩] scope pos) 0 it acc env).onRaise (λx=>do noteFrame x env;theTreesLotGoes x)) _ _ s;show fF ?_;rw[compTurn_list];show aa (bK (aa (aQ (turn n s hI) (λr s₁ h₁=>?_) λ_ _ h'=>h'.elim)))
 cases r with
 | none=>exact ae h₁
 | some v=>
  show aa (aQ h₁ (λ_ s₂ h₂=>?_) λ_ _ h'=>h'.elim);show aa (aQ h₂ (λ_ s₃ h₃=>aa (aQ h₃ (λok s₄ h₄=>?_) λ_ _ h'=>h'.elim)) λ_ _ h'=>h'.elim)
  cases ok with
  | false=>exact ae ⟨rfl,h₄⟩
  | true=>
   exact aa (aa (aQ h₄ (λx s₅ h₅=>aa (aQ h₅ (λ_ s₆ h₆=>ae (ae ⟨rfl,h₆⟩)) λ_ _ h'=>h'.elim)) λ_ _ h'=>h'.elim))
end
def PTs (X:Cx)(ifs:AO)(t:TT):Prop:=
 ∀ (pins:AB) (s:AZ) (σ:St) (H:Hp) (Q:Bool->Hp->Prop),Inv X pins σ H s->t σ H Q->
  Af X (forIn ifs true λc r=>if r=true then do let ok <- isTrue c X.env (eval c X.env);pure (ForInStep.yield ok) else pure (ForInStep.yield r)) (TP X pins σ Q) X.xe s
def zb9:TT:=λ_ H Q=>Q true H
def zq3:PTs X [] zb9:=λpins s σ H Q I h=>wpAny_tests_nil ⟨H,I,h⟩
def zq4(h:PT X c t):PTs X [c] t:=λpins s σ H Q I q=>wpAny_tests_one (h pins s σ H Q I q)
def zw2 (wi:TI)(g:TG)(ti:TT)(te:TE)(cix:List (Option Nat)):TE:=λσ H Q=>wi σ H λJ H1=>∀acc,H1 acc=none->∃W:Nat->Nat->St->Hp->Prop,(∃m,W 0 m (zcw σ cix) (upd H1 acc (.lst [])))/\
 ∀i m B H',W i m B H'->(J.stop i H'/\Q (.ref acc) H')\/(J.go i H'/\∃N:St->Hp->Prop,(∀ F H2,N F H2->∃I,I<m/\W (i+1) I F H2)/\
  ∀x H2,J.yld i H' x H2->g x B H2 λq H3=>ti q H3 λL H4=>if L=true then te q H4 λv H5=>∃xs,H5 acc=some (.lst xs)/\xs.length<sizeLine/\N q (upd H5 acc (.lst (xs++[v]))) else N q H4)
def ziQ (g:TG)(ti:TT)(te:TE)(acc:Addr)(N:St->Hp->Prop)(x:V)(σ:St)(H:Hp):Prop:=
 g x σ H λq H3=>ti q H3 λB H4=>if B=true then te q H4 λv H5=>∃xs,H5 acc=some (.lst xs)/\xs.length<sizeLine/\N q (upd H5 acc (.lst (xs++[v]))) else N q H4
def zoh (M:Model)(A:Ae)(e:Expr)(k:Nat)(tg:Expr)(ifs:AO)(it acc:Value)(env:Env)(B:(AZ->Prop)->AZ->Prop):Prop:=
 ∀ (R:Result->AZ->Prop) (s:AZ) (I:Nat->AZ->Prop),(∀n s,I n s->wpAny M A (pyNext it) (λr s₁=>match r with
   | none=>R (.ok .next) s₁
   | some v=>wpAny M A (letOwnedTupleGo tg it v) (λ_ s₂=>wpAny M A (assign tg env v) (λ_ s₃=>
     wpAny M A (forIn ifs true λc r=>if r=true then do let ok <- isTrue c env (eval c env);pure (ForInStep.yield ok) else pure (ForInStep.yield r)) (λok s₄=>
      if ok=true then B (λs'=>∃m,m<n/\I m s') s₄ else ∃m,m<n/\I m s₄) (λ_ _=>False) s₃) (λ_ _=>False) s₂) (λ_ _=>False) s₁) (λ_ _=>False) s)->
  ∀n,I n s->codeAny M A (.compLoop e k it acc env) R s
def zf3{X:Cx}{ifs:AO}{it acc:Addr}{I:AY}{tn:Nat->Heap->Prop}{J:It}{g:TG}{ti:TT}{tb:(St->Hp->Prop)->St->Hp->Prop}{B:(AZ->Prop)->AZ->Prop}{pl:AB}{Fin:St->Hp->Prop}{R:Result->AZ->Prop}{W:Nat->Nat->St->Hp->Prop}{σ0:St}{H0:Hp}{s0:AZ}(L:zoh (model X.prog X.w) X.A e k tg ifs (.ref it) (.ref acc) X.env B)(hc:X.calm=true)(xX:X.xe=λ_ _=>False)(T:Turn X.prog X.w X.K tg J I it tn)(f4:∀ {H':Hp},(∀b∈I,H' b=none)->∀b∈I,zgF X pl H' b)(hg:PG X tg g)(ht:PTs X ifs ti)(O:∀pl' s σ H (Nx:St->Hp->Prop) (P:AZ->Prop),Inv X (pl++pl') σ H s->tb Nx σ H->(∀ q H' s',Inv X (pl++pl') q H' s'->Nx q H'->P s')->B P s)(Z:∀i n σ H,W i n σ H->(J.stop i H/\Fin σ H)\/(J.go i H/\∃Nx:St->Hp->Prop,(∀ q H',Nx q H'->∃m,m<n/\W (i+1) m q H')/\∀x H',J.yld i H x H'->g x σ H' λU H2=>ti U H2 λb H3=>if b=true then tb Nx U H3 else Nx U H3))(fin:∀ σ H s,Inv X pl σ H s->Fin σ H->R (.ok .next) s)(I0:Inv X pl σ0 H0 s0)(ap:tn 0 s0.heap)(as:∀b∈I,H0 b=none)(w0:W 0 m0 σ0 H0) :
  codeAny (model X.prog X.w) X.A (.compLoop e k (.ref it) (.ref acc) X.env) R s0:=by
 show L R s0 (λn s'=>∃i q H',Inv X pl q H' s'/\tn i s'.heap/\(∀b∈I,H' b=none)/\W i n q H') ?_ m0 ⟨0,σ0,H0,I0,ap,as,w0⟩;rintro n s5 ⟨i,F,H5,I5,ad,al,w5⟩;rcases Z i n F H5 w5 with ⟨stop,qn⟩ | ⟨go,Nx,hN,step⟩
 ·show thn (T.done X rfl rfl rfl hc i pl s5 F H5 (λ_ _=>False) I5 (f4 al) ad stop) ?_;rintro r s6 ⟨hr,I6⟩;subst hr;exact fin F H5 s6 I6 qn
 show thn (T.item X rfl rfl rfl hc i pl s5 F H5 (λ_ _=>False) I5 (f4 al) ad go) ?_;rintro r s6 ⟨u,hr,h6⟩;subst hr;show thn h6 ?_;rintro _ s7 ⟨x,H7,I7,r7,y7,Y,av⟩;have I7':=I7.pinned (f4 av) (T.obj _ _ Y);have a7:=hg _ s7 F H7 x u _ I7' r7 (step x H7 y7);rw[xX] at a7;show thn a7 ?_;rintro _ s8 ⟨an,H8,I8,q8⟩;have t8:=ht _ s8 an H8 _ I8 q8;rw[xX] at t8;show thn t8 ?_;rintro ok s9 ⟨H9,I9,q9⟩
 have ag:∀ q H' s',Inv X (pl++zgj I s7.heap) q H' s'->Nx q H'->∃m,m<n/\∃i q H',Inv X pl q H' s'/\tn i s'.heap/\(∀b∈I,H' b=none)/\W i m q H':=λq H' s' J' n'=>by
  obtain⟨m',hm,w'⟩:=hN q H' n'
  have pn:∀b∈I,∀o,s7.heap.get? b=some o->s'.heap.get? b=some o/\H' b=none:=λb O o e=>by
   have:=J'.pin (b,o) (aX _ (aX _ (zbZ O e)));right
  show⟨m',hm,i+1,q,H',J'.unpinned,T.keep _ _ _ Y λb O o e=>(pn b O o e).1,λb O=>?_,w'⟩;obtain⟨o,e,_⟩:=T.obj _ _ Y b O;right
 cases ok with
 | false=>exact ag _ _ _ I9 q9
 | true=>exact O _ s9 an H9 _ _ I9 q9 ag
structure Inn (X X':Cx)(pins:AB)(σ:St)(fp:AY)(C:Addr):Prop where
 pX:X'.prog=X.prog
 wX:X'.w=X.w
 KX:X'.K=X.K
 AX:X'.A=X.A
 cX:X'.calm=X.calm
 xX:X'.xe=λ_ _=>False
 lX:X'.env.locals=C
 f4:∀ {H':Hp},(∀b∈fp,H' b=none)->∀b∈fp,zgF X' [] H' b
 back:∀ {σ':St} {H':Hp} {s':AZ} {h'':Heap},Inv X' [] σ' H' s'->Heap.SameBut C s'.heap h''->Inv X pins σ H' { s' with heap:=h'' }
structure Opn (X:Cx)(scope:Scope)(cix:List (Option Nat))(Fam:Cx->Prop):Prop where
 kind:scope.kind = .function
 names:∀x∈scope.names,x.2 = .local->scope.names.lookup x.1=some .local
 cells:X.Ok->∀x∈scope.names,x.2 = .free->∃a,X.env.cells.lookup x.1=some a
 run:∀ (pins:AB) (σ:St) (H3:Hp) (s3:AZ) (fp:AY) (Q:Env->AZ->Prop),Inv X pins σ H3 s3->(∀b∈fp,zgF X pins H3 b)->(∀b∈fp,b<s3.heap.objs.size)->
  (∀X' cenv s4,Fam X'->Inn X X' pins σ fp s3.heap.objs.size->cenv.locals=s3.heap.objs.size->X'.env={ cenv with scope:=relabel scope X.env }->Inv X' [] (zcw σ cix) H3 s4->(∀b o,s3.heap.get? b=some o->s4.heap.get? b=some o)->Q cenv s4)->
  Af X (newFunctionEnv scope X.env.globals (ziM X.env scope.names []) [] X.env.qual none .none (some X.env)) Q X.xe s3
def zbe{X:Cx}{Fam:Cx->Prop}{scope:Scope}{cix:List (Option Nat)}{use:Option (Value->Sem Unit)}{Qp:AA}{ifs:AO}{pos:Pos}{L:Sem Value}{o0:Addr->HO}{B:Cx->Addr->(AZ->Prop)->AZ->Prop}{tb:Addr->(St->Hp->Prop)->St->Hp->Prop}{Fin:Addr->Hp->Prop}{wi:TI}{g:TG}{ti:TT}{Kk:It->Hp->Prop}{pins:AB}{σ:St}{H:Hp}{s:AZ}(O:Opn X scope cix Fam)(hc:X.calm=true)(a4:clausesOf e=⟨tg,iter,ifs,0⟩::gs)(hs:∀x,foldedSetIterable iter X.env x=pure x)(a5:∀ (R:Result->AZ->Prop) (s:AZ) (it acc:Value) (env:Env),codeAny (model X.prog X.w) X.A (.compLoop e 0 it acc env) R s->Af X (pyIter it) (λa7 s'=>codeAny (model X.prog X.w) X.A (.compLoop e 0 a7 acc env) R s') (notedBy (model X.prog X.w) X.A env λx s'=>R (.error x) s') s->codeAny (model X.prog X.w) X.A (.compStart e 0 it acc env) R s)(hL:∀X',Fam X'->∀it acc,zoh (model X'.prog X'.w) X'.A e 0 tg ifs it (.ref acc) X'.env (B X' acc))(an:∀ (s:AZ) (Q:AA),Q (.ref s.heap.objs.size) { s with heap:=s.heap.push ob }->Af X L Q X.xe s)(ba:∀ {pins σ H s},Inv X pins σ H s->∀H',yo X.prog X.w H' (s.heap.push ob) s.heap.objs.size (o0 s.heap.objs.size))(hi:PI X tg iter wi)(hg:∀X',Fam X'->PG X' tg g)(ht:∀X',Fam X'->PTs X' ifs ti)(U:∀X',Fam X'->X'.prog=X.prog->X'.w=X.w->X'.A=X.A->X'.calm=true->X'.xe=(λ_ _=>False)->∀acc pl s σ H (Nx:St->Hp->Prop) (P:AZ->Prop),Inv X' pl σ H s->tb acc Nx σ H->(∀ Y H' s',Inv X' pl Y H' s'->Nx Y H'->P s')->B X' acc P s)(I:Inv X pins σ H s)(h:wi σ H Kk)(hK:∀J H1 acc,Kk J H1->H1 acc=none->∃W:Nat->Nat->St->Hp->Prop,(∃m,W 0 m (zcw σ cix) (upd H1 acc (o0 acc)))/\∀i n σ H,W i n σ H->(J.stop i H/\Fin acc H)\/(J.go i H/\∃Nx:St->Hp->Prop,(∀ Y H',Nx Y H'->∃m,m<n/\W (i+1) m Y H')/\∀x H',J.yld i H x H'->g x σ H' λad H2=>ti ad H2 λb H3=>if b=true then tb acc Nx ad H3 else Nx ad H3))(ap:∀acc C H5 s6,zgF X pins H5 C->(∃m,s6.heap.Ns C m)->(∀ag,Heap.SameBut C s6.heap ag->Inv X pins σ H5 { s6 with heap:=ag })->Fin acc H5->compPost (model X.prog X.w) X.A X.xe use Qp (.ref acc) C (.ok .next) s6) :
  Af X (comprehension e scope X.env pos L false (eval iter X.env) use) Qp X.xe s:=by
 show wpAny_comprehension_free (use:=use) a4 hs (ziN (O.cells I.ok)) O.kind O.names (thn (hi pins s σ H _ I h) λxv s1 h1=>thn h1 λbk F h2=>?_);obtain⟨it,fp,tn,J,H2,e,I2,T,as,f2,q2⟩:=h2;subst e;show an F _ ?_;have al:=I2.hok.fresh (ah F.heap.objs.size);obtain⟨W,⟨m0,w0⟩,av⟩:=hK J H2 F.heap.objs.size q2 al;have a0:∀b o,F.heap.get? b=some o->(F.heap.push ob).get? b=some o:=λb u e=>aj _ e;have I3:Inv X pins σ (upd H2 F.heap.objs.size (o0 F.heap.objs.size)) { F with heap:=F.heap.push ob,toks:=F.toks }:=I2.laid (t':=F.toks) a0 (ah _) (ba I2 _);have a1:∀b∈fp,b<F.heap.objs.size:=λb U=>by obtain⟨o,ho,_⟩:=T.obj _ _ as b U;exact aA ho
 have fn:∀b∈fp,upd H2 F.heap.objs.size (o0 F.heap.objs.size) b=none:=λb U=>by rw[zg (aL (a1 b U))];exact (f2 b U).1
 show O.run pins σ _ _ fp _ I3 (λb U=>⟨fn b U,(f2 b U).2⟩) (λb U=>Nat.lt_trans (a1 b U) (by simp)) λX' bd s4 hF N hl hE I4 kp=>?_;rw[<- hE,hl];have a2:tn 0 s4.heap:=T.keep _ _ _ as λb U o e=>kp b o (a0 b o e);have cX:=N.cX.trans hc;have Z:=zf3 (X:=X') (R:=compPost (model X.prog X.w) X.A X.xe use Qp (.ref F.heap.objs.size) (F.heap.push ob).objs.size) (Fin:=λ_ H=>Fin F.heap.objs.size H) (pl:=[]) (hL X' hF (.ref it) F.heap.objs.size) cX N.xX (by rw[N.pX,N.wX,N.KX];exact T) N.f4 (hg X' hF) (ht X' hF) (U X' hF N.pX N.wX N.AX cX N.xX F.heap.objs.size) av (λbl H5 s6 I6 q=>?_) I4 a2 fn w0;rw[N.pX,N.wX,N.AX] at Z;exact a5 _ _ _ _ _ Z (T.self X.A 0 _ _ _ a2 Z);have bb:H5 (F.heap.push ob).objs.size=none:=by have:=I6.free;rwa[N.lX] at this
 obtain⟨m6,a3,_⟩:=I6.loc;rw[N.lX] at a3;exact ap _ _ H5 s6 (I3.fpOk (ah _) bb) ⟨m6,a3⟩ (λag hs=>N.back I6 hs) q
section
variable {X:Cx}{scope:Scope}{N:AM}{cix:List (Option Nat)}{z:Str}
def uv (c:CompOk X scope N cix):Opn X scope cix (λX'=>∃C s H ex,X'=zC X scope N C s H ex) where
 kind:=c.kind
 names:=c.names
 cells:=c.cells
 run:=λpins σ H3 O Y Q I3 B F k=>by
  show wpAny_newFunctionEnv c.cell (by simp) (λZ J L=>?_) c.kind;have U:∀b o,O.heap.get? b=some o->Z.get? b=some o:=λb o e=>L.extBut b o (aL (aA e)) (aj _ e);show k (zC X scope N O.heap.objs.size O H3 Y) _ _ ⟨_,_,_,_,rfl⟩ ⟨rfl,rfl,rfl,rfl,rfl,rfl,rfl,λ{H'} hn b q=>⟨hn b q,aL (F b q),λy=>?_,.inl q,λx a e=>?_,λp hp=>?_⟩,λI' hs=>ziZ I3 B I' hs⟩ rfl rfl (zmY I3 c B F J U) U;rcases aF.mp (I3.stkSub b y) with e | e;exact (B b q).2.1 e;exact (B b q).2.2.1 e;rcases zcL (c.cells I3.ok) e with y | y;exact (B b q).2.2.2.2.1 x a y;simp at y;exact absurd (show p∈([]:AB)++[] from hp) (by simp)
def zew {pins:AB}{σ:St}{Q:VK}{acc C:Addr}{H5:Hp}{F:AZ}(J:∃m,F.heap.Ns C m)(L:∀B,Heap.SameBut C F.heap B->Inv X pins σ H5 { F with heap:=B })(q:Q (.ref acc) H5):compPost (model X.prog X.w) X.A X.xe none (EP X pins σ Q) (.ref acc) C (.ok .next) F:=
 let ⟨m,hn⟩:=J;⟨m,hn,λO I=>⟨.ref acc,H5,L O I,rfl,q⟩⟩
def zem{pos spos px:Pos}{nx:Str}{B first:Sem Value}{D:Ends}{pins:AB}{σ:St}{s:AZ}(O:X.N.Nodup)(Y:X.N[ix]?=some nx)(J:X.env.scope.names.lookup nx=some .local)(Z:swapsWithSole [.Name nx px] e spos.line X.env=pure true)(ad:(assignEach [.Name nx px] X.env).map (·.2)=[assign (.Name nx px) X.env])(ag:∀U,evalThenUse e X.env U=comprehension e scope X.env pos B false first (some U) >>= λ_=>pure ())(h:∀ (U:Value->Sem Unit) (Qp:AA),(∀acc C H5 I,zgF X pins H5 C->(∃m,I.heap.Ns C m)->(∀L,Heap.SameBut C I.heap L->Inv X pins σ H5 { I with heap:=L })->D.nx (σ.set ix (some (.ref acc))) H5->compPost (model X.prog X.w) X.A X.xe (some U) Qp (.ref acc) C (.ok .next) I)->Af X (comprehension e scope X.env pos B false first (some U)) Qp X.xe s) :
  Af X (exec (.Assign [.Name nx px] e spos) X.env) (SP X pins D) X.xe s:=by
 rw[exec_Assign_arm];show aa (bK ?_);rw[Z];show aa (ae ?_);rw[if_pos rfl];show aa ?_;rw[ag];show aa ?_;show h _ _ λacc C H5 I F hm al q=>?_;have IX:=al _ ⟨rfl,λ_ _=>rfl⟩;change wpAny _ _ (assignAll _ ((assignEach [.Name nx px] X.env).map (·.2))) _ _ I;rw[ad];show wpAny_assign_Name (x:=nx) (pos:=px) ?_;show zgy IX O Y (Or.inl J) (v:=.ref acc) rfl (λs7 I7 ⟨a7,an,ap⟩=>?_) (.inr J)
 have as:C≠a7:=by
  intro z;rcases ap with e | e;exact F.2.1 (z.trans e);exact F.2.2.2.2.1 nx a7 e z.symm
 obtain⟨m6,oC,av,a0,a1,rC⟩:=hm;show⟨m6,⟨oC,av,a0,(an.2 _ as).trans a1,rC⟩,λh8 a2=>ae (ae ?_)⟩;exact⟨_,H5,I7.turned (t':=s7.toks) (λb o hb e=>(a2.2 b hb).trans e) F.1 F.2.1 F.2.2.2.1 F.2.2.2.2.1 F.2.2.2.2.2,q⟩
variable {Fam:Cx->Prop}{use:Option (Value->Sem Unit)}{Qp:AA}{elt tg iter:Expr}{ifs:AO}{pos ipos spos px:Pos}{wi:TI}{g:TG}{ti:TT}{te:TE}{pins:AB}{σ:St}{H:Hp}{s:AZ}{Fin:Addr->Hp->Prop}
def zhQ {P:AZ->Prop}{acc:Addr}{Nx:St->Hp->Prop}(he:PE X elt te)(Z:X.xe=λ_ _=>False)(I:Inv X pins σ H s)(q:te σ H λv H'=>∃xs,H' acc=some (.lst xs)/\xs.length<sizeLine/\Nx σ (upd H' acc (.lst (xs++[v]))))(k:∀ B H' s',Inv X pins B H' s'->Nx B H'->P s') :
  Af X (eval elt X.env) (λx s5=>Af X (call (.builtin "list.append") [.ref acc,x]) (λ_ s6=>P s6) (λ_ _=>False) s5) (λ_ _=>False) s:=by
 have e9:=he pins s σ H _ I q;rw[Z] at e9;show thn e9 ?_;rintro u2 J ⟨v,H10,I10,L,xs,O,U,nx⟩;have F:=zf4 (X:=X) _ J σ H10 (.ref acc) [v] (.ref acc) [u2] (λ_ H'=>Nx σ H') I10 rfl (.cons L .nil) ⟨_,xs,v,rfl,rfl,O,U,nx⟩;rw[Z] at F;show thn F (by rintro _ ad ⟨_,H11,I11,_,Y⟩;exact k _ _ _ I11 Y)
def zf2 (O:Opn X scope cix Fam)(hc:X.calm=true)(hi:PI X tg iter wi)(hg:∀X',Fam X'->PG X' tg g)(ht:∀X',Fam X'->PTs X' ifs ti)(he:∀X',Fam X'->PE X' elt te)(hs:∀x,foldedSetIterable iter X.env x=pure x)(I:Inv X pins σ H s)
  (h:wi σ H λJ H1=>∀acc,H1 acc=none->∃W:Nat->Nat->St->Hp->Prop,(∃m,W 0 m (zcw σ cix) (upd H1 acc (.lst [])))/\∀i n σ H,W i n σ H->(J.stop i H/\Fin acc H)\/(J.go i H/\∃Nx:St->Hp->Prop,(∀ L H',Nx L H'->∃m,m<n/\W (i+1) m L H')/\∀x H',J.yld i H x H'->ziQ g ti te acc Nx x σ H'))
  (U:∀acc C H5 F,zgF X pins H5 C->(∃m,F.heap.Ns C m)->(∀Y,Heap.SameBut C F.heap Y->Inv X pins σ H5 { F with heap:=Y })->Fin acc H5->compPost (model X.prog X.w) X.A X.xe use Qp (.ref acc) C (.ok .next) F) :
  Af X (comprehension (.ListComp elt [⟨tg,iter,ifs,0⟩] scope pos) scope X.env ipos (newList []) false (eval iter X.env) use) Qp X.xe s:=
 zbe (ob:={ cls:=.type "list",dict:=none,data:=.seq ([]:AN).toArray }) (o0:=λ_=>.lst []) (B:=λX' acc P s=>wpAny (model X'.prog X'.w) X'.A (eval elt X'.env) (λx s5=>wpAny (model X'.prog X'.w) X'.A (call (.builtin "list.append") [.ref acc,x]) (λ_ F=>P F) (λ_ _=>False) s5) (λ_ _=>False) s) (tb:=λacc Nx σ H=>te σ H λv H'=>∃xs,H' acc=some (.lst xs)/\xs.length<sizeLine/\Nx σ (upd H' acc (.lst (xs++[v])))) O hc rfl hs (λ_ _ _ _ _ h0 h1=>codeAny_compStart_list h0 h1) (λ_ _ _ _ _ _ I Z n h=>zer I Z n h) (λs Q h=>bj h) (λ_ _=>⟨aK _,[],0,.nil,aC _ rfl⟩) hi hg ht (λX' hF _ _ _ _ xX _ _ _ _ _ _ _ I q k=>zhQ (he X' hF) xX I q k) I h (λJ H1 acc q hn=>q acc hn) U
end
section
variable {X:Cx}{scope:Scope}{N:AM}{z:Str}
def zcy {P:Cx->Prop}(h:∀C s H ex,P (zC X scope N C s H ex)):∀X',(∃C s H ex,X'=zC X scope N C s H ex)->P X':=by right
abbrev zvt (X:Cx)(pins:AB)(σ:St)(use:Option (Value->Sem Unit))(Qp:AA)(Q:VK):Prop:=∀acc C H5 B,zgF X pins H5 C->(∃m,B.heap.Ns C m)->(∀q,Heap.SameBut C B.heap q->Inv X pins σ H5 { B with heap:=q })->Q (.ref acc) H5->compPost (model X.prog X.w) X.A X.xe use Qp (.ref acc) C (.ok .next) B
end
structure Dfn (K:AH)(mg:AI)(x:Str)(st:Stmt)(ps:AM)(f:Addr)(fd:Ac):Prop where
 F:Fun K x x st f fd
 b:zaJ K fd ps []
 m:mg x=some (.ref f)
section
variable {X:Cx}
def ztB{x:Str}{st:Stmt}{ps:AM}{f:Addr}{fd:Ac}{sp:Sp}{es:AO}{p pos:Pos}(D:Dfn X.K X.mg x st ps f fd)(G:FnOk X.prog X.w X.K X.mg X.base CX0 j f fd ps sp)(J:Room k X.A)(L:PA X (e::es) t)(q:j<=k:=by ext)(O:Gl X x:=by rfl)(B:Ah x:=by ext)(U:starEach (e::es) X.env=(false,eval e X.env)::starEach es X.env:=by rfl)(I:(backTo pos (starEach es X.env)).any (·.1)=false:=by rfl) :
  PE X (.Call (.Name x p) (e::es) [] pos) (zdt sp [] E0 t):=
 zhu G (J.mono q) O D.m D.F.kp D.b .nil zlp L B U I
def zlI {q:List Bool}:((List.range q.length).all λi=>q.getD i true)=q.all id:=by
 rw[b8,bc,bc];constructor;intro h b F;obtain⟨i,hi,e⟩:=bF.mp F;right;intro h i hi;have B:=aU.mp hi;have:=h q[i] (bL B);right
def zmx (Z:X.calm=true):zdw X (.builtin "all") (λxs H Q=>∃ (p:Addr) (B:List Bool),xs=[.ref p]/\H p=some (.lst (B.map V.bl))/\Q (.bl (B.all id)) H):=by
 intro pins s σ H xs us Q I r h;obtain⟨p,B,rfl,hp,q⟩:=h;obtain⟨u,rfl,ru⟩:=zba r;cases ru;obtain⟨its,U,pl,hz⟩:=I.list (.of hp);have F:=U.length;rw[ab] at F;have W:Walks X.prog X.w X.A.in1 s.heap.objs.size [s.heap.objs.size,p] [s.heap.objs.size] its.toArray.size (λi v=>its.toArray[i]?=some v) (λi h=>h.IsListIter s.heap.objs.size p i/\h.IsList p its.toArray):=by show Walks.list (A:=X.A.in1) (I.ok.hd Z) s.heap.objs.size p ?_ its.toArray;obtain⟨o,_,ho,_⟩:=pl;exact aL (aA ho)
 show call_all_walk (fm pl.isList ⟨s.heap.objs.size,_,_,_,_,_,λi=>B.getD i true,rfl,W,⟨?_,?_⟩,?_,?_⟩);exact⟨_,aC _ rfl,rfl,rfl⟩;exact pl.isList.at λo e=>aj _ e;intro i v s' Q' E' hP L;have O:its[i]?=some v:=by simpa using hP
 have hi:i<B.length:=by grind
 have hb:(B.map V.bl)[i]?=some (V.bl B[i]):=by simp[hi]
 obtain⟨u',J,rb⟩:=U.get hb;rw[O] at J;cases J;cases rb;have:B.getD i true=B[i]:=by simp[hi]
 dsimp only at L;rw[this] at L;exact bN L;intro h' tk hk;have e:(List.range its.toArray.size).all (λi=>B.getD i true)=B.all id:=by rw[aY,<- F];exact zlI
 rw[e];exact⟨.bl _,H,I.kept (t':=tk) λb o Y=>hk b o (by simp;exact aL (aA Y)) (aj _ Y),rfl,q⟩
end
structure QE (X:Cx)(e:Expr)(t:TE):Prop where
 run:PE X e t
structure QT (X:Cx)(e:Expr)(t:TT):Prop where
 run:PT X e t
structure QW (X:Cx)(e:Expr)(t:TT):Prop where
 run:PW X e t
structure QC (X:Cx)(op:CmpOp)(a b:Expr)(t:TE):Prop where
 run:PC X op a b t
structure QA (X:Cx)(es:AO)(t:TA):Prop where
 run:PA X es t
structure QS (X:Cx)(s:Stmt)(t:TS):Prop where
 run:PS X s t
structure QSs (X:Cx)(s:List Stmt)(t:TS):Prop where
 run:PSs X s t
structure QG (X:Cx)(e:Expr)(t:TG):Prop where
 run:PG X e t
structure QGs (X:Cx)(es:AO)(t:TGs):Prop where
 run:PGs X es t
structure QI (X:Cx)(tg e:Expr)(t:TI):Prop where
 run:PI X tg e t
structure QO (X:Cx)(e:Option Expr)(t:TO):Prop where
 run:PO X e t
structure QP (X:Cx)(pos:Pos)(ks:List (Option Expr))(vs:AO)(t:List (TE×TE)):Prop where
 run:PPs X pos ks vs t
structure QTs (X:Cx)(es:AO)(t:TT):Prop where
 run:PTs X es t
structure OpQ (X:Cx)(f:Value->Value->Sem Value)(r:R2):Prop where
 run:OpR X f r
structure UnQ (X:Cx)(f:Value->Sem Value)(r:V->Hp->VK->Prop):Prop where
 run:UnR X f r
structure CallQ (X:Cx)(f:Value)(r:AT->Hp->VK->Prop):Prop where
 run:zdw X f r
structure IxQ (X:Cx)(r:R2):Prop where
 run:IxR X r
structure SlQ (X:Cx)(r:V->AQ->AQ->Hp->VK->Prop):Prop where
 run:SlR X r
section
variable {X:Cx}{e a b c:Expr}{es:AO}{te ta tb tc:TE}{t u:TT}{pos p:Pos}
def qv(i:Nat)(B:X.N[i]?=some x:=by rfl)(F:Vis X.env.scope x:=by walk_at "v")(I:Ah x:=by ext)(q:(x==("__classdict__" : Str))=false:=by ext):QE X (.Name x pos) (zbL i):=⟨zoQ B F I q⟩
def yE{i:Int}:QE X (.Constant (.int i) j pos) (tC (.int i)):=⟨zoP⟩
def zq6:QE X (.Constant (.bool k) j pos) (tC (.bl k)):=⟨zwJ⟩
def zt4:QE X (.Constant .none j pos) (tC .non):=⟨ztC⟩
def x8:QE X (.Constant (.str x) j pos) (tC (.str x)):=⟨ztF⟩
def zq7(q:Gl X x)(B:X.mg x=none)(F:bootBuiltins x=some w)(r:yB v w)(I:x ≠ "__name__" := by ext)(J:Ah x:=by ext):QE X (.Name x pos) (tC v):=⟨zqG q B F r I J⟩
def yd:OpQ X (binaryOp .Add) (rI0 λi j=>.int (i+j)):=⟨ztk⟩
def zoN:OpQ X (binaryOp .Sub) (rI0 λi j=>.int (i - j)):=⟨ztr⟩
def zc8:OpQ X (binaryOp .Mult) (rI zu5 λi j=>.int (i * j)):=⟨zto⟩
def zeX:OpQ X (binaryOp .FloorDiv) (rI zr2 λi j=>.int (i / j)):=⟨zqD⟩
def zaV:OpQ X (binaryOp .Mod) (rI (λ_ j=>0<j) λi j=>.int (i % j)):=⟨ztn⟩
def zlo:OpQ X (binaryOp .Pow) (rI CPow λi j=>.int (i ^ j.toNat)):=⟨ztp⟩
def yt:OpQ X (binaryOp .Add) (zlF X.K):=⟨zqB⟩
def zts:OpQ X (binaryOp .Add) rCat:=⟨ztl⟩
def zoM:OpQ X (binaryOp .Mult) zvq:=⟨ztq⟩
def zht:OpQ X (compareOp .Lt) (rI0 λi j=>.bl (decide (i<j))):=⟨zwG⟩
def zqE:OpQ X (compareOp .LtE) (rI0 λi j=>.bl (decide (i<=j))):=⟨zwF⟩
def znp:OpQ X (compareOp .Gt) (rI0 λi j=>.bl (decide (j<i))):=⟨zwE⟩
def zwI:OpQ X (compareOp .GtE) (rI0 λi j=>.bl (decide (j<=i))):=⟨zwD⟩
def yF:OpQ X (compareOp .Eq) rEq:=⟨zwC⟩
def zeY:OpQ X (compareOp .NotEq) rNe:=⟨zwH⟩
def zhs:OpQ X (compareOp .IsNot) (λx y H Q=>∃a b,x = .bl a/\y = .bl b/\Q (.bl (a != b)) H):=⟨zhr⟩
def zln:OpQ X (compareOp .In) (rIn X.K false):=⟨zlm⟩
def zgg:OpQ X (compareOp .NotIn) (rIn X.K true):=⟨zge⟩
def zmf:UnQ X (unaryOp .USub) (rU λi=>.int (-i)):=⟨zpe⟩
def yX(B:OpQ X (binaryOp q) r)(F:QE X a ta)(I:QE X b tb):QE X (.BinOp a q b pos) (tOp r ta tb):=⟨zwL B.run F.run I.run⟩
def zwP(B:UnQ X (unaryOp q) r)(F:QE X a ta):QE X (.UnaryOp q a pos) (tUn r ta):=⟨ztG B.run F.run⟩
def zq8(B:OpQ X (compareOp q) r)(F:QE X a ta)(I:QE X b tb)(J:behindInMarks q b=false):QE X (.Compare a [q] [b] pos) (tOp r ta tb):=⟨zqH B.run F.run I.run J⟩
def zau(B:OpQ X (compareOp q) r)(F:QE X a ta)(I:QE X b tb)(J:behindInMarks q b=false):QT X (.Compare a [q] [b] pos) (zrM (tOp r ta tb)):=⟨zq2 B.run F.run I.run J⟩
def znH(J:OpQ X (compareOp B) r)(F:OpQ X (compareOp q) I)(L:QE X a ta)(O:QE X b tb)(U:QE X c tc)(Y:lastMarks [B,q] [b,c]=false:=by with_unfolding_all rfl) :
  QE X (.Compare a [B,q] [b,c] pos) (zl0 r I ta tb tc):=⟨znu J.run F.run L.run O.run U.run Y⟩
def ztY(q:QE X a ta):QC X .Is a (.Constant .none j pos') (tIsN ta):=⟨zty q.run⟩
def zt7(h:QC X q a b te)(h1:behindInMarks q b=false:=by first | exact zij _ (by ext) (by ext) | rfl):QT X (.Compare a [q] [b] pos) (tB te):=⟨zoT h.run h1⟩
def zoW (h:QE X e te)(he:∀whole,isTrue e X.env whole=(do let v <- whole;standAt e.pos;holding [v] (truthy v)):=by intro _;rfl):QT X e (tB te):=⟨ztV h.run he⟩
def znP (h:QE X e te)(he:∀whole,isTrue e X.env whole=(do let v <- whole;standAt e.pos;holding [v] (truthy v)):=by intro _;rfl):QT X e (λσ H Q=>te σ H λx H'=>∃k,zvB X.K x H' k/\Q k H'):=⟨znF h.run he⟩
def zt8 (h:QT X a t):QT X (.UnaryOp .Not a pos) (tNot t):=⟨ztU h.run⟩
def zhy (h:QT X a t):QW X (.BoolOp .And [a] pos) t:=⟨zq5 h.run⟩
def zt9 (h:QT X a t):QW X (.BoolOp .Or [a] pos) t:=⟨ztX h.run⟩
def ziw {zQ:AO}(h:QT X a t)(h':QW X (.BoolOp .And (b::zQ) pos) u):QW X (.BoolOp .And (a::b::zQ) pos) (zw1 t u):=⟨ztW h.run h'.run⟩
def zwQ {zQ:AO}(h:QT X a t)(h':QW X (.BoolOp .Or (b::zQ) pos) u):QW X (.BoolOp .Or (a::b::zQ) pos) (tOr t u):=⟨zwO h.run h'.run⟩
def QW.pt (h:QW X e t):QT X e t:=⟨h.run.pt⟩
def zt6(h:QE X a ta):QE X (.BoolOp q [a] pos) ta:=⟨ztE h.run⟩
def ztZ {zQ:AO}(q:QE X a ta)(B:QE X (.BoolOp .And (b::zQ) pos) tb):QE X (.BoolOp .And (a::b::zQ) pos) (zuw ta tb):=⟨ztz q.run B.run⟩
def zt5 (q:QE X a ta):QE X (.UnaryOp .Not a pos) (zuD ta):=⟨ztD q.run⟩
def znK (q:QT X c t)(B:QE X a ta)(F:QE X b tb):QE X (.IfExp c a b pos) (tIf t ta tb):=⟨znw q.run B.run F.run⟩
def ye:QA X [] zpb:=⟨zoO⟩
def zG(B:QE X e te)(F:QA X es q)(hs:starEach (e::es) X.env=(false,eval e X.env)::starEach es X.env:=by rfl):QA X (e::es) (za8 te q):=⟨zb4 B.run F.run hs⟩
def znI:QE X (.Dict [] [] pos) zo8:=⟨znv⟩
def zri:QP X pos [] [] []:=⟨zqZ⟩
def ze7(B:QE X k tk)(F:QE X v tv)(I:QP X pos ks vs q):QP X pos (some k::ks) (v::vs) ((tk,tv)::q):=⟨znC B.run F.run I.run⟩
def zra(h:QP X pos q B F)(I:q.all (·.isSome)=true)(L:q.length=B.length)(O:q≠[])(J:q.length<=15):QE X (.Dict q B pos) (zux F):=⟨zqI h.run I L O J⟩
def ze5:QO X none zl3:=⟨zqX⟩
def ze6 (h:QE X e te):QO X (some e) (zuE te):=⟨zqY h.run⟩
def zhJ:SlQ X rSlA:=⟨zrC⟩
def zlX:SlQ X (rSlL X.K):=⟨zrB⟩
def zbE{r:V->AQ->AQ->Hp->VK->Prop}{lo hi:Option Expr}{tl th:TO}(q:SlQ X r)(B:QE X e te)(F:QO X lo tl)(I:QO X hi th):QE X (.Subscript e (.Slice lo hi none p2) pos) (tSl r te tl th):=⟨znx q.run B.run F.run I.run⟩
def yv:IxQ X (zvp X.K):=⟨zp2⟩
def yR:IxQ X (zua X.K):=⟨zsV⟩
def znL(q:IxQ X r)(B:QE X a ta)(F:QE X b tb)(hs:zgL b):QE X (.Subscript a b pos) (tOp r ta tb):=⟨zwK q.run B.run F.run hs⟩
def ui (q:X.A.units+1<cLine)(B:QE X a ta)(F:QE X b tb)(hs:zsb b):QE X (.Subscript a b pos) (zrG ta tb):=⟨zls q B.run F.run hs⟩
def ym:CallQ X (.builtin "len") (λxs H Q=>∃x n,xs=[x]/\zr8 X.K x H n/\Q (.int n) H):=⟨zmy⟩
def zjT:CallQ X (.builtin "abs") (λxs H Q=>∃i,xs=[.int i]/\Q (.int (if i<0 then -i else i)) H):=⟨zmw⟩
def zpv (q:X.calm=true):CallQ X (.builtin "max") (λxs H Q=>∃i j,xs=[.int i,.int j]/\Q (.int (if j > i then j else i)) H):=⟨zjK q⟩
def zjV:CallQ X (.builtin "isinstance") (λxs H Q=>∃x T t b,xs=[x,.ty T]/\TyOf X.K H x t/\PySem.W.kitOne X.K t (.type T)=some b/\Q (.bl b) H):=⟨zgP⟩
def zjU (B:X.calm=true):CallQ X (.builtin "all") (λxs H Q=>∃ (p:Addr) (q:List Bool),xs=[.ref p]/\H p=some (.lst (q.map V.bl))/\Q (.bl (q.all id)) H):=⟨zmx B⟩
def ziR:CallQ X (.type "list") (λxs H Q=>∃p ys,xs=[.ref p]/\(SqL X.K H p ys\/SqT X.K H p ys)/\∀l,H l=none->Q (.ref l) (upd H l (.lst ys))):=⟨zfA⟩
def zgR:CallQ X (.type "tuple") (λxs H Q=>∃p ys,xs=[.ref p]/\((SqL X.K H p ys/\∀l,H l=none->Q (.ref l) (upd H l (.tup ys)))\/(SqT X.K H p ys/\Q (.ref p) H))):=⟨zep⟩
def xp {id:String}{r:AT->Hp->VK->Prop}{x:Str}{F:TA}(I:CallQ X (.builtin id) r)(J:Gl X x)(L:X.mg x=none)(O:bootBuiltins x=some (.builtin id))(U:QA X (e::es) F)(Y:x ≠ "__name__" := by ext)(q:Ah x:=by ext)
  (Z:starEach (e::es) X.env=(false,eval e X.env)::starEach es X.env:=by rfl) (B:(backTo pos (starEach es X.env)).any (·.1)=false:=by rfl):QE X (.Call (.Name x p) (e::es) [] pos) (tCB r F):=⟨znt I.run J L O U.run Y q Z B⟩
def zat(I:CallQ X (.type T) r)(J:Gl X x)(L:X.mg x=none)(O:bootBuiltins x=some (.type T))(U:QA X (e::es) F)(Y:x ≠ "__name__" := by ext)(q:Ah x:=by ext)(Z:starEach (e::es) X.env=(false,eval e X.env)::starEach es X.env:=by rfl)(B:(backTo pos (starEach es X.env)).any (·.1)=false:=by rfl):QE X (.Call (.Name x p) (e::es) [] pos) (tCB r F):=⟨zlr I.run J L O U.run Y q Z B⟩
def zje{x:Str}{st:Stmt}{ps:AM}{f:Addr}{fd:Ac}{sp:Sp}(D:Dfn X.K X.mg x st ps f fd)(G:FnOk X.prog X.w X.K X.mg X.base CX0 j f fd ps sp)(J:Room k X.A)(L:QA X (e::es) I)(q:j<=k:=by ext)(O:Gl X x:=by rfl)(B:Ah x:=by ext)(U:starEach (e::es) X.env=(false,eval e X.env)::starEach es X.env:=by rfl)(F:(backTo pos (starEach es X.env)).any (·.1)=false:=by rfl) :
  QE X (.Call (.Name x p) (e::es) [] pos) (zdt sp [] E0 I):=⟨ztB D G J L.run q O B U F⟩
def x9(q:X.N.Nodup)(hi:X.N[i]?=some x)(B:Loc X.env.scope x)(F:X.fn x=true\/X.env.scope.names.lookup x=some .local:=by walk_at "l"):QG X (.Name x pos) (zag i):=⟨zqS q hi B F⟩
def zhx:QGs X [] gNil:=⟨zqT⟩
def uN(h1:QG X e g)(h2:QGs X es gs)(hs:(assignEach (e::es) X.env).map (·.2)=assign e X.env::(assignEach es X.env).map (·.2):=by rfl):QGs X (e::es) (zsK g gs):=⟨znz h1.run h2.run hs⟩
def zoU {k:Nat}{gs:TGs}{n:Nat}(B:X.calm=true)(h:QGs X es gs)(F:(assignEach es X.env).length=n:=by rfl)(q:(assignEach es X.env).findIdx? (·.1)=none:=by rfl):QG X (.Tuple es k pos) (zv2 X.K n gs):=⟨ztN B h.run F q⟩
def ze4(q:QE X e te):QI X tg e (zpW X.K te):=⟨zqV q.run⟩
def zlB(q:QE X e te):QI X tg e (zv4 X.K te):=⟨ztO q.run⟩
def zlA(B:Gl X "range")(F:X.mg "range" = none)(I:QA X [a] q)(hs:starEach [a] X.env=[(false,eval a X.env)]:=by rfl):QI X tg (.Call (.Name "range" p) [a] [] pos) (zsM q):=⟨zlu B F I.run hs⟩
def zfa:QTs X [] zb9:=⟨zq3⟩
def zlE (h:QT X c t):QTs X [c] t:=⟨zq4 h.run⟩
def zq9(B:X.calm=true)(c:CompOk X scope N cix)(hi:QI X tg iter wi)(F:∀C s H ex,QG (zC X scope N C s H ex) tg g)(J:∀C s H ex,QTs (zC X scope N C s H ex) ifs ti)(L:∀C s H ex,QE (zC X scope N C s H ex) elt te)(hs:∀x,foldedSetIterable iter X.env x=pure x:=by intro _;rfl):QE X (.ListComp elt [⟨tg,iter,ifs,0⟩] scope pos) (zw2 wi g ti te cix):=⟨λpins s σ H Q I h=>by
 rw[eval_ListComp];exact zf2 (Fin:=λacc H=>Q (.ref acc) H) (uv c) B hi.run (zcy λC s H ex=>(F C s H ex).run) (zcy λC s H ex=>(J C s H ex).run) (zcy λC s H ex=>(L C s H ex).run) hs I h λ_ _ _ _ _ O U q=>zew O U q⟩
end
section
variable {X:Cx}{st:Stmt}{sts body a b:List Stmt}{t u:TS}{e o i:Expr}{te td ty tv:TE}{pos:Pos}
def zdc:QSs X [] zrK:=⟨zlx⟩
def zW (h1:QS X st t)(h2:QSs X sts u):QSs X (st::sts) (zrL t u):=⟨zbC h1.run h2.run⟩
def xq (h1:QS X st t):QSs X [st] t:=⟨ze3 h1.run⟩
def ze9 (q:QE X e te)(hs:swapsWith e none pos.line X.env=pure false:=by rfl):QS X (.Expr e pos) (zrI te):=⟨zq1 q.run hs⟩
def uY (q:QE X e te):QS X (.Return (some e) pos) (zuF te):=⟨zoS q.run⟩
def zlD(q:QT X c tc)(B:QSs X a t)(F:QSs X b u):QS X (.If c a b pos) (zw4 tc t u):=⟨ztS q.run B.run F.run⟩
def ua {i:Nat}{x:Str}{pos':Pos}(q:X.N.Nodup)(hi:X.N[i]?=some x)(B:Loc X.env.scope x)(F:QE X e te)(hs:swapsWith e (some (.Name x pos')) pos.line X.env=pure false:=by rfl)(I:X.fn x=true\/X.env.scope.names.lookup x=some .local:=by walk_at "l") :
  QS X (.Assign [.Name x pos'] e pos) (zgK te (zag i)):=⟨ztT q hi B F.run hs I⟩
def zoV(q:QE X e te)(B:QG X tg g)(hs:swapsWithSole [tg] e pos.line X.env=pure false:=by rfl)(F:swappedStores [tg] e X.env=pure none:=by rfl)(h1:(assignEach [tg] X.env).map (·.2)=[assign tg X.env]:=by rfl):QS X (.Assign [tg] e pos) (zgK te g):=⟨ztP q.run B.run hs F h1⟩
def ze8(q:X.A.units+1<cLine)(B:QE X o td)(hi:QE X i ty)(F:QE X e tv)(hs:swapsWith e (some (.Subscript o i pos')) pos.line X.env=pure false):QS X (.Assign [.Subscript o i pos'] e pos) (zrx td ty tv):=⟨zlw q B.run hi.run F.run hs⟩
def zlC(q:PassesOwn (model X.prog X.w) X.A X.env X.xe)(B:X.calm=true)(hi:QI X tg iter wi)(F:QG X tg g)(I:QSs X body t)(hs:∀x,foldedSetIterable iter X.env x=pure x:=by intro _;rfl):QS X (.For tg iter body [] pos) (zw3 wi g t):=⟨ztR q B hi.run F.run I.run hs⟩
end
def Fun.okQ{P:Aa}{w:Ab}{K:AH}{mg:AI}{base:Heap}{x B:Str}{st:Stmt}{f:Addr}{fd:Ac}{N ps:AM}{sp:Sp}(F:Fun K x B st f fd)(S:FnScope N ps (zd st))(L:∀vs H Q E,sp vs H Q E->vs.length=ps.length)(J:∀ (I:Value) (A:Ae) (q:List Env) (s:AZ) (H:Hp) (vs:AT) (Q:VK) (E:XK),Room k (A.deeper (envOfC B (zd st) s.heap.objs.size f I))->sp vs H Q E->
   ∃t,QSs (zdN CX0 P w K mg base N B (zd st) f I A q s H E).nox (zJ st) t/\t { nx:=λ_ H'=>Q .non H',rt:=Q } (xi N vs) H):FnOk P w K mg base CX0 (k+1) f fd ps sp:=
 F.ok S L λI A q s H vs Q E O h=>by obtain⟨t,h1,h2⟩:=J I A q s H vs Q E O h;exact⟨t,h1.run,h2⟩
def s_ca:¬ (("cells" : Str) = "at"):=by decide +kernel
def s_cl:¬ (("cells" : Str) = "left"):=by decide +kernel
def s_al:¬ (("at" : Str) = "left"):=by decide +kernel
def zwd:¬ (Sum.inr "cells" : Key)=(Sum.inr "at" : Key):=λz=>s_ca (Sum.inr.inj z)
def zwe:¬ (Sum.inr "cells" : Key)=(Sum.inr "left" : Key):=λz=>s_cl (Sum.inr.inj z)
def zvh:¬ (Sum.inr "at" : Key)=(Sum.inr "left" : Key):=λz=>s_al (Sum.inr.inj z)
def zbN (c:Addr)(a l:Int):List (Key×V):=[(Sum.inr "cells",.ref c),(Sum.inr "at",.int a),(Sum.inr "left",.int l)]
def zwM (c:Addr)(a l:Int):um (zbN c a l) (Sum.inr "cells" : Key)=some (.ref c):=ya rfl
def zqR (c:Addr)(a l:Int):um (zbN c a l) (Sum.inr "at" : Key)=some (.int a):=by unfold zbN;rw[yj zwd,ya rfl]
def zwN (c:Addr)(a l:Int):um (zbN c a l) (Sum.inr "left" : Key)=some (.int l):=by unfold zbN;rw[yj zwe,yj zvh,ya rfl]
def ztJ (c:Addr)(a l b:Int):zad (zbN c a l) (Sum.inr "at" : Key) (.int b)=zbN c b l:=by unfold zad zbN;have q:=zwd;have B:¬ (Sum.inr "left" : Key)=(Sum.inr "at" : Key):=λz=>zvh z.symm;simp[q,B]
def ztK (c:Addr)(a l b:Int):zad (zbN c a l) (Sum.inr "left" : Key) (.int b)=zbN c a b:=by unfold zad zbN;have q:=zwe;have B:=zvh;simp[q,B]
def ztI (c:Addr)(a l:Int):zc5 [] (zbN c a l)=zbN c a l:=by unfold zc5 zbN;have q:=zwd;have B:=zwe;have F:=zvh;simp[zad,q,B,F]
structure Pen (H:Hp)(p c:Addr)(ns:AG)(n:Nat):Prop where
 ob:∃a l:Int,H p=some (.dK (zbN c a l))/\0<=a/\a<=n/\0<=l
 ls:H c=some (.lst (ns.map V.int))
 len:ns.length<=63
def Pen.same{ns:AG}(P:Pen H p c ns n)(h:yJ H H'):Pen H' p c ns n:=by obtain⟨⟨a,l,h1,h2,q,B⟩,F,I⟩:=P;exact⟨⟨a,l,h _ _ h1,h2,q,B⟩,h _ _ F,I⟩
def zfj{a l:Int}(h:H p=some (.dK (zbN c a l))):zB H (upd H p o):=λb u e n=>by
 by_cases q:b=p;subst q;rw[h] at e;cases e;have:=n _ rfl;rw[zqR] at this;cases this;rw[zg q];exact e
section
variable {H:Hp}{p c:Addr}{a l:Int}
def ziq (h:H p=some (.dK (zbN c a l))):zbO H p (.str "cells") (some (.ref c)):=by have:=zbO.k (k:=(Sum.inr "cells" : Key)) h;rw[zwM] at this;exact this
def ztH (h:H p=some (.dK (zbN c a l))):zbO H p (.str "at") (some (.int a)):=by have:=zbO.k (k:=(Sum.inr "at" : Key)) h;rw[zqR] at this;exact this
def zlt (h:H p=some (.dK (zbN c a l))):zbO H p (.str "left") (some (.int l)):=by have:=zbO.k (k:=(Sum.inr "left" : Key)) h;rw[zwN] at this;exact this
def ztL (h:H p=some (.dK (zbN c a l)))(b:Int):zdx H p (.str "at") (.int b) (upd H p (.dK (zbN c b l))):=by have:=zdx.k (k:=(Sum.inr "at" : Key)) (v:=.int b) h (by change 3<sizeLine;decide);rw[ztJ] at this;exact this
def zoR (h:H p=some (.dK (zbN c a l)))(b:Int):zdx H p (.str "left") (.int b) (upd H p (.dK (zbN c a b))):=by have:=zdx.k (k:=(Sum.inr "left" : Key)) (v:=.int b) h (by change 3<sizeLine;decide);rw[ztK] at this;exact this
end
def zse (ns:AG)(a:Int)(h:0<((ns.map V.int).length:Int)):∃z,atI (ns.map V.int) (a % ((ns.map V.int).length:Int))=some (.int z):=by
 have q:=cI a (show ((ns.map V.int).length:Int)≠0 by lia);have h1:=cb a h;generalize F:a % ((ns.map V.int).length:Int)=m at q h1;obtain⟨j,rfl⟩:∃j:Nat,m=j:=⟨m.toNat,by lia⟩;have B:j<ns.length:=by rw[ab] at h1;lia
 exact⟨ns[j],zjD (by simp[B])⟩
def zn5 {a:Int}{n:Nat}(q:0<=a)(h1:a<=n)(h2:n<=1000000):0<=60013 * a * a/\60013 * a * a<=60013000000000000:=by have e:60013 * a * a=60013 * (a * a):=Int.mul_assoc _ _ _;have B:0<=a * a:=e8 q q;have F:a * a<=1000000 * 1000000:=db (by lia) (by lia) q (by lia);rw[e];lia
def meet {α:Type}{G:Prop}(P:α->Prop)(h:(∀a,P a)->G)(r:∀a,P a):G:=h r
def zwy {G:Prop}(P:Prop)(h:P->G)(r:P):G:=h r
def zlU:Sp:=λvs H Q _=>∃ (p c:Addr) (ns:AG) (n:Nat) (yH:Int),vs=[.ref p,.int yH]/\Pen H p c ns n/\n<=1000000/\1<=yH/\yH<1073741824/\
 ∀ (r:Int) (H':Hp),0<=r->r<yH->Pen H' p c ns (n+1)->zB H H'->Q (.int r) H'
def zn4 (K:AH):Sp:=λvs H Q _=>∃ (a:Addr) (ns:AG),vs=[.ref a]/\SqL K H a (ns.map V.int)/\ns.length<=63/\∀ (p c:Addr) (H':Hp),Pen H' p c ns 0->yJ H H'->Q (.ref p) H'
def yD (ns:AG):Int:=ns.foldl (· * ·) 1
def ux (ns:AG)(n:Int):yD (ns++[n])=yD ns * n:=by unfold yD;rw[List.foldl_append];rfl
def zj{α:Type}{l:List α}{x:α}(h:l[i]?=some x):l.take (i+1)=l.take i++[x]:=by rw[List.take_succ,h];rfl
def Dt.inBox:Dt->Bool
 | .int i=>decide (2<=i)&&decide (i<=4)
 | _=>false
def Dt.val:Dt->Int
 | .int i=>i
 | _=>0
def uT:∀ (ns:AG),(ns.map Dt.int).map Dt.val=ns
 | []=>rfl
 | n::ns=>by simp only[az,uT ns];rfl
def zlW (K:AH):Sp:=λvs H Q _=>∃ (a:Addr) (ns:AG),vs=[.ref a]/\SqL K H a (ns.map V.int)/\ns.length<=63/\∀H',Q (.bl true) H'
def zoE {g:TG}{x:V}{σ:St}{H:Hp}{A B:St->Hp->Prop}(h:g x σ H A):g x σ H λq H3=>zb9 q H3 λF H4=>if F=true then A q H4 else B q H4:=by
 have e:(λq H3=>zb9 q H3 λF H4=>if F=true then A q H4 else B q H4)=A:=by funext q H3;change (if true=true then A q H3 else B q H3)=A q H3;rw[if_pos rfl]
 rw[e];exact h
section
variable {prog:Aa}{w:Ab}{A:Ae}{E:AA}{s:AZ}
def zb0{items}(q:s.heap.IsTupleIter B t i)(O:s.heap.IsTuple t items)(U:items[i]?=some x)(Y:∀h',h'.IsTupleIter B t (i+1)->Heap.SameBut B s.heap h'->Q x { s with heap:=h' }):Ag prog w A (Builtin.SmallTypes.nextOf (.ref B)) Q E s:=by
 obtain⟨o,I,Z,F⟩:=id q;obtain⟨ol,J,_,nl,L⟩:=O;unfold Builtin.SmallTypes.nextOf
 show aa (wpAny_callSpecial?_slot (name:=Str.ofString "__next__") q.typeIs cx
  (aZ cx q.typeIs eG ?_ (eA _)))
 change wpAny _ _ (field (.ref B) 0 >>= _) _ _ s;show aa (cU I F (x:=.ref t) rfl ?_);change wpAny _ _ (if (Value.ref t==Value.none)=true then _ else _) _ _ s;rw[if_neg (by grind)];change wpAny _ _ (field (.ref B) 1 >>= _) _ _ s;show aa (cU I F (x:=.int i 0) rfl ?_);change wpAny _ _ (seqItems? (.ref t) >>= _) _ _ s;show aa (ff J L ?_);simp only[aP,U];show aa (cF I F (by simp) (ae ⟨x,rfl,ae (Y _ ?_ (bu ..))⟩))
 exact⟨_,b9 _ I (cV (bT F _)),(dS ..).trans Z,by
  rw[bT F];simp[rawInt]⟩
def uX{items}(O:A.handled=none)(q:s.heap.IsTupleIter B t i)(U:s.heap.IsTuple t items)(Y:items[i]?=none)(Z:∀h' e,Heap.ExtBut B s.heap h'->(∃o,h'.get? e=some o/\o.cls = .type "StopIteration")->E (.ref e) { s with heap:=h' }):Ag prog w A (Builtin.SmallTypes.nextOf (.ref B)) Q E s:=by
 obtain⟨o,F,hc,I⟩:=id q;obtain⟨ol,J,_,nl,L⟩:=U;unfold Builtin.SmallTypes.nextOf
 show aa (wpAny_callSpecial?_slot (name:=Str.ofString "__next__") q.typeIs cx
  (aZ cx q.typeIs eG ?_ (eA _)))
 change wpAny _ _ (field (.ref B) 0 >>= _) _ _ s;show aa (cU F I (x:=.ref t) rfl ?_);change wpAny _ _ (if (Value.ref t==Value.none)=true then _ else _) _ _ s;rw[if_neg (by grind)];change wpAny _ _ (field (.ref B) 1 >>= _) _ _ s;show aa (cU F I (x:=.int i 0) rfl ?_);change wpAny _ _ (seqItems? (.ref t) >>= _) _ _ s;show aa (ff J L ?_);simp only[aP,Y];show aa (fS (aa (cF F I (by simp) ?_)));change wpAny _ _ (newExc (.type "StopIteration") [] >>= _) _ _ _;show aa ?_;simp only[newExc,newTuple];show aa (bj ?_ (by size_fits));show aa (m:=firstArgMember _ _) (fG (a:=Value.none) (by first | rfl | (simp only[firstArgMember];rfl)) ?_);show bj ?_ (by size_fits);simp only[raiseNew];show aa (fH ?_)
 first | rw[show A.in1.handled=none from O] | rw[O]
 show aa (ae (wpAny_throw ?_));exact Z _ _ (((bu ..).extBut.push _).push _) ⟨_,aC _ rfl,rfl⟩
def zgU (L:A.handled=none)(q l:Addr)(I:l≠q)(items:AK) :
  Draws prog w A q [q,l] items.size (λi v=>items[i]?=some v) (λi h=>h.IsTupleIter q l i/\h.IsTuple l items) where
 live:=λ_ _ st=>let ⟨o,ho,_⟩:=st.1;⟨o,ho⟩
 frame:=λ_ _ _ st J=>⟨let ⟨o,ho,r⟩:=st.1;⟨o,J q (by simp) o ho,r⟩,let ⟨o,ho,r⟩:=st.2;⟨o,J l (by simp) o ho,r⟩⟩
 item:=λi s Q E hi st O=>by show zb0 st.1 st.2 (x:=items[i]) (by simp[hi]) λh' B F=>?_;exact O _ h' s.toks (by simp[hi]) ⟨B,st.2.extBut F.extBut I⟩ F
 done:=λs Q E st U=>uX L st.1 st.2 (by simp) U
def zaL (l:Addr)(items:AK)(n:Nat)(B:Option Addr)(J:Array AJ) :
  Meets (Builtin.«enumerate.__new__» ⟨[.type "enumerate",.ref l],[]⟩) (λ_ R s=>s.heap.get? l=some { cls:=.type "tuple",dict:=B,data:=.seq items n,slots:=J }/\
   R (.ok (.ret (.ref (s.heap.push { cls:=.type "tuple_iterator",data:=.fields #[.ref l,.int 0 0] }).objs.size)))
    { s with heap:=(s.heap.push { cls:=.type "tuple_iterator",data:=.fields #[.ref l,.int 0 0] }).push { cls:=.type "enumerate",data:=.fields #[.none,.bool false,.ref s.heap.objs.size,rawInt 0,.none,.none] } }):=
 .of_wp λprog w A R s h=>by
  obtain⟨L,g,d,tk,O⟩:=s;obtain⟨q,h⟩:=h;have I:=sub_enumerate;have F:Heap.IsTuple (Shared.heap ⟨L,g,d,tk,O⟩) l items:=⟨_,q,rfl,n,rfl⟩
  wp_walk using cJ q
  show wpAny_stack_any λst=>ae ?_;split
  ·rename_i c _ _ _ _ _;cases (c==Value.type "enumerate")
   wp_walk using cJ q,dE F
   exact⟨_,rfl,h⟩
   wp_walk using cJ q,dE F
   exact⟨_,rfl,h⟩
  wp_walk using cJ q,dE F
  exact⟨_,rfl,h⟩
def zaK(U:s.heap.IsTuple l items)(h:∀h',IsEnum h' (s.heap.objs.size+1) s.heap.objs.size 0 .none->h'.IsTupleIter s.heap.objs.size l 0->h'.objs.size=s.heap.objs.size+2->
   (∀b o,s.heap.get? b=some o->h'.get? b=some o)->Q (.ref (s.heap.objs.size+1)) { s with heap:=h' }) :
  Ag prog w A (call (.type "enumerate") [.ref l]) Q E s:=by
 obtain⟨⟨c,q,Y,Z⟩,hl,B,n,I⟩:=U
 replace B:c = .type "tuple" := B
 replace I:Y = .seq items n:=I
 subst B I
 show callType_new F.called_enumerate (by ext) (F.typeCall_enumerate_1 _) (F.newCall_enumerate_1 _) (λJ=>F.args_object_init_2 J _) F.entry_enumerate_new
  (zaL l items n q Z) ⟨hl,?_⟩
 have L:(s.heap.push { cls:=.type "tuple_iterator",data:=.fields #[.ref l,.int 0 0] }).objs.size=s.heap.objs.size+1:=da ..;change _/\_;rw[L]
 have O:IsEnum ((s.heap.push { cls:=.type "tuple_iterator",data:=.fields #[.ref l,.int 0 0] }).push
   { cls:=.type "enumerate",data:=.fields #[.none,.bool false,.ref s.heap.objs.size,rawInt 0,.none,.none] }) (s.heap.objs.size+1) s.heap.objs.size 0 .none:=by
  have:=aC (s.heap.push { cls:=.type "tuple_iterator",data:=.fields #[.ref l,.int 0 0] })
   (o:={ cls:=.type "enumerate",data:=.fields #[.none,.bool false,.ref s.heap.objs.size,rawInt 0,.none,.none] }) rfl
  rw[L] at this;exact this
 show⟨⟨_,O,rfl⟩,h _ O ⟨_,aj _ (aC _ rfl),rfl,rfl⟩ (by simp) λb o x=>aj _ (aj _ x)⟩
end
def Ite (K:AH)(a:Addr):It:=
 ⟨λi H=>∃xs x,SqT K H a xs/\xs[i]?=some x,λi H v H'=>∃T x,v = .ref T/\H T=none/\H'=upd H T (.tup [.int i,x])/\∀xs,SqT K H a xs->xs[i]?=some x,λi H=>∃xs,SqT K H a xs/\xs.length<=i⟩
def zl7{P:Aa}{w:Ab}{K:AH}{elts:AO}{x1}(a L e:Addr)(ad:e≠L) :
  Turn P w K (.Tuple elts x1 tpos) (Ite K a) [e,L] e (λi h=>(∃U,IsEnum h e L i U)/\h.IsTupleIter L a i) where
 mem:=by simp
 obj:=λi h st b J=>by
  rcases aF.mp J with rfl | J;grind;rw[ao.mp J];obtain⟨_,o,e,c,d⟩:=st;right
 keep:=λi h h' st k=>by obtain⟨⟨U,he⟩,o,ho,r⟩:=st;exact⟨⟨U,k e (by simp) _ he⟩,o,k L (by simp) _ ho,r⟩
 item:=by
  intro X hP hw hK hc i pins s σ H E I hf st hg;subst hP hw hK;obtain⟨xs,x,hq,hx⟩:=hg;obtain⟨its,rv,p,hz⟩:=I.tuple hq;obtain⟨u,hu,ru⟩:=rv.get hx;obtain⟨f0,f1,f2,f3,f4,f5⟩:=hf e (by simp);obtain⟨g0,g1,g2,g3,g4,g5⟩:=hf L (by simp);obtain⟨⟨U,he⟩,Y⟩:=st;have hsz:i<its.toArray.size:=by have:=(ac.mp hu).1;simpa using this
  have a2:a≠L:=by
   intro z;obtain⟨o,ho,a3,_⟩:=p;obtain⟨o',b0,bo,_⟩:=Y;grind
  have a4:e≠a:=by
   intro z;obtain⟨o,ho,a3,_⟩:=p;grind
  show wpAny_pyNext_enum_itemD (zgU (A:=X.A.in1) (I.ok.hd hc) L a a2 its.toArray) he ⟨Y,p⟩ hsz ad (by simp[ad,a4]) λy h' tk hy ho an hT bs hk=>?_;have a5:y=u:=by right
  subst a5;show⟨_,rfl,?_⟩;show wpAny_letOwnedTupleGo_enum ho λZ ag O=>?_;have ap:s.heap.objs.size≠e:=dY (aA he);have a7:s.heap.objs.size≠L:=by obtain⟨o,as,_⟩:=Y;exact dY (aA as)
  have B:=I.hok.fresh (ah s.heap.objs.size);have kp:∀b o,b≠e->b≠L->s.heap.get? b=some o->Z.get? b=some o:=λb o h1 h2 J=>(O.2 b h1).trans (hk b o h1 h2 J);have av:Z.get? s.heap.objs.size=some { cls:=.type "tuple",data:=.seq #[.int i tk,y] }:=(O.2 _ ap).trans hT;obtain⟨oe,b1⟩:∃o,Z.get? e=some o:=⟨_,ag⟩;obtain⟨oi,as⟩:∃o,Z.get? L=some o:=by obtain⟨⟨o,al,_⟩,_⟩:=an;exact⟨o,(O.2 L (Ne.symm ad)).trans al⟩
  have bx:∀b u',H b=some u'->b≠e/\b≠L:=λb u' J=>⟨zc J f0,zc J g0⟩
  have a0:HOk X.prog X.w (upd H s.heap.objs.size (.tup [.int i,x])) Z:=by
   intro b u' J;by_cases a1:b=s.heap.objs.size;subst a1;rw[zh] at J;cases J;exact⟨by change 2<=sizeLine;decide,[.int i tk,y],.cons ⟨tk,rfl⟩ (.cons ru .nil),_,av,rfl,⟨0,rfl⟩,rfl⟩
   ·rw[zg a1] at J;show (I.hok b u' J).stay (λc v b2 q=>?_) (λc q=>?_) (λc ys q=>?_)
    ·show kp c v ?_ ?_ q
     all_goals grind
    rw[zg (zc q B)];exact q;rw[zg (zc q B)];exact q
  have I1:Inv X pins σ (upd H s.heap.objs.size (.tup [.int i,x])) { s with heap:=Z,toks:=tk+1 }:=by
   show Inv.step (ch:=[e,L]) (g':=s.gens) (d':=s.drawn) (t':=tk+1) I (λb J=>?_) (λb o h1 h2 h3 h4 h5=>?_) (λb o h1 h2 h3 h4 h5=>?_) (λb o h3 h4 h5=>?_) (λb o h3 h4=>?_) (λb ys q=>?_) (λb o u' q=>?_) (λb ps q=>?_) (λm hm=>?_) a0 I.bare;rcases aF.mp J with rfl | J;exact⟨f3,f1,f4,f5⟩;rw[ao.mp J];exact⟨g3,g1,g4,g5⟩;right;exact⟨o.slots,kp b o (λz=>h3 (by simp[z])) (λz=>h3 (by simp[z])) h4⟩;rw[zg (aL (aA h4))];exact h5;right;rw[zg (zc q B)];exact q;rw[zg (zc q B)];exact q;exact⟨#[],by rw[zg (zc q B),dJ];exact q⟩;obtain⟨o,es,ep,ba,r1⟩:=hm;exact⟨o,es,ep,kp _ o (Ne.symm f1) (Ne.symm g1) ba,r1⟩
  show⟨.ref s.heap.objs.size,_,I1,rfl,⟨s.heap.objs.size,x,rfl,B,rfl,λys bb=>by rw[I.tuple_inj bb hq];exact hx⟩,⟨⟨y,by have:=ag;push_cast;exact this⟩,?_⟩,λb J=>?_⟩;obtain⟨⟨o,al,r2⟩,_⟩:=an;exact⟨o,(O.2 L (Ne.symm ad)).trans al,r2⟩;rcases aF.mp J with rfl | J;rw[zg (Ne.symm ap)];exact f0;rw[ao.mp J,zg (Ne.symm a7)];exact g0
 done:=by
  intro X hP hw hK hc i pins s σ H E I hf st hg;subst hP hw hK;obtain⟨xs,hq,hx⟩:=hg;obtain⟨its,rv,p,hz⟩:=I.tuple hq;obtain⟨f0,f1,f2,f3,f4,f5⟩:=hf L (by simp);obtain⟨⟨U,he⟩,Y⟩:=st;have hl:=rv.length;have hT:s.TypeIs (.ref e) "enumerate" := ⟨_,he,rfl⟩;unfold pyNext
  show aa (cO (wpAny_callSpecial?_slot (name:=Str.ofString "__next__") hT cW
   (aZ cW hT F.entry_enumerate_next ?_ (F.args_enumerate_next_1 _))))
  change wpAny _ _ (field (.ref e) 2 >>= _) _ _ _;show aa (cU he rfl (x:=.ref L) rfl ?_);show aa (uX (A:=X.A.in1) (I.ok.hd hc) Y p (by simp;lia) λh' x bd bk=>?_);obtain⟨o,ho,bl⟩:=bk;show aa (cB (T := "StopIteration") (b:=true) ⟨o,ho,bl⟩ de ?_);exact ae ⟨rfl,I.turned (t':=s.toks) (λb o J e=>bd b o J e) f0 f1 f3 f4 f5⟩
 self:=λA i s Q E st h=>by obtain⟨⟨U,he⟩,Y⟩:=st;exact dU he h
def zsL (K:AH)(ta:TA):TI:=λσ H R=>ta σ H λvs H1=>∃a,vs=[.ref a]/\(∃xs,SqT K H1 a xs)/\R (Ite K a) H1
def zqU{x1}(O:Gl X "enumerate")(U:X.mg "enumerate" = none)(Y:PA X [a] ta)(hs:starEach [a] X.env=[(false,eval a X.env)]:=by rfl) :
  PI X (.Tuple elts x1 tpos) (.Call (.Name "enumerate" p) [a] [] pos) (zsL X.K ta):=by
 intro pins s σ H R I h;show Call_ (zcY I O U boot_enumerate (bR (thn (Y pos pins s σ H _ I h) λus B ⟨vs,H1,I1,Z,q1⟩=>?_) hs rfl));obtain⟨b,rfl,⟨xs,hq⟩,q⟩:=q1;obtain⟨u,rfl,ru⟩:=zba Z;cases ru;obtain⟨its,rv,pt,hz⟩:=I1.tuple hq;show zaK (show B.heap.IsTuple b its.toArray from pt) λh' L F hsz hk=>?_;have I2:Inv X pins σ H1 { B with heap:=h',toks:=B.toks }:=I1.kept (t':=B.toks) hk;show dU L ?_;show⟨B.heap.objs.size+1,[B.heap.objs.size+1,B.heap.objs.size],_,_,H1,rfl,I2,zl7 b B.heap.objs.size (B.heap.objs.size+1) (Nat.succ_ne_self _),⟨⟨_,L⟩,F⟩,λc J=>?_,q⟩;rcases aF.mp J with rfl | J;exact I1.fpOk (cT _) (I1.hok.fresh (cT _));rw[ao.mp J];exact I1.fpOk (ah _) (I1.hok.fresh (ah _))
def zrf{x1}(q:Gl X "enumerate")(B:X.mg "enumerate" = none)(F:QA X [a] ta)(hs:starEach [a] X.env=[(false,eval a X.env)]:=by rfl) :
  QI X (.Tuple elts x1 tpos) (.Call (.Name "enumerate" p) [a] [] pos) (zsL X.K ta):=⟨zqU q B F.run hs⟩
mutual
def Dt.toW:Dt->PySem.W.Dat
 | .non=>.none
 | .bl b=>.bool b
 | .int i=>.int i
 | .str x=>.str x
 | .tup l=>.tuple (Dt.toWs l)
 | .lst l=>.list (Dt.toWs l)
 | .dct=>.bytes #[]
def Dt.toWs:AS->List PySem.W.Dat
 | []=>[]
 | d::ds=>d.toW::Dt.toWs ds
end
mutual
def zfm:∀ {d e:Dt},d.toW=e.toW->d=e
 | .non,e,h=>by cases e <;> simp[Dt.toW] at h ⊢
 | .bl b,e,h=>by cases e <;> simp[Dt.toW] at h ⊢;exact h
 | .int b,e,h=>by cases e <;> simp[Dt.toW] at h ⊢;exact h
 | .str b,e,h=>by cases e <;> simp[Dt.toW] at h ⊢;exact h
 | .tup l,e,h=>by
  cases e with
  | tup m=>simp only[Dt.toW,PySem.W.Dat.tuple.injEq] at h;rw[zfn h]
  | _=>simp[Dt.toW] at h
 | .lst l,e,h=>by
  cases e with
  | lst m=>simp only[Dt.toW,PySem.W.Dat.list.injEq] at h;rw[zfn h]
  | _=>simp[Dt.toW] at h
 | .dct,e,h=>by cases e <;> simp[Dt.toW] at h ⊢
def zfn:∀ {l m:AS},Dt.toWs l=Dt.toWs m->l=m
 | [],m,h=>by cases m <;> simp[Dt.toWs] at h ⊢
 | d::l,m,h=>by
  cases m with
  | nil=>simp[Dt.toWs] at h
  | cons e m=>
   simp only[Dt.toWs,List.cons.injEq] at h;rw[zfm h.1,zfn h.2]
end
def Dt.eqOk (d:Dt):Prop:=PySem.W.kqdOk 8 d.toW=true
section
variable {P:Aa}{w:Ab}{H:Hp}{h:Heap}
mutual
def y4 (ok:HOk P w H h):∀ (n:Nat) {d:Dt} {v:V} {u:Value},Is H d v->yB v u->PySem.W.kqdOk n d.toW=true->∃as,Reads h u (PySem.W.kqdP d.toW) as
 | _,.non,_,_,h1,r,_=>by cases h1;cases r;exact⟨_,Reads.none⟩
 | n,.bl b,_,_,_,_,k=>by cases n <;> simp[Dt.toW,PySem.W.kqdOk] at k
 | _,.int i,_,_,h1,r,_=>by cases h1;obtain⟨t,rfl⟩:=r;exact⟨_,Reads.int i t⟩
 | _,.str x,_,_,h1,r,_=>by cases h1;obtain⟨t,rfl⟩:=r;exact⟨_,Reads.str x t⟩
 | 0,.tup l,_,_,_,_,k=>by simp[Dt.toW,PySem.W.kqdOk] at k
 | n+1,.tup l,_,_,h1,r,k=>by obtain⟨a,xs,rfl,ha,hl⟩:=h1;cases r;obtain⟨_,its,rv,o,ho,hc,⟨m,hd⟩,_⟩:=ok a _ ha;obtain⟨as,q⟩:=xW ok n hl rv (by simpa [Dt.toW,PySem.W.kqdOk] using k);exact⟨as,reads_tuple_at ho hc hd (by simpa using q)⟩
 | 0,.lst l,_,_,_,_,k=>by simp[Dt.toW,PySem.W.kqdOk] at k
 | n+1,.lst l,_,_,h1,r,k=>by obtain⟨a,xs,rfl,ha,hl⟩:=h1;cases r;obtain⟨_,its,m,rv,e⟩:=ok a _ ha;obtain⟨as,q⟩:=xW ok n hl rv (by simpa [Dt.toW,PySem.W.kqdOk] using k);exact⟨_,reads_list_at e rfl rfl (by simpa using q)⟩
 | n,.dct,_,_,_,_,k=>by cases n <;> simp[Dt.toW,PySem.W.kqdOk] at k
def xW (ok:HOk P w H h):∀ (n:Nat) {ds:AS} {xs:AT} {us:AN},IsL H ds xs->zY xs us->(∀d∈Dt.toWs ds,PySem.W.kqdOk n d=true)->∃as,ReadsAll h us (PySem.W.kqdPs (Dt.toWs ds)) as
 | _,[],_,_,h1,r,_=>by cases h1;cases r;exact⟨_,ReadsAll.nil⟩
 | n,d::ds,_,_,h1,r,k=>by
  obtain⟨x,xr,rfl,hd,hr⟩:=h1
  cases r with
  | cons rx rr=>
   obtain⟨as,q⟩:=y4 ok n hd rx (k _ (by simp[Dt.toWs]));obtain⟨bs,q2⟩:=xW ok n hr rr λe he=>k e (by simp[Dt.toWs,he]);exact⟨_,ReadsAll.cons q q2⟩
end
end
def zcQ {d:Dt}(h:d.eqOk):SeqAt.shaped (PySem.W.kqdP d.toW)=true:=by
 have l:=PySem.W.kqd_lay 8 _ h;unfold SeqAt.shaped;grind
def zvn:R2:=λx y H Q=>∃d e,Is H d x/\Is H e y/\d.eqOk/\e.eqOk/\∀b:Bool,(b=true↔d=e)->Q (.bl b) H
section
variable {X:Cx}
def zpE {d e:Dt}(h1:d.eqOk)(h2:e.eqOk):PyData.eqv (PySem.W.kqdP d.toW) (PySem.W.kqdP e.toW)=true↔d=e:=
 (eI 8 d.toW e.toW 8 h1 h2).trans ⟨zfm,λz=>by rw[z]⟩
def ztm (F:X.A.units+64<cLine):OpR X (compareOp .Eq) zvn:=by intro pins s σ H x y v u Q I J L h;obtain⟨d,e,O,U,B,ke,q⟩:=h;obtain⟨as,Y⟩:=y4 I.hok 8 O J B;obtain⟨bs,Z⟩:=y4 I.hok 8 U L ke;exact eq_dataH Y Z (zcQ B) (zcQ ke) F ⟨.bl _,H,I,rfl,q _ (zpE B ke)⟩
def zoK (q:X.A.units+64<cLine):OpQ X (compareOp .Eq) zvn:=⟨ztm q⟩
def zt0{to:TE}{t:TA}{apos cpos:Pos}(L:QE X o to)(O:QA X [e] t)(B:attributeBase o "append" X.env (eval o X.env)=eval o X.env:=by rfl)(J:((backTo cpos (starEach [e] X.env)).all (λx=>!x.1)&&(backToKw cpos (keywordEach [] X.env)).all (λx=>x.1.isSome)&&decide (([e]:AO).length+([]:List Keyword).length+(if ([]:List Keyword).isEmpty then 0 else 1)<30))=true:=by rfl)(I:(apos.endLine==cpos.line)=true:=by rfl)(hs:starEach [e] X.env=(false,eval e X.env)::starEach [] X.env:=by rfl)(q:(backTo cpos (starEach [] X.env)).any (·.1)=false:=by rfl) :
  QE X (.Call (.Attribute o "append" apos) [e] [] cpos) (tBM X.K "list" zhz to t):=⟨ztA bU PySem.F.slot_list_append PySem.F.type_list_append zf4 L.run O.run B J I hs q⟩
end
def xV {ns:AG}:(Dt.tup (ns.map .int)).eqOk:=by
 have e:∀ns:AG,(Dt.toWs (ns.map .int)).all (PySem.W.kqdOk 7)=true:=by
  intro ns
  induction ns with
  | nil=>rfl
  | cons n ns q=>simp only[az,Dt.toWs,cE,q,cZ];rfl
 exact e ns
structure RoomAt (H:Hp)(ra:Addr)(rm:AG):Prop where
 at':H ra=some (.tup (rm.map V.int))
 ne:rm≠[]
 few:rm.length<=8
 box:∀r∈rm,2<=r/\r<=4
def RoomAt.stay{rm:AG}(h:RoomAt H q rm)(s:zB H H'):RoomAt H' q rm:=⟨s.tup h.at',h.ne,h.few,h.box⟩
def yH (rm:AG)(i:Int):Int:=rm.getD i.toNat 0
abbrev ub (q:Int×Int):Dt:=.tup [.int q.1,.int q.2]
structure Giv (rm:AG)(g:List (Int×Int)):Prop where
 ok:∀q∈g,0<=q.1/\q.1<rm.length/\0<=q.2/\q.2<yH rm q.1
 up:g.Pairwise λa b=>a.1<b.1
def zdy (H H':Hp):Prop:=∀b xs,H b=some (.tup xs)->H' b=some (.tup xs)
def zdy.app {H:Hp}{a:Addr}{xs ys:AT}(h:H a=some (.lst xs)):zdy H (upd H a (.lst ys)):=λb zs e=>by
 by_cases q:b=a;grind;rw[zg q];exact e
mutual
def Dt.noL:Dt->Bool
 | .tup l=>Dt.noLs l
 | .lst _=>false
 | .dct=>false
 | _=>true
def Dt.noLs:AS->Bool
 | []=>true
 | d::ds=>d.noL&&Dt.noLs ds
end
mutual
def Is.stayT {H H1:Hp}(a:zdy H H1):∀ {d:Dt} {v:V},d.noL=true->Is H d v->Is H1 d v
 | .non,_,_,h=>h
 | .bl _,_,_,h=>h
 | .int _,_,_,h=>h
 | .str _,_,_,h=>h
 | .tup l,_,n,h=>by obtain⟨p,xs,e,hp,hl⟩:=h;exact⟨p,xs,e,a _ _ hp,IsL.stayT a (by simpa [Dt.noL] using n) hl⟩
 | .lst l,_,n,_=>by simp[Dt.noL] at n
 | .dct,_,n,_=>by simp[Dt.noL] at n
def IsL.stayT {H H1:Hp}(a:zdy H H1):∀ {ds:AS} {xs:AT},Dt.noLs ds=true->IsL H ds xs->IsL H1 ds xs
 | [],_,_,h=>h
 | d::ds,_,n,h=>by
  obtain⟨x,r,e,hd,hr⟩:=h;have n':d.noL=true/\Dt.noLs ds=true:=by simpa [Dt.noLs] using n
  exact⟨x,r,e,Is.stayT a n'.1 hd,IsL.stayT a n'.2 hr⟩
end
def zf5:∀g:List (Int×Int),Dt.noLs (g.map ub)=true
 | []=>rfl
 | q::g=>by change (Dt.noL (ub q)&&Dt.noLs (g.map ub))=true;rw[zf5 g];rfl
def Giv.snoc {rm:AG}{g:List (Int×Int)}{i w:Int}(h:Giv rm g)(B:∀q∈g,q.1<i)(L:0<=i)(h1:i<rm.length)(h2:0<=w)(O:w<yH rm i):Giv rm (g++[(i,w)]):=by
 show⟨λq F=>?_,List.pairwise_append.mpr ⟨h.up,dL _ _,λa I b J=>?_⟩⟩;rcases aI.mp F with z | z;exact h.ok q z;right;rw[ao.mp J];exact B a I
def Pen.app{ns:AG}(P:Pen H p c ns n)(q:H fa=some (.lst xs))(B:c≠fa):Pen (upd H fa (.lst ys)) p c ns n:=by
 obtain⟨⟨a,l,h1,h2,F,I⟩,J,L⟩:=P;have O:p≠fa:=λe=>by subst e;rw[q] at h1;cases h1
 exact⟨⟨a,l,by rw[zg O];exact h1,h2,F,I⟩,by rw[zg B];exact J,L⟩
def New (H:Hp)(o:HO)(R:V->Hp->Prop):Prop:=∀ (p:Addr) (H':Hp),H p=none->H' p=some o->yJ H H'->R (.ref p) H'
def New.at(h:New H o R)(q:H p=none):R (.ref p) (upd H p o):=h p _ q zh (yJ.upd q)
def zuJ (t:TA):TE:=λσ H Q=>t σ H λxs H1=>xs.length<=sizeLine/\New H1 (.tup xs) Q
def zuA (t:TA):TE:=λσ H Q=>t σ H λxs H1=>xs.length<=sizeLine/\New H1 (.lst xs) Q
section
variable {X:Cx}{es:AO}{t:TA}{pos:Pos}
def zqQ {x1}(h:PA X es t):PE X (.Tuple es x1 pos) (zuJ t):=by intro pins s σ H Q I F;show wpAny_Tuple_spliced (thn (h pos pins s σ H _ I F) λus B ⟨xs,H1,I1,r,z,q⟩=>⟨by rw[<- r.length];exact z,?_⟩);have J:H1 B.heap.objs.size=none:=I1.hok.fresh (ah _);show⟨.ref B.heap.objs.size,upd H1 B.heap.objs.size (.tup xs),I1.laid (t':=B.toks) (λb u e=>aj _ e) (ah _) ?_,rfl,q.at J⟩;exact⟨z,us,r,⟨_,aC _ rfl,rfl,⟨_,rfl⟩,rfl⟩⟩
def zqL (h:PA X es t):PE X (.List es pos) (zuA t):=by intro pins s σ H Q I F;show wpAny_List_spliced (thn (h pos pins s σ H _ I F) λus B ⟨xs,H1,I1,r,z,q⟩=>⟨by rw[<- r.length];exact z,?_⟩);have J:H1 B.heap.objs.size=none:=I1.hok.fresh (ah _);show⟨.ref B.heap.objs.size,upd H1 B.heap.objs.size (.lst xs),I1.laid (t':=B.toks) (λb u e=>aj _ e) (ah _) ?_,rfl,q.at J⟩;exact⟨z,us,0,r,aC _ rfl⟩
def zdb {x1}(h:QA X es t):QE X (.Tuple es x1 pos) (zuJ t):=⟨zqQ h.run⟩
def zly (h:QA X es t):QE X (.List es pos) (zuA t):=⟨zqL h.run⟩
def CallQ.weak(h:CallQ X f r)(k:∀xs H Q,q xs H Q->r xs H Q):CallQ X f q:=⟨λpins s σ H xs us Q I B z=>h.run pins s σ H xs us Q I B (k _ _ _ z)⟩
def OpQ.weak(h:OpQ X f r)(k:∀x y H Q,q x y H Q->r x y H Q):OpQ X f q:=⟨λpins s σ H x y v u Q I B F z=>h.run pins s σ H x y v u Q I B F (k _ _ _ _ z)⟩
def zlG (K:AH):AT->Hp->VK->Prop:=λxs H Q=>∃p ys,xs=[.ref p]/\(SqL K H p ys\/SqT K H p ys)/\New H (.lst ys) Q
def zhA (K:AH):AT->Hp->VK->Prop:=λxs H Q=>∃p ys,xs=[.ref p]/\((SqL K H p ys/\New H (.tup ys) Q)\/(SqT K H p ys/\Q (.ref p) H))
def uD:CallQ X (.type "list") (zlG X.K):=ziR.weak <| by rintro xs H Q ⟨p,ys,e,h,n⟩;exact⟨p,ys,e,h,λl q=>n.at q⟩
def yN:CallQ X (.type "tuple") (zhA X.K):=zgR.weak <| by rintro xs H Q ⟨p,ys,e,h⟩;exact⟨p,ys,e,h.elim (by rintro⟨a,n⟩;exact .inl ⟨a,λl q=>n.at q⟩) .inr⟩
def zrk:R2:=λx y H Q=>∃l b xs zs,x = .ref l/\y = .ref b/\H l=some (.lst xs)/\H b=some (.lst zs)/\xs.length+zs.length<=sizeLine/\New H (.lst (xs++zs)) Q
def yu:OpQ X (binaryOp .Add) zrk:=zts.weak <| by rintro x y H Q ⟨l,b,xs,zs,q,B,h1,h2,z,n⟩;exact⟨l,b,xs,zs,q,B,h1,h2,z,λp F=>n.at F⟩
end
def zsl (J:It)(g:TG)(ti:TT)(te:TE)(acc:Addr)(Q:VK)(σ:St)(H:Hp):Prop:=∃W:Nat->Nat->St->Hp->Prop,(∃m,W 0 m σ H)/\
 ∀i m q H',W i m q H'->(J.stop i H'/\Q (.ref acc) H')\/(J.go i H'/\∃N:St->Hp->Prop,(∀ B H2,N B H2->∃F,F<m/\W (i+1) F B H2)/\∀x H2,J.yld i H' x H2->ziQ g ti te acc N x q H2)
def zl1 (wi:TI)(g:TG)(ti:TT)(te:TE)(cix:List (Option Nat)):TE:=λσ H Q=>wi σ H λJ H1=>∀acc,H1 acc=none->zsl J g ti te acc Q (zcw σ cix) (upd H1 acc (.lst []))
def ziu(q:X.calm=true)(c:CompOk X scope N cix)(hi:QI X tg iter wi)(B:∀C s H ex,QG (zC X scope N C s H ex) tg g)(F:∀C s H ex,QTs (zC X scope N C s H ex) ifs ti)(I:∀C s H ex,QE (zC X scope N C s H ex) elt te)(hs:∀x,foldedSetIterable iter X.env x=pure x:=by intro _;rfl):QE X (.ListComp elt [⟨tg,iter,ifs,0⟩] scope pos) (zl1 wi g ti te cix):=zq9 q c hi B F I hs
section
variable {K:AH}{a acc:Addr}{xs:AT}{g:TG}{ti:TT}{te:TE}{σ:St}{H:Hp}{Q:VK}
def zjQ (B:H acc=none)(Pv:Nat->St->Hp->Prop)(I:∀H',H' acc=some (.lst [])->yJ H H'->Pv 0 σ H')(J:∀i σ H,i<=xs.length->Pv i σ H->SqL K H a xs)
  (hs:∀i x σ H,xs[i]?=some x->Pv i σ H->ziQ g ti te acc (Pv (i+1)) x σ H) (L:∀ σ H,Pv xs.length σ H->Q (.ref acc) H):zsl (Itl K a) g ti te acc Q σ (upd H acc (.lst [])):=by
 show⟨λi m σ H=>m=xs.length - i/\i<=xs.length/\Pv i σ H,⟨xs.length,by simp,aK _,I _ zh (yJ.upd B)⟩,?_⟩;rintro i m σ H ⟨rfl,hi,p⟩;have q:=J i σ H hi p;by_cases F:i<xs.length;show .inr ⟨⟨xs,xs[i],q,by simp[F]⟩,Pv (i+1),λO H' U=>⟨xs.length - (i+1),by lia,rfl,F,U⟩,λx H' y=>?_⟩;obtain⟨e,y⟩:=y;subst e;exact hs i x σ _ (y xs q) p;have e:i=xs.length:=by lia
 subst e;exact .inl ⟨⟨xs,q,ah _⟩,L σ H p⟩
end
def zom(h:g x σ H λq H3=>te q H3 λv H5=>∃xs,H5 acc=some (.lst xs)/\xs.length<sizeLine/\N q (upd H5 acc (.lst (xs++[v])))):ziQ g zb9 te acc N x σ H:=zoE h
def ziz(h:H acc=none)(s:yJ H H1):yJ H (upd H1 acc o):=λb u e=>by rw[zg (zc e h)];exact s b u e
def ziE(h:H acc=none)(s:zB H H1):zB H (upd H1 acc o):=λb u e q=>by rw[zg (zc e h)];exact s b u e q
section
variable {X:Cx}(K:AH)(h:X.K=K)
include h
def zr0:IxQ X (zua K):=h ▸ yR
def zpt:CallQ X (.builtin "len") (λxs H Q=>∃x n,xs=[x]/\zr8 K x H n/\Q (.int n) H):=h ▸ ym
def zeZ:OpQ X (compareOp .NotIn) (rIn K true):=h ▸ zgg
def zno:OpQ X (binaryOp .Add) (zlF K):=h ▸ yt
end
def zlz {X:Cx}(K:AH)(B:X.K=K){es:AO}{pos:Pos}{k:Nat}{gs:TGs}{n:Nat}(F:X.calm=true)(h:QGs X es gs)(I:(assignEach es X.env).length=n:=by rfl)(q:(assignEach es X.env).findIdx? (·.1)=none:=by rfl):QG X (.Tuple es k pos) (zv2 K n gs):=B ▸ zoU F h I q
def zrg(K:AH)(q:X.K=K)(B:QE X e te):QI X tg e (zv4 K te):=q ▸ zlB B
def ziv(K:AH)(q:X.K=K)(B:QE X e te):QI X tg e (zpW K te):=q ▸ ze4 B
structure Wi where
 g:List (Int×Int)
 b:Int
 r:Int
 w:Int
abbrev AW:=List Wi
abbrev zU (x:Wi):Dt:=.tup [.tup (x.g.map ub),.int x.b,.int x.r,.int x.w]
structure WishOk (rm:AG)(x:Wi):Prop where
 giv:Giv rm x.g
 b0:0<=x.b
 b1:x.b<rm.length
 apart:∀q∈x.g,q.1≠x.b
 r0:0<=x.r
 r1:x.r<yH rm x.b
 w0:0<=x.w
 w1:x.w<yH rm x.b
 ne:x.r≠x.w
def zjt (H:Hp)(R:Dt->Prop)(xs:AT):Prop:=∀x∈xs,∃d,Is H d x/\R d
section
variable {H H':Hp}{R:Dt->Prop}{xs ys:AT}
def zjt.stay (h:zjt H R xs)(s:zB H H'):zjt H' R xs:=λx q=>by obtain⟨d,B,F⟩:=h x q;exact⟨d,B.stay s,F⟩
end
def zog (rm:AG)(d:Dt):Prop:=∃x,d=zU x/\WishOk rm x
def zii (x:Wi):(zU x).noL=true:=by change Dt.noLs [.tup (x.g.map ub),.int x.b,.int x.r,.int x.w]=true;change (Dt.noLs (x.g.map ub)&&_)=true;rw[zf5];rfl
def znb (x:Wi):PySem.W.kqdOk 7 (zU x).toW=true:=by
 have e:∀g:List (Int×Int),(Dt.toWs (g.map ub)).all (PySem.W.kqdOk 5)=true:=by
  intro g
  induction g with
  | nil=>rfl
  | cons n ns q=>simp only[az,Dt.toWs,cE,q,cZ];rfl
 change ((Dt.toWs (x.g.map ub)).all (PySem.W.kqdOk 5)&&_)=true;rw[e];rfl
def zgW{rm:AG}(h:∀d∈ds,zog rm d):(Dt.tup ds).eqOk/\(Dt.lst ds).eqOk:=by
 have e:∀ds:AS,(∀d∈ds,zog rm d)->(Dt.toWs ds).all (PySem.W.kqdOk 7)=true:=by
  intro ds
  induction ds with
  | nil=>intro _;rfl
  | cons n ns q=>
   intro h;obtain⟨x,rfl,_⟩:=h n am;simp only[Dt.toWs,cE,q λd B=>h d (aw _ B),znb x,cZ]
 exact⟨e ds h,e ds h⟩
def zmW (b:Int)(ns:AG):inV (.int b) (ns.map V.int)=ns.contains b:=by
 unfold inV
 induction ns with
 | nil=>rfl
 | cons n ns q=>
  rw[az,cD,q,List.contains_cons];show ((n==b) || _)=((b==n) || _);rw[show (n==b)=(b==n) from BEq.comm]
def zkj (ns:AG):(ns.map V.int).all zdB=true:=by rw[bc];intro x q;obtain⟨n,_,rfl⟩:=au.mp q;rfl
def zg1 {m:Int}:∀ {g:List (Int×Int)} {lo:Int},(∀q∈g,lo<=q.1/\q.1<m)->(g.Pairwise λa b=>a.1<b.1)->lo<=m->(g.length:Int)<=m - lo
 | [],lo,_,_,h=>by simp;lia
 | q::g,lo,h,I,J=>by
  have h1:=h q am;have B:=ce.mp I;have L:=zg1 (g:=g) (lo:=q.1+1) (λx F=>⟨by have:=B.1 x F;lia,(h x (aw _ F)).2⟩) B.2 (by lia);grind
def zkm {rm:AG}{g:List (Int×Int)}(h:Giv rm g)(F:rm.length<=8):g.length<=100:=by have:=zg1 (g:=g) (lo:=0) (m:=rm.length) (λq B=>⟨(h.ok q B).1,(h.ok q B).2.1⟩) h.up (by lia);lia
def zjY (xs:AT)(k:Nat):zdv xs none (some (k:Int))=xs.take k:=by
 have e:HT.sIx xs.length xs.length (some (k:Int))=min k xs.length:=by simp[HT.sIx];try lia
 unfold zdv;rw[e,show HT.sIx xs.length 0 none=0 from rfl,fg,fQ];grind
def zjX (xs:AT)(k:Nat):zdv xs (some (k:Int)) none=xs.drop k:=by
 have e:HT.sIx xs.length 0 (some (k:Int))=min k xs.length:=by simp[HT.sIx];try lia
 unfold zdv;rw[e,show HT.sIx xs.length xs.length none=xs.length from rfl];by_cases h:k<=xs.length;rw[Nat.min_eq_left h,bX (by simp)];rw[Nat.min_eq_right (by lia),List.drop_eq_nil_of_le (as:=xs) (i:=xs.length) (by lia),List.drop_eq_nil_of_le (as:=xs) (i:=k) (by lia),List.take_nil]
def zjs(h:Is H (zU x) v):∃ (a q:Addr) (gs:AT),v = .ref a/\H a=some (.tup [.ref q,.int x.b,.int x.r,.int x.w])/\H q=some (.tup gs)/\IsL H (x.g.map ub) gs:=by obtain⟨a,xs,rfl,J,O,U,rfl,B,L⟩:=h;obtain⟨q,gs,rfl,F,I⟩:=B;obtain rfl:=IsL.of_ints (ns:=[x.b,x.r,x.w]) L;exact⟨a,q,gs,rfl,J,F,I⟩
def zwz {α q:Type}{G:Prop}(P C:α->q->Prop)(h:(∀a b,C a b->P a b)->G)(r:∀a b,C a b->P a b):G:=h r
section
variable {rm:AG}{g b r w:Dt}
end
end L2
namespace HT
open PyProof.Rows
section
variable {prog:Aa}{w:Ab}{A:Ae}{E:AA}{s:AZ}
def fm_congr {α q:Type}{f g:α->Option q}:∀ {l:List α},(∀m∈l,f m=g m)->l.filterMap f=l.filterMap g
 | [],_=>rfl
 | a::l,h=>by rw[List.filterMap_cons,List.filterMap_cons,h a List.mem_cons_self,fm_congr λm B=>h m (List.mem_cons_of_mem _ B)]
def pick_rev (xs:AK):((List.range xs.size).filterMap λ(m:Nat)=>xs[((xs.size:Int) - 1+(m:Int) * (-1)).toNat]?).toArray=xs.toList.reverse.toArray:=by
 congr 1
 have e:∀m∈List.range xs.size,xs[((xs.size:Int) - 1+(m:Int) * (-1)).toNat]?=some (xs.toList.reverse.getD m .none):=by
  intro m q;have B:=List.mem_range.mp q;have F:((xs.size:Int) - 1+(m:Int) * (-1)).toNat=xs.size - 1 - m:=by lia
  right
 rw[fm_congr e];rw[List.filterMap_eq_map' (f:=λm=>xs.toList.reverse.getD m .none)];show List.ext_getElem? λi=>?_;rw[List.getElem?_map];by_cases hi:i<xs.size
 all_goals right
end
end HT
namespace L2
open PyProof.Rows
section
variable {X:Cx}{e:Expr}{te:TE}{pos p2 p3 p4:Pos}{j:Nat}
def zgE(r:zY xs us):zY xs.reverse us.reverse:=by
 induction r with
 | nil=>exact .nil
 | cons h _ q=>rw[c5,c5];exact q.append (.cons h .nil)
def zfg (xs:AK):slicePick xs none none (some (-1))=xs.toList.reverse.toArray:=by
 rw[<- HT.pick_rev];unfold slicePick;congr 1;have q:sliceBounds none none (some (-1)) xs.size=((xs.size:Int) - 1,-1,-1):=by simp[sliceBounds]
 rw[q];unfold sliceRange;have B:(if (-1:Int) > 0 then (if (xs.size:Int) - 1 < -1 then (-1 - ((xs.size:Int) - 1)+-1 - 1) / -1 else 0) else if (xs.size:Int) - 1 > -1 then ((xs.size:Int) - 1 - -1 - -1 - 1) / - -1 else 0).toNat=xs.size:=by grind
 change List.filterMap (λx=>xs[x]?) (List.map _ (List.range (if (-1:Int) > 0 then (if (xs.size:Int) - 1 < -1 then (-1 - ((xs.size:Int) - 1)+-1 - 1) / -1 else 0) else if (xs.size:Int) - 1 > -1 then ((xs.size:Int) - 1 - -1 - -1 - 1) / - -1 else 0).toNat))=_;rw[B,eU];show HT.fm_congr λm F=>?_;grind
def zuG (te:TE):TE:=λσ H Q=>te σ H λx H1=>∃a xs,x = .ref a/\H1 a=some (.lst xs)/\New H1 (.lst xs.reverse) Q
def zqO (L:PE X e te):PE X (.Subscript e (.Slice none none (some (.UnaryOp .USub (.Constant (.int 1) j p4) p3)) p2) pos) (zuG te):=by intro pins s σ H Q I h;show Subscript_ (thn (L pins s σ H _ I h)  ?_);rintro v O ⟨x,H1,I1,U,Y⟩;obtain⟨a,xs,rfl,Z,q⟩:=Y;cases U;show wpAny_Slice ?_;rw[evalPart_none];show ae (ae ?_);rw[evalPart_some];show thn (ztG (zpe (X:=X)) (zoP (X:=X)) pins O σ H1 (λz H2=>z = .int (-1)/\H2=H1) I1 ⟨1,rfl,rfl,rfl⟩)  ?_;rintro u B ⟨z,H2,I2,r2,e1,e2⟩;subst e1 e2;obtain⟨tk,rfl⟩:=r2;have I3:Inv X pins σ H2 { B with heap:=B.heap.push { cls:=.type "slice",data:=.fields #[.none,.none,.int (-1) tk] } }:=I2.kept (t':=B.toks) λb ob q=>aj _ q;obtain⟨its,r,F,hz⟩:=I3.list (.of Z);have J:=r.length;change Af X (subscriptTail e _ (.ref a) (.ref B.heap.objs.size)) (EP X pins σ Q) X.xe { B with heap:=B.heap.push { cls:=.type "slice",data:=.fields #[.none,.none,.int (-1) tk] } };show tail_any (ops:=[.ref a,.ref B.heap.objs.size]) F.isList.typeIs slot_list_getitem.lookup ?_ (by with_unfolding_all rfl);show wpAny_getItem_list_slice F.isList (Heap.IsSliceOf.new ..) .none .none (.int (-1) tk) (by simp) ?_ (by grind);rw[zfg];show⟨.ref _,_,I3.laid (t':=B.toks) (o:=.lst xs.reverse) (λb ob q=>aj _ q) (ah _) ?_,rfl,q.at (I3.hok.fresh (ah _))⟩;exact⟨by right,its.reverse,0,zgE r,aC _ rfl⟩
def zrc (q:QE X e te):QE X (.Subscript e (.Slice none none (some (.UnaryOp .USub (.Constant (.int 1) j p4) p3)) p2) pos) (zuG te):=⟨zqO q.run⟩
def zwU:V->V->V->Hp->(Hp->Prop)->Prop:=λo i v H Q=>∃p xs k,o = .ref p/\i = .int k/\H p=some (.lst xs)/\0<=k/\k<xs.length/\Q (upd H p (.lst (xs.set k.toNat v)))
def zrd(ho:QE X o to)(hi:QE X i ti)(ha:∀v,assign (.Subscript o i pos) X.env v=(do
   let ov <- holding [v] (eval o X.env)
   let iv <- holding [v,ov] (eval i X.env)
   standAt pos
   holding [v,ov,iv] (setItem ov iv v)
   release [v,ov,iv] []):=by intro _;rfl):QG X (.Subscript o i pos) (gSub to ti zwU):=
 ⟨ztM ho.run hi.run (by rintro pins s σ H o i v ov iv u Q I ro ri rv ⟨p,xs,k,e1,e2,hp,h0,h1,q⟩;exact zn1 pins s σ H o i v ov iv u Q I ro ri rv ⟨p,xs,k,k.toNat,e1,e2,hp,by unfold ixN;rw[if_pos h0,if_pos h1],q⟩) ha⟩
end
def zif {st:AG}{b:Int}(B:0<=b)(h1:b<st.length):atI (st.map V.int) b=some (.int (yH st b)):=by
 obtain⟨j,rfl⟩:∃j:Nat,b=j:=⟨b.toNat,by lia⟩;have q:j<st.length:=by lia
 have e:yH st (j:Int)=st[j]:=by unfold yH;simp[q]
 rw[e];exact zjD (by simp[q])
def chg (st:AG)(b w:Int):AG:=st.take b.toNat++[w]++st.drop (b.toNat+1)
def zjM (st:AG){b w:Int}(q:0<=b):zdv (st.map V.int) none (some b)++[.int w]++zdv (st.map V.int) (some (b+1)) none=(chg st b w).map V.int:=by
 obtain⟨j,rfl⟩:∃j:Nat,b=j:=⟨b.toNat,by lia⟩;rw[zjY,show ((j:Int)+1)=((j+1:Nat):Int) by lia,zjX];unfold chg;right
def zjN {st:AG}{b w:Int}(q:0<=b)(h1:b<st.length):(chg st b w).length=st.length:=by
 unfold chg;grind
def zps {st:AG}{b w c:Int}(B:0<=b)(h1:b<st.length)(F:0<=c):yH (chg st b w) c=if c=b then w else yH st c:=by
 obtain⟨j,rfl⟩:∃j:Nat,b=j:=⟨b.toNat,by lia⟩;obtain⟨k,rfl⟩:∃k:Nat,c=k:=⟨c.toNat,by lia⟩;have I:j<st.length:=by lia
 unfold yH chg;simp only[aP,aS];have q:(st.take j).length=j:=by rw[aV];lia
 rcases cu k j with h | h | h;rw[if_neg (by lia),b6,bf (by rw[q];exact h),dy h];right;rw[if_neg (by lia),b6,bi (by rw[q];lia),q];obtain⟨m,rfl⟩:∃m,k=j+1+m:=⟨k - (j+1),by lia⟩;rw[show j+1+m - j=m+1 by lia];right
def zap (st:AG)(g:List (Int×Int)):Bool:=g.all λq=>decide (yH st q.1=q.2)
def zbh (st:AG)(x:Wi):Bool:=decide (yH st x.b=x.w)&&zap st x.g
def hits (B q:AG)(x:Wi):Bool:=zbh B x&&decide (chg B x.b x.r=q)
def zuM (x:Wi):Wi:={ x with r:=x.w,w:=x.r }
structure BookAt (H:Hp)(rm:AG)(ba:Addr)(xs:AT)(bk:AW):Prop where
 at':H ba=some (.tup xs)
 is:IsL H (bk.map zU) xs
 ok:∀x∈bk,WishOk rm x
def BookAt.stay{rm:AG}(h:BookAt H rm q xs bk)(s:zB H H'):BookAt H' rm q xs bk:=⟨s.tup h.at',h.is.stay s,h.ok⟩
def BookAt.len{rm:AG}(h:BookAt H rm q xs bk):xs.length=bk.length:=by
 have:=h.is.length;right
def BookAt.get {H:Hp}{rm:AG}{I:Addr}{xs:AT}{bk:AW}(h:BookAt H rm I xs bk){i:Nat}{v:V}(J:xs[i]?=some v):∃x,bk[i]?=some x/\Is H (zU x) v/\WishOk rm x:=by obtain⟨d,B,q⟩:=h.is.get J;rw[aq] at B;obtain⟨x,F,rfl⟩:=aD.mp B;exact⟨x,F,q,h.ok x (ar F)⟩
def zaE:∀bk:AW,Dt.noLs (bk.map zU)=true
 | []=>rfl
 | x::bk=>by change ((zU x).noL&&Dt.noLs (bk.map zU))=true;rw[zii,zaE bk];rfl
def zS (st:AG)(j:Nat):yH st (j:Int)=st.getD j 0:=by unfold yH;simp
def zcf {st:AG}{r b:Int}(B:0<=b)(h1:b<st.length):yH (st++[r]) b=yH st b:=by
 obtain⟨j,rfl⟩:∃j:Nat,b=j:=⟨b.toNat,by lia⟩;have q:j<st.length:=by lia
 rw[zS,zS,aS,aS,bf q]
def zce {st:AG}{r:Int}:yH (st++[r]) (st.length:Int)=r:=by rw[zS,aS,bi (ah _),Nat.sub_self];rfl
def zhk {st:AG}{i:Nat}{m:Int}(h:st[i]?=some m):yH st (i:Int)=m:=by rw[zS,aS,h];rfl
def uy {rm:AG}(B:∀r∈rm,2<=r/\r<=4){b:Int}(F:0<=b)(h1:b<rm.length):2<=yH rm b/\yH rm b<=4:=by
 obtain⟨j,rfl⟩:∃j:Nat,b=j:=⟨b.toNat,by lia⟩;have q:j<rm.length:=by lia
 rw[zhk (ai q)];right
def zgx:Sp:=λvs H Q _=>∃ (a:Addr) (st:AG) (b w:Int),vs=[.ref a,.int b,.int w]/\H a=some (.tup (st.map V.int))/\st.length<=400/\0<=b/\∀ (p:Addr) (H':Hp),H' p=some (.tup ((chg st b w).map V.int))->yJ H H'->Q (.ref p) H'
def zlV:Sp:=λvs H Q _=>∃ (a B:Addr) (st:AG) (gs:AT) (g:List (Int×Int)),vs=[.ref a,.ref B]/\H a=some (.tup (st.map V.int))/\H B=some (.tup gs)/\IsL H (g.map ub) gs/\(∀q∈g,0<=q.1/\q.1<st.length)/\Q (.bl (zap st g)) H
def zbu:∀st:AG,Dt.noLs (st.map .int)=true
 | []=>rfl
 | _::st=>by change (true&&Dt.noLs (st.map .int))=true;rw[zbu st];rfl
def zm9 (st:AG):PySem.W.kqdOk 7 (Dt.tup (st.map .int)).toW=true:=by
 have e:∀ns:AG,(Dt.toWs (ns.map .int)).all (PySem.W.kqdOk 6)=true:=by
  intro ns
  induction ns with
  | nil=>rfl
  | cons n ns q=>simp only[az,Dt.toWs,cE,q,cZ];rfl
 exact e st
def zrj{X:Cx}{ifs:AO}{scope:Scope}{pos spos:Pos}{wi:TI}{g:TG}{ti:TT}{te:TE}{N:AM}{nx:Str}(q:X.N.Nodup)(B:X.N[ix]?=some nx)(F:X.env.scope.names.lookup nx=some .local)(O:X.calm=true)(c:CompOk X scope N cix)(hi:QI X tg iter wi)(Y:∀C s H ex,QG (zC X scope N C s H ex) tg g)(Z:∀C s H ex,QTs (zC X scope N C s H ex) ifs ti)(he:∀C s H ex,QE (zC X scope N C s H ex) elt te)(J:swapsWithSole [.Name nx px] (.ListComp elt [⟨tg,iter,ifs,0⟩] scope pos) spos.line X.env=pure true:=by rfl)(hs:∀x,foldedSetIterable iter X.env x=pure x:=by intro _;rfl)(L:(assignEach [.Name nx px] X.env).map (·.2)=[assign (.Name nx px) X.env]:=by rfl):QS X (.Assign [.Name nx px] (.ListComp elt [⟨tg,iter,ifs,0⟩] scope pos) spos) (zgK (zl1 wi g ti te cix) (zag ix)):=⟨λpins s σ H D I h=>zem q B F J L (λ_=>rfl) λU Qp hf=>zf2 (Fin:=λacc H=>D.nx (σ.set ix (some (.ref acc))) H) (uv c) O hi.run (zcy λC s H ex=>(Y C s H ex).run) (zcy λC s H ex=>(Z C s H ex).run) (zcy λC s H ex=>(he C s H ex).run) hs I h hf⟩
section
variable {prog:Aa}{w:Ab}{A:Ae}{E:AA}{s:AZ}
variable {X:Cx}
variable {R:Result->AZ->Prop}
def zcq(I:Nat->AZ->Prop)(turn:∀n s,I n s->Ag prog w A (pyNext it) (λr s₁=>match r with
   | none=>R (.ok .next) s₁
   | some v=>Ag prog w A (letOwnedTupleGo target it v) (λ_ s₂=>Ag prog w A (assign target env v) (λ_ s₃=>
     Ag prog w A (forIn ifs true λc r=>if r=true then do let ok <- isTrue c env (eval c env);pure (ForInStep.yield ok) else pure (ForInStep.yield r)) (λok s₄=>
      if ok=true then Ag prog w A (eval elt env) (λx s₅=>
       Ag prog w A (call (.builtin "list.append") [acc,x]) (λ_ s₆=>∃m,m<n/\I m s₆) (λ_ _=>False) s₅) (λ_ _=>False) s₄
      else ∃m,m<n/\I m s₄) (λ_ _=>False) s₃) (λ_ _=>False) s₂) (λ_ _=>False) s₁) (λ_ _=>False) s)(n:Nat)(h:I n s) :
  codeAny (model prog w) A (.compLoop (.ListComp elt [c1,⟨target,iter,ifs,0⟩] scope pos) 1 it acc env) R s:=by
 show eV rfl I (λn s hI=>?_) n h;change wpAny _ A ((compTurn (.ListComp elt [c1,⟨target,iter,ifs,0⟩] scope pos) 1 it acc env).onRaise (λx=>do noteFrame x env;theTreesLotGoes x)) _ _ s;show fF ?_;unfold compTurn;show aa (bK (aa (aQ (turn n s hI) (λr s₁ h₁=>?_) λ_ _ h'=>h'.elim)))
 cases r with
 | none=>exact ae h₁
 | some v=>
  show aa (aQ h₁ (λ_ s₂ h₂=>?_) λ_ _ h'=>h'.elim);show aa (aQ h₂ (λ_ s₃ h₃=>aa (aQ h₃ (λok s₄ h₄=>?_) λ_ _ h'=>h'.elim)) λ_ _ h'=>h'.elim)
  cases ok with
  | false=>exact ae ⟨rfl,h₄⟩
  | true=>
   exact aa (aa (aQ h₄ (λx s₅ h₅=>aa (aQ h₅ (λ_ s₆ h₆=>ae (ae ⟨rfl,h₆⟩)) λ_ _ h'=>h'.elim)) λ_ _ h'=>h'.elim))
def za0(h1:codeAny (model prog w) A (.compLoop (.ListComp elt [c1,⟨target,iter,ifs,0⟩] scope pos) 1 it acc env) R s)(h2:Ag prog w A (pyIter it) (λit' s'=>codeAny (model prog w) A (.compLoop (.ListComp elt [c1,⟨target,iter,ifs,0⟩] scope pos) 1 it' acc env) R s') (λ_ _=>False) s) :
  codeAny (model prog w) A (.compStart (.ListComp elt [c1,⟨target,iter,ifs,0⟩] scope pos) 1 it acc env) R s:=by
 show dM ?_;change wpAny _ A ((compStart (.ListComp elt [c1,⟨target,iter,ifs,0⟩] scope pos) 1 it acc env).onRaise (λx=>do noteFrame x env;standAt theWindowsPlace)) _ _ s;show wpAny_onRaise ?_;unfold compStart;rw[if_neg (by change ¬ ((0 != 0)=true);decide)];show aa (br ?_);split;exact ae ⟨rfl,h1⟩;show aa (fS ?_);show aa (bK ?_);show aa (aQ h2 (λit' s' h'=>ae ⟨rfl,h'⟩) λ_ _ h'=>h'.elim)
def zbR(hf:∀x,foldedSetIterable it2 env x=pure x)(I:Nat->AZ->Prop)(turn:∀n s,I n s->Ag prog w A (pyNext it) (λr s₁=>match r with
   | none=>R (.ok .next) s₁
   | some v=>Ag prog w A (letOwnedTupleGo target it v) (λ_ s₂=>Ag prog w A (assign target env v) (λ_ s₃=>
     Ag prog w A (forIn ifs true λc r=>if r=true then do let ok <- isTrue c env (eval c env);pure (ForInStep.yield ok) else pure (ForInStep.yield r)) (λok s₄=>
      if ok=true then Ag prog w A (eval it2 env) (λx s₅=>Ag prog w A (pyIter x) (λiv s₆=>
       codeAny (model prog w) A (.compStart (.ListComp elt [⟨target,iter,ifs,0⟩,⟨t2,it2,ifs2,0⟩] scope pos) 1 iv acc env) (λr s₇=>match r with
        | .ok _=>∃m,m<n/\I m s₇
        | .error _=>False) s₆) (λ_ _=>False) s₅) (λ_ _=>False) s₄
      else ∃m,m<n/\I m s₄) (λ_ _=>False) s₃) (λ_ _=>False) s₂) (λ_ _=>False) s₁) (λ_ _=>False) s)(n:Nat)(h:I n s) :
  codeAny (model prog w) A (.compLoop (.ListComp elt [⟨target,iter,ifs,0⟩,⟨t2,it2,ifs2,0⟩] scope pos) 0 it acc env) R s:=by
 show eV rfl I (λn s hI=>?_) n h;change wpAny _ A ((compTurn (.ListComp elt [⟨target,iter,ifs,0⟩,⟨t2,it2,ifs2,0⟩] scope pos) 0 it acc env).onRaise (λx=>do noteFrame x env;theTreesLotGoes x)) _ _ s;show fF ?_;unfold compTurn;show aa (bK (aa (aQ (turn n s hI) (λr s₁ h₁=>?_) λ_ _ h'=>h'.elim)))
 cases r with
 | none=>exact ae h₁
 | some v=>
  show aa (aQ h₁ (λ_ s₂ h₂=>?_) λ_ _ h'=>h'.elim);show aa (aQ h₂ (λ_ s₃ h₃=>aa (aQ h₃ (λok s₄ h₄=>?_) λ_ _ h'=>h'.elim)) λ_ _ h'=>h'.elim)
  cases ok with
  | false=>exact ae ⟨rfl,h₄⟩
  | true=>
   show aa (aQ h₄ (λx s₅ h₅=>?_) λ_ _ h'=>h'.elim);show aa (bK ?_);show wpAny _ _ (foldedSetIterable it2 env x >>= _) _ _ _;rw[hf];show aa (ae ?_);show wpAny _ _ (holding [x] (pyIter x) >>= _) _ _ _;show aa (bq (aQ h₅ (λiv s₆ h₆=>?_) λ_ _ h'=>h'.elim));show aa (wpAny_runOwn (h:=none) ?_);show dw (show codeAny (model prog w) (A.mark none) _ _ s₆ from h₆) λr s₇ h₇=>?_
   cases r with
   | ok f=>exact ae ⟨rfl,h₇⟩
   | error e=>exact h₇.elim
end
def zkv (J:It)(g:TG)(ti:TT)(te:TE)(acc:Addr)(N:St->Hp->Prop)(σ:St)(H:Hp):Prop:=∃W:Nat->Nat->St->Hp->Prop,(∃m,W 0 m σ H)/\
 ∀i m q H',W i m q H'->(J.stop i H'/\N q H')\/(J.go i H'/\∃N2:St->Hp->Prop,(∀ B H2,N2 B H2->∃F,F<m/\W (i+1) F B H2)/\∀x H2,J.yld i H' x H2->ziQ g ti te acc N2 x q H2)
def zjP (g:TG)(ti:TT)(wi2:TI)(g2:TG)(ti2:TT)(te:TE)(acc:Addr)(N:St->Hp->Prop)(x:V)(σ:St)(H:Hp):Prop:=
 g x σ H λq H3=>ti q H3 λB H4=>if B=true then wi2 q H4 λJ2 H5=>zkv J2 g2 ti2 te acc N q H5 else N q H4
def zol (J:It)(g:TG)(ti:TT)(wi2:TI)(g2:TG)(ti2:TT)(te:TE)(acc:Addr)(Q:VK)(σ:St)(H:Hp):Prop:=∃W:Nat->Nat->St->Hp->Prop,(∃m,W 0 m σ H)/\
 ∀i m q H',W i m q H'->(J.stop i H'/\Q (.ref acc) H')\/(J.go i H'/\∃N:St->Hp->Prop,(∀ B H2,N B H2->∃F,F<m/\W (i+1) F B H2)/\∀x H2,J.yld i H' x H2->zjP g ti wi2 g2 ti2 te acc N x q H2)
def zo7 (wi:TI)(g:TG)(ti:TT)(wi2:TI)(g2:TG)(ti2:TT)(te:TE)(cix:List (Option Nat)):TE:=λσ H Q=>wi σ H λJ H1=>∀acc,H1 acc=none->zol J g ti wi2 g2 ti2 te acc Q (zcw σ cix) (upd H1 acc (.lst []))
section
variable {X:Cx}{Fam:Cx->Prop}{scope:Scope}{N:AM}{cix:List (Option Nat)}{z:Str}{use:Option (Value->Sem Unit)}{Qp:AA}{elt ke ve tg iter tg2 iter2:Expr}{ifs ifs2:AO}{pos ipos spos px:Pos}{wi wi2:TI}{g g2:TG}{ti ti2:TT}{te tk tv:TE}{pins:AB}{σ:St}{H:Hp}{s:AZ}{Q:VK}{o0:HO}
def ziO (O:Opn X scope cix Fam)(hc:X.calm=true)(hi:PI X tg iter wi)(hg:∀X',Fam X'->PG X' tg g)(ht:∀X',Fam X'->PTs X' ifs ti)(ad:∀X',Fam X'->PI X' tg2 iter2 wi2)(ag:∀X',Fam X'->PG X' tg2 g2)(al:∀X',Fam X'->PTs X' ifs2 ti2)(he:∀X',Fam X'->PE X' elt te)
  (hs:∀x,foldedSetIterable iter X.env x=pure x) (an:∀X',Fam X'->∀x,foldedSetIterable iter2 X'.env x=pure x) (I:Inv X pins σ H s) (h:zo7 wi g ti wi2 g2 ti2 te cix σ H Q) (Y:zvt X pins σ use Qp Q) :
  Af X (comprehension (.ListComp elt [⟨tg,iter,ifs,0⟩,⟨tg2,iter2,ifs2,0⟩] scope pos) scope X.env ipos (newList []) false (eval iter X.env) use) Qp X.xe s:=
 zbe (ob:={ cls:=.type "list",dict:=none,data:=.seq ([]:AN).toArray }) (o0:=λ_=>.lst []) (Fin:=λacc H=>Q (.ref acc) H)
  (B:=λX' acc P s=>wpAny (model X'.prog X'.w) X'.A (eval iter2 X'.env) (λx s5=>wpAny (model X'.prog X'.w) X'.A (pyIter x) (λiv s6=>codeAny (model X'.prog X'.w) X'.A (.compStart (.ListComp elt [⟨tg,iter,ifs,0⟩,⟨tg2,iter2,ifs2,0⟩] scope pos) 1 iv (.ref acc) X'.env) (λr s7=>match r with | .ok _=>P s7 | .error _=>False) s6) (λ_ _=>False) s5) (λ_ _=>False) s) (tb:=λacc Nx σ H=>wi2 σ H λJ2 H5=>zkv J2 g2 ti2 te acc Nx σ H5)
  O hc rfl hs (λ_ _ _ _ _ h0 h1=>codeAny_compStart_list h0 h1) (λX' U _ _ _ _ I F n h=>zbR (an X' U) I F n h) (λs Q h=>bj h) (λ_ _=>⟨aK _,[],0,.nil,aC _ rfl⟩) hi hg ht (λX' U pX wX AX cX xX acc pl s σ H Nx P I q k=>by
  have e9:=ad X' U pl s σ H _ I q;rw[xX] at e9;show thn e9 λxv s1 h1=>thn h1 λas s2 h2=>?_;obtain⟨it,fp,tn,J,H2,e,I2,T,Z,f2,W,⟨m0,w0⟩,F⟩:=h2;subst e
  have L:=zf3 (X:=X') (e:=.ListComp elt [⟨tg,iter,ifs,0⟩,⟨tg2,iter2,ifs2,0⟩] scope pos) (pl:=pl) (R:=λr s7=>match r with | .ok _=>P s7 | .error _=>False) (k:=1) (B:=λP s=>wpAny (model X'.prog X'.w) X'.A (eval elt X'.env) (λx s5=>wpAny (model X'.prog X'.w) X'.A (call (.builtin "list.append") [.ref acc,x]) (λ_ s6=>P s6) (λ_ _=>False) s5) (λ_ _=>False) s) (tb:=λNx σ H=>te σ H λv H'=>∃xs,H' acc=some (.lst xs)/\xs.length<sizeLine/\Nx σ (upd H' acc (.lst (xs++[v]))))
   (λ_ _ I F n h=>zcq I F n h) cX xX T (λhn b hb=>⟨hn b hb,(f2 b hb).2⟩) (ag X' U) (al X' U) (λ_ _ _ _ _ _ I q k=>zhQ (he X' U) xX I q k) F (λap H' s' I' q'=>k ap H' s' I' q') I2 Z (λb hb=>(f2 b hb).1) w0
  exact za0 L (T.self X'.A 0 _ _ _ Z L)) I h (λJ H1 acc q hn=>q acc hn) Y
end
def znN{X:Cx}{ifs ifs2:AO}{scope:Scope}{pos spos:Pos}{wi wi2:TI}{g g2:TG}{ti ti2:TT}{te:TE}{N:AM}{nx:Str}(q:X.N.Nodup)(B:X.N[ix]?=some nx)(F:X.env.scope.names.lookup nx=some .local)(hc:X.calm=true)(c:CompOk X scope N cix)(hi:QI X tg iter wi)(hg:∀C s H ex,QG (zC X scope N C s H ex) tg g)(ht:∀C s H ex,QTs (zC X scope N C s H ex) ifs ti)(J:∀C s H ex,QI (zC X scope N C s H ex) tg2 iter2 wi2)(L:∀C s H ex,QG (zC X scope N C s H ex) tg2 g2)(O:∀C s H ex,QTs (zC X scope N C s H ex) ifs2 ti2)(he:∀C s H ex,QE (zC X scope N C s H ex) elt te)(Y:swapsWithSole [.Name nx px] (.ListComp elt [⟨tg,iter,ifs,0⟩,⟨tg2,iter2,ifs2,0⟩] scope pos) spos.line X.env=pure true:=by rfl)(hs:∀x,foldedSetIterable iter X.env x=pure x:=by intro _;rfl)(Z:∀C s H ex x,foldedSetIterable iter2 (zC X scope N C s H ex).env x=pure x:=by intro _ _ _ _ _;rfl)(ad:(assignEach [.Name nx px] X.env).map (·.2)=[assign (.Name nx px) X.env]:=by rfl):QS X (.Assign [.Name nx px] (.ListComp elt [⟨tg,iter,ifs,0⟩,⟨tg2,iter2,ifs2,0⟩] scope pos) spos) (zgK (zo7 wi g ti wi2 g2 ti2 te cix) (zag ix)):=⟨λpins s σ H D I h=>zem q B F Y ad (λ_=>rfl) λU Qp hf=>ziO (Q:=λv H=>D.nx (σ.set ix (some v)) H) (uv c) hc hi.run (zcy λC s H ex=>(hg C s H ex).run) (zcy λC s H ex=>(ht C s H ex).run) (zcy λC s H ex=>(J C s H ex).run) (zcy λC s H ex=>(L C s H ex).run) (zcy λC s H ex=>(O C s H ex).run) (zcy λC s H ex=>(he C s H ex).run) hs (zcy λC s H ex=>Z C s H ex) I h hf⟩
section
variable {K:AH}{a acc:Addr}{xs:AT}{g:TG}{ti:TT}{wi2:TI}{g2:TG}{ti2:TT}{te:TE}{σ:St}{H:Hp}{Q:VK}{N:St->Hp->Prop}
def ziP (B:H acc=none)(Pv:Nat->St->Hp->Prop)(I:∀H',H' acc=some (.lst [])->yJ H H'->Pv 0 σ H')(J:∀i σ H,i<=xs.length->Pv i σ H->SqL K H a xs)
  (hs:∀i x σ H,xs[i]?=some x->Pv i σ H->zjP g ti wi2 g2 ti2 te acc (Pv (i+1)) x σ H) (L:∀ σ H,Pv xs.length σ H->Q (.ref acc) H):zol (Itl K a) g ti wi2 g2 ti2 te acc Q σ (upd H acc (.lst [])):=by
 show⟨λi m σ H=>m=xs.length - i/\i<=xs.length/\Pv i σ H,⟨xs.length,by simp,aK _,I _ zh (yJ.upd B)⟩,?_⟩;rintro i m σ H ⟨rfl,hi,p⟩;have q:=J i σ H hi p;by_cases F:i<xs.length;show .inr ⟨⟨xs,xs[i],q,by simp[F]⟩,Pv (i+1),λO H' U=>⟨xs.length - (i+1),by lia,rfl,F,U⟩,λx H' y=>?_⟩;obtain⟨e,y⟩:=y;subst e;exact hs i x σ _ (y xs q) p;have e:i=xs.length:=by lia
 subst e;exact .inl ⟨⟨xs,q,ah _⟩,L σ H p⟩
def ziY (Pv:Nat->St->Hp->Prop)(F:Pv 0 σ H)(I:∀i σ H,i<=xs.length->Pv i σ H->SqL K H a xs)
  (hs:∀i x σ H,xs[i]?=some x->Pv i σ H->ziQ g ti te acc (Pv (i+1)) x σ H) (J:∀ σ H,Pv xs.length σ H->N σ H):zkv (Itl K a) g ti te acc N σ H:=by
 show⟨λi m σ H=>m=xs.length - i/\i<=xs.length/\Pv i σ H,⟨xs.length,by simp,aK _,F⟩,?_⟩;rintro i m σ H ⟨rfl,hi,p⟩;have q:=I i σ H hi p;by_cases B:i<xs.length;show .inr ⟨⟨xs,xs[i],q,by simp[B]⟩,Pv (i+1),λL H' O=>⟨xs.length - (i+1),by lia,rfl,B,O⟩,λx H' y=>?_⟩;obtain⟨e,y⟩:=y;subst e;exact hs i x σ _ (y xs q) p;have e:i=xs.length:=by lia
 subst e;exact .inl ⟨⟨xs,q,ah _⟩,J σ H p⟩
end
section
variable {X:Cx}
def zmB:CallQ X (.type "range") (λxs H Q=>∃n,xs=[.int n]/\New H (.rng 0 n) Q):=⟨by
 intro pins s σ H xs us Q I r h;obtain⟨n,rfl,q⟩:=h;obtain⟨u,rfl,B⟩:=zba r;obtain⟨t,rfl⟩:=B;show call_range_1 ?_;show⟨.ref s.heap.objs.size,_,I.laid (t':=s.toks+1+1) (o:=.rng 0 n) (λb ob q=>aj _ q) (ah _) ?_,rfl,q.at (I.hok.fresh (ah _))⟩;exact⟨_,_,_,aC _ rfl⟩⟩
def ziy (n:Nat):Builtin.Range.rangeSize 0 (n:Int) 1=n:=by
 unfold Builtin.Range.rangeSize;grind
def zmh:∀ {xs:AT} {us:AN},xs.length=us.length->(∀ (i:Nat) x u,xs[i]?=some x->us[i]?=some u->yB x u)->zY xs us
 | [],[],_,_=>.nil
 | [],_::_,h,_=>by simp at h
 | _::_,[],h,_=>by simp at h
 | x::xs,u::us,h,k=>.cons (k 0 x u rfl rfl) (zmh (by simpa using h) λi y v q B=>k (i+1) y v q B)
def zgQ (U:X.calm=true):CallQ X (.type "list") (λxs H Q=>∃ (p:Addr) (n:Nat),xs=[.ref p]/\H p=some (.rng 0 n)/\n<=1000/\New H (.lst ((List.range n).map λi:Nat=>V.int i)) Q):=⟨by
 intro pins s σ H xs us Q I r h;obtain⟨p,n,rfl,Y,L,q⟩:=h;obtain⟨u,rfl,Z⟩:=zba r;cases Z;obtain⟨t,u,v,ho⟩:=I.hok p _ Y;have J:n<sizeLine:=zaA L;show call_list_range (a:=0) (b:=n) (c:=1) (n:=n) (I.ok.hd U) ho ?_ ?_ (af L (by ext)) λh' tk B c' kp hg F=>?_;have e:=ziy n;unfold Builtin.Range.small;rw[e];simp[Builtin.Range.rangeFitsLong];lia;exact ziy n
 have hv:zY ((List.range n).map λi:Nat=>V.int i) B.toList:=by
  show zmh (by rw[ab,ay,be,F.1]) λj x u O hu=>?_;rw[aq] at O;obtain⟨k,hk,rfl⟩:=aD.mp O;obtain⟨ad,e⟩:=ac.mp hk;have:k=j:=by simpa using e.symm
  subst this;obtain⟨t',rfl⟩:=F.2 k u (by simpa using hu);exact⟨t',by lia⟩
 show⟨.ref s.heap.objs.size,_,I.laid (t':=tk) (o:=.lst ((List.range n).map λi:Nat=>V.int i)) kp (ah _) ?_,rfl,q.at (I.hok.fresh (ah _))⟩;exact⟨by rw[ab,ay];exact bW J,B.toList,c',hv,by simpa using hg⟩⟩
end
def zp (m:Int):AG:=(List.range m.toNat).map λi:Nat=>(i:Int)
def xT (q:AF)(B:AG):AF:=q.flatMap λr=>B.map λw=>r++[w]
def yZ (cs:AF):AF:=cs.foldl xT [[]]
def xk (cs:AF)(c:AG):yZ (cs++[c])=xT (yZ cs) c:=by
 unfold yZ;right
abbrev stD (st:AG):Dt:=.tup (st.map .int)
def xO:∀sts:AF,Dt.noLs (sts.map stD)=true
 | []=>rfl
 | st::sts=>by show ((stD st).noL&&Dt.noLs (sts.map stD))=true;rw[xO sts,show (stD st).noL=true from zbu st];rfl
def uh (sts:AF):(Dt.lst (sts.map stD)).eqOk:=by
 have e:∀sts:AF,(Dt.toWs (sts.map stD)).all (PySem.W.kqdOk 7)=true:=by
  intro sts
  induction sts with
  | nil=>rfl
  | cons m B q=>simp only[az,Dt.toWs,cE,q,show PySem.W.kqdOk 7 (stD m).toW=true from zm9 m,cZ]
 exact e sts
def zsa (H:Hp)(xs:AT)(cs:AF):Prop:=xs.length=cs.length/\∀ (i:Nat) c,cs[i]?=some c->∃a,xs[i]?=some (.ref a)/\H a=some (.lst (c.map V.int))
def zec (K:AH):Sp:=λvs H Q _=>∃ (q:Addr) (xs:AT) (cs:AF),vs=[.ref q]/\H q=some (.lst xs)/\zsa H xs cs/\cs.length<=8/\(∀c∈cs,c.length<=4)/\
 ∀ (a:Addr) (ys:AT) (H':Hp),H a=none->H' a=some (.lst ys)->IsL H' ((yZ cs).map stD) ys->yJ H H'->Q (.ref a) H'
def zcN (q:AF)(r B:AG):xT (q++[r]) B=xT q B++B.map λw=>r++[w]:=by
 unfold xT;right
def ut (q:AF)(B:AG):(xT q B).length=q.length * B.length:=by
 unfold xT;rw[List.length_flatMap]
 induction q with
 | nil=>simp
 | cons r q F=>rw[az,List.sum_cons,F,ab,aO,Nat.succ_mul,Nat.add_comm]
def zek:∀ (cs:AF) (q:AG),q∈yZ cs->q.length=cs.length:=by
 intro cs
 have:∀ (n:Nat) (cs:AF),cs.length=n->∀q,q∈yZ cs->q.length=cs.length:=by
  intro n
  induction n with
  | zero=>
   intro cs h q B;have:cs=[]:=bn h;subst this;have:q=[]:=by simpa [yZ] using B
   right
  | succ n I=>
   intro cs h q B;have F:cs≠[]:=by intro z;rw[z] at h;simp at h
   rw[<- bp F,xk] at B;unfold xT at B;grind
 exact this cs.length cs rfl
def zpi:∀ (n:Nat) (cs:AF),cs.length=n->(∀c∈cs,c.length<=4)->(yZ cs).length<=4 ^ n:=by
 intro n
 induction n with
 | zero=>
  intro cs h _;have:cs=[]:=bn h;subst this;exact ah _
 | succ n F=>
  intro cs h B;have q:cs≠[]:=by intro z;rw[z] at h;simp at h
  rw[<- bp q,xk,ut,Nat.pow_succ];exact Nat.mul_le_mul (F cs.dropLast (by grind) λc I=>B c ((List.dropLast_sublist cs).subset I)) (B _ (List.getLast_mem q))
def zhP {cs:AF}(F:cs.length<=8)(q:∀c∈cs,c.length<=4)(k:Nat):(yZ (cs.take k)).length<=65536:=by
 show af (zpi _ (cs.take k) rfl λc B=>q c (bG B)) ?_;have:(cs.take k).length<=8:=by rw[aV];lia
 exact af (cq (by ext) this) (by ext)
def yU (m:Int):(zp m).length=m.toNat:=by unfold zp;rw[ab,ay]
section
variable {X:Cx}{o:Expr}{to:TE}{apos cpos:Pos}
end
open PySem.W
inductive Run (ans:Nat->Nat->Bool) (n:Nat):{α:Type}->KasT α->α->Prop
 | ret {α:Type} (a:α):Run ans n (.ret a) a
 | ask {α:Type} {i j:Nat} {k:Bool->KasT α} {a:α} (hi:i<n) (hj:j<n) (h:Run ans n (k (ans i j)) a):Run ans n (.ask i j k) a
def Run.bind{α B:Type}{t:KasT α}{f:α->KasT B}{a:α}{b:B}(h:Run q n t a)(k:Run q n (f a) b):Run q n (t.bind f) b:=by
 induction h with
 | ret a=>exact k
 | ask hi F _ I=>exact .ask hi F (I k)
def Run.wp{q:Nat->Nat->Bool}{α:Type}{t:KasT α}{a:α}(h:Run q n t a){B:Nat->Nat->(Bool->AZ->Prop)->AZ->Prop}{S:AZ->Prop}{Q:α->AZ->Prop}(I:∀i j C s,i<n->j<n->S s->(∀s',S s'->C (q i j) s')->B i j C s)(F:∀s,S s->Q a s):∀s,S s->KasT.kasWp B t Q s:=by
 induction h with
 | ret a=>intro s hs;rw[KasT.kasWp.eq_1];exact F s hs
 | ask hi J _ L=>
  intro s hs;rw[KasT.kasWp.eq_2];right
section
variable {n:Nat}{f:Nat->Int}
def zgH (f:Nat->Int)(i j:Nat):Bool:=decide (f i<f j)
def key (f:Nat->Int)(p:Array Nat)(k:Nat):Int:=f (p.getD k 0)
structure Up (n:Nat)(f:Nat->Int)(p:Array Nat)(m:Nat):Prop where
 perm:p.Perm (List.range n).toArray
 le:m<=n
 up:∀k,k+1<m->key f p k<key f p (k+1)
def uw {p:Array Nat}(h:p.Perm (List.range n).toArray):p.size=n:=by have:=h.size_eq;simpa using this
def yG{p:Array Nat}(h:p.Perm (List.range n).toArray)(B:k<n):p.getD k 0<n:=by
 have hs:=uw h;have q:p.getD k 0∈p:=by right
 have:=(h.mem_iff).mp q;simpa using this
def Up.lt_of(h:Up n f p m):∀ {i j:Nat},i<j->j<m->key f p i<key f p j:=by
 intro i j
 induction j with
 | zero=>intro F;lia
 | succ j I=>
  intro q B;have h1:=h.up j B;grind
def zgN (p:Array Nat)(q:p.Perm (List.range n).toArray):∀ (g x:Nat),1<=x->x+g<=n->∃m,Run (zgH f) n (kas_asc p g x) m/\x<=m/\m<=x+g/\(∀k,x<=k->k<m->¬ key f p k<key f p (k - 1))/\(m<x+g->key f p m<key f p (m - 1))
 | 0,x,_,_=>⟨x,by rw[kas_asc.eq_1];exact .ret _,ah _,ah _,by grind,λh=>by lia⟩
 | g+1,x,L,O=>by
  rw[kas_asc.eq_2];by_cases B:key f p x<key f p (x - 1);show⟨x,.ask (yG q (by lia)) (yG q (by lia)) ?_,ah _,by lia,by grind,λ_=>B⟩;rw[show zgH f (p.getD x 0) (p.getD (x - 1) 0)=true from a6 B,if_pos rfl];exact .ret _;obtain⟨m,h1,h2,U,F,I⟩:=zgN p q g (x+1) (by lia) (by lia);show⟨m,.ask (yG q (by lia)) (yG q (by lia)) ?_,by lia,by lia,λk Y J=>?_,λh=>I (by lia)⟩;rw[show zgH f (p.getD x 0) (p.getD (x - 1) 0)=false from bg B,if_neg aJ];exact h1;by_cases e:k=x;subst e;exact B;exact F k (by lia) J
def zcH (n:Nat)(f:Nat->Int):Prop:=∀i j,i<n->j<n->f i=f j->i=j
def zic (J:zcH n f){p:Array Nat}(q:p.Perm (List.range n).toArray){i j:Nat}(hi:i<n)(L:j<n)(B:i≠j):key f p i≠key f p j:=by
 intro e;have I:=J _ _ (yG q hi) (yG q L) e;have hs:=uw q
 have F:p.toList.Nodup:=by
  have:p.toList.Perm (List.range n):=by have:=q.toList;simpa using this
  exact this.nodup_iff.mpr eo
 rw[bV,bV,cG (by lia),cG (by lia)] at I;have O:p.toList[i]'(by right)=p.toList[j]'(by right):=by simpa using I
 exact B ((cA F).mp O)
def zhY (I:zcH n f)(p:Array Nat)(q:p.Perm (List.range n).toArray):∀ (g x:Nat),1<=x->x+g<=n->∃m,Run (zgH f) n (kas_desc g p x 0) (p,m,0)/\x<=m/\m<=x+g/\(∀k,x<=k->k<m->key f p k<key f p (k - 1))
 | 0,x,_,_=>⟨x,by rw[kas_desc.eq_1];exact .ret _,ah _,ah _,by grind⟩
 | g+1,x,U,Y=>by
  rw[kas_desc.eq_2];by_cases B:key f p x<key f p (x - 1);obtain⟨m,h1,h2,Z,J⟩:=zhY I p q g (x+1) (by lia) (by lia);show⟨m,.ask (yG q (by lia)) (yG q (by lia)) ?_,by lia,by lia,λk k1 L=>?_⟩;rw[show zgH f (p.getD x 0) (p.getD (x - 1) 0)=true from a6 B,if_pos rfl,if_neg (by lia)];exact h1;by_cases e:k=x;subst e;exact B;exact J k (by lia) L;have O:=zic I q (i:=x) (j:=x - 1) (by lia) (by lia) (by lia);have F:key f p (x - 1)<key f p x:=by lia
  show⟨x,.ask (yG q (by lia)) (yG q (by lia)) ?_,ah _,by lia,by grind⟩;rw[show zgH f (p.getD x 0) (p.getD (x - 1) 0)=false from bg B,if_neg aJ];show .ask (yG q (by lia)) (yG q (by lia)) ?_;rw[show zgH f (p.getD (x - 1) 0) (p.getD x 0)=true from a6 F,if_pos rfl];exact .ret _
def zkQ(q:j<=p.size)(k:Nat):key f (kas_rev p 0 j) k=if k<j then key f p (j - 1 - k) else key f p k:=by
 unfold key kas_rev;rw[bV,getElem?_mirror_all q];by_cases h:k<j;right;rw[if_neg (λz=>h z.2),if_neg h,bV]
def znX(q:p.Perm (List.range n).toArray)(j:Nat):(kas_rev p 0 j).Perm (List.range n).toArray:=(mirror_perm p 0 j _).trans q
def zjS (L:zcH n f)(hn:2<=n)(p:Array Nat)(B:p.Perm (List.range n).toArray):∃ (m:Nat) (q:Array Nat),Run (zgH f) n (kas_count n p) (m,q)/\1<=m/\Up n f q m:=by
 have hs:=uw B;obtain⟨m,h1,h2,h3,h4,h5⟩:=zgN (f:=f) p B (n - 1) 1 (ah _) (by lia);have F:Up n f p m:=⟨B,by lia,λk O=>by have U:=h4 (k+1) (by lia) O;rw[eW] at U;have:=zic L B (i:=k) (j:=k+1) (by lia) (by lia) (by lia);lia⟩;unfold kas_count;by_cases ag:m=n;show⟨m,p,h1.bind ?_,h2,F⟩;rw[if_pos (by right)];exact .ret _;by_cases J:m > 1;show⟨m,p,h1.bind ?_,h2,F⟩;rw[if_neg (by right),if_pos J];show .ask (yG B (by lia)) (yG B (by lia)) ?_;have Y:key f p 0<key f p (m - 1):=F.lt_of (by lia) (by lia);rw[show zgH f (p.getD 0 0) (p.getD (m - 1) 0)=true from a6 Y,if_pos rfl];exact .ret _;have em:m=1:=by lia
 subst em;have Z:=h5 (by lia);obtain⟨d,g1,g2,g3,g4⟩:=zhY L p B (n - 2) 2 (by lia) (by lia);have I:=znX B d;obtain⟨m2,a1,a2,a3,a4,_⟩:=zgN (f:=f) (kas_rev p 0 d) I (n - d) d (by lia) (by lia);show⟨m2,kas_rev p 0 d,h1.bind ?_,by lia,⟨I,by lia,λk O=>?_⟩⟩;rw[if_neg (by right),if_neg J];unfold kas_descPart;show Run.bind (a:=(p,d,0)) g1 ?_;rw[if_neg (by simp)];unfold kas_tail3;exact Run.bind a1 (.ret _);by_cases ad:k+1<d;rw[zkQ (by lia),zkQ (by lia),if_pos (by lia),if_pos ad];have e:d - 1 - k=(d - 1 - (k+1))+1:=by lia
 rw[e];by_cases e0:d - 1 - (k+1)=0;rw[e0];exact Z;have:=g4 (d - 1 - (k+1)+1) (by lia) (by lia);right;have U:=a4 (k+1) (by lia) O;rw[eW] at U;have:=zic L I (i:=k) (j:=k+1) (by lia) (by lia) (by lia);lia
def zda (p:Array Nat)(B:p.Perm (List.range n).toArray)(k:Nat)(I:k<n):∀ (g l r:Nat),r<=k->l<=r->r - l<=g->(∀i,i<l->¬ key f p k<key f p i)->(∀i,r<=i->i<k->key f p k<key f p i)->
  (∀i j,i<j->j<k->key f p i<key f p j)->
  ∃m,Run (zgH f) n (kas_place p k g l r) m/\m<=k/\(∀i,i<m->¬ key f p k<key f p i)/\(∀i,m<=i->i<k->key f p k<key f p i)
 | 0,l,r,h1,h2,h3,J,L,_=>⟨l,by rw[kas_place.eq_1];exact .ret _,by lia,J,λi hi=>L i (by lia)⟩
 | g+1,l,r,h1,h2,h3,J,L,q=>by
  rw[kas_place.eq_2];by_cases F:l ≥ r;show⟨l,?_,by lia,J,λi hi=>L i (by lia)⟩;rw[if_pos F];exact .ret _;rw[if_neg F];by_cases O:key f p k<key f p ((l+r) / 2)
  obtain⟨m,U,g2,Y,Z⟩:=zda p B k I g l ((l+r) / 2) (by lia) (by lia) (by lia) J (λi hi ad=>by
   by_cases e:i=(l+r) / 2;rw[e];exact O;have:=q ((l+r) / 2) i (by lia) ad;lia) q
  show⟨m,.ask (yG B I) (yG B (by lia)) ?_,g2,Y,Z⟩;rw[show zgH f (p.getD k 0) (p.getD ((l+r) / 2) 0)=true from a6 O,if_pos rfl];exact U
  obtain⟨m,U,g2,Y,Z⟩:=zda p B k I g ((l+r) / 2+1) r h1 (by lia) (by lia) (λi hi=>by
   by_cases e:i=(l+r) / 2;rw[e];exact O;have:=q i ((l+r) / 2) (by lia) (by lia);lia) L q
  show⟨m,.ask (yG B I) (yG B (by lia)) ?_,g2,Y,Z⟩;rw[show zgH f (p.getD k 0) (p.getD ((l+r) / 2) 0)=false from bg O,if_neg aJ];exact U
def zdU {p:Array Nat}{q d:Nat}(h1:q<p.size)(h2:d<=q)(k:Nat):key f (bubble p q d) k=if k=q - d then key f p q else if q - d<k/\k<=q then key f p (k - 1) else key f p k:=by
 unfold key;simp only[bV];rw[getElem?_bubble h1 d h2];grind
def zjI (J:zcH n f):∀ (g k:Nat) (p:Array Nat),k+g=n->Up n f p k->∃q,Run (zgH f) n (kas_bin g p k) q/\Up n f q n
 | 0,k,p,O,h=>by
  have e:k=n:=by lia
  rw[e] at h;exact⟨p,by rw[kas_bin.eq_1];exact .ret _,h⟩
 | g+1,k,p,O,h=>by
  have hs:=uw h.perm;obtain⟨l,U,r2,Y,r4⟩:=zda (f:=f) p h.perm k (by lia) k 0 k (ah _) (aK _) (by lia) (λi hi=>by lia) (λi h1 h2=>by lia) (λi j B Z=>h.lt_of B Z)
  have F:Up n f (bubble p k (k - l)) (k+1):=by
   show⟨(bubble_perm p k (k - l)).trans h.perm,by lia,λi hi=>?_⟩;rw[zdU (by lia) (by lia),zdU (by lia) (by lia)];have I:k - (k - l)=l:=by lia
   rw[I];by_cases e1:i=l;grind;rw[if_neg e1];by_cases e2:l<i;rw[if_pos (by lia),if_neg (by lia),if_pos (by lia),eW];exact h.lt_of (by lia) (by lia);rw[if_neg (by lia)];by_cases L:i+1=l;rw[if_pos L];have h1:=Y i (by lia);have h2:=zic J h.perm (i:=i) (j:=k) (by lia) (by lia) (by lia);lia;rw[if_neg L,if_neg (by lia)];exact h.lt_of (by lia) (by lia)
  obtain⟨q,q1,q2⟩:=zjI J g (k+1) (bubble p k (k - l)) (by lia) F;show⟨q,?_,q2⟩;rw[kas_bin.eq_2];exact Run.bind U q1
def ziC (B:zcH n f)(I:2<=n):∃q,Run (zgH f) n (kas_sort n) q/\Up n f q n:=by
 obtain⟨m,p,h1,h2,F⟩:=zjS B I (List.range n).toArray (Array.Perm.refl _);unfold kas_sort;by_cases J:m<n;obtain⟨q,O,L⟩:=zjI B (n - m) m p (by lia) F;show⟨q,Run.bind h1 ?_,L⟩;grind;have e:m=n:=by have:=F.le;lia
 show⟨p,Run.bind h1 ?_,by lia⟩;rw[if_neg J];exact .ret _
end
def zeF {prog:Aa}{w:Ab}{A:Ae}{s:AZ}{b:Bool}{Q:Bool->AZ->Prop}:∀ {ns B:AG} {xs ys:AN} (i:Nat),zY (ns.map V.int) xs->zY (B.map V.int) ys->ns.length=B.length->Q (HT.lexLt ns B) s->W.KatLex prog w A b false Q (xs.zip ys) i s
 | [],[],_,_,i,I,J,_,q=>by cases I;cases J;exact W.kat_nil q
 | [],_::_,_,_,_,_,_,h,_=>by simp at h
 | _::_,[],_,_,_,_,_,h,_=>by simp at h
 | a::ns,c::B,_,_,i,I,J,U,q=>by
  cases I with
  | cons Y L=>
   cases J with
   | cons Z O=>
    obtain⟨t,rfl⟩:=Y;obtain⟨u,rfl⟩:=Z;rw[List.zip_cons_cons];have F:Q (if a=c then HT.lexLt ns B else decide (a<c)) s:=q;show W.kat_cons (wpAny_eqBool_int ?_);by_cases e:a=c;rw[show (a==c)=true from by lia];rw[if_pos e] at F;exact W.kat_yes (zeF (i+1) L O (by simpa using U) F);rw[show (a==c)=false from beq_false_of_ne e];rw[if_neg e] at F;show W.kat_no ?_
    cases (b&&i==0) with
    | true=>exact oneLt_int F
    | false=>exact W.kat_one _ _ (P.lt_int F)
def xf:∀s:AG,HT.lexLt s s=false
 | []=>rfl
 | a::s=>by change (if a=a then HT.lexLt s s else _)=false;rw[if_pos rfl];exact xf s
def zbr:∀ {a b c:AG},a.length=b.length->b.length=c.length->HT.lexLt a b=true->HT.lexLt b c=true->HT.lexLt a c=true
 | [],[],[],_,_,h,_=>h
 | x::a,y::b,z::c,h1,h2,J,L=>by
  have q:(if x=y then HT.lexLt a b else decide (x<y))=true:=J;have B:(if y=z then HT.lexLt b c else decide (y<z))=true:=L;change (if x=z then HT.lexLt a c else decide (x<z))=true;by_cases F:x=y;by_cases I:y=z;rw[if_pos F] at q;rw[if_pos I] at B;rw[if_pos (F.trans I)];exact zbr (by simpa using h1) (by simpa using h2) q B;grind;grind
 | [],_::_,_,h,_,_,_=>by simp at h
 | _::_,[],_,h,_,_,_=>by simp at h
 | [],[],_::_,_,h,_,_=>by simp at h
 | _::_,_::_,[],_,h,_,_=>by simp at h
def zaq:∀ {a b:AG},a.length=b.length->a=b\/HT.lexLt a b=true\/HT.lexLt b a=true
 | [],[],_=>.inl rfl
 | [],_::_,h=>by simp at h
 | _::_,[],h=>by simp at h
 | x::a,y::b,h=>by
  change _\/(if x=y then HT.lexLt a b else decide (x<y))=true\/(if y=x then HT.lexLt b a else decide (y<x))=true;by_cases e:x=y
  ·subst e;rw[if_pos rfl,if_pos rfl];rcases zaq (a:=a) (b:=b) (by simpa using h) with h1 | h1 | h1
   all_goals right
  ·rw[if_neg e,if_neg (Ne.symm e)];rcases Int.lt_or_gt_of_ne e with h1 | h1
   all_goals right
def zhW {α:Type}{p q:α->Bool}:∀ {l:List α},(∀x∈l,p x=true->q x=true)->(∃x∈l,p x=false/\q x=true)->l.countP p<l.countP q
 | [],_,h=>by right
 | y::l,h,k=>by
  have J:l.countP p<=l.countP q:=List.countP_mono_left λx B F=>h x (aw _ B) F;rw[List.countP_cons,List.countP_cons];obtain⟨x,B,F,I⟩:=k;rcases aF.mp B with rfl | B;rw[F,I];simp;lia;have O:=zhW (l:=l) (λz L=>h z (aw _ L)) ⟨x,B,F,I⟩;grind
def zc0 (sts:AF)(i:Nat):Int:=(sts.countP λc=>HT.lexLt c (sts.getD i [])  : Nat)
def xD{sts:AF}(q:∀st∈sts,st.length=m)(hi:i<sts.length)(I:j<sts.length):decide (zc0 sts i<zc0 sts j)=HT.lexLt (sts.getD i []) (sts.getD j []):=by
 have J:sts.getD i []∈sts:=by rw[aS,ai hi];exact bL hi
 have L:sts.getD j []∈sts:=by rw[aS,ai I];exact bL I
 have O:∀ {a b:AG},a∈sts->b∈sts->HT.lexLt a b=true->(sts.countP λc=>HT.lexLt c a)<(sts.countP λc=>HT.lexLt c b):=λ{a b} F U B=>
  zhW (λx Y Z=>zbr ((q x Y).trans (q a F).symm) ((q a F).trans (q b U).symm) Z B) ⟨a,F,xf a,B⟩
 unfold zc0;generalize sts.getD i []=a at J;generalize sts.getD j []=b at L;rcases zaq (a:=a) (b:=b) ((q a J).trans (q b L).symm) with h | h | h;subst h;rw[xf];right
 all_goals grind
def zbF (h:Heap)(L:Addr):AB:=(List.range h.objs.size).filterMap λb=>if b=L then none else (h.get? b).map λo=>(b,o)
def z4:(b,o)∈zbF h L↔b≠L/\h.get? b=some o:=by
 unfold zbF;rw[cR];constructor;rintro⟨c,F,e⟩;by_cases q:c=L;right;rw[if_neg q] at e;obtain⟨o',B,I⟩:=aD.mp e;grind;rintro⟨q,B⟩;exact⟨b,aU.mpr (aA B),by right⟩
def zte {h:Heap}{L:Addr}{m q:AI}(a:h.Ns L m)(b:h.Ns L q):m=q:=by
 obtain⟨o,es,U,Y,Z,hk,hf⟩:=a;obtain⟨o',es',B,F,I,J,O⟩:=b;grind
section
variable {X:Cx}
def zbv(x:yo P w H h a o):∃u,h.get? a=some u:=by
 cases o with
 | lst xs=>obtain⟨_,_,_,_,e⟩:=x;exact⟨_,e⟩
 | tup xs=>obtain⟨_,_,_,p⟩:=x;obtain⟨o,e,_⟩:=p;exact⟨o,e⟩
 | dK kvs=>obtain⟨_,_,_,_,o,_,_,e,_⟩:=x;exact⟨_,e⟩
 | dT kvs=>obtain⟨_,_,_,_,o,_,_,e,_⟩:=x;exact⟨_,e⟩
 | set S n=>obtain⟨o,_,_,_,e,_⟩:=x;exact⟨_,e⟩
 | ins C dx fs=>obtain⟨_,_,_,e,_⟩:=x;exact⟨_,e⟩
 | own y=>exact x
 | xd fs=>obtain⟨_,⟨_,_,_,e,_⟩,_⟩:=x;exact⟨_,e⟩
 | met f y=>exact⟨_,x⟩
 | rng lo hi=>obtain⟨_,_,_,e⟩:=x;exact⟨_,e⟩
 | frz o u=>obtain⟨e,_⟩:=x;exact⟨_,e⟩
 | tbl ps=>exact⟨_,x⟩
 | ext q=>obtain⟨_,e,_⟩:=x;exact e
def zeA{pins:AB}{σ:St}{H:Hp}{s:AZ}(I:Inv X pins σ H s)(hm:s.heap.Ns X.env.locals m){h':Heap}{D:Addr}{ys:AT}{its:AN}(U:∀b o,b≠X.env.locals->s.heap.get? b=some o->h'.get? b=some o)(J:h'.Ns X.env.locals m)(Y:s.heap.get? D=none)(L:H D=none)(ho:h'.get? D=some { cls:=.type "list",data:=.seq its.toArray c })(hv:zY ys its)(hz:ys.length<=sizeLine)(tk:Nat):Inv X pins σ (upd H D (.lst ys)) { s with heap:=h',toks:=tk }:=by
 have nD:∀b o,s.heap.get? b=some o->b≠D:=λb o e z=>by rw[z,Y] at e;cases e
 have nL:∀b u,H b=some u->b≠X.env.locals:=λb u e=>zc e I.free;show Inv.step (ch:=[]) (g':=s.gens) (d':=s.drawn) (t':=tk) I (λb F=>by simp at F) (λb o h1 _ _ B _=>U b o h1 B) (λb o h1 _ _ B _=>⟨o.slots,U b o h1 B⟩) (λb o _ B h5=>by rw[zg (nD b o B)];exact h5) (λb o _ B=>?_) (λb ys q=>by rw[zg (zc q L)];exact q) (λb o u q=>by rw[zg (zc q L)];exact q) (λb ps q=>⟨#[],by rw[zg (zc q L),dJ];exact q⟩) (λm' Z=>by rw[<- zte hm Z];exact J) (λb u F=>?_) I.bare;by_cases hL:b=X.env.locals;obtain⟨o',_,_,h1,_⟩:=J;right;exact⟨o,U b o hL B⟩;by_cases O:b=D;subst O;rw[zh] at F;cases F;exact⟨hz,its,c,hv,ho⟩;rw[zg O] at F;show (I.hok b u F).stay (λc v ad q=>U c v ?_ q) (λc q=>by rw[zg (zc q L)];exact q) (λc ys q=>by rw[zg (zc q L)];exact q);grind
def zhB {pins:AB}{σ:St}{H:Hp}{s:AZ}(I:Inv X pins σ H s):∀ {sts:AF} {vs:AT} {its:AN},IsL H (sts.map stD) vs->zY vs its->∀ {i:Nat},i<sts.length->∃ (a:Addr) (items:AN),vs.getD i .non = .ref a/\its.getD i .none = .ref a/\IsTup s.heap a items.toArray/\zY ((sts.getD i []).map V.int) items/\a≠X.env.locals
 | [],_,_,_,_,i,hi=>by simp at hi
 | st::sts,_,_,h,F,i,hi=>by
  obtain⟨x,r,rfl,⟨a,xs,rfl,B,q⟩,J⟩:=h;obtain rfl:=q.of_ints
  cases F with
  | cons L O=>
   cases L
   cases i with
   | zero=>
    obtain⟨items,U,Y,_⟩:=I.tuple (.of B);exact⟨a,items,rfl,rfl,Y,U,zc B I.free⟩
   | succ i=>
    obtain⟨Z,items,e1,e2,e3,e4,e5⟩:=zhB I (sts:=sts) J O (i:=i) (by simpa using hi);exact⟨Z,items,by simpa using e1,by simpa using e2,e3,by simpa using e4,e5⟩
def zl5 {pins:AB}{σ:St}{H:Hp}{s:AZ}(I:Inv X pins σ H s){h':Heap}(L:∀b o,b≠X.env.locals->s.heap.get? b=some o->h'.get? b=some o):∀ {sts:AF} {vs:AT} {its:AN},IsL H (sts.map stD) vs->zY vs its->(∀st∈sts,1<=st.length)->∃fs,W.KatTups h' its fs/\fs.length=sts.length/\∀f∈fs,∃a t,f = .int a t
 | [],_,_,h,q,_=>by cases h;cases q;exact⟨[],trivial,rfl,λ_ h=>by simp at h⟩
 | st::sts,_,_,h,q,h1=>by
  obtain⟨x,r,rfl,⟨a,xs,rfl,O,B⟩,Y⟩:=h;obtain rfl:=B.of_ints
  cases q with
  | cons Z rr=>
   cases Z;obtain⟨items,F,pt,_⟩:=I.tuple (.of O);obtain⟨o,ho,hc,n,hd⟩:=pt;obtain⟨fs,f1,f2,f3⟩:=zl5 I L (sts:=sts) Y rr λz hz=>h1 z (aw _ hz);have J:=h1 st am
   match st,F,J with
   | z::zs,F,_=>
    cases F with
    | cons q1 qq=>
     obtain⟨t,rfl⟩:=q1;show⟨_::fs,⟨⟨a,o,_,n,rfl,L a o (zc O I.free) ho,hc,hd,rfl⟩,f1⟩,by right,λf U=>?_⟩;rcases aF.mp U with rfl | U
     all_goals right
def zuc:AT->Hp->VK->Prop:=λxs H Q=>∃ (l:Addr) (vs:AT) (sts:AF) (m:Nat),xs=[.ref l]/\H l=some (.lst vs)/\IsL H (sts.map stD) vs/\2<=sts.length/\sts.length<64/\1<=m/\(∀st∈sts,st.length=m)/\sts.Nodup/\
 ∀ (ys:AT) (q:AF),IsL H (q.map stD) ys->q.Perm sts->(q.Pairwise λa b=>HT.lexLt a b=true)->New H (.lst ys) Q
def zh7 {H:Hp}{sts:AF}{vs:AT}(h:IsL H (sts.map stD) vs):∀ {p:AR},(∀i∈p,i<sts.length)->IsL H ((p.map λi=>sts.getD i []).map stD) (p.map λi=>vs.getD i .non)
 | [],_=>rfl
 | i::p,q=>by
  have hi:=q i am;obtain⟨x,F,I⟩:=h.getD (i:=i) (d:=stD (sts.getD i [])) (by simp[hi]);show⟨vs.getD i .non,_,rfl,?_,zh7 h λj B=>q j (aw _ B)⟩;right
def zgC(h:zY vs its):∀ (p:AR),(∀i∈p,i<vs.length)->zY (p.map λi=>vs.getD i .non) (p.map λi=>its.getD i .none)
 | [],_=>.nil
 | i::p,q=>by
  have hi:=q i am;obtain⟨u,F,I⟩:=h.get (i:=i) (x:=vs[i]) (ai hi);show .cons ?_ (zgC h p λj B=>q j (aw _ B));right
def zb6 {α:Type}(d:α)(l:List α):(List.range l.length).map (λi=>l.getD i d)=l:=by show fN (by simp) λi h1 h2=>?_;simp[h2]
def zmE:CallQ X (.builtin "sorted") zuc:=⟨by
 intro pins s σ H xs us Q I r h;obtain⟨l,vs,sts,m,rfl,hl,B,h2,b3,as,hm,av,q⟩:=h;obtain⟨u,rfl,ru⟩:=zba r;cases ru;obtain⟨its,rv,pl,hz⟩:=I.list (.of hl);have a0:=B.length;rw[ab] at a0;have b4:=rv.length;obtain⟨m0,ag,_⟩:=id I.loc;show W.kat_sorted (h₀:=(⟨#[],{}⟩:Heap)) (L:=X.env.locals) (m:=m0) (news:=zbF s.heap X.env.locals) ⟨ag,λb o e=>?_,aK _⟩ (λp hp=>?_) pl.isList (by lia) (by lia) λD e1 h' F N O=>?_;have:=aA e;simp at this;obtain⟨b,o⟩:=p;have:=z4.mp hp;show⟨this.2,this.1,?_⟩
 cases e:(⟨#[],{}⟩:Heap).get? b with
 | none=>rfl
 | some o'=>
  have:=aA e;simp at this
 ·have kp:∀b o,b≠X.env.locals->s.heap.get? b=some o->h'.get? b=some o:=λb o hb e=>(N (b,o) (aw _ (z4.mpr ⟨hb,e⟩))).1;obtain⟨fs,k1,k2,k3⟩:=zl5 I kp B rv λst a3=>by rw[hm st a3];exact as
  show W.kat_kind (T:=.type "int") (s:={ s with heap:=h' }) k1 (by lia) (λf hf=>?_) (by ext) ?_;obtain⟨a,t,rfl⟩:=k3 f hf;intro A' Q' E' s' _ hq;exact dB (fR s' a t) hq
  ·have hu:zcH sts.length (zc0 sts):=λi j hi J e=>by
    have e1:=xD hm hi J;have e2:=xD hm J hi;rw[e,bg (fJ _)] at e1;rw[e,bg (fJ _)] at e2;have gi:sts.getD i []=sts[i]:=by simp[hi]
    have gj:sts.getD j []=sts[j]:=by simp[J]
    rcases zaq (a:=sts.getD i []) (b:=sts.getD j []) (by right) with h | h | h;rw[gi,gj] at h;exact (cA av).mp h
    all_goals grind
   obtain⟨p,al,U⟩:=ziC hu h2;rw[show its.length=sts.length by lia];show al.wp (S:=λs'=>s'={ s with heap:=h' }) (λi j C s' hi J Y hC=>?_) (λs' Y=>?_) _ rfl;subst Y;obtain⟨a1,a4,_,b1,c1,d1,f1⟩:=zhB I B rv hi;obtain⟨a2,a5,_,b2,c2,d2,f2⟩:=zhB I B rv J;obtain⟨o1,a7,_,n1,ba⟩:=c1;obtain⟨o2,bb,_,n2,bd⟩:=c2;change wpAny _ _ (keyLt' _ (its.getD i .none) (its.getD j .none)) C _ _;rw[b1,b2];have gi:(sts.getD i []).length=m:=by right
   have gj:(sts.getD j []).length=m:=by right
   have l1:=d1.length;have l2:=d2.length;rw[ab] at l1 l2;show W.kat_lt (s:={ s with heap:=h' }) (kp _ _ f1 a7) ba (kp _ _ f2 bb) bd ?_;rw[show decide (a4.toArray.size<a5.toArray.size)=false from bg (by simp;lia)];show zeF 0 d1 d2 (by rw[gi,gj]) ?_;have:=hC { s with heap:=h' } rfl;rw[show zgH (zc0 sts) i j=HT.lexLt (sts.getD i []) (sts.getD j []) from xD hm hi J] at this;exact this;subst Y;have Z:p.toList.Perm (List.range sts.length):=by have:=U.perm.toList;simpa using this
   have ad:∀i∈p.toList,i<sts.length:=λi hi=>aU.mp ((Z.mem_iff).mp hi);show W.KasFin.intro F N (W.UpdF.head λq' bk=>?_) λbl c F'' N''=>?_;exact aL (O q' bk);have bo:∀b o,b≠X.env.locals->s.heap.get? b=some o->bl.get? b=some o:=λb o hb e=>(N'' (b,o) (aw _ (z4.mpr ⟨hb,e⟩))).1;have bs:D≠X.env.locals:=(N'' (D,_) am).2.1
   have bx:s.heap.get? D=none:=by
    cases e:s.heap.get? D with
    | none=>rfl
    | some o=>exact absurd (O (D,o) (z4.mpr ⟨bs,e⟩)) (cC _)
   have an:H D=none:=by
    cases e:H D with
    | none=>rfl
    | some o=>
     obtain⟨o',b5⟩:=zbv (I.hok D o e);grind
   have ap:=(N'' (D,_) am).1;have I':=zeA I ag (ys:=p.toList.map λi=>vs.getD i .non) bo F''.ns bx an ap (zgC rv p.toList λi hi=>by right) (by rw[ab,Z.length_eq,ay];exact bW (zaA (by lia))) s.toks;show⟨.ref D,_,I',rfl,(q _ (p.toList.map λi=>sts.getD i []) (zh7 B ad) ?_ ?_).at an⟩;have:=Z.map λi=>sts.getD i [];rwa[zb6] at this;have ca:p.size=sts.length:=uw U.perm;rw[b7];intro i j hi J b0;rw[ab,be] at hi J;have hk:=U.lt_of b0 (by lia);rw[dl,dl,c8,c8];have e1:p.getD i 0=p[i]:=by simp[hi]
   have e2:p.getD j 0=p[j]:=by simp[J]
   unfold key at hk;rw[e1,e2] at hk;rw[<- xD hm (ad _ (by simp)) (ad _ (by simp))];exact a6 hk⟩
end
open PySem.Calls
def zaz {prog:Aa}{w:Ab}{A:Ae}{E:AA}{s:AZ}{a:Addr}{vs:AN}{n:Nat}{P:PySem.Fin->AZ->Prop}(ho:s.heap.get? a=some (seqObj "list" vs.toArray n))(h2:vs.length<2)
  (h:∀h' c,(∀b o,b≠a->s.heap.get? b=some o->h'.get? b=some o)->h'.get? a=some (seqObj "list" vs.toArray c)->P (.done (.ret .none)) { s with heap:=h' }) :
  Ag prog w A (Builtin.«list.sort» ⟨[.ref a],[]⟩) P E s:=by
 obtain⟨e1,ho1⟩:∃e1,(s.heap.update a (Obj.mapSeq λ_=>(#[]:AK))).get? a=some (seqObj "list" #[] e1):=⟨_,get?_update_seq ho λ_=>#[]⟩;rw[list_sort_plain];show aa (listItems_at ho rfl ?_);show aa (listUpdate_at ho rfl ?_ (by rw[aY,bM];lia) (aK _));show aa (seqEpoch_at ho1 rfl ?_);show aa (wpAny_newTuple ?_ (by change vs.length<=_;rw[bM];lia));show aa (wpAny_newList ?_ (aK _));show bq ?_;change Ag prog w A _ P E { s with heap:=((s.heap.update a (Obj.mapSeq λ_=>(#[]:AK))).push (seqObj "tuple" vs.toArray 0)).push (seqObj "list" #[] 0) };dsimp only;have hn2:vs.toArray.size<2:=by rw[aY];lia
 rw[if_pos hn2,if_pos hn2];show aa (ae ?_);show aa (m:=(pure ():StateT SortSt _ _).run _) (ae ?_);have hsnd:(arrOf (SortSt.mk' general' (vs.toArray.zip vs.toArray) #[] 7 none)).map (λx=>x.snd)=vs.toArray:=by change (vs.toArray.zip vs.toArray).map (λx=>x.snd)=vs.toArray;apply Array.toList_inj.mp;rw[Array.toList_map,Array.toList_zip];exact List.map_snd_zip (ah _)
 have ha:a<s.heap.objs.size:=aA ho;have g3:(((s.heap.update a (Obj.mapSeq λ_=>(#[]:AK))).push (seqObj "tuple" vs.toArray 0)).push (seqObj "list" #[] 0)).get? a=some (seqObj "list" #[] e1):=aj _ (aj _ ho1);show aa (seqEpoch_at g3 rfl ?_);show aa (listUpdate_at g3 rfl ?_ (aK _) ?_);change wpAny _ _ _ _ _ _;dsimp only;rw[hsnd];simp only[bne_self_eq_false,aR,if_false];show ae (h _ _ (λb o hb e=>?_) (get?_update_seq g3 λ_=>vs.toArray));rw[eJ _ _ _ _ hb];show aj _ (aj _ ?_);rw[eJ _ _ _ _ hb];exact e;dsimp only;rw[hsnd,aY,bM];lia
def zgv {prog:Aa}{w:Ab}{A:Ae}{E:AA}{s:AZ}{l:Addr}{vs:AN}{Q:AA}(J:s.heap.IsList l vs.toArray)(h2:vs.length<2)
  (h:∀D h' c,(∀b o,s.heap.get? b=some o->h'.get? b=some o)->s.heap.get? D=none->h'.get? D=some (seqObj "list" vs.toArray c)->Q (.ref D) { s with heap:=h' }) :
  Ag prog w A (call (.builtin "sorted") [.ref l]) Q E s:=by
 show Calls.call_function_entry kind_sorted plain_sorted entry_sorted (args_sorted1 _) ?_;unfold Builtin.«sorted»;show aa (m:=checkCount "sorted" 1 1 _) (ae ?_);show aa (collect_list J ?_ (by rw[bM];lia));show aa (wpAny_newList ?_ (by rw[bM];lia));have hsz:((s.heap.push (seqObj "list" #[] 0)).update s.heap.objs.size (Obj.mapSeq (·++vs.toArray))).objs.size=s.heap.objs.size+1:=by right
 have F:(((s.heap.push (seqObj "list" #[] 0)).update s.heap.objs.size (Obj.mapSeq (·++vs.toArray))).push (seqObj "list" vs.toArray 0)).get? (s.heap.objs.size+1)=some (seqObj "list" vs.toArray 0):=by rw[<- hsz];exact aC _ rfl
 have I:∀b o,s.heap.get? b=some o->(((s.heap.push (seqObj "list" #[] 0)).update s.heap.objs.size (Obj.mapSeq (·++vs.toArray))).push (seqObj "list" vs.toArray 0)).get? b=some o:=λb o q=>by have B:b<s.heap.objs.size:=aA q;rw[Heap.get?_push_ne _ _ _ (by rw[hsz];exact aL (c6 B)),eJ _ _ _ _ (aL B),Heap.get?_push_ne _ _ _ (aL B)];exact q
 change wpAny _ _ _ _ _ { s with heap:=((s.heap.push (seqObj "list" #[] 0)).update s.heap.objs.size (Obj.mapSeq (·++vs.toArray))).push (seqObj "list" vs.toArray 0) };rw[hsz];show aa (bq (aZ slot_list_sort ⟨_,F,rfl⟩ entry_list_sort ?body (args_list_sort _)))
 case body=>
  show zaz (s:={ s with heap:=((s.heap.push (seqObj "list" #[] 0)).update s.heap.objs.size (Obj.mapSeq (·++vs.toArray))).push (seqObj "list" vs.toArray 0) }) F h2 λh' c L O=>?_;show⟨_,rfl,ae ⟨_,rfl,h _ _ _ (λb o e=>L b o (aL (c6 (aA e))) (I b o e)) ?_ O⟩⟩;exact Heap.get?_none_of_le (cT _)
section
variable {X:Cx}
def zro:AT->Hp->VK->Prop:=λxs H Q=>∃ (l:Addr) (vs:AT) (sts:AF) (m:Nat),xs=[.ref l]/\H l=some (.lst vs)/\IsL H (sts.map stD) vs/\sts.length<64/\1<=m/\(∀st∈sts,st.length=m)/\sts.Nodup/\
 ∀ (ys:AT) (q:AF),IsL H (q.map stD) ys->q.Perm sts->(q.Pairwise λa b=>HT.lexLt a b=true)->New H (.lst ys) Q
def zpw:CallQ X (.builtin "sorted") zro:=⟨by
 intro pins s σ H xs us Q I r h;obtain⟨l,vs,sts,m,rfl,hl,B,L,O,hm,U,q⟩:=h;by_cases h2:2<=sts.length;exact zmE.run _ _ _ _ _ _ _ I r ⟨l,vs,sts,m,rfl,hl,B,h2,L,O,hm,U,q⟩;obtain⟨u,rfl,ru⟩:=zba r;cases ru;obtain⟨its,rv,pl,hz⟩:=I.list (.of hl);have Y:=B.length;rw[ab] at Y;have ad:=rv.length;obtain⟨m0,F,_⟩:=id I.loc;show zgv pl.isList (by lia) λD h' c kp Z hD=>?_
 have J:H D=none:=by
  cases e:H D with
  | none=>rfl
  | some o=>
   obtain⟨o',ag⟩:=zbv (I.hok D o e);grind
 have I':=zeA I F (ys:=vs) (λb o _ e=>kp b o e) (by obtain⟨o,es,ep,g,k⟩:=F;exact⟨o,es,ep,kp _ _ g,k⟩) Z J hD rv (by grind) s.toks;show⟨.ref D,_,I',rfl,(q _ sts B (List.Perm.refl _) ?_).at J⟩
 match sts,h2 with
 | [],_=>exact .nil
 | [_],_=>exact dL _ _
 | _::_::_,h2=>exact absurd (by simp) h2⟩
end
def Ris (xs:Array Nat):Prop:=∀i j:Nat,i<j->j<xs.size->xs.getD i 0<xs.getD j 0
def zen {xs:Array Nat}(F:Ris xs){j:Nat}:∀ (B lo hi:Nat),lo<=hi->hi<=xs.size->hi - lo<=B->(∀i,i<lo->xs.getD i 0<j)->(∀i,hi<=i->i<xs.size->j<=xs.getD i 0)->
  ∃p,SetTable.below.go xs j B lo hi=p/\p<=xs.size/\(∀i,i<p->xs.getD i 0<j)/\(∀i,p<=i->i<xs.size->j<=xs.getD i 0)
 | 0,lo,hi,h1,h2,Z,I,J=>by
  have:lo=hi:=by lia
  subst this;exact⟨lo,rfl,h2,I,J⟩
 | B+1,lo,hi,h1,h2,Z,I,J=>by
  change ∃p,(if lo<hi then if xs.getD ((lo+hi) / 2) j<j then SetTable.below.go xs j B ((lo+hi) / 2+1) hi else SetTable.below.go xs j B lo ((lo+hi) / 2) else lo)=p/\_;by_cases U:lo<hi;rw[if_pos U];have Y:(lo+hi) / 2<xs.size:=by lia
  have e:xs.getD ((lo+hi) / 2) j=xs.getD ((lo+hi) / 2) 0:=by simp[Y]
  rw[e];by_cases L:xs.getD ((lo+hi) / 2) 0<j;rw[if_pos L];show zen F B _ hi (by lia) h2 (by lia) (λi O=>?_) J;by_cases q:i=(lo+hi) / 2;rw[q];exact L;have:=F i ((lo+hi) / 2) (by lia) Y;lia;rw[if_neg L];show zen F B lo _ (by lia) (by lia) (by lia) I (λi O hs=>?_);by_cases q:i=(lo+hi) / 2;rw[q];lia;have:=F ((lo+hi) / 2) i (by lia) hs;lia;rw[if_neg U];have:lo=hi:=by lia
  subst this;exact⟨lo,rfl,h2,I,J⟩
def ur(q:Ris xs)(j:Nat):SetTable.below xs j<=xs.size/\(∀i,i<SetTable.below xs j->xs.getD i 0<j)/\(∀i,SetTable.below xs j<=i->i<xs.size->j<=xs.getD i 0):=by obtain⟨p,e,h⟩:=zen q (j:=j) xs.size 0 xs.size (aK _) (ah _) (ah _) (λi h=>absurd h (cw _)) (λi h1 h2=>by lia);have B:SetTable.below xs j=p:=e;rw[B];exact h
def ug{xs:Array Nat}(h:xs[i]?=some j):i<xs.size/\xs.getD i 0=j:=by
 obtain⟨h1,h2⟩:=cy.mp h;right
def zgZ{xs:Array Nat}(h:i<xs.size):xs[i]?=some (xs.getD i 0):=by simp[h]
def zmv(B:Ris xs)(h:xs[i]?=some j):SetTable.below xs j=i:=by
 obtain⟨h1,h2⟩:=ug h;obtain⟨J,F,I⟩:=ur B j;rcases cu (SetTable.below xs j) i with q | q | q;have:=I _ (ah _) (by lia);have:=B _ i q h1;lia;exact q;have:=F i q;lia
def zbJ{t:SetTable}(q:Ris t.place)(h:t.place[i]?=some j):t.slot j = .live i:=by unfold SetTable.slot;rw[zmv q h];simp[h]
def zlR {t:SetTable}(q:t.dummies = #[]){j:Nat}(h:∀i:Nat,t.place[i]?≠some j):t.slot j = .empty:=by
 unfold SetTable.slot;have e:(t.place[SetTable.below t.place j]?==some j)=false:=by grind
 have B:SetTable.has t.dummies j=false:=by rw[q];rfl
 right
def zrD {t:SetTable}(q:Ris t.place)(B:t.dummies = #[])(j:Nat):(t.slot j = .empty/\∀i:Nat,t.place[i]?≠some j)\/∃i,t.slot j = .live i/\t.place[i]?=some j:=by
 by_cases h:∃i:Nat,t.place[i]?=some j;obtain⟨i,hi⟩:=h;exact .inr ⟨i,zbJ q hi,hi⟩;have h':∀i:Nat,t.place[i]?≠some j:=λi e=>h ⟨i,e⟩;exact .inl ⟨zlR B h',h'⟩
def tm (q:Nat):SetTable:=⟨q,#[],#[],0,true,0,true⟩
def stp (q:Nat)(h:Int):Nat->SetTable.Probe
 | 0=>(tm q).probeStart h
 | n+1=>(tm q).advance (stp q h n)
def wk (q:Nat)(h:Int)(n:Nat):Nat:=(stp q h n).j
def zjA (q:Nat)(p:SetTable.Probe):((tm q).advance p).dummy=p.dummy:=by unfold SetTable.advance;split <;> rfl
def zgz (q:Nat)(h:Int):∀n,(stp q h n).dummy=none
 | 0=>rfl
 | n+1=>by change ((tm q).advance _).dummy=none;rw[zjA,zgz q h n]
def zhO (q:Nat)(p:SetTable.Probe)(h:0<p.more):(tm q).advance p={ p with j:=p.j+1,more:=p.more - 1 }:=by unfold SetTable.advance;rw[if_pos h]
def zej (q:Nat)(p:SetTable.Probe)(h:p.more=0):(tm q).advance p={ p with j:=(p.i * 5+1+p.perturb / 32) % (q+1),more:=SetTable.runEnd q ((p.i * 5+1+p.perturb / 32) % (q+1)) - (p.i * 5+1+p.perturb / 32) % (q+1),i:=(p.i * 5+1+p.perturb / 32) % (q+1),perturb:=p.perturb / 32 }:=by unfold SetTable.advance;rw[if_neg (by lia)];rfl
def lp (q:Nat)(h:Int):Nat->Nat×Nat
 | 0=>(SetTable.bits h % (q+1),SetTable.bits h)
 | n+1=>SetTable.leap q (lp q h n).1 (lp q h n).2
def zo2 (q i:Nat):SetTable.runEnd q i - i<=9:=by unfold SetTable.runEnd;split <;> lia
def zfl (B:Nat)(h:Int){T i q:Nat}(e:stp B h T=⟨i,SetTable.runEnd B i - i,i,q,none⟩):∀k,k<=SetTable.runEnd B i - i->stp B h (T+k)=⟨i+k,SetTable.runEnd B i - i - k,i,q,none⟩
 | 0,_=>e
 | k+1,F=>by
  change (tm B).advance (stp B h (T+k))=_;rw[zfl B h e k (by lia),zhO B _ (by lia)];grind
def zkT (q:Nat)(h:Int):∀k,∃T,T<=10 * k/\stp q h T=⟨(lp q h k).1,SetTable.runEnd q (lp q h k).1 - (lp q h k).1,(lp q h k).1,(lp q h k).2,none⟩
 | 0=>⟨0,ah _,rfl⟩
 | k+1=>by obtain⟨T,B,e⟩:=zkT q h k;have F:=zo2 q (lp q h k).1;show⟨T+(SetTable.runEnd q (lp q h k).1 - (lp q h k).1)+1,by lia,?_⟩;change (tm q).advance (stp q h (T+_))=_;rw[zfl q h e _ (ah _),zej q _ (Nat.sub_self _)];rfl
def zdX (q:Nat)(h:Int):∀k,(lp q h k).2=SetTable.bits h / 32 ^ k
 | 0=>by change SetTable.bits h=_;simp
 | k+1=>by change (lp q h k).2 / 32=_;rw[zdX q h k,Nat.div_div_eq_div_mul,Nat.pow_succ]
def zpp (h:Int):SetTable.bits h<2 ^ 64:=by
 unfold SetTable.bits;grind
def lcg (m i:Nat):Nat:=(i * 5+1) % m
def orb (m:Nat):Nat->Nat->Nat
 | 0,i=>i
 | k+1,i=>lcg m (orb m k i)
def zk0 (q:Nat)(h:Int):∀k,(lp q h (13+k)).1=orb (q+1) k (lp q h 13).1
 | 0=>rfl
 | k+1=>by
  change ((lp q h (13+k)).1 * 5+1+(lp q h (13+k)).2 / 32) % (q+1)=lcg (q+1) (orb (q+1) k _);rw[<- zk0 q h k,zdX];have B:=zpp h
  have e:SetTable.bits h / 32 ^ (13+k)=0:=by
   show Nat.div_eq_of_lt (a9 B ?_)
   calc 2 ^ 64<=32 ^ 13:=by ext
    _<=32 ^ (13+k):=cq (by ext) (by lia)
  rw[e];rfl
def zc9 (m:Nat)(a:Nat):∀ (b i:Nat),orb m (a+b) i=orb m b (orb m a i)
 | 0,i=>rfl
 | b+1,i=>by change lcg m (orb m (a+b) i)=lcg m (orb m b _);rw[zc9 m a b i]
def zr4 (m:Nat):Nat->Nat->AR
 | 0,_=>[]
 | n+1,i=>i::zr4 m n (lcg m i)
def znq (m:Nat)(k i:Nat):orb m (k+1) i=orb m k (lcg m i):=by rw[Nat.add_comm,zc9];rfl
def ze0 (m:Nat):∀ (n i k:Nat),k<n->(zr4 m n i)[k]?=some (orb m k i)
 | n+1,i,0,_=>rfl
 | n+1,i,k+1,h=>by rw[znq];exact ze0 m n (lcg m i) k (by lia)
def zin (m:Nat):∀ (n i:Nat),(zr4 m n i).length=n
 | 0,_=>rfl
 | n+1,i=>by change (zr4 m n _).length+1=n+1;rw[zin m n]
structure Ring (m:Nat):Prop where
 pos:0<m
 all:∀v,v<m->v∈zr4 m m 0
 back:orb m m 0=0
def Ring.reach(r:Ring m)(hi:i<m)(J:j<m):∃k,k<m/\orb m k i=j:=by
 obtain⟨a,F,O⟩:=bF.mp (r.all i hi);obtain⟨b,I,U⟩:=bF.mp (r.all j J);rw[zin] at F I
 have q:orb m a 0=i:=by
  have:=ze0 m m 0 a F;right
 have B:orb m b 0=j:=by
  have:=ze0 m m 0 b I;right
 by_cases L:a<=b;show⟨b - a,by lia,?_⟩;rw[<- q,<- zc9,show a+(b - a)=b by lia];exact B;show⟨b+m - a,by lia,?_⟩;rw[<- q,<- zc9,show a+(b+m - a)=m+b by lia,zc9,r.back];exact B
def zuj (m:Nat):Bool:=((List.range m).all λv=>(zr4 m m 0).contains v)&&orb m m 0==0
def zfc(q:0<m)(h:zuj m=true):Ring m:=by
 unfold zuj at h;rw[bm] at h;show⟨q,λv B=>?_,eq_of_beq h.2⟩;right
def zwX:Ring 8:=zfc (by ext) (by decide +kernel)
def zui:Ring 32:=zfc (by ext) (by decide +kernel)
def zrr:Ring 128:=zfc (by ext) (by decide +kernel)
def zrs:Ring 512:=zfc (by ext) (by decide +kernel)
def zoe(r:Ring (q+1))(h:Int)(B:j<=q):∃n,n<10 * SetTable.turns q/\wk q h n=j:=by have F:(lp q h 13).1<q+1:=fq _ (eX _);obtain⟨k,J,e⟩:=r.reach F (dX B);obtain⟨T,L,I⟩:=zkT q h (13+k);show⟨T,by unfold SetTable.turns;lia,?_⟩;change (stp q h T).j=j;rw[I];change (lp q h (13+k)).1=j;rw[zk0,e]
def zru {xs:Array Nat}(B:Ris xs){i j a b:Nat}(hi:xs[i]?=some a)(F:xs[j]?=some b)(h:a<b):i<j:=by
 obtain⟨h1,h2⟩:=ug hi;obtain⟨I,J⟩:=ug F;rcases cu i j with q | q | q;exact q;subst q;lia;have:=B j i q h1;lia
def zix(q:Ris xs):∀ (M:Nat),(∀j,j<M->∃i:Nat,xs[i]?=some j)->∀ (j i:Nat),j<M->xs[i]?=some j->j<=i
 | _,_,0,_,_,_=>aK _
 | M,h,j+1,i,I,e=>by obtain⟨F,B⟩:=h j (by lia);have h1:=zru q B e (dj j);have h2:=zix q M h j F (by lia) B;lia
def zrt(q:Ris xs)(h:xs.size<M):∃j,j<M/\∀i:Nat,xs[i]?≠some j:=by show bJ λB=>?_;have all:∀j,j<M->∃i:Nat,xs[i]?=some j:=λj F=>bJ λI=>B ⟨j,F,λi e=>I ⟨i,e⟩⟩;obtain⟨i,e⟩:=all (M - 1) (by lia);have h1:=zix q M all (M - 1) i (by lia) e;have h2:=(ug e).1;lia
section
variable {t:SetTable}{hashAt:Nat->Int}{h:Int}
def zis (F:Ris t.place)(I:t.dummies = #[]):∀ (q n:Nat),(∃N,n<=N/\N<n+q/\∀i:Nat,t.place[i]?≠some (wk t.mask h N))->
  ∃N,n<=N/\(∀m,n<=m->m<N->∃i,t.place[i]?=some (wk t.mask h m)/\hashAt i≠h)/\
   (((∀i:Nat,t.place[i]?≠some (wk t.mask h N))/\SetTable.probe.go t hashAt h q (stp t.mask h n)=some (.empty (wk t.mask h N) none))\/
    ∃i,t.place[i]?=some (wk t.mask h N)/\hashAt i=h/\SetTable.probe.go t hashAt h q (stp t.mask h n)=some (.candidate (wk t.mask h N) i (stp t.mask h (N+1))))
 | 0,n,⟨N,h1,h2,_⟩=>by lia
 | q+1,n,⟨N,h1,h2,J⟩=>by
  rcases zrD F I (wk t.mask h n) with ⟨e,hn⟩ | ⟨i,e,hi⟩;show⟨n,ah _,λm a b=>by lia,.inl ⟨hn,?_⟩⟩;change (match t.slot (wk t.mask h n) with | .empty=>some (SetTable.Met.empty (wk t.mask h n) (stp t.mask h n).dummy) | .dummy=>_ | .live i=>_)=_;rw[e,zgz];by_cases B:hashAt i=h;show⟨n,ah _,λm a b=>by lia,.inr ⟨i,hi,B,?_⟩⟩;change (match t.slot (wk t.mask h n) with | .empty=>_ | .dummy=>_ | .live i=>if hashAt i==h then some (SetTable.Met.candidate (wk t.mask h n) i (t.advance (stp t.mask h n))) else _)=_;rw[e];change (if (hashAt i==h)=true then _ else _)=_;rw[if_pos (beq_iff_eq.mpr B)];rfl;have Y:n≠N:=λz=>by subst z;exact J i hi
  obtain⟨N',Z,L,a3⟩:=zis F I q (n+1) ⟨N,by lia,by lia,J⟩;have e2:SetTable.probe.go t hashAt h (q+1) (stp t.mask h n)=SetTable.probe.go t hashAt h q (stp t.mask h (n+1)):=by change (match t.slot (wk t.mask h n) with | .empty=>_ | .dummy=>_ | .live i=>if hashAt i==h then _ else SetTable.probe.go t hashAt h q (t.advance (stp t.mask h n)))=_;rw[e];change (if (hashAt i==h)=true then _ else _)=_;rw[if_neg (λz=>B (beq_iff_eq.mp z))];rfl
  show⟨N',by lia,λm b1 O=>?_,?_⟩;by_cases U:m=n;subst U;exact⟨i,hi,B⟩;exact L m (by lia) O;right
variable {prog:Aa}{w:Ab}
abbrev tk (prog:Aa)(w:Ab):HeapKind prog w (List Key):=tupleKind (zV prog w)
def zvz (t:SetTable)(h:Int)(i:Nat):Prop:=∃n,n<10 * SetTable.turns t.mask/\t.place[i]?=some (wk t.mask h n)/\∀m,m<n->∃q:Nat,t.place[q]?=some (wk t.mask h m)
def zaP (m:Nat):Prop:=m=7\/m=31\/m=127\/m=511
def zaP.ring(h:zaP m):Ring (m+1):=by
 rcases h with rfl | rfl | rfl | rfl;exact zwX;exact zui;exact zrr;exact zrs
def zaP.le(h:zaP m):7<=m/\m<=511:=by rcases h with rfl | rfl | rfl | rfl <;> lia
def zaP.odd(h:zaP m):(m % 2==0)=false:=by rcases h with rfl | rfl | rfl | rfl <;> rfl
structure Tb (prog:Aa)(w:Ab)(t:SetTable)(es:Array (Int×Value))(xs:List (List Key×Addr)):Prop where
 eq:es.toList=xs.map λq=>((tk prog w).hash q.1,Value.ref q.2)
 nd:(xs.map (·.1)).Nodup
 dm:t.dummies = #[]
 ris:Ris t.place
 le:∀ (i j:Nat),t.place[i]?=some j->j<=t.mask
 sz:t.place.size=xs.length
 msk:zaP t.mask
 few:xs.length<=t.mask
 plain:t.plain=true
 led:t.led = !w.params.followText "set-order"
 reach:∀ (i:Nat) (q:List Key×Addr),xs[i]?=some q->zvz t ((tk prog w).hash q.1) i
variable {es:Array (Int×Value)}{xs:List (List Key×Addr)}
def Tb.size (T:Tb prog w t es xs):es.size=xs.length:=by rw[<- be,T.eq,ab]
def Tb.get (T:Tb prog w t es xs){i:Nat}{q:List Key×Addr}(h:xs[i]?=some q):es[i]?=some ((tk prog w).hash q.1,Value.ref q.2):=by rw[<- Array.getElem?_toList,T.eq,aq,h];rfl
def Tb.at' (T:Tb prog w t es xs){i j:Nat}(h:t.place[i]?=some j):∃q,xs[i]?=some q:=by
 have:=(ug h).1;rw[T.sz] at this;right
def Tb.fits (T:Tb prog w t es xs):t.fits es.size=true:=by unfold SetTable.fits SetTable.fill;rw[T.size,T.sz,T.dm];have:=T.few;simp;lia
def Tb.empty (T:Tb prog w t es xs)(h:Int):∃N,N<10 * SetTable.turns t.mask/\∀i:Nat,t.place[i]?≠some (wk t.mask h N):=by have:=T.few;obtain⟨j,q,B⟩:=zrt T.ris (M:=t.mask+1) (by rw[T.sz];lia);obtain⟨N,h1,h2⟩:=zoe T.msk.ring h (cK q);exact⟨N,h1,by rw[h2];exact B⟩
variable {A:Ae}{E:AA}{s:AZ}
def zgO(h:(zV prog w).is k v=true):(∃i t,v = .int i t)\/∃x t,v = .str x t:=by
 rcases z8 h with ⟨i,t,_,e⟩ | ⟨x,t,_,e⟩;exact .inl ⟨i,t,e⟩;exact .inr ⟨x,t,e⟩
def zcT:∀ {ks:List Key} {vs:AN},ItemsAre (zV prog w) ks vs->∀v∈vs,(∃i t,v = .int i t)\/∃x t,v = .str x t
 | _,_,.nil,v,h=>by simp at h
 | _,_,.cons h1 h2,v,h=>by
  rcases aF.mp h with rfl | h;exact zgO h1;exact zcT h2 v h
def zdZ(J:(tk prog w).is s.heap k b)(h:Q false s):Ag prog w A (ofAClassStatement 8 (.ref b)) Q E s:=by
 have B:IsTupleKey (zV prog w) s.heap k b:=J;have L:=B.typeIs;obtain⟨o,items,n,O,_,U,hi⟩:=B;unfold ofAClassStatement;show aa (dB L ?_);dsimp only;rw[if_pos (by ext)];show aa (ae ?_);simp only[fK,aR,if_false];show aa (ff O U ?_);show aa ?_;change wpAny _ _ (forIn items _ _) _ _ s;rw[<- Array.forIn_toList];show fO _ (λzQ r s'=>r.1=none/\s'=s/\∀v∈zQ,(∃i t,v=Value.int i t)\/∃x t,v=Value.str x t) _ ?_ ?_ _ _ ⟨rfl,rfl,zcT hi⟩
 ·rintro v zQ r s' ⟨F,rfl,q⟩;have e:ofAClassStatement 7 v=pure false:=by rcases q v am with ⟨i,t,rfl⟩ | ⟨x,t,rfl⟩ <;> rfl
  rw[e];show aa (ae ?_);simp only[aR,if_false];exact ae ⟨rfl,rfl,λu I=>q u (aw _ I)⟩
 rintro⟨Y,Z⟩ s' ⟨F,rfl,_⟩;simp only at F;subst F;exact ae h
def zuT(O:(tk prog w).is s.heap k b):∀ (l:AN),(∀v∈l,∃F q,v = .ref q/\(tk prog w).is s.heap F q)->Q false s->Ag prog w A (searchCouldBeSeen (.ref b) l) Q E s:=by
 intro l U h;unfold searchCouldBeSeen;show aa ?_;show fO _ (λzQ r s'=>r.1=none/\s'=s/\∀v∈zQ,∃F q,v=Value.ref q/\(tk prog w).is s.heap F q) _ ?_ ?_ _ _ ⟨rfl,rfl,U⟩
 ·rintro v zQ r s' ⟨J,rfl,B⟩;obtain⟨F,q,rfl,I⟩:=B v am;have next:∀u∈zQ,∃F q,u=Value.ref q/\(tk prog w).is s'.heap F q:=λu L=>B u (aw _ L);dsimp only;split
  ·exact ae ⟨rfl,rfl,next⟩
  ·show aa ((tk prog w).quiet O ?_);simp only[fK,aR,if_false];show aa ((tk prog w).quiet I ?_);simp only[fK,aR,if_false];show aa (zdZ O ?_);simp only[aR,if_false];show aa (zdZ I ?_);simp only[aR,if_false];exact ae ⟨rfl,rfl,next⟩
 rintro⟨Y,Z⟩ s' ⟨J,rfl,_⟩;simp only at J;subst J;exact ae h
def zfu (t:SetTable)(xs:List (List Key×Addr))(h:Int)(k:List Key)(n:Nat):Prop:=∀m,m<n->∃ (i:Nat) (q:List Key×Addr),t.place[i]?=some (wk t.mask h m)/\xs[i]?=some q/\q.1≠k
def zds {a b:Addr}{o:Obj}{ep:Nat}{k:List Key}{adding:Bool}{Q:SetFound->AZ->Prop}(hu:A.units<cLine)(T:Tb prog w t es xs)(hk:(tk prog w).is s.heap k b)(hel:∀q∈xs,(tk prog w).is s.heap q.1 q.2)
  (ho:s.heap.get? a=some o) (hd:o.data = .set es ep t)
  (found:∀r i q,xs[i]?=some q->q.1=k->(r=none/\adding=true\/r=some i)->Q (.there r) s)
  (free:∀N,N<10 * SetTable.turns t.mask->(∀i:Nat,t.place[i]?≠some (wk t.mask ((tk prog w).hash k) N))->zfu t xs ((tk prog w).hash k) k N->Q (.free (wk t.mask ((tk prog w).hash k) N) false) s) :
  ∀ (fuel n:Nat) (stand:Option SetTable.Probe),stand.getD (t.probeStart ((tk prog w).hash k))=stp t.mask ((tk prog w).hash k) n->10 * SetTable.turns t.mask<n+fuel->n<=10 * SetTable.turns t.mask->zfu t xs ((tk prog w).hash k) k n->
   Ag prog w A (setSearchFrom a (.ref b) ((tk prog w).hash k) adding fuel stand) Q E s
 | 0,n,stand,_,h2,h3,_=>by lia
 | fuel+1,n,stand,h1,h2,h3,h4=>by
  unfold setSearchFrom;show aa (bt ho hd T.fits ?_);dsimp only;rw[show t.gaveWay=false from T.msk.odd];simp only[aR,if_false];rw[h1];obtain⟨N0,hN0,eN0⟩:=T.empty ((tk prog w).hash k)
  have hn0:n<=N0:=by
   rcases Nat.lt_or_ge N0 n with q | q;obtain⟨i,_,e,_⟩:=h4 N0 q;exact absurd e (eN0 i);exact q
  have pass:∀N,n<=N->(∀m,n<=m->m<N->∃i:Nat,t.place[i]?=some (wk t.mask ((tk prog w).hash k) m)/\(es[i]?.map (·.1)).getD 0≠(tk prog w).hash k)->zfu t xs ((tk prog w).hash k) k N:=λN hN hh m hm=>by
   rcases Nat.lt_or_ge m n with q | q;exact h4 m q;obtain⟨i,e1,e2⟩:=hh m q hm;obtain⟨q,hq⟩:=T.at' e1;show⟨i,q,e1,hq,λz=>e2 ?_⟩;rw[T.get hq,<- z];rfl
  obtain⟨N,hN,hp,hc⟩:=zis (t:=t) (hashAt:=λi=>(es[i]?.map (·.1)).getD 0) (h:=(tk prog w).hash k) T.ris T.dm (10 * SetTable.turns t.mask) n ⟨N0,hn0,by lia,eN0⟩
  have hNle:N<=N0:=by
   rcases Nat.lt_or_ge N0 N with q | q;obtain⟨i,e,_⟩:=hp N0 hn0 q;exact absurd e (eN0 i);exact q
  rcases hc with ⟨he,hg⟩ | ⟨i,hi,hh,hg⟩;have hg':t.probe (λi=>(es[i]?.map (·.1)).getD 0) ((tk prog w).hash k) (stp t.mask ((tk prog w).hash k) n)=some (.empty (wk t.mask ((tk prog w).hash k) N) none):=hg;have fin:=free N (by lia) he (pass N hN hp);generalize hm:SetTable.probe t _ _ _=met;have:met=some (.empty (wk t.mask ((tk prog w).hash k) N) none):=hm.symm.trans hg';rw[this];dsimp only;exact ae fin;have hg':t.probe (λi=>(es[i]?.map (·.1)).getD 0) ((tk prog w).hash k) (stp t.mask ((tk prog w).hash k) n)=some (.candidate (wk t.mask ((tk prog w).hash k) N) i (stp t.mask ((tk prog w).hash k) (N+1))):=hg;generalize hm:SetTable.probe t _ _ _=met;have:met=some (.candidate (wk t.mask ((tk prog w).hash k) N) i (stp t.mask ((tk prog w).hash k) (N+1))):=hm.symm.trans hg';rw[this];dsimp only;obtain⟨q,hq⟩:=T.at' hi;have hqe:=T.get hq;have hqk:=hel q (ar hq);have stl:t.slot (wk t.mask ((tk prog w).hash k) N) = .live i:=zbJ T.ris hi
  have core:Ag prog w A (do
    let some (_,y):=es[i]? | unsupported "internal:set-entry"
    let equal <- holding [y] (eqBool y (.ref b))
    let (es',_,t') <- setState a
    if adding&&equal then return .there none
    let some smem:=t'.sameMemory t.moves t.mask | unsupported "set.changed-during-lookup:is-the-new-block-at-the-old-address"
    let still <- match (if smem then t'.slot (wk t.mask ((tk prog w).hash k) N) else .empty) with
     | .live i'=>match es'[i']? with
      | some (_,y')=>do pure (if <- isSame y' y then some i' else none)
      | none=>pure none
     | _=>pure none
    match still with
    | none=>rule "set.search.anew";setSearchFrom a (.ref b) ((tk prog w).hash k) adding fuel none
    | some i'=>if equal then return .there (some i') else setSearchFrom a (.ref b) ((tk prog w).hash k) adding fuel (some (stp t.mask ((tk prog w).hash k) (N+1)))) Q E s:=by
   rw[hqe];dsimp only;show aa (bq ((tk prog w).eqBool hu hqk hk ?_));show aa (bt ho hd T.fits ?_);dsimp only;by_cases hkk:q.1=k;rw[a6 hkk]
   cases adding with
   | true=>
    simp only[Bool.and_self,if_true];exact ae (found none i q hq hkk (.inl ⟨rfl,rfl⟩))
   | false=>
    simp only[Bool.false_and,aR,if_false];have e1:t.sameMemory t.moves t.mask=some true:=by unfold SetTable.sameMemory;simp
    rw[e1];dsimp only;simp only[if_true];rw[stl];dsimp only;rw[hqe];dsimp only;show aa (wpAny_isSame_ref_self (aa (ae ?_)));simp only[if_true];exact ae (found (some i) i q hq hkk (.inr rfl))
   rw[bg hkk];simp only[Bool.and_false,aR,if_false];have e1:t.sameMemory t.moves t.mask=some true:=by unfold SetTable.sameMemory;simp
   rw[e1];dsimp only;simp only[if_true];rw[stl];dsimp only;rw[hqe];dsimp only;show aa (wpAny_isSame_ref_self (aa (ae ?_)));simp only[if_true];show zds hu T hk hel ho hd found free fuel (N+1) _ rfl (by lia) (by lia) λm hm=>?_;rcases dC.mp hm with z | z;exact pass N hN hp m z;subst z;exact⟨i,q,hi,hq,hkk⟩
  split;show aa (zuT hk _ (λv hv=>?_) ?_);obtain⟨e,he,rfl⟩:=au.mp hv;have he':e∈es.toList:=by have:=er.mp he;exact er.mpr (Array.mem_filter.mp this).1
  rw[T.eq] at he';obtain⟨q',hq',rfl⟩:=au.mp he';exact⟨_,_,rfl,hel q' hq'⟩;simp only[aR,if_false];exact core;exact core
end
def zfQ {α:Type}(l:List α)(p:Nat)(x:α):List α:=l.take p++x::l.drop p
def zg5 {α:Type}{l:List α}{p i:Nat}{x:α}(q:p<=l.length)(h:i<p):(zfQ l p x)[i]?=l[i]?:=by unfold zfQ;rw[bf (by grind),dy h]
def zg3{α:Type}{l:List α}{x:α}(q:p<=l.length):(zfQ l p x)[p]?=some x:=by
 unfold zfQ;right
def zg4 {α:Type}{l:List α}{p i:Nat}{x:α}(q:p<=l.length)(h:p<=i):(zfQ l p x)[i+1]?=l[i]?:=by unfold zfQ;rw[bi (by grind),aV,show i+1 - min p l.length=(i - p)+1 by lia,bC,List.getElem?_drop,show p+(i - p)=i by lia]
def zex {α:Type}{l:List α}{p:Nat}{x:α}(q:p<=l.length):(zfQ l p x).length=l.length+1:=by
 unfold zfQ;grind
def zmX {α q:Type}(f:α->q)(l:List α)(p:Nat)(x:α):(zfQ l p x).map f=zfQ (l.map f) p (f x):=by
 unfold zfQ;right
def zkw {α:Type}(l:List α)(p:Nat)(x:α):(zfQ l p x).Perm (x::l):=by
 unfold zfQ;show List.perm_middle.trans ?_;right
def yO{α:Type}(xs:Array α)(x:α):(SetTable.insertAt xs p x).toList=zfQ xs.toList p x:=by
 unfold SetTable.insertAt zfQ;rw[Array.toList_append,Array.toList_push,Array.toList_extract,Array.toList_extract,List.extract_eq_take_drop,List.extract_eq_take_drop];rw[fQ,fg,b6];congr 1;change x::_=_;congr 1;change []++List.take _ (List.drop p xs.toList)=_;rw[List.nil_append];show bX ?_;right
def zcp {α:Type}(xs:Array α)(i:Nat):xs[i]?=xs.toList[i]?:=by right
def zg6{xs:Array Nat}(B:p<=xs.size)(h:xs[i]?=some v):(SetTable.insertAt xs p j)[if i<p then i else i+1]?=some v:=by
 rw[zcp,yO];rw[zcp] at h;have q:p<=xs.toList.length:=by rw[be];exact B
 split
 ·rename_i hi;rw[zg5 q hi,h]
 ·rename_i hi;rw[zg4 q (by lia),h]
def zbj{xs:Array Nat}(I:p<=xs.size)(h:(SetTable.insertAt xs p j)[i]?=some v):(i=p/\v=j)\/(i<p/\xs[i]?=some v)\/∃B,i=B+1/\p<=B/\xs[B]?=some v:=by
 rw[zcp,yO] at h;have F:p<=xs.toList.length:=by rw[be];exact I
 rcases cu i p with q | q | q;rw[zg5 F q,<- zcp] at h;right;subst q;rw[zg3 F] at h;right;obtain⟨B,rfl⟩:∃B,i=B+1:=⟨i - 1,by lia⟩;rw[zg4 F (by lia),<- zcp] at h;exact .inr (.inr ⟨B,rfl,by lia,h⟩)
def zjg(Z:Ris xs)(hn:∀i:Nat,xs[i]?≠some j):Ris (SetTable.insertAt xs (SetTable.below xs j) j):=by
 obtain⟨L,b2,b3⟩:=ur Z j;intro i I U h2;have e1:=zgZ (xs:=SetTable.insertAt xs (SetTable.below xs j) j) (i:=i) (by lia);have J:=zgZ h2;generalize (SetTable.insertAt xs (SetTable.below xs j) j).getD i 0=v at e1;generalize (SetTable.insertAt xs (SetTable.below xs j) j).getD I 0=O at J
 have Y:∀i v,SetTable.below xs j<=i->xs[i]?=some v->j<v:=λi v h e=>by
  obtain⟨a1,a2⟩:=ug e;grind
 have F:∀i v,i<SetTable.below xs j->xs[i]?=some v->v<j:=λi v h e=>by obtain⟨a1,a2⟩:=ug e;have:=b2 i h;lia
 have B:∀i I v O,i<I->xs[i]?=some v->xs[I]?=some O->v<O:=λi I v O h e J=>by
  obtain⟨a1,a2⟩:=ug e;obtain⟨a3,a4⟩:=ug J;have:=Z i I h a3
  omega
 rcases zbj L e1 with ⟨rfl,rfl⟩ | ⟨q,e⟩ | ⟨i',rfl,q,e⟩;rcases zbj L J with ⟨rfl,rfl⟩ | ⟨q',e'⟩ | ⟨i'',rfl,q',e'⟩;lia;lia;exact Y _ _ q' e';rcases zbj L J with ⟨rfl,rfl⟩ | ⟨q',e'⟩ | ⟨i'',rfl,q',e'⟩;exact F _ _ q e;exact B _ _ _ _ U e e';exact B _ _ _ _ (by lia) e e';rcases zbj L J with ⟨rfl,rfl⟩ | ⟨q',e'⟩ | ⟨i'',rfl,q',e'⟩;lia;lia;exact B _ _ _ _ (by lia) e e'
section
variable {prog:Aa}{w:Ab}{t:SetTable}{es:Array (Int×Value)}{xs:List (List Key×Addr)}
def zpV:SetTable.has #[] j=false:=rfl
def Tb.put(T:Tb prog w t es xs)(hN:N<10 * SetTable.turns t.mask)(he:∀i:Nat,t.place[i]?≠some (wk t.mask ((tk prog w).hash k) N))(hp:zfu t xs ((tk prog w).hash k) k N)(hk:k∉xs.map (·.1))(hf:xs.length+1<=t.mask)(Z:wk t.mask ((tk prog w).hash k) N<=t.mask) :
  ∃L,Tb prog w (t.put (wk t.mask ((tk prog w).hash k) N)).1 (SetTable.insertAt es (t.put (wk t.mask ((tk prog w).hash k) N)).2 ((tk prog w).hash k,.ref b)) L/\L.Perm ((k,b)::xs):=by
 generalize hj:wk t.mask ((tk prog w).hash k) N=j at *;obtain⟨O,b2,b3⟩:=ur T.ris j;have ad:(t.put j).2=SetTable.below t.place j:=rfl
 have ht:(t.put j).1={ t with place:=SetTable.insertAt t.place (SetTable.below t.place j) j }:=by
  unfold SetTable.put;dsimp only;rw[T.dm,zpV];grind
 generalize ag:SetTable.below t.place j=p at *;have F:p<=xs.length:=by rw[<- T.sz];exact O
 have B:∀ {i v:Nat},t.place[i]?=some v->∃I:Nat,(SetTable.insertAt t.place p j)[I]?=some v:=λ{i v} h=>⟨_,zg6 O h⟩;have U:=zkw xs p (k,b);show⟨zfQ xs p (k,b),?_,U⟩;rw[ad,ht];show⟨?_,?_,T.dm,?_,?_,?_,T.msk,?_,T.plain,T.led,?_⟩;rw[yO,T.eq,zmX];rw[(U.map (·.1)).nodup_iff,az,bS];exact⟨hk,T.nd⟩;have:=zjg T.ris he;right;intro i v e;rcases zbj O e with ⟨_,rfl⟩ | ⟨_,e'⟩ | ⟨_,_,_,e'⟩;exact Z;exact T.le _ _ e';exact T.le _ _ e';change (SetTable.insertAt t.place p j).size=_;rw[<- be,yO,zex (by right),zex F,be,T.sz];change (zfQ xs p (k,b)).length<=t.mask;rw[zex F];exact hf;intro i q J;rcases cu i p with z | z | z;rw[zg5 F z] at J;obtain⟨n,h1,h2,h3⟩:=T.reach i q J;show⟨n,h1,?_,λm Y=>?_⟩;have:=zg6 (j:=j) O h2;right;obtain⟨I,e⟩:=h3 m Y;exact B e;subst z;rw[zg3 F] at J;cases J;show⟨N,hN,?_,λm Y=>?_⟩;change (SetTable.insertAt t.place i j)[i]?=_;rw[zcp,yO,zg3 (by right)];right;obtain⟨I,q',e,_⟩:=hp m Y;exact B e;obtain⟨I,rfl⟩:∃I,i=I+1:=⟨i - 1,by lia⟩;rw[zg4 F (by lia)] at J;obtain⟨n,h1,h2,h3⟩:=T.reach I q J;show⟨n,h1,?_,λm Y=>?_⟩;have:=zg6 (j:=j) O h2;rw[if_neg (by lia)] at this;exact this;obtain⟨I,e⟩:=h3 m Y;exact B e
end
def zaF:∀ (n:Nat) {l:AR},l.Nodup->(∀x∈l,x<n)->l.length<=n
 | 0,l,_,h=>by
  cases l with
  | nil=>exact ah _
  | cons a _=>exact absurd (h a am) (cw _)
 | n+1,l,q,h=>by
  by_cases F:n∈l
  have h1:=zaF n (q.erase n) λx B=>by
   grind
  grind
  have:=zaF n q λx B=>by
   grind
  lia
def ze2 {α:Type}[BEq α][LawfulBEq α]:∀ {l l':List α},l.Nodup->l'.Nodup->(∀x,x∈l↔x∈l')->l.Perm l'
 | [],l',_,_,h=>by
  cases l' with
  | nil=>exact .nil
  | cons a _=>exact absurd ((h a).mpr am) (by simp)
 | a::l,l',B,q,h=>by grind
def St0 (q:Nat)(h:Int)(K:Nat):SetTable.Probe:=⟨(lp q h K).1,SetTable.runEnd q (lp q h K).1 - (lp q h K).1,(lp q h K).1,(lp q h K).2,none⟩
def zkU {q:Nat}{h:Int}{T K:Nat}(e:stp q h T=St0 q h K):stp q h (T+(SetTable.runEnd q (lp q h K).1 - (lp q h K).1)+1)=St0 q h (K+1):=by change (tm q).advance (stp q h (T+_))=_;rw[zfl q h e _ (ah _),zej q _ (Nat.sub_self _)];rfl
def zs7 (q:Nat)(h:Int):∀K,(lp q h K).1<=q
 | 0=>cK (fq _ (eX _))
 | K+1=>cK (fq _ (eX _))
def zde {q i:Nat}(h:i<=q):SetTable.runEnd q i<=q/\i<=SetTable.runEnd q i:=by unfold SetTable.runEnd;split <;> lia
def zfP{h:Int}{owner:Array (Option Nat)}(hs:owner.size=q+1):∀ (B K T:Nat),T<=10 * K->stp q h T=St0 q h K->(∀m,m<T->∃F,owner[wk q h m]?=some (some F))->
  (∃K',K<=K'/\K'<K+B/\owner[(lp q h K').1]?=some none)->
  ∃N,SetTable.layClean.free q owner B (lp q h K).1 (lp q h K).2=some (wk q h N)/\N<10 * (K+B)/\wk q h N<=q/\owner[wk q h N]?=some none/\∀m,m<N->∃F,owner[wk q h m]?=some (some F)
 | 0,K,T,_,_,_,⟨K',h1,h2,_⟩=>by lia
 | B+1,K,T,hT,eT,ad,⟨K',h1,h2,h3⟩=>by
  have as:=zs7 q h K;obtain⟨r1,r2⟩:=zde as;have r9:=zo2 q (lp q h K).1;have I:∀k,k<=SetTable.runEnd q (lp q h K).1 - (lp q h K).1->wk q h (T+k)=(lp q h K).1+k:=λk U=>by change (stp q h (T+k)).j=_;rw[zfl q h eT k U]
  have inR:∀k,k<=SetTable.runEnd q (lp q h K).1 - (lp q h K).1->∃u,owner[(lp q h K).1+k]?=some u/\owner.getD ((lp q h K).1+k) (some 0)=u:=λk U=>by
   have a0:(lp q h K).1+k<owner.size:=by lia
   right
  change ∃N,(match (List.range (SetTable.runEnd q (lp q h K).1+1 - (lp q h K).1)).find? λk=>(owner.getD ((lp q h K).1+k) (some 0)).isNone with
   | some k=>some ((lp q h K).1+k)
   | none=>SetTable.layClean.free q owner B (lp q h (K+1)).1 (lp q h (K+1)).2)=some (wk q h N)/\_
  cases hf:(List.range (SetTable.runEnd q (lp q h K).1+1 - (lp q h K).1)).find? λk=>(owner.getD ((lp q h K).1+k) (some 0)).isNone with
  | some k=>
   obtain⟨hp,i,hi,ag,al⟩:=List.find?_eq_some_iff_getElem.mp hf;rw[bB] at ag;subst ag;rw[ay] at hi;have U:i<=SetTable.runEnd q (lp q h K).1 - (lp q h K).1:=by lia
   obtain⟨u,J,L⟩:=inR i U;rw[L] at hp
   have av:u=none:=by
    cases u with
    | none=>rfl
    | some z=>exact absurd hp (by simp)
   subst av;show⟨T+i,by rw[I i U],by lia,by rw[I i U];lia,by rw[I i U];exact J,λm hm=>?_⟩;by_cases Z:m<T;exact ad m Z;obtain⟨O,rfl⟩:∃O,m=T+O:=⟨m - T,by lia⟩;obtain⟨u,J,L⟩:=inR O (by lia);have:=al O (by lia);rw[bB,L] at this;rw[I O (by lia),J]
   cases u with
   | none=>simp at this
   | some F=>exact⟨F,rfl⟩
  | none=>
   have an:=List.find?_eq_none.mp hf
   have Y:∀k,k<=SetTable.runEnd q (lp q h K).1 - (lp q h K).1->∃F,owner[(lp q h K).1+k]?=some (some F):=λk U=>by
    obtain⟨u,J,L⟩:=inR k U;have:=an k (aU.mpr (by lia));rw[L] at this
    cases u with
    | none=>simp at this
    | some F=>exact⟨F,J⟩
   have a4:K≠K':=λz=>by
    subst z;obtain⟨F,e⟩:=Y 0 (aK _);grind
   have ap:∀m,m<T+(SetTable.runEnd q (lp q h K).1 - (lp q h K).1)+1->∃F,owner[wk q h m]?=some (some F):=λm hm=>by
    by_cases Z:m<T;exact ad m Z;obtain⟨O,rfl⟩:∃O,m=T+O:=⟨m - T,by lia⟩;rw[I O (by lia)];exact Y O (by lia)
   obtain⟨N,a1,a2,a3⟩:=zfP hs B (K+1) _ (by lia) (zkU eT) ap ⟨K',by lia,by lia,h3⟩;exact⟨N,a1,by lia,a3⟩
structure Own (mask:Nat)(hs:AG)(n:Nat)(owner:Array (Option Nat)):Prop where
 size:owner.size=mask+1
 lt:∀ (j i:Nat),owner[j]?=some (some i)->i<n
 inj:∀ (j j' i:Nat),owner[j]?=some (some i)->owner[j']?=some (some i)->j=j'
 reach:∀ (i:Nat) (h:Int),i<n->hs[i]?=some h->∃N,N<10 * SetTable.turns mask/\owner[wk mask h N]?=some (some i)/\∀m,m<N->∃i',owner[wk mask h m]?=some (some i')
def Own.gap{hs:AG}(o:Own q hs n owner)(hn:n<=q):∃j,j<=q/\owner[j]?=some none:=by
 show bJ λJ=>?_
 have all:∀j,j<q+1->∃i,owner[j]?=some (some i):=λj F=>by
  have L:j<owner.size:=by rw[o.size];exact F
  cases e:owner[j] with
  | none=>exact absurd ⟨j,cK F,by right⟩ J
  | some i=>exact⟨i,by right⟩
 have O:=zaF n (l:=(List.range (q+1)).map λj=>((owner[j]?).join).getD 0) ?_ ?_;rw[ab,ay] at O;lia;show bD.mpr (List.Pairwise.imp_of_mem ?_ eo);intro a b U Y I e;show I ?_;obtain⟨i,hi⟩:=all a (aU.mp U);obtain⟨Z,B⟩:=all b (aU.mp Y);rw[hi,B] at e;have:i=Z:=e;subst this;exact o.inj _ _ _ hi B;intro x hx;obtain⟨j,F,rfl⟩:=au.mp hx;obtain⟨i,hi⟩:=all j (aU.mp F);rw[hi];exact o.lt _ _ hi
def Own.step{hs:AG}{h:Int}(o:Own B hs n owner)(hr:Ring (B+1))(hn:n<=B)(hh:hs[n]?=some h) :
  ∃j,SetTable.layClean.free B owner (SetTable.turns B) (SetTable.bits h % (B+1)) (SetTable.bits h)=some j/\Own B hs (n+1) (owner.setIfInBounds j (some n)):=by
 obtain⟨g,hg,eg⟩:=o.gap hn;have hb:(lp B h 13).1<B+1:=dX (zs7 B h 13);obtain⟨k,hk,e⟩:=hr.reach hb (dX hg);obtain⟨N,h1,h2,h3,h4,h5⟩:=zfP o.size (SetTable.turns B) 0 0 (ah _) (h:=h) rfl (λm U=>absurd U (cw _)) ⟨13+k,aK _,by unfold SetTable.turns;lia,by rw[zk0,e];exact eg⟩;have hj:wk B h N<owner.size:=by rw[o.size];lia
 have I:(owner.setIfInBounds (wk B h N) (some n))[wk B h N]?=some (some n):=by right
 have F:∀j,j≠wk B h N->(owner.setIfInBounds (wk B h N) (some n))[j]?=owner[j]?:=λj ad=>by rw[Array.getElem?_setIfInBounds];rw[if_neg (λz=>ad z.symm)]
 have J:∀j i,owner[j]?=some (some i)->(owner.setIfInBounds (wk B h N) (some n))[j]?=some (some i):=λj i e=>by
  by_cases q:j=wk B h N;rw[q,h4] at e;cases e;rw[F j q];exact e
 show⟨wk B h N,h1,by simp[o.size],λj i e=>?_,λj Z i e O=>?_,λi h' hi L=>?_⟩;by_cases q:j=wk B h N;right;rw[F j q] at e;have:=o.lt _ _ e;lia;by_cases q:j=wk B h N;subst q;rw[I] at e;cases e;by_cases Y:Z=wk B h N;exact Y.symm;rw[F Z Y] at O;have:=o.lt _ _ O;lia;rw[F j q] at e;by_cases Y:Z=wk B h N;subst Y;rw[I] at O;cases O;have:=o.lt _ _ e;lia;rw[F Z Y] at O;exact o.inj _ _ _ e O;by_cases q:i=n;subst q;rw[hh] at L;cases L;show⟨N,by lia,I,λm U=>?_⟩;obtain⟨i',e⟩:=h5 m U;exact⟨i',J _ _ e⟩;obtain⟨M,m1,m2,m3⟩:=o.reach i h' (by lia) L;show⟨M,m1,J _ _ m2,λm U=>?_⟩;obtain⟨i',e⟩:=m3 m U;exact⟨i',J _ _ e⟩
def zns (q:Nat)(hs:AG):Own q hs 0 (Array.replicate (q+1) none):=by
 have B:∀j i,(Array.replicate (q+1) (none:Option Nat))[j]?≠some (some i):=λj i e=>by
  rw[Array.getElem?_replicate] at e;grind
 exact⟨by simp,λj i e=>absurd e (B j i),λj F i e=>absurd e (B j i),λi h hi=>absurd hi (cw _)⟩
def zh2(J:Ring (B+1)):∀ (zQ q:AG) (owner:Array (Option Nat)),(q++zQ).length<=B->Own B (q++zQ) q.length owner->
  ∃F,zQ.foldl (λ(acc:Option (Array (Option Nat)×Nat)) h=>acc.bind λx=>(SetTable.layClean.free B x.1 (SetTable.turns B) (SetTable.bits h % (B+1)) (SetTable.bits h)).bind λj=>some (x.1.setIfInBounds j (some x.2),x.2+1)) (some (owner,q.length))=some (F,(q++zQ).length)/\Own B (q++zQ) (q++zQ).length F
 | [],q,owner,_,o=>by right
 | h::zQ,q,owner,I,o=>by
  have O:q.length+(zQ.length+1)<=B:=by rw[ak,aO] at I;exact I
  obtain⟨j,e,o'⟩:=o.step J (by lia) (h:=h) (by simp);have L:q++h::zQ=(q++[h])++zQ:=by rw[b6];rfl
  have U:q.length+1=(q++[h]).length:=by rw[ak];rfl
  rw[L,U] at o';obtain⟨F,Y,Z⟩:=zh2 J zQ (q++[h]) _ (by rw[<- L];exact I) o';grind
def zfY(B:Ring (q+1))(hs:Array Int)(F:hs.size<=q):∃owner,SetTable.layClean q hs=some owner/\Own q hs.toList hs.size owner:=by
 obtain⟨owner,h1,h2⟩:=zh2 B hs.toList [] (Array.replicate (q+1) none) (by right) (zns q _);rw[List.nil_append,be] at h2;show⟨owner,?_,h2⟩;unfold SetTable.layClean;right
def xE (q:Nat)(owner:Array (Option Nat)):List (Nat×Nat):=(List.range (q+1)).filterMap λj=>(owner.getD j none).map (j,·)
def ue{hs:AG}(o:Own q hs n owner):(j,i)∈xE q owner↔owner[j]?=some (some i):=by
 unfold xE;rw[cR];constructor;rintro⟨L,F,e⟩;obtain⟨O,I,J⟩:=aD.mp e;cases J;have B:j<owner.size:=by rw[o.size];exact aU.mp F
 right;intro e;obtain⟨B,I⟩:=cy.mp e;show⟨j,aU.mpr (by rw[<- o.size];exact B),?_⟩;right
def zkY (q:Nat)(owner:Array (Option Nat)):(xE q owner).Pairwise λa b=>a.1<b.1:=by
 unfold xE;show List.pairwise_filterMap.mpr ((List.pairwise_lt_range).imp ?_);right
def zkX{hs:AG}(o:Own q hs hs.length owner):((xE q owner).map (·.2)).Perm (List.range hs.length):=by
 show ze2 ?_ eo λi=>?_;show bD.mpr (List.Pairwise.imp_of_mem ?_ (zkY q owner));intro a b B F I e;have h1:=(ue o).mp B;have h2:=(ue o).mp F;rw[e] at h1;have:=o.inj _ _ _ h1 h2;lia;rw[aU];constructor;intro h;obtain⟨⟨j,J⟩,h1,rfl⟩:=au.mp h;exact o.lt _ _ ((ue o).mp h1);intro h;obtain⟨N,_,e,_⟩:=o.reach i hs[i] h (ai h);exact au.mpr ⟨(_,i),(ue o).mpr e,rfl⟩
def zdd {α:Type}(l:List α):(List.range l.length).filterMap (λi=>l[i]?)=l:=by
 have:∀ (n:Nat) (l:List α),n=l.length->(List.range n).filterMap (λi=>l[i]?)=l:=by
  intro n
  induction n with
  | zero=>intro l h;cases l with | nil=>rfl | cons _ _=>simp at h
  | succ n q=>
   intro l h
   cases l with
   | nil=>simp at h
   | cons a l=>
    rw[List.range_succ_eq_map,bZ];change a::_=_;rw[eU];congr 1;exact q l (by simpa using h)
 exact this _ l rfl
section
variable {prog:Aa}{w:Ab}{t:SetTable}{es:Array (Int×Value)}{xs:List (List Key×Addr)}
def Tb.laid(T:Tb prog w t es xs)(hm:zaP B)(hl:xs.length<=B)(L U:Nat) :
  ∃t' F Z,SetTable.laid B L U t.led true (es.map (·.1))=some (t',F)/\(F.filterMap (es[·]?)).size=es.size/\Tb prog w t' (F.filterMap (es[·]?)) Z/\Z.Perm xs/\t'.mask=B:=by
 obtain⟨owner,e,o⟩:=zfY hm.ring (es.map (·.1)) (by rw[Array.size_map,T.size];exact hl);have hh:(es.map (·.1)).toList=xs.map λq=>(tk prog w).hash q.1:=by rw[Array.toList_map,T.eq,aB];rfl
 have hsz:(es.map (·.1)).size=xs.length:=by rw[Array.size_map,T.size]
 rw[hh,hsz] at o;have o':Own B (xs.map λq=>(tk prog w).hash q.1) (xs.map λq=>(tk prog w).hash q.1).length owner:=by rw[ab];exact o
 have hp:=zkX o';rw[ab] at hp;have ad:((((xE B owner).map (·.2)).toArray).filterMap (es[·]?)).toList=((xE B owner).map (·.2)).filterMap (es.toList[·]?):=by right
 have J:(((xE B owner).map (·.2)).filterMap (xs[·]?)).Perm xs:=by have:=hp.filterMap (xs[·]?);rw[zdd] at this;exact this
 have ag:((xE B owner).map (·.2)).filterMap (es.toList[·]?)=(((xE B owner).map (·.2)).filterMap (xs[·]?)).map λq=>((tk prog w).hash q.1,Value.ref q.2):=by rw[List.map_filterMap];congr 1;funext i;rw[T.eq,aq]
 have Y:∀ {c:Nat} {q:List Key×Addr},(((xE B owner).map (·.2)).filterMap (xs[·]?))[c]?=some q->∃j i,(xE B owner)[c]?=some (j,i)/\xs[i]?=some q:=by
  have as:∀ (l:List (Nat×Nat)),(∀p∈l,p.2<xs.length)->∀ {c:Nat} {q:List Key×Addr},((l.map (·.2)).filterMap (xs[·]?))[c]?=some q->∃j i,l[c]?=some (j,i)/\xs[i]?=some q:=by
   intro l
   induction l with
   | nil=>intro _ c q h;simp at h
   | cons p l ih=>
    intro al c q h;have av:=al p am;rw[az,bZ,ai av] at h
    cases c with
    | zero=>
     show⟨p.1,p.2,rfl,?_⟩;right
    | succ c=>exact ih (λp' a0=>al p' (aw _ a0)) (by simpa using h)
  intro c q h;show as _ (λp hp=>?_) h;obtain⟨j,i⟩:=p;exact o.lt _ _ ((ue o).mp hp)
 have I:∀ {c j i:Nat},(xE B owner)[c]?=some (j,i)->(((xE B owner).map (·.1)).toArray)[c]?=some j:=λ{c j i} h=>by right
 show⟨_,_,((xE B owner).map (·.2)).filterMap (xs[·]?),by unfold SetTable.laid;rw[e];rfl,?_,⟨?_,?_,rfl,?_,?_,?_,hm,?_,rfl,by exact T.led,?_⟩,J,rfl⟩;change ((((xE B owner).map (·.2)).toArray).filterMap (es[·]?)).size=es.size;rw[<- be,ad,ag,ab,J.length_eq,T.size];exact ad.trans ag;rw[(J.map (·.1)).nodup_iff];exact T.nd;intro i j an hj
 have ap:j<(xE B owner).length:=by
  have:(((xE B owner).map (·.1)).toArray).size=(xE B owner).length:=by simp
  rw[<- this];exact hj
 have a1:i<(xE B owner).length:=Nat.lt_trans an ap;have:=b7.mp (zkY B owner) i j a1 ap an;change (((xE B owner).map (·.1)).toArray).getD i 0<(((xE B owner).map (·.1)).toArray).getD j 0;right;intro c j hc;have O:((xE B owner).map (·.1))[c]?=some j:=by rw[zcp] at hc;exact hc
 rw[aq] at O;obtain⟨⟨j',i'⟩,h1,rfl⟩:=aD.mp O;have h2:=(ue o).mp (ar h1);have:=(cy.mp h2).1;rw[o.size] at this;change j'<=B;lia;change (((xE B owner).map (·.1)).toArray).size=_;have h1:(((xE B owner).map (·.1)).toArray).size=(xE B owner).length:=by simp
 rw[h1,J.length_eq];have:=hp.length_eq;grind;rw[J.length_eq];exact hl;intro c q hq;obtain⟨j,i,h1,h2⟩:=Y hq;have hi:=(ac.mp h2).1;obtain⟨N,n1,n2,n3⟩:=o.reach i ((tk prog w).hash q.1) hi (by right);have hj:=o.inj _ _ _ ((ue o).mp (ar h1)) n2;subst hj;show⟨N,n1,I h1,λm a2=>?_⟩;obtain⟨i',e'⟩:=n3 m a2;obtain⟨c',O,a3⟩:=bF.mp ((ue o).mpr e');exact⟨c',I (by rw[ai O,a3])⟩
variable {A:Ae}{E:AA}{s:AZ}
def xS (prog:Aa)(w:Ab)(h:Heap)(a:Addr)(xs:List (List Key×Addr)):Prop:=∃o es q t,h.get? a=some o/\o.ExactSet/\o.data = .set es q t/\Tb prog w t es xs/\xs.length * 5<t.mask * 3
def zcs{ns:AG}(Y:(tk prog w).is s.heap (ns.map Sum.inl) b)(h:Q true s):Ag prog w A (hashByValue 8 (.ref b)) Q E s:=by
 have I:IsTupleKey (zV prog w) s.heap (ns.map Sum.inl) b:=Y;have Z:=I.typeIs;obtain⟨o,items,n,ho,_,hd,hi⟩:=I
 have B:∀ {ns:AG} {vs:AN},ItemsAre (zV prog w) (ns.map Sum.inl) vs->∀v∈vs,∃i t,v=Value.int i t:=by
  intro ns
  induction ns with
  | nil=>intro vs h v J;cases h;simp at J
  | cons n ns ih=>
   intro vs h v J
   cases h with
   | cons h1 h2=>
    rcases aF.mp J with rfl | J
    ·have L:zhf (Sum.inl n) v=true:=h1;rcases z8 L with ⟨i,t,_,e⟩ | ⟨x,t,z,_⟩
     all_goals right
    exact ih h2 v J
 unfold hashByValue;show aa (eE Z F.slot_tuple_hash.lookup ?_);dsimp only;show aa (ff ho hd ?_);show aa ?_;change wpAny _ _ (forIn items _ _) _ _ s;rw[<- Array.forIn_toList];show fO _ (λzQ r s'=>r.1=none/\s'=s/\∀v∈zQ,∃i t,v=Value.int i t) _ ?_ ?_ _ _ ⟨rfl,rfl,B hi⟩;rintro v zQ r s' ⟨O,rfl,q⟩;obtain⟨i,t,rfl⟩:=q v am;have e:hashByValue 7 (Value.int i t)=pure true:=rfl;rw[e];show aa (ae ?_);simp only[fK,aR,if_false];exact ae ⟨rfl,rfl,λu U=>q u (aw _ U)⟩;rintro⟨r1,r2⟩ s' ⟨O,rfl,_⟩;simp only at O;subst O;exact ae h
def zd4{h:Heap}{a:Addr}{o:Obj}{es:Array (Int×Value)}{es':Array (Int×Value)}(F:h.get? a=some o)(B:o.data = .set es q t) :
  (h.update a (Obj.putSet es' t')).get? a=some { o with data:=.set es' (q+1) t' }:=by
 have:=b9 (Obj.putSet es' t') F (by rw[putSet_of es' t' B];rfl);rw[putSet_of es' t' B] at this;exact this
def znW(T:Tb prog w t es xs)(ho:s.heap.get? a=some o)(hx:o.ExactSet)(hd:o.data = .set es ep t)(hw:SetTable.sizeAbove wanted=mask+1)(hm:zaP mask)(hl:xs.length * 5<mask * 3)(h:∀h' xs',Heap.SameBut a s.heap h'->xS prog w h' a xs'->xs'.Perm xs->Q () { s with heap:=h' }):Ag prog w A (setRelay a wanted) Q E s:=by
 unfold setRelay;show aa (bt ho hd T.fits ?_);dsimp only;have:=hm.le;rw[if_neg (by rw[hw,bM];lia)];obtain⟨t',order,xs',e,hsz,T',hp,hmk⟩:=T.laid hm (by lia) t.finger (t.movedTo mask);have e':t.relaid (es.map (·.1)) wanted=some (t',order):=by unfold SetTable.relaid;rw[hw,T.plain];exact e
 have core:∀ {R:Array (Int×Value)×SetTable->AZ->Prop},R (order.filterMap (es[·]?),t') s->Ag prog w A (do
   let some (t,order):=t.relaid (es.map (·.1)) wanted | unsupported "internal:set-table-without-room"
   let es':=order.filterMap (es[·]?)
   if es'.size != es.size then unsupported "internal:set-table-lost-an-element"
   pure (es',t)) R E s:=λ{R} hR=>by
  rw[e'];dsimp only;rw[hsz];simp only[bne_self_eq_false,aR,if_false]
  first | exact ae hR | exact aa (by grind)
 show aa (core ?_);show wpAny_storeSet_of ho hd ?_ (by rw[hsz,T.size,bM];lia);show h _ xs' (bu _ a _) ⟨_,_,_,t',zd4 ho hd,hx,rfl,T',?_⟩ hp;rw[hp.length_eq,hmk];exact hl
def Tb.out(T:Tb prog w t es xs)(Y:N<10 * SetTable.turns t.mask)(J:∀i:Nat,t.place[i]?≠some (wk t.mask ((tk prog w).hash k) N))(L:zfu t xs ((tk prog w).hash k) k N):k∉xs.map (·.1):=λz=>by
 obtain⟨q,O,B⟩:=au.mp z;obtain⟨i,hi⟩:=List.mem_iff_getElem?.mp O;obtain⟨n,h1,h2,I⟩:=T.reach i q hi;rw[B] at h2 I;rcases cu N n with z | z | z;obtain⟨F,e⟩:=I N z;exact J F e;right;obtain⟨F,Z,U,e2,e3⟩:=L n z
 have:F=i:=by
  have a1:=zbJ T.ris U;have a2:=zbJ T.ris h2;right
 grind
def zoi{ns:AG}(hu:A.units<cLine)(S:xS prog w s.heap a xs)(hk:(tk prog w).is s.heap (ns.map Sum.inl) b)(av:∀q∈xs,(tk prog w).is s.heap q.1 q.2)(hn:xs.length<300)(h:∀r h' n U,Heap.SameBut a s.heap h'->xS prog w h' a U->((ns.map Sum.inl)∈xs.map (·.1)->U=xs)->((ns.map Sum.inl)∉xs.map (·.1)->U.Perm ((ns.map Sum.inl,b)::xs))->Q r { s with heap:=h',toks:=n }) :
  Ag prog w A (setAdd a (.ref b)) Q E s:=by
 obtain⟨o,es,ep,t,ho,hx,hd,T,B⟩:=S;unfold setAdd;show bq (aa ((tk prog w).pyHash hu hk ?_));unfold setAddHashed;show bq ?_;rw[show (100000:Nat)=99999+1 from rfl];unfold setAddHashedIn;show aa (bt (s:={ s with toks:=s.toks+(tk prog w).draws (ns.map Sum.inl) }) ho hd T.fits ?_);dsimp only;rw[show byScan (.ref b) es=false from rfl];simp only[aR,if_false];unfold setSearch;have hm:=T.msk.le;have a7:t.fill=xs.length:=by unfold SetTable.fill;rw[T.sz,T.dm];rfl
 show aa (zds (s:={ s with toks:=s.toks+(tk prog w).draws (ns.map Sum.inl) }) hu T hk av ho hd ?found ?free 100000 0 none rfl (by unfold SetTable.turns;lia) (aK _) (λm hm=>absurd hm (cw _)))
 case found=>
  intro r i q hq a0 _;dsimp only;have ag:(ns.map Sum.inl)∈xs.map (·.1):=au.mpr ⟨q,ar hq,a0⟩;exact ae (h false s.heap _ xs (Heap.SameBut.refl a s.heap) ⟨o,es,ep,t,ho,hx,hd,T,B⟩ (λ_=>rfl) (λz=>absurd ag z))
 case free=>
  intro N hN he hp;have Y:=T.out hN he hp;dsimp only;show aa (bt (s:={ s with toks:=s.toks+(tk prog w).draws (ns.map Sum.inl) }) ho hd T.fits ?_);dsimp only
  have al:wk t.mask ((tk prog w).hash (ns.map Sum.inl)) N<=t.mask:=by
   have:∀ (h:Int) (n:Nat),wk t.mask h n<=t.mask/\(stp t.mask h n).j+(stp t.mask h n).more<=t.mask:=by
    intro h n
    induction n with
    | zero=>
     have h0:SetTable.bits h % (t.mask+1)<=t.mask:=cK (fq _ (eX _));obtain⟨r1,r2⟩:=zde h0;show⟨h0,?_⟩;change SetTable.bits h % (t.mask+1)+(SetTable.runEnd t.mask (SetTable.bits h % (t.mask+1)) - SetTable.bits h % (t.mask+1))<=t.mask;lia
    | succ n ih=>
     change ((tm t.mask).advance (stp t.mask h n)).j<=t.mask/\((tm t.mask).advance (stp t.mask h n)).j+((tm t.mask).advance (stp t.mask h n)).more<=t.mask;by_cases a1:0<(stp t.mask h n).more;rw[zhO _ _ a1];grind;rw[zej _ _ (by lia)];have h0:((stp t.mask h n).i * 5+1+(stp t.mask h n).perturb / 32) % (t.mask+1)<=t.mask:=cK (fq _ (eX _));obtain⟨r1,r2⟩:=zde h0;grind
   exact (this _ _).1
  obtain⟨a2,T1,Z⟩:=T.put (b:=b) hN he hp Y (by lia) al;generalize an:t.put (wk t.mask ((tk prog w).hash (ns.map Sum.inl)) N)=tp at T1;obtain⟨J,p⟩:=tp;dsimp only at T1 ⊢
  have ap:J.mask=t.mask:=by
   have:J=(t.put (wk t.mask ((tk prog w).hash (ns.map Sum.inl)) N)).1:=by rw[an]
   rw[this];rfl
  rw[T1.plain];simp only[if_true];show aa (zcs (s:={ s with toks:=s.toks+(tk prog w).draws (ns.map Sum.inl) }) hk ?_);simp only[if_true];have ad:=Z.length_eq;rw[aO] at ad;show aa (wpAny_storeSet_of (s:={ s with toks:=s.toks+(tk prog w).draws (ns.map Sum.inl) }) ho hd ?_ (by rw[T1.size,bM];lia));have g1:=zd4 (es':=SetTable.insertAt es p ((tk prog w).hash (ns.map Sum.inl),.ref b)) (t':=J) ho hd;have as:=bu s.heap a (Obj.putSet (SetTable.insertAt es p ((tk prog w).hash (ns.map Sum.inl),.ref b)) J);simp only[Bool.not_false,Bool.true_and];have L:J.fill=xs.length+1:=by unfold SetTable.fill;rw[T1.sz,T1.dm,ad];rfl
  by_cases O:J.tooFull=true
  ·rw[if_pos O];unfold SetTable.tooFull at O;rw[L,ap] at O;have I:=bP O;rw[T.size]
   have next:∃F,SetTable.sizeAbove (SetTable.grown (xs.length+1))=F+1/\zaP F/\(xs.length+1) * 5<F * 3:=by
    rcases T.msk with e | e | e | e;rw[e] at I B;have:xs.length=4:=by lia
    rw[this];exact⟨31,by ext,.inr (.inl rfl),by lia⟩;rw[e] at I B;have:xs.length=18:=by lia
    rw[this];exact⟨127,by ext,.inr (.inr (.inl rfl)),by lia⟩;rw[e] at I B;have:xs.length=76:=by lia
    rw[this];exact⟨511,by ext,.inr (.inr (.inr rfl)),by lia⟩;rw[e] at I B;lia
   obtain⟨F,m1,m2,m3⟩:=next;show aa (znW (s:={ s with heap:=s.heap.update a (Obj.putSet (SetTable.insertAt es p ((tk prog w).hash (ns.map Sum.inl),.ref b)) J),toks:=s.toks+(tk prog w).draws (ns.map Sum.inl) }) T1 g1 hx rfl m1 m2 (by rw[ad];exact m3) λh' a3 a4 S2 a5=>?_);exact ae (h true h' _ a3 (as.trans a4) S2 (λz=>absurd z Y) λ_=>a5.trans Z)
  rw[if_neg O];unfold SetTable.tooFull at O;rw[L,ap] at O;have I:¬ ((xs.length+1) * 5 ≥ t.mask * 3):=λz=>O (a6 z);show ae (h true _ _ a2 as ⟨_,_,_,J,g1,hx,rfl,T1,?_⟩ (λz=>absurd z Y) λ_=>Z);right
end
def z6:Slot "set_iterator" "__next__" "set_iterator.__next__" :=
 .of (owner := "set_iterator") (n := "__next__") (by rw[typeLookup_type,builtinLookup_eq_fast];kernel_rfl) (by decide +kernel) (by decide +kernel) (by decide +kernel)
  (by first | exact .inl (by decide +kernel) | exact .inr (by decide +kernel)) (by rw[isSubtype_type];kernel_rfl)
def uz:Slot "set_iterator" "__iter__" "set_iterator.__iter__" :=
 .of (owner := "set_iterator") (n := "__iter__") (by rw[typeLookup_type,builtinLookup_eq_fast];kernel_rfl) (by decide +kernel) (by decide +kernel) (by decide +kernel)
  (by first | exact .inl (by decide +kernel) | exact .inr (by decide +kernel)) (by rw[isSubtype_type];kernel_rfl)
def uc:entryFor table "set_iterator.__next__" = some Builtin.«set_iterator.__next__»:=entryFor_of_tree (by kernel_rfl)
def zbf:entryFor table "set_iterator.__iter__" = some Builtin.«dict_keyiterator.__iter__»:=entryFor_alias (id' := "dict_keyiterator.__iter__") (by kernel_rfl) rfl (by decide +kernel) (by kernel_rfl)
def zdz:entryFor table "set.__iter__" = some Builtin.«frozenset.__iter__»:=entryFor_alias (id' := "frozenset.__iter__") (by kernel_rfl) rfl (by decide +kernel) (by kernel_rfl)
def uq (a:Value):argsOk "set_iterator.__next__" ⟨[a],[]⟩:=by unfold argsOk;kernel_rfl
def zbP (a:Value):argsOk "set_iterator.__iter__" ⟨[a],[]⟩:=by unfold argsOk;kernel_rfl
def zkn {α:Type}(next:Nat->Nat):∀ (n k:Nat) (left:List α) (q:Array α),left.length=n->(pickOrder.go next n k left q).toList.Perm (q.toList++left)
 | 0,k,left,q,h=>by
  have:left=[]:=bn h;subst this;change q.toList.Perm (q.toList++[]);right
 | n+1,k,left,q,h=>by
  have B:next k % left.length<left.length:=fq _ (by lia)
  change (match left[next k % left.length]? with
   | some x=>pickOrder.go next n (k+1) (left.eraseIdx (next k % left.length)) (q.push x)
   | none=>q).toList.Perm _
  rw[ai B];show (zkn next n (k+1) _ _ (by grind)).trans ?_;rw[Array.toList_push,b6];show List.Perm.append_left _ ?_;have e:left=left.take (next k % left.length)++left[next k % left.length]::left.drop (next k % left.length+1):=by right
  rw[List.eraseIdx_eq_take_drop_succ];show List.Perm.trans ?_ (List.Perm.of_eq e.symm);rw[List.singleton_append];exact List.perm_middle.symm
def zgi {α:Type}(next:Nat->Nat)(xs:Array α):(pickOrder next xs).toList.Perm xs.toList:=by
 change (pickOrder.go next xs.size 0 xs.toList #[]).toList.Perm _;have:=zkn next xs.size 0 xs.toList #[] (be);grind
section
variable {prog:Aa}{w:Ab}{t:SetTable}{es:Array (Int×Value)}{xs:List (List Key×Addr)}{A:Ae}{E:AA}{s:AZ}
def znr (w:Ab)(a:Addr)(q:Nat)(es:Array (Int×Value)):Array (Int×Value):=if w.params.followText "set-order" then pickOrder (w.params.setOrder a q) es else es
def zgh (a:Addr)(q:Nat):(znr w a q es).toList.Perm es.toList:=by
 unfold znr;split;exact zgi _ _;right
def yK (h:Heap)(B a:Addr)(q i n F:Nat):Prop:=∃o,h.get? B=some o/\o.cls = .type "set_iterator" /\ o.data = .fields #[.int q 0,.int i 0,.ref a,.int n 0,.int F 0]
def yK.typeIs(x:yK s.heap B a q i n F):s.TypeIs (.ref B) "set_iterator" := let ⟨o,ho,hc,_⟩:=x;⟨o,ho,hc⟩
structure SetIs (prog:Aa)(w:Ab)(h:Heap)(a:Addr)(es:Array (Int×Value))(ep:Nat)(t:SetTable)(xs:List (List Key×Addr)):Prop where
 ob:∃o,h.get? a=some o/\o.ExactSet/\o.data = .set es ep t
 tb:Tb prog w t es xs
def zlh{e:Int×Value}(hit:yK s.heap it a slot i es.size ep)(S:SetIs prog w s.heap a es ep t xs)(hs:w.params.followText "set-order" = true\/SetTable.below t.place slot=i)(hx:(znr w a ep es)[i]?=some e)(hQ:∀h' slot',yK h' it a slot' (i+1) es.size ep->(w.params.followText "set-order" = true\/SetTable.below t.place slot'=i+1)->Heap.SameBut it s.heap h'->Q (some e.2) { s with heap:=h' }):Ag prog w A (pyNext (.ref it)) Q E s:=by
 obtain⟨o,ho,hc,hd⟩:=id hit;obtain⟨⟨os,hos,_,hds⟩,T⟩:=S;have hf:=T.fits;unfold pyNext
 show aa (cO (wpAny_callSpecial?_slot (name:=Str.ofString "__next__") hit.typeIs z6
  (aZ z6 hit.typeIs uc ?_ (uq _))))
 show aa (ae ?_);show aa (fj ho hd ?_);dsimp only;show aa (eK hos hds hf ?_);rw[if_neg (by simp)]
 have upd2:∀slot':Nat,∃h',yK h' it a slot' (i+1) es.size ep/\Heap.SameBut it s.heap h'/\∀ {A':Ae} {E':AA} {α:Type} {f:Sem α} {R:α->AZ->Prop},Ag prog w A' f R E' { s with heap:=h' }->Ag prog w A' (do setField (.ref it) 0 (rawInt slot');setField (.ref it) 1 (rawInt ((i:Int)+1));f) R E' s:=by
  intro slot';have h1:(s.heap.update it (Obj.mapFields (·.setIfInBounds 0 (rawInt slot')))).get? it=some (Obj.mapFields (·.setIfInBounds 0 (rawInt slot')) o):=b9 _ ho (cV (bT hd _));have hd1:(Obj.mapFields (·.setIfInBounds 0 (rawInt slot')) o).data = .fields #[.int slot' 0,.int i 0,.ref a,.int es.size 0,.int ep 0]:=by rw[bT hd];simp[rawInt]
  show⟨(s.heap.update it (Obj.mapFields (·.setIfInBounds 0 (rawInt slot')))).update it (Obj.mapFields (·.setIfInBounds 1 (rawInt ((i:Int)+1)))),⟨_,b9 _ h1 (cV (bT hd1 _)),?_,?_⟩,(bu ..).trans (bu ..),λ{A' E' α f R} hR=>?_⟩;rw[dS,dS];exact hc;rw[bT hd1];simp[rawInt];exact aa (cF ho hd (by simp) (aa (cF (s:={ s with heap:=s.heap.update it (Obj.mapFields (·.setIfInBounds 0 (rawInt slot'))) }) h1 hd1 (by simp) hR)))
 unfold setNext
 cases hb:w.params.followText "set-order" with
 | true=>
  have hx':(pickOrder (w.params.setOrder a ep) es)[i]?=some e:=by
   unfold znr at hx;right
  obtain⟨h',hi',sb',step⟩:=upd2 slot;show aa ?_;show aa (bt hos hds hf ?_);dsimp only;unfold setsByText;show aa (aa (br (ae ?_)));rw[show (model prog w).w=w from rfl,hb];simp only[if_true];rw[if_neg (by simp)];unfold setWalk;show aa ?_;show aa (bt hos hds hf ?_);dsimp only;unfold setsByText;show aa (aa (br (ae ?_)));rw[show (model prog w).w=w from rfl,hb];simp only[if_true];show aa (br (ae ?_));show ae ?_;rw[show (model prog w).w=w from rfl];simp only[aP];rw[hx'];dsimp only[Option.map];exact step (ae ⟨_,rfl,ae (hQ h' slot hi' (.inl hb) sb')⟩)
 | false=>
  have hx':es[i]?=some e:=by
   unfold znr at hx;grind
  have hsl:SetTable.below t.place slot=i:=by grind
  have hi:i<es.size:=(cy.mp hx').1;have hpl:t.place[i]?=some (t.place.getD i 0):=zgZ (by rw[T.sz,<- T.size];exact hi);obtain⟨h',hi',sb',step⟩:=upd2 (t.place.getD i 0+1);show aa ?_;show aa (bt hos hds hf ?_);dsimp only;unfold setsByText;show aa (aa (br (ae ?_)));rw[show (model prog w).w=w from rfl,hb];simp only[aR,if_false];rw[if_neg (by change ¬ ((!t.plain&&decide (es.size > 1))=true);rw[T.plain];simp)];show aa ?_;change wpAny _ _ (if (!t.led&&!es.isEmpty)=true then unsupported "set:maker-not-led" else pure ()) _ _ s;rw[if_neg (by rw[T.led,hb];simp)];show ae ?_;simp only[aP];rw[hsl,hx',hpl];show ae ?_;dsimp only;show step (ae ⟨_,rfl,ae (hQ h' _ hi' (.inr ?_) sb')⟩);obtain⟨b1,b2,b3⟩:=ur T.ris (t.place.getD i 0+1);have hi2:=(ug hpl).1;rcases cu (SetTable.below t.place (t.place.getD i 0+1)) (i+1) with z | z | z;have:=b3 i (by lia) hi2;lia;exact z;have h1:=b2 (i+1) z;have h2:=T.ris i (i+1) (dj i) (by lia);lia
def znm(hh:A.handled=none)(B:yK s.heap J a q es.size es.size L)(S:SetIs prog w s.heap a es L t xs)(hs:w.params.followText "set-order" = true\/SetTable.below t.place q=es.size)(hQ:∀h',Heap.ExtBut J s.heap h'->Q none { s with heap:=h' }):Ag prog w A (pyNext (.ref J)) Q E s:=by
 obtain⟨o,O,hc,U⟩:=id B;obtain⟨⟨os,F,_,I⟩,T⟩:=S;have Y:=T.fits;unfold pyNext
 show aa (cO (wpAny_callSpecial?_slot (name:=Str.ofString "__next__") B.typeIs z6
  (aZ z6 B.typeIs uc ?_ (uq _))))
 show aa (ae ?_);show aa (fj O U ?_);dsimp only;show aa (eK F I Y ?_);rw[if_neg (by simp)];unfold setNext;show aa ?_;show aa (bt F I Y ?_);dsimp only;unfold setsByText;show aa (aa (br (ae ?_)))
 cases hb:w.params.followText "set-order" with
 | true=>
  rw[show (model prog w).w=w from rfl,hb];simp only[if_true];rw[if_neg (by simp)];unfold setWalk;show aa ?_;show aa (bt F I Y ?_);dsimp only;unfold setsByText;show aa (aa (br (ae ?_)));rw[show (model prog w).w=w from rfl,hb];simp only[if_true];show aa (br (ae ?_));show ae ?_;rw[show (model prog w).w=w from rfl];simp only[aP];have hn:(pickOrder (w.params.setOrder a L) es)[es.size]?=none:=by rw[zcp];show List.getElem?_eq_none ?_;rw[(zgi _ es).length_eq,be];exact ah _
  rw[hn];dsimp only[Option.map];show aa (cF O U (by simp) ?_);show wpAny _ _ (newExc (.type "StopIteration") [] >>= _) _ _ _;show aa ?_;simp only[newExc,newTuple];show aa (bj ?_ (by size_fits));show aa (m:=firstArgMember _ _) (fG (a:=Value.none) (by first | rfl | (simp only[firstArgMember];rfl)) ?_);show bj ?_ (by size_fits);simp only[raiseNew];show aa (fH ?_);rw[show A.in1.handled=none from hh];show aa (ae (wpAny_throw ?_));show aa (cB (T := "StopIteration") (b:=true) ⟨_,aC _ rfl,rfl⟩ de ?_);exact ae (hQ _ (((bu ..).extBut.push _).push _))
 | false=>
  have Z:SetTable.below t.place q=es.size:=by grind
  rw[show (model prog w).w=w from rfl,hb];simp only[aR,if_false];rw[if_neg (by change ¬ ((!t.plain&&decide (es.size > 1))=true);rw[T.plain];simp)];show aa ?_;change wpAny _ _ (if (!t.led&&!es.isEmpty)=true then unsupported "set:maker-not-led" else pure ()) _ _ s;rw[if_neg (by rw[T.led,hb];simp)];show ae ?_;simp only[aP];rw[Z,Array.getElem?_eq_none (ah _)];show ae ?_;dsimp only;show aa (cF O U (by simp) ?_);show wpAny _ _ (newExc (.type "StopIteration") [] >>= _) _ _ _;show aa ?_;simp only[newExc,newTuple];show aa (bj ?_ (by size_fits));show aa (m:=firstArgMember _ _) (fG (a:=Value.none) (by first | rfl | (simp only[firstArgMember];rfl)) ?_);show bj ?_ (by size_fits);simp only[raiseNew];show aa (fH ?_);rw[show A.in1.handled=none from hh];show aa (ae (wpAny_throw ?_));show aa (cB (T := "StopIteration") (b:=true) ⟨_,aC _ rfl,rfl⟩ de ?_);exact ae (hQ _ (((bu ..).extBut.push _).push _))
def zkG(q:yK s.heap F a B i n I)(h:Q (.ref F) s):Ag prog w A (pyIter (.ref F)) Q E s:=by show fw q.typeIs uz (aZ uz q.typeIs zbf ?_ (zbP _));change wpAny _ _ (ret (.ref F)) _ _ s;exact ae ⟨_,rfl,"set_iterator",_,q.typeIs,z6.lookup,h⟩
def SetIs.typeIs(S:SetIs prog w s.heap a es q t xs):s.TypeIs (.ref a) "set" := let ⟨o,ho,hc,_⟩:=S.ob;⟨o,ho,hc.1⟩
def zm0(S:SetIs prog w s.heap a es J t xs)(h:Q (.ref s.heap.objs.size) { s with heap:=s.heap.push { cls:=.type "set_iterator",data:=.fields #[.int 0 0,.int 0 0,.ref a,.int es.size 0,.int J 0] } }):Ag prog w A (pyIter (.ref a)) Q E s:=by
 have L:=S.typeIs;obtain⟨⟨O,q,U,B⟩,T⟩:=S;have I:=T.fits;show fw L F.slot_set_iter (aZ F.slot_set_iter L zdz ?_ (F.args_set_iter_1 _));unfold Builtin.«frozenset.__iter__»;show aa (m:=Builtin.Frozenset.slot0 "__iter__" ⟨[.ref a],[]⟩) (ae ?_);show aa ?_;unfold Builtin.Frozenset.sizeOf;show aa (eK q B I (ae ?_));show aa ?_;unfold setDrawn;show aa (bt q B I ?_);dsimp only;unfold setsByText;show aa (aa (br (ae ?_)));show ae ?_;rw[if_neg (by change ¬ ((!_&&(!t.plain&&decide (es.size > 1)))=true);rw[T.plain];simp)];show aa (ae ?_);show aa (wpAny_setEpoch_of q B I ?_);show aa (bj (ae ⟨_,rfl,"set_iterator",_,⟨_,aC _ rfl,rfl⟩,z6.lookup,?_⟩));simpa [rawInt] using h
def zn0(I:s.TypeIs (.ref r) "set")(h:Q false s):Ag prog w A (Builtin.List.listLengthHint (.ref r)) Q E s:=by
 unfold Builtin.List.listLengthHint;show aa (eE I PySem.F.slot_set_len.lookup ?_);generalize B:("set.__len__" : String)=id0
 wp_delta
 rw[show splitId id0=some ("set","__len__") from by subst B;decide +kernel];subst B;show aa (cB (T := "set") (b:=true) I (by rw[isSubtype_type];kernel_rfl) ?_);show wpAny_ite_split (λq=>absurd q (by ext)) (λ_=>?_);show wpAny_ite_split (λ_=>?_) (λq=>absurd (by decide +kernel) q);show aa (dB I ?_);exact ae h
def SetIs.keep(S:SetIs prog w h a es q t xs)(k:∀o,h.get? a=some o->h'.get? a=some o):SetIs prog w h' a es q t xs:=let ⟨⟨o,ho,r⟩,T⟩:=S;⟨⟨o,k o ho,r⟩,T⟩
def yK.keep(S:yK h B a q i n F)(k:∀o,h.get? B=some o->h'.get? B=some o):yK h' B a q i n F:=let ⟨o,ho,r⟩:=S;⟨o,k o ho,r⟩
def SetIs.lt(S:SetIs prog w h a es q t xs):a<h.objs.size:=let ⟨⟨o,ho,_⟩,_⟩:=S;aA ho
def zlQ (hh:A.handled=none)(I a:Addr)(ad:a≠I)(J:Nat) :
  Walks prog w A I [I,a] [I] es.size (λi v=>∃e,(znr w a J es)[i]?=some e/\v=e.2) (λi h=>(∃q,yK h I a q i es.size J/\(w.params.followText "set-order" = true\/SetTable.below t.place q=i))/\SetIs prog w h a es J t xs) where
 sub:=λb L=>by simp at L;simp[L]
 frame:=λ_ _ _ st hk=>⟨let ⟨Z,x,y⟩:=st.1;⟨Z,x.keep λo e=>hk I (by simp) o e,y⟩,st.2.keep λo e=>hk a (by simp) o e⟩
 item:=λi s Q E hi st O=>by
  obtain⟨⟨Z,B,hs⟩,S⟩:=st
  have U:i<(znr w a J es).size:=by
   have:=(zgh (w:=w) (es:=es) a J).length_eq;grind
  show zlh B S hs (e:=(znr w a J es)[i]) (cG U) λh' F Y ag sb=>?_;exact O _ h' s.toks ⟨_,cG U,rfl⟩ ⟨⟨F,Y,ag⟩,S.keep λo e=>(sb.2 a ad).trans e⟩ λb o L e=>sb.extBut b o (λh=>L (by simp[h])) e
 done:=λs Q E st O=>by obtain⟨⟨Z,B,hs⟩,S⟩:=st;exact znm hh B S hs λh' al=>O h' s.toks λb o L e=>al b o (λh=>L (by simp[h])) e
 self:=λ_ _ _ _ st O=>let ⟨Z,x,_⟩:=st.1;zkG x O
def zrA (a:Addr)(q:Nat):KdlSrc prog w "set" a a es.size (λi v=>∃e,(znr w a q es)[i]?=some e/\v=e.2) (λh=>SetIs prog w h a es q t xs) where
 type:=λs S=>S.typeIs
 there:=λ_ S=>⟨S.lt,S.lt⟩
 keep:=λ_ _ S F=>S.keep λo e=>F a (.inl rfl) o e
 notList:=by ext
 notTuple:=by ext
 hint:=λ_ _ _ _ S B=>zn0 S.typeIs B
 iter:=λA s I S=>⟨_,_,(λ_ _ B=>zm0 S B),zlQ I _ a (aL S.lt) q,⟨⟨0,⟨_,aC _ rfl,rfl,rfl⟩,.inr ?_⟩,S.keep λo e=>aj _ e⟩⟩
where finally
 have b:=ur S.tb.ris 0;rcases Nat.eq_zero_or_pos (SetTable.below t.place 0) with z | z;exact z;exact absurd (b.2.1 0 z) (cw _)
end
def zfv (h:Heap)(L D:Addr)(v:Value)(st:AG):Prop:=∃ (a:Addr) (items:AN),v = .ref a/\IsTup h a items.toArray/\zY (st.map V.int) items/\a≠L/\a≠D
def zfv.keep{st:AG}(r:zfv h L D v st)(q:∀b o,b≠L->b≠D->h.get? b=some o->h'.get? b=some o):zfv h' L D v st:=by obtain⟨a,items,e,⟨o,B,F⟩,I,h1,h2⟩:=r;exact⟨a,items,e,⟨o,q a o h1 h2 B,F⟩,I,h1,h2⟩
def zdT:∀ {vs:AN} {sts:AF},Paired (zfv h L D) vs sts->(∀st∈sts,1<=st.length)->∃fs,W.KatTups h vs fs/\fs.length=sts.length/\∀f∈fs,∃a t,f=Value.int a t
 | _,_,.nil,_=>⟨[],trivial,rfl,λ_ h=>by simp at h⟩
 | _,_,.cons (b:=st) r I,h1=>by
  obtain⟨a,items,rfl,⟨o,J,O,n,U⟩,q,_⟩:=r;obtain⟨fs,Y,f2,f3⟩:=zdT I λz Z=>h1 z (aw _ Z);have B:=h1 st am
  match st,q,B with
  | z::zs,q,_=>
   cases q with
   | cons q1 qq=>
    obtain⟨t,rfl⟩:=q1;show⟨_::fs,⟨⟨a,o,_,n,rfl,J,O,U,rfl⟩,Y⟩,by right,λf F=>?_⟩;rcases aF.mp F with rfl | F
    all_goals right
def zb5 {α q:Type}{R:α->q->Prop}:∀ {l:List α} {l':List q},Paired R l l'->∀ {i:Nat} (d:α) (d':q),i<l'.length->R (l.getD i d) (l'.getD i d')
 | _,_,.nil,i,_,_,h=>by simp at h
 | _,_,.cons r _,0,_,_,_=>r
 | _,_,.cons _ t,i+1,d,d',h=>by have:=zb5 t (i:=i) d d' (by simpa using h);simpa using this
def zd2 {α q:Type}{R:α->q->Prop}:∀ {l:List α} {l':List q},Paired R l l'->l.length=l'.length
 | _,_,.nil=>rfl
 | _,_,.cons _ t=>by rw[aO,aO,zd2 t]
section
variable {prog:Aa}{w:Ab}{A:Ae}{E:AA}{s:AZ}
def znh{sts:AF}(ad:s.heap.Ns L m0)(ap:D≠L)(ho:s.heap.get? D=some (seqObj "list" vs.toArray n))(hv:Paired (zfv s.heap L D) vs sts)(bs:sts.length<64)(as:1<=m)(hm:∀st∈sts,st.length=m)(av:sts.Nodup)(h:∀h' c p,List.Perm p (List.range sts.length)->((p.map λi=>sts.getD i []).Pairwise λa b=>HT.lexLt a b=true)->(∀b o,b≠L->b≠D->s.heap.get? b=some o->h'.get? b=some o)->h'.Ns L m0->
   h'.get? D=some (seqObj "list" (p.map λi=>vs.getD i .none).toArray c)->Q .none { s with heap:=h' }) :
  Ag prog w A (call (.builtin "list.sort") [.ref D]) Q E s:=by
 have a0:=zd2 hv;by_cases h2:2<=sts.length
 ·have B:∀p∈(zbF s.heap L).filter (λq=>decide (q.1≠D)),s.heap.get? p.1=some p.2/\p.1≠L/\p.1≠D:=λp Z=>by
   have h1:=bw.mp Z;have h2:=z4.mp (show (p.1,p.2)∈zbF s.heap L from h1.1);right
  have J:∀b,(⟨#[],{}⟩:Heap).get? b=none:=λb=>by
   cases e:(⟨#[],{}⟩:Heap).get? b with
   | none=>rfl
   | some o'=>
    have:=aA e;simp at this
  show W.kat_lsort (h₀:=(⟨#[],{}⟩:Heap)) (L:=L) (m:=m0) (D:=D) (its:=vs.toArray) (n:=n) (news:=(D,seqObj "list" vs.toArray n)::(zbF s.heap L).filter (λq=>decide (q.1≠D))) (g:=λo=>(D,o)::(zbF s.heap L).filter (λq=>decide (q.1≠D))) ⟨ad,λb o e=>?_,aK _⟩ (λp Z=>?_) (W.UpdF.head λq hq=>(B q hq).2.2) (vs:=vs) rfl (by lia) (by lia) λe1 h' F N=>?_;right;rcases aF.mp Z with rfl | Z;right;exact⟨(B p Z).1,(B p Z).2.1,J _⟩
  ·have kp:∀b o,b≠L->b≠D->s.heap.get? b=some o->h'.get? b=some o:=λb o hb hD e=>(N (b,o) (aw _ (bw.mpr ⟨z4.mpr ⟨hb,e⟩,a6 hD⟩))).1;have O:Paired (zfv h' L D) vs sts:=Paired.mapP hv λv st r=>r.keep kp;obtain⟨fs,k1,k2,k3⟩:=zdT O λst a3=>by rw[hm st a3];exact as
   show W.kat_kind (T:=.type "int") (s:={ s with heap:=h' }) k1 (by lia) (λf hf=>?_) (by ext) ?_;obtain⟨a,t,rfl⟩:=k3 f hf;intro A' Q' E' s' _ hq;exact dB (fR s' a t) hq
   ·have hu:zcH sts.length (zc0 sts):=λi j hi I e=>by
     have e1:=xD hm hi I;have e2:=xD hm I hi;rw[e,bg (fJ _)] at e1;rw[e,bg (fJ _)] at e2;have gi:sts.getD i []=sts[i]:=by simp[hi]
     have gj:sts.getD j []=sts[j]:=by simp[I]
     rcases zaq (a:=sts.getD i []) (b:=sts.getD j []) (by right) with h | h | h;rw[gi,gj] at h;exact (cA av).mp h
     all_goals grind
    obtain⟨p,ag,U⟩:=ziC hu h2;rw[show vs.length=sts.length by lia];show ag.wp (S:=λs'=>s'={ s with heap:=h' }) (λi j C s' hi I Y hC=>?_) (λs' Y=>?_) _ rfl;subst Y;obtain⟨a1,a4,b1,c1,d1,_⟩:=zb5 O .none [] hi;obtain⟨a2,a5,b2,c2,d2,_⟩:=zb5 O .none [] I;obtain⟨o1,a7,_,n1,ba⟩:=c1;obtain⟨o2,bb,_,n2,bd⟩:=c2;change wpAny _ _ (keyLt' _ (vs.getD i .none) (vs.getD j .none)) C _ _;rw[b1,b2];have gi:(sts.getD i []).length=m:=by right
    have gj:(sts.getD j []).length=m:=by right
    have l1:=d1.length;have l2:=d2.length;rw[ab] at l1 l2;show W.kat_lt (s:={ s with heap:=h' }) a7 ba bb bd ?_;rw[show decide (a4.toArray.size<a5.toArray.size)=false from bg (by simp;lia)];show zeF 0 d1 d2 (by rw[gi,gj]) ?_;have:=hC { s with heap:=h' } rfl;rw[show zgH (zc0 sts) i j=HT.lexLt (sts.getD i []) (sts.getD j []) from xD hm hi I] at this;exact this;subst Y;have al:p.toList.Perm (List.range sts.length):=by have:=U.perm.toList;simpa using this
    have an:∀i∈p.toList,i<sts.length:=λi hi=>aU.mp ((al.mem_iff).mp hi);show W.KasFin.intro F N (W.UpdF.head λq' bk=>(B q' bk).2.2) λbl c F'' N''=>?_;show h bl c p.toList al ?_ (λb o hb hD e=>(N'' (b,o) (aw _ (bw.mpr ⟨z4.mpr ⟨hb,e⟩,a6 hD⟩))).1) F''.ns (N'' (D,_) am).1;have bx:p.size=sts.length:=uw U.perm;rw[b7];intro i j hi I bo;rw[ab,be] at hi I;have hk:=U.lt_of bo (by lia);rw[dl,dl,c8,c8];have e1:p.getD i 0=p[i]:=by simp[hi]
    have e2:p.getD j 0=p[j]:=by simp[I]
    unfold key at hk;rw[e1,e2] at hk;rw[<- xD hm (an _ (by simp)) (an _ (by simp))];right
 show aZ slot_list_sort ⟨_,ho,rfl⟩ entry_list_sort ?_ (args_list_sort _);show zaz ho (by lia) λh' c kp hD=>⟨_,rfl,?_⟩;show h h' c (List.range sts.length) (List.Perm.refl _) ?_ (λb o _ hb e=>kp b o hb e) ?_ ?_;grind;obtain⟨o,es,ep,g,k⟩:=ad;exact⟨o,es,ep,kp _ _ (Ne.symm ap) g,k⟩;rw[<- a0,zb6];exact hD
end
def zas {α L:Type}{f:α->L}{l m:List L}(h:l.Perm m):∀ {xs:List α},m=xs.map f->∃q:List α,q.Perm xs/\l=q.map f:=by
 induction h with
 | nil=>
  right
 | cons x _ O=>
  intro xs e
  cases xs with
  | nil=>cases e
  | cons y ys=>
   rw[az] at e;injection e with U F;obtain⟨q,h1,h2⟩:=O F;exact⟨y::q,h1.cons y,by right⟩
 | swap x y l=>
  intro xs e
  match xs,e with
  | [],e=>cases e
  | [_],e=>cases e
  | a::b::r,e=>
   rw[az,az] at e;injection e with U F;injection F with F e3;exact⟨b::a::r,.swap _ _ _,by grind⟩
 | trans _ _ I J=>
  intro xs e;obtain⟨q,h1,h2⟩:=J e;obtain⟨B,Y,Z⟩:=I h2;exact⟨B,Y.trans h1,Z⟩
def zhG (P:Aa)(w:Ab)(a:Addr)(xs:List (List Key×Addr)):HO:=.ext λh=>xS P w h a xs
def yT (xs:AE):List (List Key×Addr):=xs.map λq=>(q.1.map Sum.inl,q.2)
def zhH(S:xS P w h a xs):yo P w H h a (zhG P w a xs):=by
 show⟨S,?_,λh1 h2 q k=>?_⟩;obtain⟨o,_,_,_,B,_⟩:=S;exact⟨o,B⟩;obtain⟨o,es,F,t,B,r⟩:=q;exact⟨o,es,F,t,k o B,r⟩
def zrq(h:(⟨Array.replicate (n+1) o,{}⟩:Heap).get? d=some u):u=o:=by
 unfold Heap.get? at h;simp only[Array.getElem?_replicate] at h;split at h;cases h;split at h;exact (bz h).symm;cases h
def zrz(hs:∃h:Heap,h.get? d=some ob):(λh=>xS P w h a xs)≠λh=>h.get? d=some ob:=λe=>by
 obtain⟨B,F⟩:=hs;have h1:xS P w B a xs:=by rw[show xS P w B a xs=_ from congrFun e B];exact F
 obtain⟨o,es,L,t,O,I,U,T,J⟩:=h1;have k:∀q:Nat,({ o with data:=.set es q t }:Obj)=ob:=λq=>by have h2:xS P w (⟨Array.replicate (a+1) { o with data:=.set es q t },{}⟩:Heap) a xs:=⟨{ o with data:=.set es q t },es,q,t,by simp[Heap.get?],I,rfl,T,J⟩;rw[show xS P w _ a xs=_ from congrFun e _] at h2;exact (zrq h2).symm
 have:=congrArg Obj.data ((k 0).trans (k 1).symm);cases this
def zih:∀kvs,pnK (zhG P w a xs)=some kvs->um kvs (Sum.inr "at" : Key)=none:=λkvs e=>by
 unfold zhG pnK at e;dsimp only at e;rw[if_neg] at e;cases e;rintro⟨d,ob,hs,z⟩;exact zrz hs z
def zdu (P:Aa)(w:Ab)(H:Hp)(a:Addr)(ks:AF):Prop:=∃xs:AE,H a=some (zhG P w a (yT xs))/\(∀q∈xs,H q.2=some (.tup (q.1.map V.int)))/\ks=xs.map (·.1)/\ks.Nodup
def zdu.stay{ks:AF}(S:zdu P w H a ks)(h:zB H H'):zdu P w H' a ks:=by obtain⟨xs,h1,h2,B,F⟩:=S;exact⟨xs,h _ _ h1 zih,λq I=>h.tup (h2 q I),B,F⟩
def zbU:∀ns:AG,(ns.map Sum.inl).map kV=ns.map V.int
 | []=>rfl
 | n::ns=>by rw[az,az,az,zbU ns];rfl
section
variable {X:Cx}
def zcW{pins:AB}{σ:St}{H:Hp}{s:AZ}(I:Inv X pins σ H s){ns:AG}(h:H b=some (.tup (ns.map V.int))):(tk X.prog X.w).is s.heap (ns.map Sum.inl) b:=by
 obtain⟨its,B,⟨o,F,J,n,L⟩,_⟩:=I.tuple (.of h);show⟨o,its.toArray,n,F,J,L,?_⟩
 have q:∀ {ns:AG} {its:AN},zY (ns.map V.int) its->ItemsAre (zV X.prog X.w) (ns.map Sum.inl) its:=by
  intro ns
  induction ns with
  | nil=>intro its r;cases r;exact .nil
  | cons n ns O=>
   intro its r
   cases r with
   | cons U Y=>
    obtain⟨t,rfl⟩:=U;exact .cons (zfW n t) (O Y)
 exact q B
def zub (P:Aa)(w:Ab):AT->Hp->VK->Prop:=λxs H Q=>∃ (a:Addr) (ks:AF) (m:Nat),xs=[.ref a]/\zdu P w H a ks/\ks.length<64/\1<=m/\(∀st∈ks,st.length=m)/\
 ∀ (ys:AT) (q:AF),IsL H (q.map stD) ys->q.Perm ks->(q.Pairwise λa b=>HT.lexLt a b=true)->New H (.lst ys) Q
def zh8:∀ {xs:AE},(∀q∈xs,H q.2=some (.tup (q.1.map V.int)))->IsL H ((xs.map (·.1)).map stD) (xs.map λq=>V.ref q.2)
 | [],_=>rfl
 | q::xs,h=>⟨_,_,rfl,⟨q.2,_,rfl,h q am,IsL.ints⟩,zh8 λr B=>h r (aw _ B)⟩
def zgD:∀ (xs:AE),zY (xs.map λq=>V.ref q.2) (xs.map λq=>Value.ref q.2)
 | []=>.nil
 | q::xs=>.cons rfl (zgD xs)
def zmD (hc:X.calm=true):CallQ X (.builtin "sorted") (zub X.prog X.w):=⟨by
 intro pins s σ H xs us Q I r h;obtain⟨a,ks,m,rfl,⟨xs,hH,a5,rfl,a7⟩,ba,bb,hm,q⟩:=h;obtain⟨u,rfl,ru⟩:=zba r;cases ru;obtain⟨⟨o,es,ep,t,ho,hx,hd,T,_⟩,_⟩:=(show yo X.prog X.w H s.heap a (zhG X.prog X.w a (yT xs)) from I.hok a _ hH);have S:SetIs X.prog X.w s.heap a es ep t (yT xs):=⟨⟨o,ho,hx,hd⟩,T⟩;obtain⟨m0,an,_⟩:=id I.loc;have hsz:es.size=xs.length:=by rw[T.size];unfold yT;rw[ab]
 rw[ab] at ba
 have bd:∀b,(⟨#[],{}⟩:Heap).get? b=none:=λb=>by
  cases e:(⟨#[],{}⟩:Heap).get? b with
  | none=>rfl
  | some o'=>
   have:=aA e;simp at this
 have ap:=zgh (w:=X.w) (es:=es) a ep;have bk:es.toList=xs.map λq=>((tk X.prog X.w).hash (q.1.map Sum.inl),Value.ref q.2):=by rw[T.eq];unfold yT;rw[aB];rfl
 rw[bk] at ap;obtain⟨B,O,bl⟩:=zas ap rfl;show kdu_sorted (h₀:=(⟨#[],{}⟩:Heap)) (L:=X.env.locals) (m:=m0) (news:=zbF s.heap X.env.locals) (zrA (t:=t) (xs:=yT xs) a ep) (I.ok.hd hc) ⟨an,λb o e=>(by right),aK _⟩ (λp hp=>?_) S (by rw[hsz,bM];lia) λD h' as vs F N bo hl hP=>?_;obtain⟨b,o⟩:=p;have:=z4.mp hp;right
 have bs:vs=B.map λq=>Value.ref q.2:=by
  have cc:=O.length_eq;show fN (by right) λj h1 h2=>?_;obtain⟨e,he,hv⟩:=hP j vs[j] (ai h1);rw[zcp,bl,aq] at he;rw[ab] at h2;rw[ai h2] at he;rw[hv,dl,<- bz he]
 have kp:∀b o,b≠X.env.locals->s.heap.get? b=some o->h'.get? b=some o:=λb o hb e=>(N (b,o) (aw _ (z4.mpr ⟨hb,e⟩))).1;have av:D≠X.env.locals:=(N (D,_) am).2.1
 have bx:s.heap.get? D=none:=by
  cases e:s.heap.get? D with
  | none=>rfl
  | some o=>exact absurd (bo (D,o) (z4.mpr ⟨av,e⟩)) (cC _)
 have Y:H D=none:=by
  cases e:H D with
  | none=>rfl
  | some o=>
   obtain⟨o',a0⟩:=zbv (I.hok D o e);grind
 have U:∀q∈B,H q.2=some (.tup (q.1.map V.int)):=λq Z=>a5 q ((O.mem_iff).mp Z)
 have a1:Paired (zfv h' X.env.locals D) vs (B.map (·.1)):=by
  rw[bs]
  have b0:∀ (l:AE),(∀q∈l,H q.2=some (.tup (q.1.map V.int)))->Paired (zfv h' X.env.locals D) (l.map λq=>Value.ref q.2) (l.map (·.1)):=by
   intro l
   induction l with
   | nil=>intro _;exact .nil
   | cons q l ih=>
    intro hl;have Z:=hl q am;obtain⟨items,rv,⟨o',a0,b1⟩,_⟩:=I.tuple (.of Z);have a2:=zc Z I.free;exact .cons ⟨q.2,items,rfl,⟨o',kp _ _ a2 a0,b1⟩,rv,a2,zc Z Y⟩ (ih λr hr=>hl r (aw _ hr))
  exact b0 B U
 have ad:=O.map (·.1);show znh (s:={ s with heap:=h',toks:=as }) F.ns av (N (D,_) am).1 a1 (by right) bb (λst b2=>hm st ((ad.mem_iff).mp b2)) (ad.nodup_iff.mpr a7) λcd c p hp a3 b3 b4 a4=>?_;have b5:∀i∈p,i<B.length:=λi hi=>by have:=aU.mp ((hp.mem_iff).mp hi);rwa[ab] at this
 have J:(p.map λi=>(B.map (·.1)).getD i [])=(p.map λi=>B.getD i ([],0)).map (·.1):=by right
 have ag:(p.map λi=>vs.getD i .none)=(p.map λi=>B.getD i ([],0)).map λq=>Value.ref q.2:=by right
 have ca:∀q∈(p.map λi=>B.getD i ([],0)),H q.2=some (.tup (q.1.map V.int)):=λq Z=>by
  obtain⟨i,hi,rfl⟩:=au.mp Z;have h1:=b5 i hi;have:B.getD i ([],0)=B[i]:=by simp[h1]
  rw[this];exact U _ (bL h1)
 rw[ag] at a4;rw[J] at a3;have al:p.length=xs.length:=by rw[hp.length_eq,ay,ab,O.length_eq]
 have I':=zeA I an (ys:=(p.map λi=>B.getD i ([],0)).map λq=>V.ref q.2) (λb o hb e=>b3 b o hb (by grind) (kp b o hb e)) b4 bx Y a4 (zgD _) (by rw[ab,ab,al,bM];lia) as;show⟨.ref D,_,I',rfl,(q _ ((p.map λi=>B.getD i ([],0)).map (·.1)) (zh8 ca) ?_ a3).at Y⟩;show List.Perm.trans ?_ ad;rw[<- J];have:=hp.map λi=>(B.map (·.1)).getD i [];rwa[zb6] at this⟩
end
def zfE (elt target iter:Expr)(ifs:AO)(scope:Scope)(pos:Pos)(it acc:Value)(env:Env) :
  compTurn (.SetComp elt [⟨target,iter,ifs,0⟩] scope pos) 0 it acc env=(do
   standAt iter.pos
   match <- pyNext it with
   | none=>pure (.done .next)
   | some v=>
    letOwnedTupleGo target it v
    assign target env v
    let mut ok:=true
    for c in ifs do
     if ok then ok <- isTrue c env (eval c env)
    if ok then
     (do let v <- eval elt env;standAt elt.pos;let _ <- call (.builtin "set.add") [acc,v])
    again (.compLoop (.SetComp elt [⟨target,iter,ifs,0⟩] scope pos) 0 it acc env)):=by rfl
section
variable {prog:Aa}{w:Ab}{A:Ae}{E:AA}{R:Result->AZ->Prop}{s:AZ}
def zaf {elt target iter ifs zQ scope pos it acc env}
  (h0:codeAny (model prog w) A (.compLoop (.SetComp elt (⟨target,iter,ifs,0⟩::zQ) scope pos) 0 it acc env) R s)
  (h:Ag prog w A (pyIter it) (λit' s'=>codeAny (model prog w) A (.compLoop (.SetComp elt (⟨target,iter,ifs,0⟩::zQ) scope pos) 0 it' acc env) R s')
   (notedBy (model prog w) A env λx s'=>R (.error x) s') s) :
  codeAny (model prog w) A (.compStart (.SetComp elt (⟨target,iter,ifs,0⟩::zQ) scope pos) 0 it acc env) R s:=by
 show dM ?_;change wpAny _ _ ((compStart (.SetComp elt (⟨target,iter,ifs,0⟩::zQ) scope pos) 0 it acc env).onRaise (λx=>do noteFrame x env;standAt theWindowsPlace)) _ _ s;show wpAny_notedAt ?_;unfold compStart;change wpAny _ _ (ask >>= _) _ _ s;show aa (br (wpAny_ite ?_));split
 first
  | exact aa (by grind)
  | exact ae (And.intro rfl h0)
 first
  | exact aa (by grind)
  | (show aa (fS ?_);change wpAny _ _ (standAt iter.pos >>= _) _ _ s;exact aa (bK (aa (aQ h (λit' s' h'=>ae (And.intro rfl h')) λ_ _ x=>x))))
def zcr(I:Nat->AZ->Prop)(turn:∀n s,I n s->Ag prog w A (pyNext it) (λr s₁=>match r with
   | none=>R (.ok .next) s₁
   | some v=>Ag prog w A (letOwnedTupleGo target it v) (λ_ s₂=>Ag prog w A (assign target env v) (λ_ s₃=>
     Ag prog w A (forIn ifs true λc r=>if r=true then do let ok <- isTrue c env (eval c env);pure (ForInStep.yield ok) else pure (ForInStep.yield r)) (λok s₄=>
      if ok=true then Ag prog w A (eval elt env) (λx s₅=>
       Ag prog w A (call (.builtin "set.add") [acc,x]) (λ_ s₆=>∃m,m<n/\I m s₆) (λ_ _=>False) s₅) (λ_ _=>False) s₄
      else ∃m,m<n/\I m s₄) (λ_ _=>False) s₃) (λ_ _=>False) s₂) (λ_ _=>False) s₁) (λ_ _=>False) s)(n:Nat)(h:I n s) :
  codeAny (model prog w) A (.compLoop (.SetComp elt [⟨target,iter,ifs,0⟩] scope pos) 0 it acc env) R s:=by
 show eV rfl I (λn s hI=>?_) n h;change wpAny _ A ((compTurn (.SetComp elt [⟨target,iter,ifs,0⟩] scope pos) 0 it acc env).onRaise (λx=>do noteFrame x env;theTreesLotGoes x)) _ _ s;show fF ?_;rw[zfE];show aa (bK (aa (aQ (turn n s hI) (λr s₁ h₁=>?_) λ_ _ h'=>h'.elim)))
 cases r with
 | none=>exact ae h₁
 | some v=>
  show aa (aQ h₁ (λ_ s₂ h₂=>?_) λ_ _ h'=>h'.elim);show aa (aQ h₂ (λ_ s₃ h₃=>aa (aQ h₃ (λok s₄ h₄=>?_) λ_ _ h'=>h'.elim)) λ_ _ h'=>h'.elim)
  cases ok with
  | false=>exact ae ⟨rfl,h₄⟩
  | true=>
   exact aa (aa (aQ h₄ (λx s₅ h₅=>aa (bK (aa (aQ h₅ (λ_ s₆ h₆=>ae (ae ⟨rfl,h₆⟩)) λ_ _ h'=>h'.elim)))) λ_ _ h'=>h'.elim))
def zlf(h:Q (.ref s.heap.objs.size) { s with heap:=s.heap.push { cls:=.type "set",dict:=none,data:=.set #[] 0 (.fresh 0 0 (!w.params.followText "set-order")) } }):Ag prog w A (newSet (.type "set")) Q E s:=by unfold newSet setsByText;show aa (aa (br (ae ?_)));dsimp only;simp only[newObj];exact aa (wpAny_alloc (ae h))
def zgu (h:Heap):xS prog w (h.push { cls:=.type "set",dict:=none,data:=.set #[] 0 (.fresh 0 0 (!w.params.followText "set-order")) }) h.objs.size []:=by
 show⟨_,#[],0,_,aC _ rfl,⟨rfl,rfl,rfl⟩,rfl,⟨rfl,e7,rfl,λi j _ B=>?_,λi j e=>?_,rfl,.inl rfl,aK _,rfl,rfl,λi q e=>?_⟩,by change 0 * 5<7 * 3;decide⟩;exact absurd B (cw _);simp[SetTable.fresh] at e;simp at e
end
def x5:∀ {ns q:AG},ns.map (Sum.inl:Int->Key)=q.map Sum.inl->ns=q
 | [],[],_=>rfl
 | [],_::_,e=>by cases e
 | _::_,[],e=>by cases e
 | n::ns,m::q,e=>by rw[az,az] at e;injection e with B F;rw[Sum.inl.inj B,x5 F]
section
variable {X:Cx}
def zjj {pins:AB}{σ:St}{H:Hp}{s:AZ}{acc b:Addr}{ns:AG}{ks:AF}{Q:AA}(hu:X.A.units+1<cLine)(I:Inv X pins σ H s)(S:zdu X.prog X.w H acc ks)(hb:H b=some (.tup (ns.map V.int)))(hn:ks.length<300)
  (h:∀o ks' s',zdu X.prog X.w (upd H acc o) acc ks'->(∀x,x∈ks'↔x=ns\/x∈ks)->ks'.length<=ks.length+1->Inv X pins σ (upd H acc o) s'->Q .none s') :
  Af X (call (.builtin "set.add") [.ref acc,.ref b]) Q X.xe s:=by
 obtain⟨xs,hH,hel,rfl,hnd⟩:=S;have hS:=(show yo X.prog X.w H s.heap acc (zhG X.prog X.w acc (yT xs)) from I.hok acc _ hH).1;obtain⟨o,es,ep,t,ho,hx,hd,T,hroom⟩:=id hS;show aZ F.slot_set_add ⟨o,ho,hx.1⟩ F.entry_set_add ?_ (F.args_set_add_2 _ _);unfold Builtin.«set.add»;show aa (m:=Builtin.Frozenset.oneOther "add" ⟨[.ref acc,.ref b],[]⟩) (ae ?_);have hba:b≠acc:=zle hb hH (by intro z;cases z);have hea:∀q∈xs,q.2≠acc:=λq hq=>zle (hel q hq) hH (by intro z;cases z);rw[ab] at hn;show aa (zoi (A:=X.A.in1) (xs:=yT xs) (ns:=ns) (aG (ah _) hu) hS (zcW I hb) (λq hq=>?_) (by unfold yT;rw[ab];exact hn) λr h' n xs' sb S' hin hout=>?_);unfold yT at hq;obtain⟨q',hq',rfl⟩:=au.mp hq;exact zcW I (hel q' hq')
 ·
  have mem_key:∀ {l:AE},(ns.map Sum.inl)∈(yT l).map (·.1)↔ns∈l.map (·.1):=by
   intro l;unfold yT;rw[aB,au,au];constructor;rintro⟨q,hq,e⟩;show⟨q,hq,?_⟩;have e':q.1.map (Sum.inl:Int->Key)=ns.map Sum.inl:=e;exact x5 e';rintro⟨q,hq,rfl⟩;exact⟨q,hq,rfl⟩
  have fin:∀xs2:AE,xs'=yT xs2->(∀q∈xs2,q∈xs\/q=(ns,b))->(∀x,x∈xs2.map (·.1)↔x=ns\/x∈xs.map (·.1))->(xs2.map (·.1)).Nodup->xs2.length<=xs.length+1->wpAny (model X.prog X.w) X.A.in1 (do ret .none) (λfin s'=>∃v,fin = .done (.ret v)/\Q v s') X.xe { s with heap:=h',toks:=n }:=by
   rintro xs2 rfl hsub hmem hnd2 hlen
   have hel2:∀q∈xs2,H q.2=some (.tup (q.1.map V.int)):=λq hq=>by
    rcases hsub q hq with z | z;exact hel q z;rw[z];exact hb
   have hea2:∀q∈xs2,q.2≠acc:=λq hq=>zle (hel2 q hq) hH (by intro z;cases z);show ae ⟨.none,rfl,h (zhG X.prog X.w acc (yT xs2)) (xs2.map (·.1)) _ ⟨xs2,zh,λq hq=>by rw[zg (hea2 q hq)];exact hel2 q hq,rfl,hnd2⟩ hmem (by right) ?_⟩;show I.write (e:=acc) (by rw[hH];trivial) (.inl rfl) (λc u hc q=>sb.extBut c u hc q) ?_ (zhH S');obtain⟨o',_,_,_,ho',_⟩:=S';exact⟨o',ho'⟩
  by_cases hm:ns∈xs.map (·.1);have:=hin (mem_key.mpr hm);show fin xs this (λq hq=>.inl hq) (λx=>⟨.inr,λz=>z.elim (λe=>e ▸ hm) id⟩) hnd (cT _);have hp:=hout λz=>hm (mem_key.mp z);have hk:((ns.map Sum.inl,b)::yT xs)=yT ((ns,b)::xs):=rfl;rw[hk] at hp;obtain⟨xs2,hp2,e2⟩:=zas hp rfl;show fin xs2 e2 (λq hq=>?_) (λx=>?_) ?_ ?_;grind;rw[(hp2.map (·.1)).mem_iff,az,aF];rw[(hp2.map (·.1)).nodup_iff,az,bS];exact⟨hm,hnd⟩;rw[hp2.length_eq,aO];exact ah _
end
def zfM(elt gens scope pos):eval (.SetComp elt gens scope pos) env=comprehension (.SetComp elt gens scope pos) scope env (firstIterPos gens pos) (newSet (.type "set")) (firstAsync gens) (firstIter gens env):=rfl
def setT (P:Aa)(w:Ab)(g:TG)(ti:TT)(te:TE)(acc:Addr)(N:St->Hp->Prop)(x:V)(σ:St)(H:Hp):Prop:=
 g x σ H λq H3=>ti q H3 λF H4=>if F=true then te q H4 λv H5=>∃b ns ks,v = .ref b/\H5 b=some (.tup (ns.map V.int))/\zdu P w H5 acc ks/\ks.length<300/\
  (∀o B,zdu P w (upd H5 acc o) acc B->(∀x,x∈B↔x=ns\/x∈ks)->B.length<=ks.length+1->N q (upd H5 acc o)) else N q H4
def setG (P:Aa)(w:Ab)(J:It)(g:TG)(ti:TT)(te:TE)(acc:Addr)(Q:VK)(σ:St)(H:Hp):Prop:=∃W:Nat->Nat->St->Hp->Prop,(∃m,W 0 m σ H)/\
 ∀i m q H',W i m q H'->(J.stop i H'/\Q (.ref acc) H')\/(J.go i H'/\∃N:St->Hp->Prop,(∀ B H2,N B H2->∃F,F<m/\W (i+1) F B H2)/\∀x H2,J.yld i H' x H2->setT P w g ti te acc N x q H2)
def zuH (P:Aa)(w:Ab)(wi:TI)(g:TG)(ti:TT)(te:TE)(cix:List (Option Nat)):TE:=λσ H Q=>wi σ H λJ H1=>∀acc,H1 acc=none->zdu P w (upd H1 acc (zhG P w acc [])) acc []->setG P w J g ti te acc Q (zcw σ cix) (upd H1 acc (zhG P w acc []))
section
variable {X:Cx}{Fam:Cx->Prop}{scope:Scope}{N:AM}{cix:List (Option Nat)}{z:Str}{use:Option (Value->Sem Unit)}{Qp:AA}{elt ke ve tg iter tg2 iter2:Expr}{ifs ifs2:AO}{pos ipos spos px:Pos}{wi wi2:TI}{g g2:TG}{ti ti2:TT}{te tk tv:TE}{pins:AB}{σ:St}{H:Hp}{s:AZ}{Q:VK}{o0:HO}
def znZ (hu:X.A.units+1<cLine)(O:Opn X scope cix Fam)(hc:X.calm=true)(hi:PI X tg iter wi)(hg:∀X',Fam X'->PG X' tg g)(ht:∀X',Fam X'->PTs X' ifs ti)(he:∀X',Fam X'->PE X' elt te)(hs:∀x,foldedSetIterable iter X.env x=pure x)(I:Inv X pins σ H s)
  (h:zuH X.prog X.w wi g ti te cix σ H Q) (L:zvt X pins σ use Qp Q) :
  Af X (comprehension (.SetComp elt [⟨tg,iter,ifs,0⟩] scope pos) scope X.env ipos (newSet (.type "set")) false (eval iter X.env) use) Qp X.xe s:=
 zbe (ob:={ cls:=.type "set",dict:=none,data:=.set #[] 0 (.fresh 0 0 (!X.w.params.followText "set-order")) }) (o0:=λa=>zhG X.prog X.w a []) (Fin:=λacc H=>Q (.ref acc) H) (B:=λX' acc P s=>wpAny (model X'.prog X'.w) X'.A (eval elt X'.env) (λx s5=>wpAny (model X'.prog X'.w) X'.A (call (.builtin "set.add") [.ref acc,x]) (λ_ s6=>P s6) (λ_ _=>False) s5) (λ_ _=>False) s) (tb:=λacc Nx σ H=>te σ H λv H5=>∃ (b:Addr) (ns:AG) (ks:AF),v = .ref b/\H5 b=some (.tup (ns.map V.int))/\zdu X.prog X.w H5 acc ks/\ks.length<300/\(∀o F,zdu X.prog X.w (upd H5 acc o) acc F->(∀x,x∈F↔x=ns\/x∈ks)->F.length<=ks.length+1->Nx σ (upd H5 acc o))) O hc rfl hs (λ_ _ _ _ _ h0 h1=>zaf h0 h1) (λ_ _ _ _ _ _ I U n h=>zcr I U n h) (λs Q h=>zlf h) (λ_ _=>zhH (zgu _)) hi hg ht (λX' hF pX wX AX _ xX acc pl s σ H Nx P I q k=>by have e9:=he X' hF pl s σ H _ I q;rw[xX] at e9;show thn e9 ?_;rintro u2 ad ⟨v,H10,I10,Z,b,ns,ks,rfl,hb,S,hn,nx⟩;cases Z;have Y:=zjj (X:=X') (Q:=λ_ s'=>P s') (by rw[AX];exact hu) I10 (by right) hb hn λo F s' S' hm hl I'=>k _ _ _ I' (nx o F (by right) hm hl);rw[xX] at Y;exact Y) I h (λJ H1 acc q hn=>q acc hn ⟨[],zh,λq hq=>by simp at hq,rfl,e7⟩) L
end
def zjf(B:X.A.units+1<cLine)(F:X.calm=true)(c:CompOk X scope N cix)(hi:QI X tg iter wi)(J:∀C s H ex,QG (zC X scope N C s H ex) tg g)(L:∀C s H ex,QTs (zC X scope N C s H ex) ifs ti)(O:∀C s H ex,QE (zC X scope N C s H ex) elt te)(hs:∀x,foldedSetIterable iter X.env x=pure x:=by intro _;rfl):QE X (.SetComp elt [⟨tg,iter,ifs,0⟩] scope pos) (zuH X.prog X.w wi g ti te cix):=⟨λpins s σ H Q I h=>by
 rw[zfM];exact znZ B (uv c) F hi.run (zcy λC s H ex=>(J C s H ex).run) (zcy λC s H ex=>(L C s H ex).run) (zcy λC s H ex=>(O C s H ex).run) hs I h λ_ _ _ _ _ U Y q=>zew U Y q⟩
section
variable {P:Aa}{w:Ab}{K:AH}{a acc:Addr}{xs:AT}{g:TG}{ti:TT}{te:TE}{σ:St}{H:Hp}{Q:VK}
def zn3(B:H acc=none)(S0:zdu P w (upd H acc o) acc [])(Pv:Nat->St->Hp->Prop)(I:∀H',zdu P w H' acc []->yJ H H'->Pv 0 σ H')(J:∀i σ H,i<=xs.length->Pv i σ H->SqT K H a xs)(hs:∀i x σ H,xs[i]?=some x->Pv i σ H->setT P w g ti te acc (Pv (i+1)) x σ H)(L:∀ σ H,Pv xs.length σ H->Q (.ref acc) H):setG P w (Itt K a) g ti te acc Q σ (upd H acc o):=by
 show⟨λi m σ H=>m=xs.length - i/\i<=xs.length/\Pv i σ H,⟨xs.length,by simp,aK _,I _ S0 (yJ.upd B)⟩,?_⟩;rintro i m σ H ⟨rfl,hi,p⟩;have q:=J i σ H hi p;by_cases F:i<xs.length;show .inr ⟨⟨xs,xs[i],q,by simp[F]⟩,Pv (i+1),λO H' U=>⟨xs.length - (i+1),by lia,rfl,F,U⟩,λx H' y=>?_⟩;obtain⟨e,y⟩:=y;subst e;exact hs i x σ _ (y xs q) p;have e:i=xs.length:=by lia
 subst e;exact .inl ⟨⟨xs,q,ah _⟩,L σ H p⟩
end
def zrU(s:yJ A B)(h:A b=some o):B b=some o:=s _ _ h
def zmd(s:zB A B)(h:A b=some (.tup xs)):B b=some (.tup xs):=s.tup h
def zmb(s:zB A B)(h:A b=some (.lst xs)):B b=some (.lst xs):=s.lst h
def zaa(s:zB A B)(h:A b=some o)(n:∀kvs,pnK o=some kvs->um kvs (Sum.inr "at" : Key)=none):B b=some o:=s _ _ h n
def zjq(s:zB A B)(h:Is A d v):Is B d v:=h.stay s
def zee(s:zB A B)(h:IsL A d v):IsL B d v:=h.stay s
def zcb(s:zB A B){rm:AG}(h:RoomAt A q rm):RoomAt B q rm:=h.stay s
def zca(s:zB A B){rm:AG}(h:BookAt A rm q xs bk):BookAt B rm q xs bk:=h.stay s
def zed(s:zB A B)(h:zjt A R xs):zjt B R xs:=h.stay s
def zef(s:zB A B){ks:AF}(h:zdu P w A a ks):zdu P w B a ks:=h.stay s
def zmc(s:yJ A B){ns:AG}(h:Pen A p c ns n):Pen B p c ns n:=h.same s
def xQ(h:yJ A B):zB A B:=zB.same h
def zqu:∀kvs,pnK (HO.dT xs)=some kvs->um kvs (Sum.inr "at" : Key)=none:=by grind
def zli:∀kvs,pnK (zhG P w a xs)=some kvs->um kvs (Sum.inr "at" : Key)=none:=zih
def zlj:∀kvs,pnK (HO.ins C dx fs)=some kvs->um kvs (Sum.inr "at" : Key)=none:=by grind
def zgq (H:Hp):yJ H H:=λ_ _ z=>z
structure FunD (K:AH)(x qual:Str)(st:Stmt)(f:Addr)(fd:Ac):Prop where
 ex:∃ (oc:Value) (od:Option Addr) (dV kV doc pm:Value) (an:Option Addr) (cdv ct:Value) (osl:Array AJ),
  fd=PySem.W.fnOf x qual (yk st) (zJ st) (zd st) dV kV doc pm an cdv ct/\K.lookup f=some ⟨oc,od,.func fd,osl⟩/\PySem.W.codeIn K cdv qual=true
 kp:PySem.W.keepIn K (.ref f)=true
def FunD.okQ{P:Aa}{w:Ab}{K:AH}{mg:AI}{base:Heap}{x I:Str}{st:Stmt}{f:Addr}{fd:Ac}{N ps:AM}{sp:Sp}(F:FunD K x I st f fd)(S:FnScope N ps (zd st))(O:∀vs H Q E,sp vs H Q E->vs.length=ps.length)(L:∀ (J:Value) (A:Ae) (B:List Env) (s:AZ) (H:Hp) (vs:AT) (Q:VK) (E:XK),Room k (A.deeper (envOfC I (zd st) s.heap.objs.size f J))->sp vs H Q E->
   ∃t,QSs (zdN CX0 P w K mg base N I (zd st) f J A B s H E).nox (zJ st) t/\t { nx:=λ_ H'=>Q .non H',rt:=Q } (xi N vs) H):FnOk P w K mg base CX0 (k+1) f fd ps sp:=by
 obtain⟨oc,od,dV,kV,Z,pm,an,J,ct,ad,rfl,lk,U⟩:=F.ex;show zsI lk U S O λA B s H vs Q E hr Y=>?_;obtain⟨t,h,q⟩:=L J A B s H vs Q E hr Y;exact⟨t,h.run.nox,q⟩
structure DfnD (K:AH)(mg:AI)(x:Str)(st:Stmt)(ps:AM)(ds:AN)(f:Addr)(fd:Ac):Prop where
 F:FunD K x x st f fd
 b:zaJ K fd ps []
 bd:zaJ K fd ps ds
 m:mg x=some (.ref f)
section
variable {X:Cx}
def zt2{x:Str}{st:Stmt}{ps:AM}{ds:AN}{f:Addr}{fd:Ac}{sp:Sp}{es:AO}{p pos:Pos}(D:DfnD X.K X.mg x st ps ds f fd)(G:FnOk X.prog X.w X.K X.mg X.base CX0 j f fd ps sp)(J:Room k X.A)(L:QA X (e::es) t)(q:j<=k:=by ext)(O:Gl X x:=by rfl)(B:Ah x:=by ext)(U:starEach (e::es) X.env=(false,eval e X.env)::starEach es X.env:=by rfl)(I:(backTo pos (starEach es X.env)).any (·.1)=false:=by rfl) :
  QE X (.Call (.Name x p) (e::es) [] pos) (zdt sp [] E0 t):=
 ⟨zhu G (J.mono q) O D.m D.F.kp D.b .nil zlp L.run B U I⟩
def zt1{x:Str}{st:Stmt}{ps:AM}{ds:AN}{dv:AT}{f:Addr}{fd:Ac}{sp:Sp}{es:AO}{p pos:Pos}(D:DfnD X.K X.mg x st ps ds f fd)(J:zY dv ds)(G:FnOk X.prog X.w X.K X.mg X.base CX0 j f fd ps sp)(L:Room k X.A)(O:QA X (e::es) t)(q:j<=k:=by ext)(U:Gl X x:=by rfl)(B:Ah x:=by ext)(Y:starEach (e::es) X.env=(false,eval e X.env)::starEach es X.env:=by rfl)(I:(backTo pos (starEach es X.env)).any (·.1)=false:=by rfl) :
  QE X (.Call (.Name x p) (e::es) [] pos) (zdt sp dv E0 t):=
 ⟨zhu G (L.mono q) U D.m D.F.kp D.bd J zlp O.run B Y I⟩
end
def zkl{K:AH}{x q:Str}{st:Stmt}{f:Addr}{Y J:Option Addr}{L kV F O B ct:Value}(l:K.lookup f=some ⟨U,Y,.func (PySem.W.fnOf x q (yk st) (zJ st) (zd st) L kV F O J B ct),I⟩)(c:PySem.W.codeIn K B q=true)(k:PySem.W.keepIn K (.ref f)=true):FunD K x q st f (PySem.W.fnOf x q (yk st) (zJ st) (zd st) L kV F O J B ct):=⟨⟨U,Y,L,kV,F,O,J,B,ct,I,rfl,l,c⟩,k⟩
def zhS{K:AH}{fd:Ac}{f:Addr}(l:K.lookup f=some ⟨F,q,.func fd,B⟩){ps:AM}{items:AK}{L:Array AJ}(O:fd.defaults = .ref T)(U:K.lookup T=some ⟨I,J,.seq items n,L⟩)(h:∀us:AN,(us++ds).length=ps.length->∃k:Option AK->Sem (List (Str×Value)),bindArgs fd ⟨us,[]⟩=seqItems? fd.defaults >>= k/\k (some items)=pure (ps.zip (us++ds))):zaJ K fd ps ds:=λs us KX Y=>by
 obtain⟨k,h1,h2⟩:=h us Y;exact .of_defaults O (KX _ _ U) rfl h1 h2
section
variable {prog:Aa}{w:Ab}{A:Ae}{E:AA}{s:AZ}{es:Array DictEntry}
def zcE (h:Heap)(d:Addr)(es:Array DictEntry)(q:Nat):Prop:=∃o,h.get? d=some o/\o.ExactDict/\o.data = .dict es q
def zcE.typeIs(x:zcE s.heap d es q):s.TypeIs (.ref d) "dict" := let ⟨o,ho,hc,_⟩:=x;⟨o,ho,hc.1⟩
def zkF(U:(d==sysModules)=false)(J:zcE s.heap d es I)(O:Q (.ref s.heap.objs.size) { s with heap:=s.heap.push { cls:=.type "dict_keyiterator",data:=.fields #[.ref d,.int 0 0,.int es.size 0,.int I 0] } }) :
  Ag prog w A (pyIter (.ref d)) Q E s:=by
 obtain⟨o,L,Y,q⟩:=id J;have B:=J.typeIs;show fw B PySem.F.slot_dict_iter (aZ PySem.F.slot_dict_iter B PySem.F.entry_dict_iter ?_ (PySem.F.args_dict_iter_1 _));unfold Builtin.«dict.__iter__»;show aa ?_;unfold Builtin.Dict.dictSlotNone;show aa (wpAny_notOrdered_dict B ?_);change wpAny _ _ (pure (Value.ref d)) _ _ s;show ae ?_;change wpAny _ _ (Builtin.Dict.showsAll d >>= _) _ _ s;unfold Builtin.Dict.showsAll;rw[if_neg (by right)];show aa (ae ?_);show aa (fB L q ?_);show aa (wpAny_dictEpoch L q ?_);show aa (bj (ae ⟨_,rfl,"dict_keyiterator",_,⟨_,aC _ rfl,rfl⟩,PySem.F.slot_dict_keyiterator_next.lookup,?_⟩));simpa [rawInt] using O
def zm8(q:s.heap.IsKeyIter B d i es.size O)(Z:zcE s.heap d es O)(hx:es[i]?=some e)(hQ:∀h',h'.IsKeyIter B d (i+1) es.size O->Heap.SameBut B s.heap h'->Q (.done (.ret e.key)) { s with heap:=h' }):Ag prog w A (Builtin.«dict_keyiterator.__next__» { pos:=[Value.ref B] }) Q E s:=by
 obtain⟨o,Y,hc,U⟩:=id q;obtain⟨od,I,ad,J⟩:=id Z;show aa (ae ?_);show aa ?_;show aa ?_
 first | show aa (cj q.typeIs (ae ?_)) | show aa (by grind)
 show aa (fj Y U ?_);have L:Builtin.Dict_items.ownsTuple "dict_keyiterator" = false:=by ext
 simp only[L,aR,if_false];show wpAny _ _ (if (Value.ref d==Value.none)=true then _ else _) _ _ s;rw[if_neg (by grind)];show aa (ae ?_);show aa (fB I J ?_);rw[if_neg (by simp)];show aa (ae ?_);show aa (wpAny_dictEpoch I J ?_);rw[if_neg (by simp)];show ae ?_;simp only[show ¬ ((i:Int)<0) from by lia,if_false,aP,hx];show aa ?_
 first | show aa (cj q.typeIs (ae ?_)) | show aa (by grind)
 show aa (wpAny_isOneOf_keyiter q.typeIs ?_);change wpAny _ _ (setField (.ref B) 1 (rawInt ((i:Int)+1)) >>= _) _ _ s;show aa (cF Y U (by simp) ?_)
 have F:(s.heap.update B (Obj.mapFields (·.setIfInBounds 1 (rawInt ((i:Int)+1))))).IsKeyIter B d (i+1) es.size O:=
  ⟨_,b9 _ Y (cV (bT U _)),(dS ..).trans hc,by rw[bT U];simp[rawInt]⟩
 show aa (bq ?_);show aa (wpAny_isOneOf_keyiter (s:={ s with heap:=s.heap.update B (Obj.mapFields (·.setIfInBounds 1 (rawInt ((i:Int)+1)))) }) F.typeIs ?_);change wpAny _ _ (pure e.key) _ _ _;exact ae (ae (hQ _ F (bu ..)))
def zi9(q:s.heap.IsKeyIter B d i es.size F)(I:zcE s.heap d es F)(J:es[i]?=some e)(L:∀h',h'.IsKeyIter B d (i+1) es.size F->Heap.SameBut B s.heap h'->Q (some e.key) { s with heap:=h' }):Ag prog w A (pyNext (.ref B)) Q E s:=by
 unfold pyNext
 exact aa (cO (wpAny_callSpecial?_slot (name:=Str.ofString "__next__") q.typeIs bQ
  (aZ bQ q.typeIs dq (zm8 q I J λh' a b=>⟨_,rfl,ae (L h' a b)⟩) (dg _))))
def zp8(Y:A.handled=none)(q:s.heap.IsKeyIter J d es.size es.size L)(Z:zcE s.heap d es L)(hE:∀h' x,Heap.ExtBut J s.heap h'->(∃o,h'.get? x=some o/\o.cls = .type "StopIteration")->E (.ref x) { s with heap:=h' }):Ag prog w A (Builtin.«dict_keyiterator.__next__» { pos:=[Value.ref J] }) Q E s:=by
 obtain⟨o,O,hc,U⟩:=id q;obtain⟨od,B,ad,F⟩:=id Z;show aa (ae ?_);show aa ?_;show aa ?_
 first | show aa (cj q.typeIs (ae ?_)) | show aa (by grind)
 show aa (fj O U ?_);have I:Builtin.Dict_items.ownsTuple "dict_keyiterator" = false:=by ext
 simp only[I,aR,if_false];show wpAny _ _ (if (Value.ref d==Value.none)=true then _ else _) _ _ s;rw[if_neg (by grind)];show aa (ae ?_);show aa (fB B F ?_);rw[if_neg (by simp)];show aa (ae ?_);show aa (wpAny_dictEpoch B F ?_);rw[if_neg (by simp)];show ae ?_;simp only[show ¬ ((es.size:Int)<0) from by lia,if_false,aP,Array.getElem?_eq_none (ah es.size)];show aa ?_
 first | show aa (cj q.typeIs (ae ?_)) | show aa (by grind)
 change wpAny _ _ (setField (.ref J) 0 .none >>= _) _ _ s;show aa (cF O U (by simp) ?_);change wpAny _ _ (newExc (.type "StopIteration") [] >>= _) _ _ _;show aa ?_;simp only[newExc,newTuple];show aa (bj ?_ (by size_fits));show aa (m:=firstArgMember _ _) (fG (a:=Value.none) (by first | rfl | (simp only[firstArgMember];rfl)) ?_);show bj ?_ (by size_fits);simp only[raiseNew];show aa (fH ?_);rw[Y];show aa (ae (wpAny_throw ?_));exact hE _ _ (((bu ..).extBut.push _).push _) ⟨_,aC _ rfl,rfl⟩
def zlg(I:A.handled=none)(q:s.heap.IsKeyIter B d es.size es.size F)(J:zcE s.heap d es F)(L:∀h',Heap.ExtBut B s.heap h'->Q none { s with heap:=h' }):Ag prog w A (pyNext (.ref B)) Q E s:=by
 unfold pyNext
 show aa (cO (wpAny_callSpecial?_slot (name:=Str.ofString "__next__") q.typeIs bQ
  (aZ bQ q.typeIs dq (zp8 I q J λh' x a b=>?_) (dg _))))
 exact aa (cB (T := "StopIteration") (b:=true) b de (ae (L _ a)))
variable {X:Cx}
end
def zdC (kvs:List (AG×V)):List (List Key×V):=kvs.map λq=>(q.1.map Sum.inl,q.2)
def dtO (kvs:List (AG×V)):HO:=.dT (zdC kvs)
def zeG (kvs:List (AG×V))(st:AG):um (zdC kvs) (st.map Sum.inl)=um kvs st:=by
 unfold zdC
 induction kvs with
 | nil=>rfl
 | cons q r B=>
  rw[az];by_cases e:q.1=st;rw[ya (p:=q) e,ya (p:=(q.1.map Sum.inl,q.2)) (by rw[e])];rw[yj (p:=q) e,yj (p:=(q.1.map Sum.inl,q.2)) (λz=>e (x5 z)),B]
def zm7 (kvs:List (AG×V))(st:AG)(v:V):zad (zdC kvs) (st.map Sum.inl) v=zdC (zad kvs st v):=by
 have B:∀q:AG×V,decide ((q.1.map (Sum.inl:Int->Key))=st.map Sum.inl)=decide (q.1=st):=λq=>by rw[b8,decide_eq_true_eq,decide_eq_true_eq];exact⟨x5,λz=>by rw[z]⟩
 have F:((zdC kvs).any λkv=>decide (kv.1=st.map Sum.inl))=kvs.any λkv=>decide (kv.1=st):=by unfold zdC;rw[List.any_map];congr 1;funext q;exact B q
 unfold zad;rw[F];by_cases h:(kvs.any λkv=>decide (kv.1=st))=true;rw[if_pos h,if_pos h];unfold zdC;rw[aB,aB];show eL λq _=>?_;grind;rw[if_neg h,if_neg h];unfold zdC;right
def zbO.i{kvs:List (AG×V)}{st:AG}(e:H a=some (dtO kvs))(q:H b=some (.tup (st.map V.int))):zbO H a (.ref b) (um kvs st):=by have:=zbO.t (k:=st.map Sum.inl) e (by rw[zbU];exact q);rwa[zeG] at this
def zdx.i{kvs:List (AG×V)}{st:AG}(e:H a=some (dtO kvs))(q:H b=some (.tup (st.map V.int)))(B:kvs.length<sizeLine):zdx H a (.ref b) v (upd H a (dtO (zad kvs st v))):=by have:=zdx.t (k:=st.map Sum.inl) (v:=v) e (by rw[zbU];exact q) (by unfold zdC;rw[ab];exact B);rwa[zm7] at this
def zrH:TE:=λ_ H Q=>New H (dtO []) Q
section
variable {X:Cx}
def znJ:QE X (.Dict [] [] pos) zrH:=⟨λpins s σ H Q I h=>zio pins s σ H Q I λp q=>h.at q⟩
def zmI {pins:AB}{σ:St}{H:Hp}{s:AZ}(I:Inv X pins σ H s){a:Addr}{kvs:List (AG×V)}(h:Rd H a (dtO kvs)) :
  (a==sysModules)=false/\∃ (es:Array DictEntry) (B:Nat) (ys:AE),zcE s.heap a es B/\ys.map (·.1)=kvs.map (·.1)/\(∀q∈ys,H q.2=some (.tup (q.1.map V.int)))/\es.toList.map (·.key)=ys.map (λq=>Value.ref q.2)/\kvs.length<=sizeLine/\(kvs.map (·.1)).Nodup:=by
 obtain⟨z,lo,xs,r,o,es,B,h1,h2,h3,h4,U⟩:=(show yo X.prog X.w H s.heap a (.dT (zdC kvs)) from zrp I.hok h)
 have F:∀ {kvs:List (AG×V)} {xs:List (List Key×Addr×Value)},Paired (λ(p:List Key×V) (q:List Key×Addr×Value)=>p.1=q.1/\H q.2.1=some (.tup (p.1.map kV))/\yB p.2 q.2.2) (zdC kvs) xs->
   ∃ys:AE,ys.map (·.1)=kvs.map (·.1)/\(∀q∈ys,H q.2=some (.tup (q.1.map V.int)))/\xs.map (λq=>Value.ref q.2.1)=ys.map (λq=>Value.ref q.2)/\xs.map (·.1)=kvs.map (λq=>q.1.map Sum.inl):=by
  intro kvs
  induction kvs with
  | nil=>intro xs r;cases r;exact⟨[],rfl,λ_ h=>by simp at h,rfl,rfl⟩
  | cons q kvs ih=>
   intro xs r
   cases r with
   | cons r1 r2=>
    rename_i x ad;obtain⟨ys,Y,J,Z,e4⟩:=ih r2;show⟨(q.1,x.2.1)::ys,by right,λy L=>?_,by right,by right⟩;rcases aF.mp L with rfl | L
    have:=r1.2.1;rwa[show ((q.1.map Sum.inl,q.2):List Key×V).1=q.1.map Sum.inl from rfl,zbU] at this;exact J y L
 obtain⟨ys,Y,J,Z,e4⟩:=F r;show⟨lo,es,B,ys,⟨o,h1,h2,h3⟩,Y,J,?_,?_,?_⟩;rw[h4,aB,<- Z];rfl;unfold zdC at z;right;rw[e4] at U;have O:((kvs.map (·.1)).map λst:AG=>st.map (Sum.inl:Int->Key)).Nodup:=by rw[aB];exact U
 exact (bD.mp O).imp λh z=>h (by rw[z])
end
abbrev Up' (l:AF):Prop:=l.Pairwise λa b=>HT.lexLt a b=true
def zpX (x:AG):AF->AF
 | []=>[x]
 | y::r=>if HT.lexLt x y then x::y::r else if x=y then y::r else y::zpX x r
def zhI (l:AF):AF:=l.foldr zpX []
def zey {x z:AG}:∀ {l:AF},z∈zpX x l↔z=x\/z∈l
 | []=>by change z∈[x]↔_;simp
 | y::r=>by
  unfold zpX;split;simp;split;right;rw[aF,zey,aF];grind
def zaB {z:AG}:∀ {l:AF},z∈zhI l↔z∈l
 | []=>Iff.rfl
 | x::l=>by change z∈zpX x (zhI l)↔_;rw[zey,zaB,aF]
def zkx {x:AG}{m:Nat}(F:x.length=m):∀ {l:AF},(∀y∈l,y.length=m)->Up' l->Up' (zpX x l)
 | [],_,_=>dL _ _
 | y::r,I,B=>by
  have J:=I y am;rw[Up',ce] at B;unfold zpX;split
  ·rename_i h;show ce.mpr ⟨λz q=>?_,ce.mpr B⟩;rcases aF.mp q with rfl | q
   exact h;exact zbr (F.trans J.symm) (by grind) h (B.1 z q)
  ·rename_i h;split
   exact ce.mpr B
   ·rename_i L;show ce.mpr ⟨λz q=>?_,zkx F (λz q=>I z (aw _ q)) B.2⟩;rcases zey.mp q with rfl | q
    ·rcases zaq (a:=z) (b:=y) (F.trans J.symm) with e | e | e
     all_goals right
    exact B.1 z q
def zlS{l:AF}(h:∀y∈l,y.length=m):∀y∈zhI l,y.length=m:=λy q=>h y (zaB.mp q)
def zcD:∀ {l:AF},(∀y∈l,y.length=m)->Up' (zhI l)
 | [],_=>.nil
 | x::l,h=>zkx (h x am) (zlS λy q=>h y (aw _ q)) (zcD λy q=>h y (aw _ q))
def zme:∀ {l l':AF},(∀y∈l,y.length=m)->Up' l->Up' l'->(∀z,z∈l↔z∈l')->l=l'
 | [],[],_,_,_,_=>rfl
 | [],y::r,_,_,_,h=>absurd ((h y).mpr am) (by simp)
 | x::l,[],_,_,_,h=>absurd ((h x).mp am) (by simp)
 | x::l,y::r,F,I,q,h=>by
  rw[Up',ce] at I q;have B:∀z∈y::r,z.length=m:=λz J=>F z ((h z).mpr J)
  have e:x=y:=by
   rcases aF.mp ((h x).mp am) with e | e;exact e;rcases aF.mp ((h y).mpr am) with L | L;exact L.symm;have h1:=q.1 x e;have h2:=I.1 y L;have U:=zbr ((F x am).trans (B y am).symm) ((B y am).trans (F x am).symm) h2 h1;rw[xf] at U;cases U
  subst e;have O:∀ {l:AF},(∀z∈l,HT.lexLt x z=true)->x∉l:=λY z=>by have:=Y x z;rw[xf] at this;cases this
  congr 1;show zme (λz J=>F z (aw _ J)) I.2 q.2 λz=>?_;grind
def ziB{l l':AF}(q:∀y∈l,y.length=m)(B:Up' l')(h:∀z,z∈l'↔z∈l):l'=zhI l:=
 zme (λy F=>q y ((h y).mp F)) B (zcD q) λz=>(h z).trans zaB.symm
def zob {l:AF}(h:Up' l):l.Nodup:=h.imp λ{a b} q e=>by subst e;rw[xf] at q;cases q
def zai (bk:AW)(st hs:AG):AF:=(bk.filter λx=>zbh st x&&!hs.contains x.b).map λx=>chg st x.b x.r
def zaZ (bk:AW)(st hs:AG):AF:=zhI (zai bk st hs)
def zal{st hs z:AG}:z∈zai bk st hs↔∃x∈bk,zbh st x=true/\x.b∉hs/\z=chg st x.b x.r:=by
 unfold zai;grind
def zak{rm:AG}{st hs:AG}(q:∀x∈bk,WishOk rm x)(F:st.length=rm.length):∀z∈zai bk st hs,z.length=rm.length:=λz I=>by obtain⟨x,B,_,_,rfl⟩:=zal.mp I;have h1:=(q x B).b1;rw[zjN (q x B).b0 (by lia)];exact F
def zaX (H:Hp)(v:V)(hs:AG):Prop:=(v = .non/\hs=[])\/∃p,v = .ref p/\H p=some (.tup (hs.map V.int))
def zaX.stay{hs:AG}(h:zaX H v hs)(s:zB H H'):zaX H' v hs:=by
 rcases h with h | ⟨p,e,h⟩;exact .inl h;exact .inr ⟨p,e,s.tup h⟩
def zaH(s:zB A B){hs:AG}(h:zaX A v hs):zaX B v hs:=h.stay s
def ziK (H:Hp)(l:Addr)(sts:AF):Prop:=∃ys,H l=some (.lst ys)/\IsL H (sts.map stD) ys
def ziK.stay{sts:AF}(h:ziK H l sts)(s:zB H H'):ziK H' l sts:=let ⟨ys,h1,h2⟩:=h;⟨ys,s.lst h1,h2.stay s⟩
def zaI(s:zB A B){sts:AF}(h:ziK A l sts):ziK B l sts:=h.stay s
def zlT:Sp:=λvs H Q _=>∃ (F q:V) (B a:Addr) (rm:AG) (xs:AT) (bk:AW) (st hs:AG),vs=[F,.ref B,.ref a,q]/\1<=rm.length/\rm.length<=8/\BookAt H rm B xs bk/\(∀r∈rm,2<=r/\r<=4)/\H a=some (.tup (st.map V.int))/\st.length=rm.length/\zaX H q hs/\
 ∀ (l:Addr) (H':Hp),H l=none->ziK H' l (zaZ bk st hs)->yJ H H'->Q (.ref l) H'
def zT {α:Type}[BEq α][LawfulBEq α]:∀ {l l':List α},l.Nodup->(∀x∈l,x∈l')->l.length<=l'.length
 | [],_,_,_=>aK _
 | a::l,l',q,h=>by
  rw[bS] at q;have B:=h a am;have:=zT (l:=l) (l':=l'.erase a) q.2 λx F=>by grind
  grind
def zaj{rm:AG}{st hs:AG}{ks:AF}(q:∀x∈bk,WishOk rm x)(U:rm.length<=8)(B:∀r∈rm,2<=r/\r<=4)(F:ks.Nodup)(I:∀z∈ks,z∈zai bk st hs):ks.length<=32:=by
 have:=zT (l':=(List.range 32).map λc=>chg st ((c / 4:Nat):Int) ((c % 4:Nat):Int)) F λz J=>by obtain⟨x,L,_,_,rfl⟩:=zal.mp (I z J);have o:=q x L;have h1:=o.b1;have h2:=o.b0;have O:=o.r0;have Y:=o.r1;have Z:=(uy B h2 h1).2;show au.mpr ⟨4 * x.b.toNat+x.r.toNat,aU.mpr (by lia),?_⟩;rw[show (4 * x.b.toNat+x.r.toNat) / 4=x.b.toNat by lia,show (4 * x.b.toNat+x.r.toNat) % 4=x.r.toNat by lia,eM h2,eM O]
 right
def zjH{rm:AG}{st hs:AG}(q:∀x∈bk,WishOk rm x)(B:rm.length<=8)(F:∀r∈rm,2<=r/\r<=4)(I:st.length=rm.length):(zaZ bk st hs).length<=32:=
 zaj (hs:=hs) q B F (zob (zcD (zak q I))) λz J=>zaB.mp J
end L2
namespace L2
open PyProof.Rows PySem.SeqAt
def uR:∀ds:AS,Dt.toWs ds=ds.map Dt.toW
 | []=>rfl
 | d::ds=>by rw[Dt.toWs,az,uR ds]
def zbo:∀ds:List PySem.W.Dat,PySem.W.kqdPs ds=ds.map PySem.W.kqdP
 | []=>by simp[PySem.W.kqdPs]
 | d::ds=>by rw[az,<- zbo ds];simp[PySem.W.kqdPs]
def zvo (q:Bool):R2:=λx y H Q=>∃d ds,Is H d x/\(Is H (.lst ds) y\/Is H (.tup ds) y)/\d.eqOk/\(Dt.lst ds).eqOk/\∀b:Bool,(b=true↔d∈ds)->Q (.bl (if q then !b else b)) H
section
variable {X:Cx}
def zbl(h:(Dt.lst ds).eqOk):∀d∈ds,PySem.W.kqdOk 7 d.toW=true:=λd q=>by
 have h':PySem.W.kqdOk 8 (Dt.lst ds).toW=true:=h;simp only[Dt.toW,PySem.W.kqdOk,bc,uR] at h';right
def zcJ(q:d.eqOk)(hs:(Dt.lst ds).eqOk):((PySem.W.kqdPs (Dt.toWs ds)).any λy=>PyData.eqv y (PySem.W.kqdP d.toW))=true↔d∈ds:=by
 rw[zbo,uR,aB,List.any_map,dn];constructor;rintro⟨e,B,h⟩;have:=(eI 7 e.toW d.toW 8 (zbl hs e B) q).mp h;rw[<- zfm this];exact B;intro h;exact⟨d,h,(eI 7 d.toW d.toW 8 (zbl hs d h) q).mpr rfl⟩
def zna(h:PySem.W.kqdOk 7 d=true):PySem.W.kqdOk 8 d=true:=by
 have q:∀ (n:Nat) (d:PySem.W.Dat),PySem.W.kqdOk n d=true->PySem.W.kqdOk (n+1) d=true:=by
  intro n
  induction n with
  | zero=>intro d h;cases d <;> simp_all [PySem.W.kqdOk]
  | succ n B=>
   intro d h;cases d <;> simp_all [PySem.W.kqdOk]
 exact q 7 d h
def zfZ {d:Dt}{ds:AS}{u:Nat}(I:d.eqOk)(hs:(Dt.lst ds).eqOk)(O:u+64<cLine):PyData.canLayAll0 (PySem.W.kqdPs (Dt.toWs ds))=true/\(PySem.W.kqdP d.toW).canLay0=true/\u+1+min (PyData.depthAll (PySem.W.kqdPs (Dt.toWs ds))) (PySem.W.kqdP d.toW).depth<cLine:=by
 have B:=PySem.W.kqd_lay 8 _ I;have J:=PySem.W.kqd_layL (ds:=Dt.toWs ds) λe F=>by rw[uR] at F;obtain⟨L,q,rfl⟩:=au.mp F;exact zna (zbl hs L q)
 show⟨J.1,B.1,?_⟩;have:min (PyData.depthAll (PySem.W.kqdPs (Dt.toWs ds))) (PySem.W.kqdP d.toW).depth<=8:=af (fM _ _) B.2;lia
def zoL (hu:X.A.units+64<cLine):OpQ X (compareOp .In) (zvo false):=⟨by
 intro pins s σ H x y v u Q I rx L h;obtain⟨d,ds,hd,B,F,ks,q⟩:=h;obtain⟨as,O⟩:=y4 I.hok 8 hd rx F;obtain⟨U,Y,Z⟩:=zfZ F ks hu;rcases B with B | B;obtain⟨bs,J⟩:=y4 I.hok 8 B L ks;exact in_list_reads J O U Y Z ⟨.bl _,H,I,rfl,q _ (zcJ F ks)⟩;obtain⟨bs,J⟩:=y4 I.hok 8 B L (show (Dt.tup ds).eqOk from ks);exact in_tuple_reads J O U Y Z ⟨.bl _,H,I,rfl,q _ (zcJ F ks)⟩⟩
def zgf (hu:X.A.units+64<cLine):OpQ X (compareOp .NotIn) (zvo true):=⟨by
 intro pins s σ H x y v u Q I rx L h;obtain⟨d,ds,hd,B,F,ks,q⟩:=h;obtain⟨as,O⟩:=y4 I.hok 8 hd rx F;obtain⟨U,Y,Z⟩:=zfZ F ks hu;rcases B with B | B;obtain⟨bs,J⟩:=y4 I.hok 8 B L ks;exact notIn_list_reads J O U Y Z ⟨.bl _,H,I,rfl,q _ (zcJ F ks)⟩;obtain⟨bs,J⟩:=y4 I.hok 8 B L (show (Dt.tup ds).eqOk from ks);exact notIn_tuple_reads J O U Y Z ⟨.bl _,H,I,rfl,q _ (zcJ F ks)⟩⟩
end
def ztx (bk:AW)(q:Int)(st:AG):AF:=(bk.filter λx=>decide (x.b=q)&&zap st x.g).map λx=>[x.w,x.r]
def lpF (bk:AW)(q:Int)(st:AG):AF:=zhI (ztx bk q st)
def zn6 (C:Nat->Nat->Bool)(w j:Nat):AF:=((List.range j).filter (C w)).map λb:Nat=>[(w:Int),(b:Int)]
def zw5 (C:Nat->Nat->Bool)(n:Nat):Nat->AF
 | 0=>[]
 | i+1=>zw5 C n i++zn6 C i n
def zlY {a b:AG}(h:stD a=stD b):a=b:=by have:=congrArg (List.map Dt.val) (Dt.tup.inj h);rwa[uT,uT] at this
open PySem.W PySem.Calls
section
variable {prog:Aa}{w:Ab}{A:Ae}{E:AA}{s:AZ}{R:Result->AZ->Prop}
def zc4 {ns:AG}{l:AE}:(ns.map Sum.inl)∈(yT l).map (·.1)↔ns∈l.map (·.1):=by
 unfold yT;rw[aB,au,au];constructor;rintro⟨q,B,e⟩;show⟨q,B,?_⟩;have F:q.1.map (Sum.inl:Int->Key)=ns.map Sum.inl:=e;exact x5 F;rintro⟨q,B,rfl⟩;exact⟨q,B,rfl⟩
def zjz{ns:AG}{xs:AE}(hu:A.units<cLine)(S:xS prog w s.heap a (yT xs))(U:(tk prog w).is s.heap (ns.map Sum.inl) b)(Y:∀q∈xs,(tk prog w).is s.heap (q.1.map Sum.inl) q.2)(I:(xs.map (·.1)).Nodup)(hn:xs.length<300)(h:∀r h' n B,Heap.SameBut a s.heap h'->xS prog w h' a (yT B)->(∀q∈B,q∈xs\/q=(ns,b))->(∀x,x∈B.map (·.1)↔x=ns\/x∈xs.map (·.1))->(B.map (·.1)).Nodup->B.length<=xs.length+1->Q r { s with heap:=h',toks:=n }) :
  Ag prog w A (setAdd a (.ref b)) Q E s:=by
 show zoi (xs:=yT xs) (ns:=ns) hu S U (λq J=>?_) (by unfold yT;rw[ab];exact hn) λr h' n ag sb S' Z L=>?_;unfold yT at J;obtain⟨q',ad,rfl⟩:=au.mp J;exact Y q' ad;by_cases O:ns∈xs.map (·.1);obtain rfl:=Z (zc4.mpr O);exact h r h' n xs sb S' (λq J=>.inl J) (λx=>⟨.inr,λz=>z.elim (λe=>e ▸ O) id⟩) I (cT _);have hp:=L λz=>O (zc4.mp z);have U:((ns.map Sum.inl,b)::yT xs)=yT ((ns,b)::xs):=rfl;rw[U] at hp;obtain⟨B,F,rfl⟩:=zas hp rfl;show h r h' n B sb S' (λq J=>?_) (λx=>?_) ?_ ?_;grind;rw[(F.map (·.1)).mem_iff,az,aF];rw[(F.map (·.1)).nodup_iff,az,bS];exact⟨O,I⟩;rw[F.length_eq,aO];exact ah _
def xS.keep(S:xS prog w h a xs)(k:∀o,h.get? a=some o->h'.get? a=some o):xS prog w h' a xs:=by obtain⟨o,es,q,t,B,r⟩:=S;exact⟨o,es,q,t,k o B,r⟩
def zhK(x:(tk prog w).is h k b)(q:∀o,h.get? b=some o->h'.get? b=some o):(tk prog w).is h' k b:=by obtain⟨o,its,n,B,r⟩:=x;exact⟨o,its,n,q o B,r⟩
def zn2{ns:AE}(hh:A.in1.handled=none)(hu:A.in1.units<cLine)(as:items.toList=ns.map λq=>Value.ref q.2)(ag:S≠I)(a7:l≠S)(ba:l≠I)(hq:∀q∈ns,q.2≠S/\q.2≠I)(hn:∀ks:AF,ks.Nodup->(∀z∈ks,z∈ns.map (·.1))->ks.length<300) :
  ∀ (k i:Nat) (s:AZ) (xs:AE),ns.length - i=k->i<=ns.length->s.heap.IsListIter I l i->s.heap.IsList l items->(∀q∈ns,(tk prog w).is s.heap (q.1.map Sum.inl) q.2)->xS prog w s.heap S (yT xs)->
   (∀q∈xs,q∈ns)->(∀st,st∈xs.map (·.1)↔st∈(ns.take i).map (·.1))->(xs.map (·.1)).Nodup->xs.length<=i->
   (∀h' al F,xS prog w h' S (yT F)->(∀q∈F,q∈ns)->(∀st,st∈F.map (·.1)↔st∈ns.map (·.1))->(F.map (·.1)).Nodup->F.length<=ns.length->(∀b o,b≠S->b≠I->s.heap.get? b=some o->h'.get? b=some o)->R (.ok (.ret .none)) { s with heap:=h',toks:=al })->
   codeAny (model prog w) A (.builtin "set.update.loop" ⟨[.ref S,.ref I],[]⟩) R s:=by
 intro k
 induction k with
 | zero=>
  intro i s xs hk hi hI hl av hS B J O ad hR;have bb:i=ns.length:=by lia
  subst bb;show eO dh ?_;rw[et cr _];change wpAny _ A.in1 (pyNext (.ref I) >>= _) _ _ s;show aa (wpAny_pyNext_list_end hh hI hl ?_ λh' hx=>?_);rw[zcp,as,aq,List.getElem?_eq_none (ah _)];rfl;change wpAny _ A.in1 (ret Value.none) _ _ _;show ae (hR h' s.toks xs (hS.keep λo e=>hx S o ag e) B (λst=>?_) O ad λb o _ hb e=>hx b o hb e);rw[J,aT]
 | succ k ih=>
  intro i s xs hk hi hI hl av hS B J O ad hR;have U:i<ns.length:=by lia
  show eO dh ?_;rw[et cr _];change wpAny _ A.in1 (pyNext (.ref I) >>= _) _ _ s;have hx:items[i]?=some (Value.ref ns[i].2):=by rw[zcp,as,aq,ai U];rfl
  have a0:ns[i]∈ns:=bL U;show aa (wpAny_pyNext_list_item hI hl hx λh1 bd bk=>?_);change wpAny _ A.in1 (holding [Value.ref ns[i].2] (setAdd S (.ref ns[i].2)) >>= _) _ _ _;have Y:∀b o,b≠I->s.heap.get? b=some o->h1.get? b=some o:=λb o hb e=>by rw[bk.2 b hb];exact e
  have L:∀q∈ns,(tk prog w).is h1 (q.1.map Sum.inl) q.2:=λq z=>zhK (av q z) λo e=>Y _ _ (hq q z).2 e;show aa (bq ?_);show zjz (s:={ s with heap:=h1 }) (xs:=xs) (ns:=ns[i].1) hu (hS.keep λo e=>Y _ _ ag e) (L _ a0) (λq z=>L q (B q z)) O (by have:=hn _ O λz hz=>(by obtain⟨q,hq,rfl⟩:=au.mp hz;exact au.mpr ⟨q,B q hq,rfl⟩);rwa[ab] at this) λr h2 n bl sb S2 an ap a5 bo=>?_;have Z:∀b o,b≠S->h1.get? b=some o->h2.get? b=some o:=λb o hb e=>by rw[sb.2 b hb];exact e
  show ae ⟨plainId_quiet cr _,ih (i+1) _ bl (by lia) U ?_ ?_ ?_ S2 ?_ ?_ a5 (by lia) ?_⟩;obtain⟨o,ho,r⟩:=bd;exact⟨o,Z _ _ ag.symm ho,r⟩;obtain⟨o,ho,r⟩:=hl;exact⟨o,Z _ _ a7 (Y _ _ ba ho),r⟩;exact λq z=>zhK (L q z) λo e=>Z _ _ (hq q z).1 e;intro q z;rcases an q z with z | z;exact B q z;rw[z];exact a0
  ·intro st;rw[ap,J,List.take_succ,ai U,aE,aI];constructor
   ·rintro (z | z)
    all_goals right
   rintro (z | z);exact .inr z;exact .inl (ao.mp z)
  intro h' al F S' a1 a2 a3 a4 kp;exact hR h' al F S' a1 a2 a3 a4 λb o b1 b2 e=>kp b o b1 b2 (Z b o b1 (Y b o b2 e))
def zes(a:Value)(h:Q₁ (.ref s.heap.objs.size) { s with heap:=s.heap.push { cls:=.type "set",dict:=none,data:=.set #[] 0 (.fresh 0 0 (!w.params.followText "set-order")) } }) :
  codeAny (model prog w) A (.call (.builtin "set.__new__") ⟨[.type "set",a],[]⟩) (wants Q₁ E) s:=by
 show dM ?_;change wpAny _ A.in1 (do checkBuiltinCall "set.__new__" ⟨[.type "set",a],[]⟩;again (.builtin "set.__new__" ⟨[.type "set",a],[]⟩)) _ _ s;show aa (fG (PySem.F.newCall_set_1 a) (ae ⟨plainId_quiet PySem.F.plain_set_new _,eO PySem.F.entry_set_new ?_⟩));rw[et PySem.F.plain_set_new _];unfold Builtin.«set.__new__» Builtin.Frozenset.newClass;have hsub:=sub_set_self;obtain⟨hp,g,d,tk,os⟩:=s;dsimp only
 wp_walk
 show br (ae ?_);dsimp only;simp only[newObj];show aa (wpAny_alloc (ae ?_));exact ae h
def zeo{ns:AE}(hh:A.handled=none)(hu:A.units+10<cLine)(hl:s.heap.IsList l items)(a7:items.toList=ns.map λq=>Value.ref q.2)(ad:∀q∈ns,(tk prog w).is s.heap (q.1.map Sum.inl) q.2)(hn:∀ks:AF,ks.Nodup->(∀z∈ks,z∈ns.map (·.1))->ks.length<300)(h:∀ (h':Heap) (tk:Nat) (xs:AE),xS prog w h' s.heap.objs.size (yT xs)->(∀q∈xs,q∈ns)->(∀st,st∈xs.map (·.1)↔st∈ns.map (·.1))->(xs.map (·.1)).Nodup->xs.length<=ns.length->
   (∀b o,b<s.heap.objs.size->s.heap.get? b=some o->h'.get? b=some o)->Q (.ref s.heap.objs.size) { s with heap:=h',toks:=tk }) :
  Ag prog w A (call (.type "set") [.ref l]) Q E s:=by
 obtain⟨c,tl,bx⟩:=PySem.F.called_set.mro;have ba:=PySem.F.called_set.made;have b0:=PySem.F.called_set.sub;show wpAny_call (dM ?_);change wpAny _ _ (callAny (.type "set") _) _ _ _;show ae ⟨Code.quiet_builtin _ (by decide +kernel),eO PySem.F.entry_type_call ?_⟩;rw[Around.under_plain (weight_type_call_type "set" [.ref l] []) rfl];have h1:=PySem.F.called_set.notType;have h2:=PySem.F.called_set.canCreate;have b4:=PySem.F.typeCall_set_1 (.ref l)
 repeat (any_goals (first | assumption | wp_step))
 generalize J:(!w.params.followText "set-order")=led at *;show dw (zes (.ref l) (E:=E) (Q₁:=λag L=>ag = .ref s.heap.objs.size/\L={ s with heap:=s.heap.push { cls:=.type "set",dict:=none,data:=.set #[] 0 (.fresh 0 0 led) } }) ⟨rfl,by rw[J]⟩) λr L hr=>?_
 cases r with
 | error e=>exact hr
 | ok fl=>
  cases fl with
  | ret ag=>
   obtain⟨rfl,rfl⟩:=hr;have hS:(s.heap.push { cls:=.type "set",dict:=none,data:=.set #[] 0 (.fresh 0 0 led) }).get? s.heap.objs.size=some { cls:=.type "set",dict:=none,data:=.set #[] 0 (.fresh 0 0 led) }:=aC _ rfl;have hT:Shared.TypeIs { s with heap:=s.heap.push { cls:=.type "set",dict:=none,data:=.set #[] 0 (.fresh 0 0 led) } } (.ref s.heap.objs.size) "set" := ⟨_,hS,rfl⟩;have b5:=PySem.F.called_set.init.lookup;have ca:=PySem.F.called_set.init.bind (.ref s.heap.objs.size)
   repeat (any_goals (first | assumption | wp_step))
   show dw (codeAny_call_builtin (R:=wants (λr O=>r = .none/\∃h' tk,O={ s with heap:=h',toks:=tk }/\
     ∃xs:AE,xS prog w h' s.heap.objs.size (yT xs)/\(∀q∈xs,q∈ns)/\(∀st,st∈xs.map (·.1)↔st∈ns.map (·.1))/\(xs.map (·.1)).Nodup/\xs.length<=ns.length/\
     (∀b o,b<s.heap.objs.size->s.heap.get? b=some o->h'.get? b=some o)) E) PySem.F.called_set.init.plain PySem.F.entry_set_init (check_set_init_1 hT ?_)) λal O B=>?_
   obtain⟨ol,an,ap,nl,as⟩:=hl;obtain⟨b1,U,bb,I⟩:=ol;simp only at ap as;subst ap;subst as;have av:(s.heap.push { cls:=.type "set",dict:=none,data:=.set #[] 0 (.fresh 0 0 led) }).get? l=some { cls:=.type "list",dict:=U,data:=.seq items nl,slots:=I }:=aj _ an;have b2:=PySem.F.sub_list_set;have b3:=PySem.F.sub_list_frozenset;have cc:(Value.type "list" == Value.type "dict")=false:=by ext
   have a0:(s.heap.push { cls:=.type "set",dict:=none,data:=.set #[] 0 (.fresh 0 0 led) }).IsList l items:=⟨_,av,rfl,nl,rfl⟩;unfold Builtin.«set.__init__» noKeywords Builtin.Frozenset.updateFrom;generalize bd:pyIter=PI
   wp_walk
   subst bd;show fm a0 ?_;show aa (wpAny_runValue ?_);have a5:l<s.heap.objs.size:=aA an;have bk:∀q∈ns,q.2<s.heap.objs.size:=λq Y=>by obtain⟨o,_,_,ho,_⟩:=ad q Y;exact aA ho
   show zn2 (items:=items) (ns:=ns) (l:=l) (by simp[hh]) (by simp;lia) a7 ?_ ?_ ?_ ?_ hn (ns.length - 0) 0 _ [] (by lia) (aK _) ⟨_,aC _ rfl,rfl,rfl⟩ (a0.push _) ?_ ?_ ?_ ?_ ?_ ?_ ?_;rw[da];exact aL (dj _);exact aL a5;rw[da];exact aL (c6 a5);intro q Y;have:=bk q Y;rw[da];exact⟨aL this,aL (c6 this)⟩;exact λq Y=>zhK (ad q Y) λo e=>aj _ (aj _ e);show xS.keep (h:=s.heap.push { cls:=.type "set",dict:=none,data:=.set #[] 0 (.fresh 0 0 led) }) ?_ λo e=>aj _ e;rw[<- J];exact zgu _;exact λq Y=>by simp at Y
   intro st;simp;exact e7;exact ah _;intro h' bl bo S' a1 a2 a3 a4 kp;change wpAny _ _ _ _ _ _;show ae ?_;change wpAny _ _ (ret Value.none) _ _ _;show ae ⟨rfl,h',bl,rfl,bo,S',a1,a2,a3,a4,λb o hb e=>?_⟩;show kp b o (aL hb) (by rw[da];exact aL (c6 hb)) (aj _ (aj _ e))
   ·cases al with
    | error e=>exact B
    | ok Z=>
     cases Z with
     | ret r=>
      obtain⟨rfl,h',tk,rfl,xs,S',a1,a2,a3,a4,bs⟩:=B
      repeat (any_goals (first | assumption | wp_step))
      exact h _ _ xs S' a1 a2 a3 a4 bs
     | _=>exact B.elim
  | _=>exact hr.elim
variable {X:Cx}
def zoY (P:Aa)(w:Ab):AT->Hp->VK->Prop:=λxs H Q=>∃ (a:Addr) (ys:AT) (sts:AF),xs=[.ref a]/\H a=some (.lst ys)/\IsL H (sts.map stD) ys/\(∀ks:AF,ks.Nodup->(∀z∈ks,z∈sts)->ks.length<300)/\
 ∀ (l:Addr) (H':Hp) (ks:AF),H l=none->zdu P w H' l ks->(∀st,st∈ks↔st∈sts)->yJ H H'->Q (.ref l) H'
def zjW (hu:X.A.units+64<cLine)(hc:X.calm=true):CallQ X (.type "set") (zoY X.prog X.w):=⟨by
 intro pins s σ H xs us Q I r h;obtain⟨a,ys,sts,rfl,ha,J,hn,q⟩:=h;obtain⟨u,rfl,ru⟩:=zba r;cases ru
 have L:∀ {sts:AF} {ys:AT},IsL H (sts.map stD) ys->∃ns:AE,ys=ns.map (λq=>V.ref q.2)/\ns.map (·.1)=sts/\∀q∈ns,H q.2=some (.tup (q.1.map V.int)):=by
  intro sts
  induction sts with
  | nil=>intro ys h;cases h;exact⟨[],rfl,rfl,λ_ h=>by simp at h⟩
  | cons st sts O=>
   intro ys h;obtain⟨y,ad,rfl,h1,h2⟩:=h;obtain⟨ns,rfl,e2,F⟩:=O h2;obtain⟨b,us,rfl,hb,U⟩:=h1;obtain rfl:=U.of_ints;show⟨(st,b)::ns,rfl,by right,λq B=>?_⟩;rcases aF.mp B with rfl | B;exact hb;exact F q B
 obtain⟨ns,rfl,rfl,F⟩:=L J;obtain⟨Z,its,n,hv,hg⟩:=(show yo X.prog X.w H s.heap a (.lst _) from I.hok a _ ha)
 have hits:its=ns.map λq=>Value.ref q.2:=by
  have g2:∀ {ns:AE} {its:AN},zY (ns.map λq=>V.ref q.2) its->its=ns.map λq=>Value.ref q.2:=by
   intro ns
   induction ns with
   | nil=>intro its r;cases r;rfl
   | cons q ns O=>
    intro its r
    cases r with
    | cons r1 r2=>
     cases r1;rw[az,<- O r2]
  exact g2 hv
 show zeo (items:=its.toArray) (ns:=ns) (I.ok.hd hc) (by lia) ⟨_,hg,rfl,n,rfl⟩ (by simpa using hits) (λq B=>zcW I (F q B)) hn λh' tk xs S' a1 a2 a3 a4 kp=>?_;have Y:H s.heap.objs.size=none:=I.hok.fresh (ah _);show⟨.ref s.heap.objs.size,_,I.laid (t':=tk) (o:=zhG X.prog X.w s.heap.objs.size (yT xs)) (λb o e=>kp b o (aA e) e) (ah _) (zhH S'),rfl,?_⟩;show q s.heap.objs.size _ (xs.map (·.1)) Y ⟨xs,zh,λz Z=>?_,rfl,a3⟩ (λst=>a2 st) (λb o e=>by rw[zg (zc e Y)];exact e);have:=F z (a1 z Z);rw[zg (zc this Y)];exact this⟩
variable {e st:Expr}{te tk:TE}{pos p2:Pos}
end
def zpo{rm:AG}{q hs:AG}(B:∀x∈bk,WishOk rm x)(F:q.length=rm.length):Up' (zaZ bk q hs):=zcD (zak B F)
def unlike (q z hs:AG):AG:=hs.filter λb=>decide (yH q b≠yH z b)
section
variable {X:Cx}{pos:Pos}
end
def zk8 {z:AG}{l:AF}:stD z∈l.map stD↔z∈l:=by rw[au];exact⟨by rintro⟨y,q,e⟩;exact zlY e ▸ q,λh=>⟨z,h,rfl⟩⟩
end L2
namespace L2
open PyProof.Rows
end L2
namespace L2
open PyProof.Rows
section
variable {M:Model}{A:Ae}{E:AA}{s:AZ}
variable {X:Cx}{pins:AB}{σ:St}{H:Hp}{scope:Scope}{N:AM}{z:Str}{cix:List (Option Nat)}
end
end L2
namespace L2
open PyProof.Rows
end L2
namespace L2
open PyProof.Rows
section
variable {prog:Aa}{w:Ab}{A:Ae}{E:AA}{s:AZ}{R:Result->AZ->Prop}{Kt:Type}[DecidableEq Kt]{knd:KeyKind prog w Kt}{κ:Int->Kt}
end
end L2
namespace L2
open PyProof.Rows
def uM {X:Cx}{pins:AB}{σ:St}{H:Hp}{s:AZ}{a:Addr}{xs:AT}(I:Inv X pins σ H s)(h:SqL X.K H a xs):∃its:AN,zY xs its/\s.heap.IsList a its.toArray/\xs.length<=sizeLine:=by obtain⟨its,r,⟨o,n,e,c,_,d⟩,z⟩:=I.list h;exact⟨its,r,⟨o,e,c,n,d⟩,z⟩
def Iel (K:AH)(a:Addr):It:=
 ⟨λi H=>∃xs x,SqL K H a xs/\xs[i]?=some x,λi H v H'=>∃T x,v = .ref T/\H T=none/\H'=upd H T (.tup [.int i,x])/\∀xs,SqL K H a xs->xs[i]?=some x,λi H=>∃xs,SqL K H a xs/\xs.length<=i⟩
def zkb {X:Cx}{pins:AB}{σ:St}{H:Hp}{s:AZ}{e J:Addr}{i n:Nat}{U:Value}{fp:AY}{P:Nat->Value->Prop}{St:Nat->Heap->Prop}{x:V}{elts:AO}{x1}{tpos:Pos}{E:AA}(I:Inv X pins σ H s)(hf:∀b∈[e,J],zgF X pins H b)(av:e≠J)(he:IsEnum s.heap e J i U)
  (D:Draws X.prog X.w X.A.in1 J fp n P St) (Y:St i s.heap) (hi:i<n) (Z:e∉fp) (hx:∀y,P i y->yB x y) :
  Af X (pyNext (.ref e)) (λr s1=>∃u,r=some u/\Af X (letOwnedTupleGo (.Tuple elts x1 tpos) (.ref e) u) (λ_ s2=>∃T,Inv X pins σ (upd H T (.tup [.int i,x])) s2/\u = .ref T/\H T=none/\(∃U,IsEnum s2.heap e J ((i+1:Nat):Int) U)/\St (i+1) s2.heap/\∀b∈[e,J],upd H T (.tup [.int i,x]) b=none) E s1) E s:=by
 obtain⟨f0,f1,f2,f3,f4,f5⟩:=hf e (by simp);obtain⟨g0,g1,g2,g3,g4,g5⟩:=hf J (by simp);obtain⟨o0,a0⟩:=D.live _ _ Y;show wpAny_pyNext_enum_itemD D he Y hi av Z λy h' tk hy ho ad hT a3 hk=>⟨_,rfl,wpAny_letOwnedTupleGo_enum ho λO ag L=>?_⟩;have ru:=hx y hy;have al:s.heap.objs.size≠e:=dY (aA he);have a1:s.heap.objs.size≠J:=dY (aA a0);have B:=I.hok.fresh (ah s.heap.objs.size);have kp:∀b o,b≠e->b≠J->s.heap.get? b=some o->O.get? b=some o:=λb o h1 h2 F=>(L.2 b h1).trans (hk b o h1 h2 F);have an:O.get? s.heap.objs.size=some { cls:=.type "tuple",data:=.seq #[.int i tk,y] }:=(L.2 _ al).trans hT;have a4:∀b u',H b=some u'->b≠e/\b≠J:=λb u' F=>⟨zc F f0,zc F g0⟩
 have ap:HOk X.prog X.w (upd H s.heap.objs.size (.tup [.int i,x])) O:=by
  intro b u' F;by_cases as:b=s.heap.objs.size;subst as;rw[zh] at F;cases F;exact⟨by change 2<=sizeLine;decide,[.int i tk,y],.cons ⟨tk,rfl⟩ (.cons ru .nil),_,an,rfl,⟨0,rfl⟩,rfl⟩;rw[zg as] at F;show (I.hok b u' F).stay (λc v a5 q=>?_) (λc q=>?_) (λc ys q=>?_);grind;rw[zg (zc q B)];exact q;rw[zg (zc q B)];exact q
 have I1:Inv X pins σ (upd H s.heap.objs.size (.tup [.int i,x])) { s with heap:=O,toks:=tk+1 }:=by
  show Inv.step (ch:=[e,J]) (g':=s.gens) (d':=s.drawn) (t':=tk+1) I (λb F=>?_) (λb o h1 h2 h3 h4 h5=>?_) (λb o h1 h2 h3 h4 h5=>?_) (λb o h3 h4 h5=>?_) (λb o h3 h4=>?_) (λb ys q=>?_) (λb o u' q=>?_) (λb ps q=>?_) (λm hm=>?_) ap I.bare;rcases aF.mp F with rfl | F;exact⟨f3,f1,f4,f5⟩;rw[ao.mp F];exact⟨g3,g1,g4,g5⟩;right;exact⟨o.slots,kp b o (λz=>h3 (by simp[z])) (λz=>h3 (by simp[z])) h4⟩;rw[zg (aL (aA h4))];exact h5;right;rw[zg (zc q B)];exact q;rw[zg (zc q B)];exact q;exact⟨#[],by rw[zg (zc q B),dJ];exact q⟩;obtain⟨o,es,ep,a2,r1⟩:=hm;exact⟨o,es,ep,kp _ o (Ne.symm f1) (Ne.symm g1) a2,r1⟩
 show⟨s.heap.objs.size,I1,rfl,B,⟨y,by have:=ag;push_cast;exact this⟩,D.frame _ _ _ ad λb F o z=>(L.2 b λq=>Z (q ▸ F)).trans z,λb F=>?_⟩;rcases aF.mp F with rfl | F;rw[zg (Ne.symm al)];exact f0;rw[ao.mp F,zg (Ne.symm a1)];exact g0
def zmK{i:Int}(F:∃B,IsEnum h e q i B)(hi:∃o,h.get? q=some o/\∀v,o.data≠.cell v):∀b∈[e,q],∃o,h.get? b=some o/\∀v,o.data≠.cell v:=by grind
def zjm{P:Aa}{w:Ab}{K:AH}{elts:AO}{x1}(a J e:Addr)(O:e≠J) :
  Turn P w K (.Tuple elts x1 tpos) (Iel K a) [e,J] e (λi h=>(∃q,IsEnum h e J i q)/\h.IsListIter J a i) where
 mem:=by simp
 obj:=λi h st=>zmK st.1 (by obtain⟨_,o,e,c,d⟩:=st;exact⟨o,e,by grind⟩)
 keep:=λi h h' st k=>by obtain⟨⟨q,L⟩,o,U,r⟩:=st;exact⟨⟨q,k e (by simp) _ L⟩,o,k J (by simp) _ U,r⟩
 item:=by
  intro X Z hw hK hc i pins s σ H E I hf st hg;subst Z hw hK;obtain⟨xs,x,Y,hx⟩:=hg;obtain⟨its,rv,p,hz⟩:=uM I Y;obtain⟨u,hu,ru⟩:=rv.get hx;obtain⟨⟨q,L⟩,B⟩:=st
  have ad:a≠J:=by
   intro z;obtain⟨o,U,ag,_⟩:=p;obtain⟨o',a1,a0,_⟩:=B;grind
  have al:e≠a:=by
   intro z;obtain⟨o,U,ag,_⟩:=p;grind
  show thn (zkb (x:=x) (elts:=elts) (x1:=x1) (tpos:=tpos) I hf O L (Draws.list (A:=X.A.in1) (I.ok.hd hc) J a ad its.toArray) ⟨B,p⟩ (by simpa using (ac.mp hu).1) (by simp[O,al]) λy hy=>?_) ?_;right;rintro r s1 ⟨u2,rfl,h2⟩;show⟨_,rfl,thn h2 ?_⟩;rintro _ s2 ⟨T,h3,rfl,h4,h5,h6,h7⟩;exact⟨.ref T,_,h3,rfl,⟨T,x,rfl,h4,rfl,λys an=>by rw[I.list_inj an Y];exact hx⟩,⟨h5,h6.1⟩,h7⟩
 done:=by
  intro X Z hw hK hc i pins s σ H E I hf st hg;subst Z hw hK;obtain⟨xs,Y,hx⟩:=hg;obtain⟨its,rv,p,hz⟩:=uM I Y;obtain⟨f0,f1,f2,f3,f4,f5⟩:=hf J (by simp);obtain⟨⟨q,L⟩,B⟩:=st;have hl:=rv.length;have hT:s.TypeIs (.ref e) "enumerate" := ⟨_,L,rfl⟩;unfold pyNext
  show aa (cO (wpAny_callSpecial?_slot (name:=Str.ofString "__next__") hT cW
   (aZ cW hT F.entry_enumerate_next ?_ (F.args_enumerate_next_1 _))))
  change wpAny _ _ (field (.ref e) 2 >>= _) _ _ _;show aa (cU L rfl (x:=.ref J) rfl ?_);show aa (wpAny_nextOf_list_end (A:=X.A.in1) (I.ok.hd hc) B p (by simp;lia) λh' x ap as=>?_);obtain⟨o,U,av⟩:=as;show aa (cB (T := "StopIteration") (b:=true) ⟨o,U,av⟩ de ?_);exact ae ⟨rfl,I.turned (t':=s.toks) (λb o hb e=>ap b o hb e) f0 f1 f3 f4 f5⟩
 self:=λA i s Q E st h=>by obtain⟨⟨q,L⟩,B⟩:=st;exact dU L h
def zov (K:AH)(ta:TA):TI:=λσ H R=>ta σ H λvs H1=>∃a,vs=[.ref a]/\(∃xs,SqL K H1 a xs)/\R (Iel K a) H1
def znA{x1}(O:Gl X "enumerate")(U:X.mg "enumerate" = none)(Y:PA X [a] ta)(hs:starEach [a] X.env=[(false,eval a X.env)]:=by rfl) :
  PI X (.Tuple elts x1 tpos) (.Call (.Name "enumerate" p) [a] [] pos) (zov X.K ta):=by
 intro pins s σ H R I h;show Call_ (zcY I O U boot_enumerate (bR (thn (Y pos pins s σ H _ I h) λus B ⟨vs,H1,I1,Z,q1⟩=>?_) hs rfl));obtain⟨b,rfl,⟨xs,hq⟩,q⟩:=q1;obtain⟨u,rfl,ru⟩:=zba Z;cases ru;obtain⟨its,rv,pt,hz⟩:=uM I1 hq;show call_enumerate_list (show B.heap.IsList b its.toArray from pt) λh' L F hsz hk=>?_;have I2:Inv X pins σ H1 { B with heap:=h',toks:=B.toks }:=I1.kept (t':=B.toks) hk;show dU L ?_;show⟨B.heap.objs.size+1,[B.heap.objs.size+1,B.heap.objs.size],_,_,H1,rfl,I2,zjm b B.heap.objs.size (B.heap.objs.size+1) (Nat.succ_ne_self _),⟨⟨_,L⟩,F⟩,λc J=>?_,q⟩;rcases aF.mp J with rfl | J;exact I1.fpOk (cT _) (I1.hok.fresh (cT _));rw[ao.mp J];exact I1.fpOk (ah _) (I1.hok.fresh (ah _))
def znM{x1}(q:Gl X "enumerate")(B:X.mg "enumerate" = none)(F:QA X [a] ta)(hs:starEach [a] X.env=[(false,eval a X.env)]:=by rfl) :
  QI X (.Tuple elts x1 tpos) (.Call (.Name "enumerate" p) [a] [] pos) (zov X.K ta):=⟨znA q B F.run hs⟩
def Izl (K:AH)(a b:Addr):It:=
 ⟨λi H=>∃xs ys x y,SqL K H a xs/\SqL K H b ys/\xs[i]?=some x/\ys[i]?=some y,λi H v H'=>∃T x y,v = .ref T/\H T=none/\H'=upd H T (.tup [x,y])/\(∀xs,SqL K H a xs->xs[i]?=some x)/\∀ys,SqL K H b ys->ys[i]?=some y,λi H=>∃xs ys,SqL K H a xs/\SqL K H b ys/\(xs.length<=i\/ys.length<=i)⟩
def zl9{P:Aa}{w:Ab}{K:AH}{elts:AO}{x1}(z TI TO U Y a b:Addr)(D:ZipApart z TI TO U Y a b) :
  Turn P w K (.Tuple elts x1 tpos) (Izl K a b) [z,TI,TO,U,Y] z (λi h=>IsZip h z TI TO .none/\IsPair h TI (.ref U) (.ref Y)/\(∃c d,IsPair h TO c d)/\h.IsListIter U a i/\h.IsListIter Y b i) where
 mem:=by simp
 obj:=λi h st c L=>by
  obtain⟨hz,Z,⟨u,v,ag⟩,⟨o1,e1,c1,d1⟩,⟨o2,e2,c2,d2⟩⟩:=st;grind
 keep:=λi h h' st k=>by obtain⟨hz,Z,⟨u,v,ag⟩,⟨o1,e1,r1⟩,⟨o2,e2,r2⟩⟩:=st;exact⟨k z (by simp) _ hz,k TI (by simp) _ Z,⟨u,v,k TO (by simp) _ ag⟩,⟨o1,k U (by simp) _ e1,r1⟩,⟨o2,k Y (by simp) _ e2,r2⟩⟩
 item:=by
  intro X hP hw hK L i pins s σ H E I hf st hg;subst hP hw hK;obtain⟨xs,ys,x,y,ap,as,hx,hy⟩:=hg;obtain⟨a5,a1,p1,cl⟩:=uM I ap;obtain⟨a7,a2,p2,cn⟩:=uM I as;obtain⟨u1,bx,b0⟩:=a1.get hx;obtain⟨u2,b1,b2⟩:=a2.get hy;have fz:=hf z (by simp);have B:=hf TO (by simp);have f1:=hf U (by simp);have f2:=hf Y (by simp);obtain⟨hz,Z,⟨c0,d0,ag⟩,av,a0⟩:=st;have hT:s.TypeIs (.ref z) "zip" := ⟨_,hz,rfl⟩;unfold pyNext
  show aa (cO (wpAny_callSpecial?_slot (name:=Str.ofString "__next__") hT eP
   (aZ eP hT F.entry_zip_next (zip_next_item (A:=X.A.in1) D hz Z ag av a0 p1 p2 (x:=u1) (y:=u2) (by simpa using bx) (by simpa using b1) λh' gz b3 b4 b5 gT co hk=>?_) (F.args_zip_next_1 _))))
  show ae ⟨_,rfl,?_⟩;show wpAny_letOwnedTupleGo_zip (s:={ s with heap:=h' }) gz λan ba ad=>?_;have nz:∀b' o',s.heap.get? b'=some o'->s.heap.objs.size≠b':=λb' o' e=>dY (aA e);have bb:s.heap.objs.size≠z:=nz z _ hz;have bd:s.heap.objs.size≠TO:=nz TO _ ag;have ca:s.heap.objs.size≠U:=by obtain⟨o,ho,_⟩:=av;exact nz U _ ho
  have cc:s.heap.objs.size≠Y:=by obtain⟨o,ho,_⟩:=a0;exact nz Y _ ho
  have bk:s.heap.objs.size≠TI:=nz TI _ Z;have J:=I.hok.fresh (ah s.heap.objs.size);have kp:∀c o,c≠z->c≠TO->c≠U->c≠Y->s.heap.get? c=some o->an.get? c=some o:=λc o h1 h2 h3 h4 hb=>(ad.2 c h1).trans (hk c o h1 h2 h3 h4 hb);have bl:an.get? s.heap.objs.size=some { cls:=.type "tuple",data:=.seq #[u1,u2] }:=(ad.2 _ bb).trans gT;have ci:∀b' u',H b'=some u'->b'≠z/\b'≠TO/\b'≠U/\b'≠Y:=λb' u' hb=>⟨zc hb fz.1,zc hb B.1,zc hb f1.1,zc hb f2.1⟩
  have bo:HOk X.prog X.w (upd H s.heap.objs.size (.tup [x,y])) an:=by
   intro b' u' hb;by_cases bs:b'=s.heap.objs.size;subst bs;rw[zh] at hb;cases hb;exact⟨by change 2<=sizeLine;decide,[u1,u2],.cons b0 (.cons b2 .nil),_,bl,rfl,⟨0,rfl⟩,rfl⟩
   ·rw[zg bs] at hb;show (I.hok b' u' hb).stay (λc v O q=>?_) (λc q=>?_) (λc ys q=>?_)
    ·have:c≠z/\c≠TO/\c≠U/\c≠Y:=by
      rcases O with rfl | O
      all_goals right
     right
    rw[zg (zc q J)];exact q;rw[zg (zc q J)];exact q
  have al:∀c o,c∉[z,TO,U,Y]->s.heap.get? c=some o->an.get? c=some o:=λc o L e=>kp c o (λq=>L (by simp[q])) (λq=>L (by simp[q])) (λq=>L (by simp[q])) (λq=>L (by simp[q])) e
  have I1:Inv X pins σ (upd H s.heap.objs.size (.tup [x,y])) { s with heap:=an,toks:=s.toks }:=by
   show Inv.step (ch:=[z,TO,U,Y]) (g':=s.gens) (d':=s.drawn) (t':=s.toks) I (λc L=>?_) (λc o h1 h2 h3 h4 h5=>?_) (λc o h1 h2 h3 h4 h5=>?_) (λc o h3 h4 h5=>?_) (λc o h3 h4=>?_) (λc ys q=>?_) (λc o u' q=>?_) (λc ps q=>?_) (λm hm=>?_) bo I.bare;simp only[aF,cQ,or_false] at L;rcases L with rfl | rfl | rfl | rfl;exact⟨fz.2.2.2.1,fz.2.1,fz.2.2.2.2.1,fz.2.2.2.2.2⟩;exact⟨B.2.2.2.1,B.2.1,B.2.2.2.2.1,B.2.2.2.2.2⟩;exact⟨f1.2.2.2.1,f1.2.1,f1.2.2.2.2.1,f1.2.2.2.2.2⟩;exact⟨f2.2.2.2.1,f2.2.1,f2.2.2.2.2.1,f2.2.2.2.2.2⟩;exact al c o h3 h4;exact⟨o.slots,al c o h3 h4⟩;rw[zg (aL (aA h4))];exact h5;exact⟨o,al c o h3 h4⟩;rw[zg (zc q J)];exact q;rw[zg (zc q J)];exact q;exact⟨#[],by rw[zg (zc q J),dJ];exact q⟩;obtain⟨o,es,ep,a3,r1⟩:=hm;exact⟨o,es,ep,kp _ o (Ne.symm fz.2.1) (Ne.symm B.2.1) (Ne.symm f1.2.1) (Ne.symm f2.2.1) a3,r1⟩
  show⟨.ref s.heap.objs.size,_,I1,rfl,⟨s.heap.objs.size,x,y,rfl,J,rfl,λzs a4=>by rw[I.list_inj a4 ap];exact hx,λzs a4=>by rw[I.list_inj a4 as];exact hy⟩,⟨ba,?_,⟨_,_,(ad.2 TO D.TOz).trans b3⟩,?_,?_⟩,λc L=>?_⟩;exact kp TI _ D.TIz D.TITO D.TIi1 D.TIi2 Z;obtain⟨o,ho,r⟩:=b4;exact⟨o,(ad.2 U D.i1z).trans ho,r⟩;obtain⟨o,ho,r⟩:=b5;exact⟨o,(ad.2 Y D.i2z).trans ho,r⟩;simp only[aF,cQ,or_false] at L;rcases L with rfl | rfl | rfl | rfl | rfl;rw[zg (Ne.symm bb)];exact fz.1;rw[zg (Ne.symm bk)];exact (hf _ (by simp)).1;rw[zg (Ne.symm bd)];exact B.1;rw[zg (Ne.symm ca)];exact f1.1;rw[zg (Ne.symm cc)];exact f2.1
 done:=by
  intro X hP hw hK L i pins s σ H E I hf st hg;subst hP hw hK;obtain⟨xs,ys,ap,as,hx⟩:=hg;obtain⟨a5,a1,p1,cp⟩:=uM I ap;obtain⟨a7,a2,p2,ck⟩:=uM I as;have fz:=hf z (by simp);have B:=hf TO (by simp);have f1:=hf U (by simp);have f2:=hf Y (by simp);obtain⟨hz,Z,⟨c0,d0,ag⟩,av,a0⟩:=st;have cs:=a1.length;have c3:=a2.length;have hT:s.TypeIs (.ref z) "zip" := ⟨_,hz,rfl⟩;unfold pyNext
  show aa (cO (wpAny_callSpecial?_slot (name:=Str.ofString "__next__") hT eP
   (aZ eP hT F.entry_zip_next (zip_next_end (A:=X.A.in1) (I.ok.hd L) D hz Z ag av a0 p1 p2 (hx.elim (λz=>.inl (by simp;lia)) λz=>.inr (by simp;lia)) λh' e ko he=>?_) (F.args_zip_next_1 _))))
  obtain⟨o,ho,cd⟩:=he;show aa (cB (T := "StopIteration") (b:=true) ⟨o,ho,cd⟩ de ?_);show ae ⟨rfl,?_⟩;have al:∀c o,c∉[z,TO,U,Y]->s.heap.get? c=some o->h'.get? c=some o:=λc o L e=>ko c o (λq=>L (by simp[q])) (λq=>L (by simp[q])) (λq=>L (by simp[q])) (λq=>L (by simp[q])) e;show Inv.step (ch:=[z,TO,U,Y]) (g':=s.gens) (d':=s.drawn) (t':=s.toks) I (λc L=>?_) (λc o h1 h2 h3 h4 h5=>al c o h3 h4) (λc o h1 h2 h3 h4 h5=>⟨o.slots,al c o h3 h4⟩) (λc o h3 h4 h5=>h5) (λc o h3 h4=>⟨o,al c o h3 h4⟩) (λc ys q=>q) (λc o u' q=>q) (λc ps q=>⟨#[],by right⟩) (λm hm=>?_) (λb' u' hb=>?_) I.bare;simp only[aF,cQ,or_false] at L;rcases L with rfl | rfl | rfl | rfl;exact⟨fz.2.2.2.1,fz.2.1,fz.2.2.2.2.1,fz.2.2.2.2.2⟩;exact⟨B.2.2.2.1,B.2.1,B.2.2.2.2.1,B.2.2.2.2.2⟩;exact⟨f1.2.2.2.1,f1.2.1,f1.2.2.2.2.1,f1.2.2.2.2.2⟩;exact⟨f2.2.2.2.1,f2.2.1,f2.2.2.2.2.1,f2.2.2.2.2.2⟩;obtain⟨o,es,ep,a3,r1⟩:=hm;exact⟨o,es,ep,ko _ o (Ne.symm fz.2.1) (Ne.symm B.2.1) (Ne.symm f1.2.1) (Ne.symm f2.2.1) a3,r1⟩;show (I.hok b' u' hb).stay (λc v O q=>?_) (λc q=>q) (λc ys q=>q)
  have:c≠z/\c≠TO/\c≠U/\c≠Y:=by
   rcases O with rfl | O;exact⟨zc hb fz.1,zc hb B.1,zc hb f1.1,zc hb f2.1⟩;exact⟨zc O fz.1,zc O B.1,zc O f1.1,zc O f2.1⟩
  exact ko c v this.1 this.2.1 this.2.2.1 this.2.2.2 q
 self:=λA i s Q E st h=>by obtain⟨hz,_⟩:=st;exact wpAny_pyIter_zip hz h
def zsN (K:AH)(ta:TA):TI:=λσ H R=>ta σ H λvs H1=>∃a b,vs=[.ref a,.ref b]/\(∃xs,SqL K H1 a xs)/\(∃ys,SqL K H1 b ys)/\R (Izl K a b) H1
def zqW {X:Cx}{elts:AO}{x1}{tpos:Pos}{a b:Expr}{ta:TA}{p pos:Pos}(hg:Gl X "zip")(hm:X.mg "zip" = none)(ha:PA X [a,b] ta)(hs:starEach [a,b] X.env=[(false,eval a X.env),(false,eval b X.env)]:=by rfl)(F:starEach [b] X.env=[(false,eval b X.env)]:=by rfl) :
  PI X (.Tuple elts x1 tpos) (.Call (.Name "zip" p) [a,b] [] pos) (zsN X.K ta):=by
 intro pins s σ H R I h;show Call_ (zcY I hg hm boot_zip (bR (thn (ha pos pins s σ H _ I h) λus B ⟨vs,H1,I1,r1,q1⟩=>?_) (by rw[hs,F]) (by rw[F];rfl)));obtain⟨c,d,e,⟨xs,O⟩,⟨ys,U⟩,q⟩:=q1;subst e
 cases r1 with
 | cons r Y=>
  cases Y with
  | cons r' Y=>
   cases Y;cases r;cases r';obtain⟨J,as,p1,av⟩:=uM I1 O;obtain⟨L,a0,p2,a1⟩:=uM I1 U;have Z:c<B.heap.objs.size:=by obtain⟨o,ho,_⟩:=id p1;exact aA ho
   have ad:d<B.heap.objs.size:=by obtain⟨o,ho,_⟩:=id p2;exact aA ho
   show call_zip_2 (show B.heap.IsList c J.toArray from p1) (show B.heap.IsList d L.toArray from p2) λh' gz ag al an ap hsz hk=>?_;have I2:Inv X pins σ H1 { B with heap:=h',toks:=B.toks }:=I1.kept (t':=B.toks) hk;show wpAny_pyIter_zip gz ?_;show⟨B.heap.objs.size+4,[B.heap.objs.size+4,B.heap.objs.size+2,B.heap.objs.size+3,B.heap.objs.size,B.heap.objs.size+1],_,_,H1,rfl,I2,zl9 _ _ _ _ _ c d (zipApart_new Z ad),⟨gz,ag,⟨_,_,al⟩,an,ap⟩,λe he=>?_,q⟩;simp only[aF,cQ,or_false] at he;rcases he with rfl | rfl | rfl | rfl | rfl;exact I1.fpOk (by lia) (I1.hok.fresh (by lia));exact I1.fpOk (by lia) (I1.hok.fresh (by lia));exact I1.fpOk (by lia) (I1.hok.fresh (by lia));exact I1.fpOk (ah _) (I1.hok.fresh (ah _));exact I1.fpOk (by lia) (I1.hok.fresh (by lia))
def zrh {X:Cx}{elts:AO}{x1}{tpos:Pos}{a b:Expr}{ta:TA}{p pos:Pos}(B:Gl X "zip")(F:X.mg "zip" = none)(I:QA X [a,b] ta)(hs:starEach [a,b] X.env=[(false,eval a X.env),(false,eval b X.env)]:=by rfl)(q:starEach [b] X.env=[(false,eval b X.env)]:=by rfl) :
  QI X (.Tuple elts x1 tpos) (.Call (.Name "zip" p) [a,b] [] pos) (zsN X.K ta):=⟨zqW B F I.run hs q⟩
abbrev nmS (b:Bool):String:=match b with | true => "tuple" | false => "list"
abbrev nmI (b:Bool):String:=match b with | true => "tuple_iterator" | false => "list_iterator"
abbrev SqV (b:Bool) (K:AH) (H:Hp) (a:Addr) (xs:AT):Prop:=match b with | true=>SqT K H a xs | false=>SqL K H a xs
section
variable {prog:Aa}{w:Ab}{A:Ae}{E:AA}{s:AZ}
variable {X:Cx}
def zrn:V->AT->Hp->VK->Prop:=λx vs H Q=>∃l xs k y,x = .ref l/\vs=[.int k,y]/\H l=some (.lst xs)/\0<=k/\k<=xs.length/\xs.length<sizeLine/\Q .non (upd H l (.lst (xs.take k.toNat++y::xs.drop k.toNat)))
def zlc:MtM X "list.insert" zrn:=by
 intro pins s σ H x vs v us Q I J L h;obtain⟨l,xs,k,y,rfl,rfl,B,h0,h1,O,q⟩:=h;cases J
 cases L with
 | cons U Y=>
  cases Y with
  | cons Z rn=>
   cases rn;obtain⟨t,rfl⟩:=U;obtain⟨z,its,n,r,hl,e⟩:=I.lstM B
   have hk:k<2 ^ 63:=by
    have:(xs.length:Int)<=2 ^ 40:=by have h2:xs.length<=2 ^ 40:=af (bW O) (by ext);lia
    lia
   show eB PySem.F.slot_list_insert ⟨_,e,rfl⟩ PySem.F.entry_list_insert (PySem.F.args_list_insert_3 _ _ _)
    (AutoSeq1.list_insert_list_int_val_1 l its.toArray n k t _ (by rw[fitsIndex_both (by lia) hk];decide) (by grind)) ⟨e,?_⟩
   show⟨.non,_,I.lset (its':=its.take k.toNat++_::its.drop k.toNat) B e ?_ ((r.take _).append (.cons Z (r.drop _))) ?_,rfl,q⟩;change (its.toArray.extract 0 (if k<0 then (k+(its.toArray.size:Int)).toNat else min k.toNat its.toArray.size)).push _++its.toArray.extract (if k<0 then (k+(its.toArray.size:Int)).toNat else min k.toNat its.toArray.size)=_;rw[if_neg (by lia),aY,Nat.min_eq_left (by lia)];apply Array.toList_inj.mp;simp;rw[bX (by simp)];grind
def zgm{T:String}{name:Str}{id:String}{r:V->AT->Hp->VK->Prop}{es:AO}{to:TE}{t:TA}{apos cpos:Pos}(O:PlainAttrs T)(I:Slot T name id)(L:typeOf (.builtin id)=pure (.type "method_descriptor"))(U:MtR X id r)(Y:QE X o to)(Z:QA X (e::es) t)(B:attributeBase o name X.env (eval o X.env)=eval o X.env:=by rfl)(J:((backTo cpos (starEach (e::es) X.env)).all (λx=>!x.1)&&(backToKw cpos (keywordEach [] X.env)).all (λx=>x.1.isSome)
   && decide ((e::es).length+([]:List Keyword).length+(if ([]:List Keyword).isEmpty then 0 else 1)<30))=true:=by rfl)(F:(apos.endLine==cpos.line)=true:=by rfl)(hs:starEach (e::es) X.env=(false,eval e X.env)::starEach es X.env:=by rfl)(q:(backTo cpos (starEach es X.env)).any (·.1)=false:=by rfl) :
  QE X (.Call (.Attribute o name apos) (e::es) [] cpos) (tBM X.K T r to t):=⟨ztA O I L U Y.run Z.run B J F hs q⟩
def zlH:AT->Hp->VK->Prop:=λxs H Q=>∃ (l:Addr) (ns:AG),xs=[.ref l]/\H l=some (.lst (ns.map V.int))/\ns.length<64/\∀q:AG,q.Perm ns->q.Pairwise (·<=·)->New H (.lst (q.map V.int)) Q
def zh5:∀ {ns:AG} {its:AN},zY (ns.map V.int) its->IntsAre its ns
 | [],_,h=>by cases h;exact .nil
 | n::ns,_,h=>by
  cases h with
  | cons q B=>
   obtain⟨t,rfl⟩:=q;exact .cons _ _ (zh5 B)
def zmu{ns:AG}(h:IntsAre its ns):zY (ns.map V.int) its:=by
 induction h with
 | nil=>exact .nil
 | cons _ _ _ q=>exact .cons ⟨_,rfl⟩ q
def zmC:CallQ X (.builtin "sorted") zlH:=⟨by
 intro pins s σ H xs us Q I r h;obtain⟨l,ns,rfl,hl,Z,q⟩:=h;obtain⟨u,rfl,ru⟩:=zba r;cases ru;obtain⟨its,rv,pl,hz⟩:=I.list (.of hl);obtain⟨m0,B,_⟩:=id I.loc;show PySem.W.kso_sorted (h₀:=(⟨#[],{}⟩:Heap)) (L:=X.env.locals) (m:=m0) (news:=zbF s.heap X.env.locals) ⟨B,λb o e=>?_,aK _⟩ (λp hp=>?_) pl.isList (zh5 rv) Z λD ap J c h' F N O hi an hp hs _=>?_;have:=aA e;simp at this;obtain⟨b,o⟩:=p;have:=z4.mp hp;show⟨this.2,this.1,?_⟩
 cases e:(⟨#[],{}⟩:Heap).get? b with
 | none=>rfl
 | some o'=>
  have:=aA e;simp at this
 have ad:∀b o,b≠X.env.locals->s.heap.get? b=some o->h'.get? b=some o:=λb o hb e=>(N (b,o) (aw _ (z4.mpr ⟨hb,e⟩))).1;have ag:D≠X.env.locals:=(N (D,_) am).2.1
 have al:s.heap.get? D=none:=by
  cases e:s.heap.get? D with
  | none=>rfl
  | some o=>exact absurd (O (D,o) (z4.mpr ⟨ag,e⟩)) (cC _)
 have U:H D=none:=by
  cases e:H D with
  | none=>rfl
  | some o=>
   obtain⟨o',as⟩:=zbv (I.hok D o e);grind
 have Y:=(N (D,_) am).1;have I':=zeA I B (ys:=J.map V.int) ad F.ns al U Y (zmu hi) (by grind) s.toks;exact⟨.ref D,_,I',rfl,(q J hp hs).at U⟩⟩
end
end L2
namespace L3
open L2
abbrev zvy:=Addr×Addr×List Int
abbrev imm:HO->Bool
 | .lst _=>false
 | .dK _=>false
 | .dT _=>false
 | .ext _=>false
 | _=>true
def Mt (o:HO):Prop:=imm o=false
def Mt.tup(h:Mt o):∀xs,o≠.tup xs:=λ_ e=>by subst e;cases h
def NP (o:HO):Prop:=∀kvs,pnK o=some kvs->um kvs (Sum.inr "at" : Key)=none
def NP.lst:NP (.lst xs):=λ_ e=>by cases e
structure Jv where
 K:(AL)->Hp->Prop
 same:∀ {A:AL} {H H':Hp},K A H->yJ H H'->K A H'
 grow:∀ {A A':AL} {H:Hp},K A' H->(∀a,A a->A' a\/∃o,H a=some o/\NP o/\Mt o)->K A H
 upd:∀ {A:AL} {H:Hp} {p:Addr} {o:HO},K A H->A p->K A (L2.upd H p o)
 frz:∀ {A:AL} {H:Hp} {p:Addr} {o o':HO},K A H->H p=some o->NP o->Mt o->K A (L2.upd H p o')
structure PN where
 pn:Option zvy
 J:Jv
def J0:Jv:=⟨λ_ _=>True,λ_ _=>trivial,λ_ _=>trivial,λ_ _=>trivial,λ_ _ _ _=>trivial⟩
inductive W where
 | d (x:Dt) | pen (p:Addr) | dk (kvs:List (Key×Dt)) | dt (kvs:List (AG×Dt)) | ss (P:Aa) (w:Ab) (ks:AF) | df (kvs:List (AG×Dt)) | kf (kvs:List (Key×Dt)) | fl (l:AS)
abbrev AV:=W->Nat->Prop
abbrev AU:=List W
abbrev Mo (α:Type):=Nat->(α->Nat->Prop)->Prop
abbrev Ev:=List (Option W)
abbrev AD:=Ev->Mo W
abbrev AC:=Ev->Mo AU
open Classical in
noncomputable def yb (A:AL)(H:Hp):Hp:=λb=>if A b then none else H b
section
variable {A A0:AL}{H H' G G' T T':Hp}{a b:Addr}{o:HO}
def z7:yb A H b=some o↔¬ A b/\H b=some o:=by
 unfold yb;grind
def zE (h:¬ A b)(e:H b=some o):yb A H b=some o:=z7.mpr ⟨h,e⟩
def zt:yJ (yb A H) H:=λb o e=>(z7.mp e).2
def yg (s:zB H H'):zB (yb A H) (yb A H'):=λb o e n=>zE (z7.mp e).1 (s b o (z7.mp e).2 n)
def zam (s:yJ H H'):yJ (yb A H) (yb A H'):=λb o e=>zE (z7.mp e).1 (s b o (z7.mp e).2)
def xB (h:∀b,A0 b->A b):yJ (yb A H) (yb A0 H):=λb o e=>zE (λz=>(z7.mp e).1 (h b z)) (z7.mp e).2
def yz (h:A a):yb A (upd H a o)=yb A H:=by
 funext b;unfold yb;by_cases q:A b;simp[q];have:b≠a:=λe=>q (e ▸ h);simp[q,zg this]
end
def DAt (T G:Hp):Dt->V->Prop
 | .lst l,v=>∃a xs,v = .ref a/\T a=some (.lst xs)/\IsL G l xs
 | .dct,v=>∃a kvs,v = .ref a/\T a=some (.dK kvs)/\um kvs (Sum.inr "at" : Key)=none
 | .non,v=>Is G .non v
 | .bl b,v=>Is G (.bl b) v
 | .int i,v=>Is G (.int i) v
 | .str x,v=>Is G (.str x) v
 | .tup l,v=>Is G (.tup l) v
def DAt.is(h:DAt G G x v):Is G x v:=by cases x <;> exact h
def DAt.of(h:Is G x v):DAt G G x v:=by cases x <;> exact h
def DAt.up(t:zB T T')(g:zB G G')(h:DAt T G x v):DAt T' G' x v:=by
 cases x with
 | lst l=>obtain⟨a,xs,e,h1,h2⟩:=h;exact⟨a,xs,e,t.lst h1,h2.stay g⟩
 | dct=>obtain⟨a,kvs,e,h1,h2⟩:=h;exact⟨a,kvs,e,t _ _ h1 λk q=>by cases q;exact h2,h2⟩
 | _=>exact Is.stay g h
def DAt.full(t:yJ T H)(g:yJ G H)(h:DAt T G x v):Is H x v:=(DAt.up (zB.same t) (zB.same g) h).is
def zab {κ:Type}(G:Hp):List (κ×Dt)->List (κ×V)->Prop
 | [],ks=>ks=[]
 | q::r,ks=>∃v s,ks=(q.1,v)::s/\Is G q.2 v/\zab G r s
def zab.stay {κ:Type}{G G':Hp}(s:zB G G'):∀ {kvs:List (κ×Dt)} {ks:List (κ×V)},zab G kvs ks->zab G' kvs ks
 | [],_,h=>h
 | q::r,ks,⟨v,t,e,h1,h2⟩=>⟨v,t,e,h1.stay s,zab.stay s h2⟩
def SIs (G:Hp)(ks:AF)(xs:AE):Prop:=ks=xs.map (·.1)/\(∀q∈xs,G q.2=some (.tup (q.1.map V.int)))/\ks.Nodup
def SIs.stay{ks:AF}{xs:AE}(h:SIs G ks xs)(s:zB G G'):SIs G' ks xs:=⟨h.1,λq B=>s _ _ (h.2.1 q B) (λ_ e=>by cases e),h.2.2⟩
def WAt (T G:Hp):W->V->Prop
 | .d x,v=>DAt T G x v
 | .pen p,v=>v = .ref p
 | .dk kvs,v=>∃a ks,v = .ref a/\T a=some (.dK ks)/\zab G kvs ks/\um ks (Sum.inr "at" : Key)=none
 | .dt kvs,v=>∃a ks,v = .ref a/\T a=some (dtO ks)/\zab G kvs ks
 | .ss P w ks,v=>∃a xs,v = .ref a/\T a=some (zhG P w a (yT xs))/\SIs G ks xs
 | .df kvs,v=>∃a ob ks,v = .ref a/\T a=some (.frz ob (dtO ks))/\zab G kvs ks
 | .kf kvs,v=>∃a ob ks,v = .ref a/\T a=some (.frz ob (.dK ks))/\zab G kvs ks
 | .fl l,v=>∃a ob xs,v = .ref a/\T a=some (.frz ob (.lst xs))/\IsL G l xs
def WAt.up(t:zB T T')(g:zB G G')(h:WAt T G w v):WAt T' G' w v:=by
 cases w with
 | d x=>exact DAt.up t g h
 | pen p=>exact h
 | dk kvs=>
  obtain⟨a,ks,e,h1,h2,B⟩:=h;exact⟨a,ks,e,t _ _ h1 λk q=>by cases q;exact B,h2.stay g,B⟩
 | dt kvs=>
  obtain⟨a,ks,e,h1,h2⟩:=h;exact⟨a,ks,e,t _ _ h1 (λk q=>by cases q),h2.stay g⟩
 | ss P w kvs=>
  obtain⟨a,ks,e,h1,h2⟩:=h;exact⟨a,ks,e,t _ _ h1 zih,h2.stay g⟩
 | df kvs=>
  obtain⟨a,ob,ks,e,h1,h2⟩:=h;exact⟨a,ob,ks,e,t _ _ h1 (λk q=>by cases q),h2.stay g⟩
 | kf kvs=>
  obtain⟨a,ob,ks,e,h1,h2⟩:=h;exact⟨a,ob,ks,e,t _ _ h1 (λk q=>by cases q),h2.stay g⟩
 | fl kvs=>
  obtain⟨a,ob,ks,e,h1,h2⟩:=h;exact⟨a,ob,ks,e,t _ _ h1 (λk q=>by cases q),h2.stay g⟩
abbrev W.mut:W->Bool
 | .d (.lst _)=>true
 | .d .dct=>true
 | .dk _=>true
 | .dt _=>true
 | .ss _ _ _=>true
 | _=>false
abbrev Val (A:AL)(H:Hp)(w:W)(v:V):Prop:=WAt (yb A H) (yb A H) w v
abbrev Bor (A:AL)(H:Hp)(w:W)(v:V):Prop:=WAt H (yb A H) w v
def Val.bor(h:Val A H w v):Bor A H w v:=WAt.up (zB.same zt) (zB.refl _) h
def Val.stay(h:Val A H w v)(s:zB H H'):Val A H' w v:=WAt.up (yg s) (yg s) h
def Bor.stay(h:Bor A H w v)(s:zB H H'):Bor A H' w v:=WAt.up s (yg s) h
def Bor.is(h:Bor A H (.d x) v):Is H x v:=DAt.full (zgq _) zt h
def Val.is(h:Val A H (.d x) v):Is (yb A H) x v:=DAt.is h
def Val.of(h:Is (yb A H) x v):Val A H (.d x) v:=DAt.of h
mutual
def zsS {A:AL}{H:Hp}(hA:∀a xs,A a->H a≠some (.tup xs)):∀ {x:Dt} {v:V},x.noL=true->Is H x v->Is (yb A H) x v
 | .non,_,_,h=>h
 | .bl _,_,_,h=>h
 | .int _,_,_,h=>h
 | .str _,_,_,h=>h
 | .tup l,_,n,h=>by obtain⟨p,xs,e,hp,hl⟩:=h;exact⟨p,xs,e,zE (λz=>hA p xs z hp) hp,zbV hA (by simpa [Dt.noL] using n) hl⟩
 | .lst l,_,n,_=>by simp[Dt.noL] at n
 | .dct,_,n,_=>by simp[Dt.noL] at n
def zbV {A:AL}{H:Hp}(hA:∀a xs,A a->H a≠some (.tup xs)):∀ {ds:AS} {xs:AT},Dt.noLs ds=true->IsL H ds xs->IsL (yb A H) ds xs
 | [],_,_,h=>h
 | d::ds,xs,n,h=>by
  obtain⟨x,r,e,h1,h2⟩:=h;have n':(d.noL&&Dt.noLs ds)=true:=by simpa [Dt.noLs] using n
  rw[bm] at n';exact⟨x,r,e,zsS hA n'.1 h1,zbV hA n'.2 h2⟩
end
def uB (Pn:PN)(A:AL)(n:Nat)(H:Hp):Prop:=
 (match Pn.pn with
 | none=>True
 | some (p,c,ns)=>Pen H p c ns n/\¬ A c/\¬ A p)/\Pn.J.K A H
def Own (A:AL)(H:Hp)(w:W)(v:V):Prop:=∃a,v = .ref a/\A a/\Bor A H w v/\w.mut=true
def Al (A:AL)(H:Hp):Prop:=∀a,A a->∃o,H a=some o/\NP o/\Mt o
structure EnvR (A:AL)(M:AR)(σ:St)(H:Hp)(ρ:Ev):Prop where
 len:σ.length=ρ.length
 val:∀i w,ρ[i]?=some (some w)->∃v,σ[i]?=some (some v)/\(i∉M->Val A H w v)/\(i∈M->Own A H w v)
 dis:∀i j w u a,i∈M->j∈M->i≠j->ρ[i]?=some (some w)->ρ[j]?=some (some u)->σ[i]?=some (some (.ref a))->σ[j]?≠some (some (.ref a))
 al:Al A H
def EnvR.stay(E:EnvR A M σ H ρ)(s:zB H H'):EnvR A M σ H' ρ where
 len:=E.len
 val:=λi w e=>by obtain⟨v,h1,h2,q⟩:=E.val i w e;show⟨v,h1,λz=>(h2 z).stay s,λz=>?_⟩;obtain⟨a,e,B,F,I⟩:=q z;exact⟨a,e,B,F.stay s,I⟩
 dis:=E.dis
 al:=λa h=>by obtain⟨o,h1,h2,q⟩:=E.al a h;exact⟨o,s _ _ h1 h2,h2,q⟩
def EnvR.alT(E:EnvR A M σ H ρ):∀a xs,A a->H a≠some (.tup xs):=λa xs h e=>by
 obtain⟨o,h1,_,q⟩:=E.al a h;have:=q.tup;grind
def EnvR.new(E:EnvR A M σ H ρ)(h:H p=none):¬ A p:=λz=>by
 obtain⟨o,h1,_⟩:=E.al p z;grind
def Fr (H:Hp)(a:Addr):Prop:=∀o,H a=some o->¬ NP o
def Fr.of(h:H a=none):Fr H a:=λo e=>by rw[h] at e;cases e
def Fr.back(h:Fr H1 a)(s:zB H H1):Fr H a:=λo e n=>h o (s _ _ e n) n
def FrV (A:AL)(H H':Hp)(w:W)(v:V):Prop:=∃a,v = .ref a/\Fr H a/\WAt H' (yb (λb=>A b\/b=a) H') w v
def FrV.back(h:FrV A H1 H' w v)(s:zB H H1):FrV A H H' w v:=let ⟨a,e,f,g⟩:=h;⟨a,e,f.back s,g⟩
def FrV.less(h:FrV A H H' w v)(s:∀a,A0 a->A a):FrV A0 H H' w v:=let ⟨a,e,f,g⟩:=h;⟨a,e,f,WAt.up (zB.refl _) (zB.same (xB λb z=>z.elim (λz=>.inl (s b z)) .inr)) g⟩
def EnvR.newF(E:EnvR A M σ H ρ)(h:Fr H p):¬ A p:=λz=>by obtain⟨o,h1,h2,_⟩:=E.al p z;exact h o h1 h2
def xl(s:zB H H')(n:Fr H p):zB (yb A H) (yb (λb=>A b\/b=p) H'):=λb o e q=>by obtain⟨h1,h2⟩:=z7.mp e;exact zE (λz=>z.elim h1 λz=>by subst z;exact n o h2 q) (s b o h2 q)
structure Go (Pn:PN)(A:AL)(H:Hp)(n:Nat)(H':Hp):Prop where
 st:zB H H'
 pn:uB Pn A n H'
def Go.trans(a:Go Pn A H n H1)(b:Go Pn A H1 m H2):Go Pn A H m H2:=⟨a.st.trans b.st,b.pn⟩
structure RE (Pn:PN)(M:AR)(fr:Bool)(te:TE)(f:AD):Prop where
 run:∀A σ H ρ n Q R,EnvR A M σ H ρ->uB Pn A n H->f ρ n R->(∀w m v H',R w m->Val A H' w v->Go Pn A H m H'->(fr=true->FrV A H H' w v)->Q v H')->te σ H Q
structure RB (Pn:PN)(M:AR)(te:TE)(f:AD):Prop where
 run:∀A σ H ρ n Q R,EnvR A M σ H ρ->uB Pn A n H->f ρ n R->(∀w m v H',R w m->Bor A H' w v->Go Pn A H m H'->Q v H')->te σ H Q
structure RT (Pn:PN)(M:AR)(te:TT)(f:Ev->Mo Bool):Prop where
 run:∀A σ H ρ n Q R,EnvR A M σ H ρ->uB Pn A n H->f ρ n R->(∀b m H',R b m->Go Pn A H m H'->Q b H')->te σ H Q
def zr1 (A:AL)(H:Hp):AU->AT->Prop
 | [],vs=>vs=[]
 | w::q,vs=>∃v r,vs=v::r/\Bor A H w v/\zr1 A H q r
def zaY (A:AL)(H:Hp):AU->AT->Prop
 | [],vs=>vs=[]
 | w::q,vs=>∃v r,vs=v::r/\Val A H w v/\zaY A H q r
def zaY.bor:∀ {q:AU} {vs:AT},zaY A H q vs->zr1 A H q vs
 | [],_,h=>h
 | _::_,_,⟨v,r,e,h1,h2⟩=>⟨v,r,e,h1.bor,zaY.bor h2⟩
structure RA (Pn:PN)(M:AR)(ta:TA)(f:AC):Prop where
 run:∀A σ H ρ n Q R,EnvR A M σ H ρ->uB Pn A n H->f ρ n R->(∀ws m vs H',R ws m->zaY A H' ws vs->Go Pn A H m H'->Q vs H')->ta σ H Q
structure RAB (Pn:PN)(M:AR)(ta:TA)(f:AC):Prop where
 run:∀A σ H ρ n Q R,EnvR A M σ H ρ->uB Pn A n H->f ρ n R->(∀ws m vs H',R ws m->zr1 A H' ws vs->Go Pn A H m H'->Q vs H')->ta σ H Q
structure Kt where
 nx:Ev->Nat->Prop
 rt:AV
 bk:Ev->Nat->Prop:=λ_ _=>False
 ct:Ev->Nat->Prop:=λ_ _=>False
abbrev Ms:=Ev->Nat->Kt->Prop
def StX (q:AL)(H0 H:Hp):Prop:=∀b o,H0 b=some o->NP o->¬ q b->H b=some o
def StX.of(s:zB H0 H):StX q H0 H:=λb o e n _=>s b o e n
def StX.stay(s:StX (λ_=>False) H0 H):zB H0 H:=λb o e n=>s b o e n λz=>z
structure Frm (A0:AL)(H0:Hp)(ca:AL)(A:AL)(H:Hp):Prop where
 sub:∀a,A0 a->A a
 new:∀a,A a->A0 a\/Fr H0 a\/ca a
 st:StX ca H0 H
 al:Al A0 H0
 cn:∀a,ca a->¬ A0 a
 cs:∀a,ca a->∃o,H a=some o/\NP o
def Frm.back(f:Frm A0 H0 B A H)(h:Fr H a)(n:¬ A a):Fr H0 a:=λo e q=>h o (f.st a o e q λz=>let ⟨o2,e2,n2⟩:=f.cs a z;h o2 e2 n2) q
structure Bs where
 ca:AL:=λ_=>False
 A0:AL
 H0:Hp
 G0:Hp
 σ0:St
structure At3 (Pn:PN)(B:Bs)(S M:AR)(A:AL)(σ:St)(H:Hp)(ρ:Ev)(n:Nat):Prop where
 env:EnvR A M σ H ρ
 frm:Frm B.A0 B.H0 B.ca A H
 pn:uB Pn A n H
 prot:zB B.G0 (yb A H)
 fix:∀i∈S,σ[i]?=B.σ0[i]?
 mine:∀i w a,i∈M->ρ[i]?=some (some w)->σ[i]?=some (some (.ref a))->Fr B.H0 a\/B.ca a
structure KOk (Pn:PN)(B:Bs)(S M:AR)(fr:Bool)(k:Kt)(D:Ends):Prop where
 nx:∀A σ H ρ n,At3 Pn B S M A σ H ρ n->k.nx ρ n->D.nx σ H
 bk:∀A σ H ρ n,At3 Pn B S M A σ H ρ n->k.bk ρ n->D.bk σ H
 ct:∀A σ H ρ n,At3 Pn B S M A σ H ρ n->k.ct ρ n->D.ct σ H
 fc:∀a,¬ B.ca a
 rt:∀w n v H,Val B.A0 H w v->StX B.ca B.H0 H->uB Pn B.A0 n H->(fr=true->FrV B.A0 B.H0 H w v)->k.rt w n->D.rt v H
structure RS (Pn:PN)(S M:AR)(fr:Bool)(ts:TS)(fs:Ms):Prop where
 run:∀B A σ H ρ n k D,At3 Pn B S M A σ H ρ n->KOk Pn B S M fr k D->fs ρ n k->ts D σ H
structure RG (S M:AR)(g:TG)(mg:W->Ev->(Ev->Prop)->Prop):Prop where
 run:∀A σ H ρ v w Q R,EnvR A M σ H ρ->Val A H w v->mg w ρ R->(∀ σ' ρ',R ρ'->EnvR A M σ' H ρ'->(∀i∈S,σ'[i]?=σ[i]?/\ρ'[i]?=ρ[i]?)->Q σ' H)->g v σ H Q
structure RGs (S M:AR)(g:TGs)(mg:AS->Ev->(Ev->Prop)->Prop):Prop where
 run:∀A σ H ρ vs ds Q R,EnvR A M σ H ρ->IsL (yb A H) ds vs->mg ds ρ R->(∀ σ' ρ',R ρ'->EnvR A M σ' H ρ'->(∀i∈S,σ'[i]?=σ[i]?/\ρ'[i]?=ρ[i]?)->Q σ' H)->g vs σ H Q
structure ItV (ow:Bool)(A:AL)(H:Hp)(J:It)(l:AU):Prop where
 one:∀i w A2 H2,l[i]?=some w->zB (yb A H) (yb A2 H2)->(ow=true->zB H H2)->(∀p,H2 p=none->¬ A2 p)->J.go i H2/\∀x H3,J.yld i H2 x H3->yJ H2 H3/\Val A2 H3 w x
 stop:∀A2 H2,zB (yb A H) (yb A2 H2)->(ow=true->zB H H2)->J.stop l.length H2
structure RI (Pn:PN)(M:AR)(ow:Bool)(wi:TI)(f:AC):Prop where
 run:∀A σ H ρ n Q R,EnvR A M σ H ρ->uB Pn A n H->f ρ n R->(∀l m J H',R l m->ItV ow A H' J l->Go Pn A H m H'->Q J H')->wi σ H Q
def RE.rb(h:RE Pn M fr te f):RB Pn M te f:=
 ⟨λA σ H ρ n Q R E P q k=>h.run A σ H ρ n Q R E P q λw m v H' r a g _=>k w m v H' r a.bor g⟩
def RA.rab(h:RA Pn M te f):RAB Pn M te f:=
 ⟨λA σ H ρ n Q R E P q k=>h.run A σ H ρ n Q R E P q λw m v H' r a g=>k w m v H' r a.bor g⟩
def uB.same(h:uB Pn A n H)(s:yJ H H'):uB Pn A n H':=by
 show⟨?_,Pn.J.same h.2 s⟩;have h:=h.1;split at h;trivial;exact⟨h.1.same s,h.2⟩
def Go.same(h:uB Pn A n H)(s:yJ H H'):Go Pn A H n H':=⟨zB.same s,h.same s⟩
def Go.refl(h:uB Pn A n H):Go Pn A H n H:=⟨zB.refl _,h⟩
structure JE (X:Cx)(Pn:PN)(M:AR)(fr:Bool)(e:Expr)(f:AD):Prop where
 ex:∃te,QE X e te/\RE Pn M fr te f
structure JB (X:Cx)(Pn:PN)(M:AR)(e:Expr)(f:AD):Prop where
 ex:∃te,QE X e te/\RB Pn M te f
structure JT (X:Cx)(Pn:PN)(M:AR)(e:Expr)(f:Ev->Mo Bool):Prop where
 ex:∃te,QT X e te/\RT Pn M te f
structure JW (X:Cx)(Pn:PN)(M:AR)(e:Expr)(f:Ev->Mo Bool):Prop where
 ex:∃te,QW X e te/\RT Pn M te f
structure JA (X:Cx)(Pn:PN)(M:AR)(es:AO)(f:AC):Prop where
 ex:∃te,QA X es te/\RA Pn M te f
structure JAB (X:Cx)(Pn:PN)(M:AR)(es:AO)(f:AC):Prop where
 ex:∃te,QA X es te/\RAB Pn M te f
structure JO (X:Cx)(Pn:PN)(M:AR)(e:Option Expr)(f:Ev->Mo AQ):Prop where
 ex:∃t,QO X e t/\∀A σ H ρ n Q R,EnvR A M σ H ρ->uB Pn A n H->f ρ n R->(∀o m H',R o m->Go Pn A H m H'->Q o H')->t σ H Q
section
variable {X:Cx}{Pn:PN}{M:AR}{fr:Bool}{e a b c:Expr}{es:AO}{f fa fb fc:AD}{pos p:Pos}
def ztb (i:Nat):AD:=λρ n Q=>∃w,ρ[i]?=some (some w)/\Q w n
abbrev mC (w:W):AD:=λ_ n Q=>Q w n
abbrev zr3 (F:W->W->Mo W) (fa fb:AD):AD:=λρ n Q=>fa ρ n λx q=>fb ρ q λy B=>F x y B Q
abbrev mUn (F:W->Mo W) (fa:AD):AD:=λρ n Q=>fa ρ n λx q=>F x q Q
def zs9 (fa:AD):Ev->Mo Bool:=λρ n Q=>fa ρ n λx q=>∃c,x = .d (.bl c)/\Q c q
def zvi (t u:Ev->Mo Bool):Ev->Mo Bool:=λρ n Q=>t ρ n λc q=>if c=true then u ρ q Q else Q false q
def mOr (t u:Ev->Mo Bool):Ev->Mo Bool:=λρ n Q=>t ρ n λc q=>if c=true then Q true q else u ρ q Q
def zws (t:Ev->Mo Bool):Ev->Mo Bool:=λρ n Q=>t ρ n λc q=>Q (!c) q
def zqe (fa fb:AD):AD:=λρ n Q=>fa ρ n λx q=>∃c,x = .d (.bl c)/\if c=true then fb ρ q Q else Q (.d (.bl false)) q
abbrev zwr:AC:=λ_ n Q=>Q [] n
abbrev zqh (fa:AD) (fr:AC):AC:=λρ n Q=>fa ρ n λx q=>fr ρ q λxs B=>Q (x::xs) B
abbrev zwh (F:AU->Mo W) (fa:AC):AD:=λρ n Q=>fa ρ n λxs q=>F xs q Q
def JE.bo (h:JE X Pn M fr e f):JB X Pn M e f:=let ⟨te,h1,h2⟩:=h.ex;⟨te,h1,h2.rb⟩
def JA.bo {f:AC}(h:JA X Pn M es f):JAB X Pn M es f:=let ⟨te,h1,h2⟩:=h.ex;⟨te,h1,h2.rab⟩
def ud (h:JE X Pn M true e f):JE X Pn M false e f:=let ⟨te,h1,h2⟩:=h.ex;⟨te,h1,⟨λA σ H ρ n Q R E P q k=>h2.run A σ H ρ n Q R E P q λw m v H' r a g _=>k w m v H' r a g λz=>by cases z⟩⟩
def zug(hi:i∉M):RE Pn M false (zbL i) (ztb i):=⟨λA σ H ρ n Q R E P q k=>by obtain⟨w,e,r⟩:=q;obtain⟨v,h1,h2,_⟩:=E.val i w e;exact⟨v,h1,k w n v H r (h2 hi) (Go.refl P) λz=>by cases z⟩⟩
def zud:RB Pn M (zbL i) (ztb i):=⟨λA σ H ρ n Q R E P q k=>by
 obtain⟨w,e,r⟩:=q;obtain⟨v,h1,h2,B⟩:=E.val i w e;show⟨v,h1,k w n v H r ?_ (Go.refl P)⟩;by_cases hi:i∈M;obtain⟨a,_,_,h,_⟩:=B hi;exact h;exact (h2 hi).bor⟩
def zwc (i:Nat){x:Str}(hi:i∉M:=by ext)(B:X.N[i]?=some x:=by rfl)(F:Vis X.env.scope x:=by walk_at "v")(I:Ah x:=by ext)
  (q:(x==("__classdict__" : Str))=false:=by ext):JE X Pn M false (.Name x pos) (ztb i):=⟨_,qv i B F I q,zug hi⟩
def zv6(i:Nat)(B:X.N[i]?=some x:=by rfl)(F:Vis X.env.scope x:=by walk_at "v")(I:Ah x:=by ext)(q:(x==("__classdict__" : Str))=false:=by ext):JB X Pn M (.Name x pos) (ztb i):=⟨_,qv i B F I q,zud⟩
def zvr(h:∀G,Is G x v):RE Pn M false (tC v) (mC (.d x)):=⟨λA σ H ρ n Q R E P q k=>k _ n v H q (Val.of (h _)) (Go.refl P) λz=>by cases z⟩
def zm{i:Int}:JE X Pn M false (.Constant (.int i) j pos) (mC (.d (.int i))):=⟨_,yE,zvr λ_=>rfl⟩
def zgI:JE X Pn M false (.Constant (.bool k) j pos) (mC (.d (.bl k))):=⟨_,zq6,zvr λ_=>rfl⟩
def zp5:JE X Pn M false (.Constant .none j pos) (mC (.d .non)):=⟨_,zt4,zvr λ_=>rfl⟩
def zkL:JE X Pn M false (.Constant (.str x) j pos) (mC (.d (.str x))):=⟨_,x8,zvr λ_=>rfl⟩
def Al.new {A:AL}{H:Hp}(h:Al A H){p:Addr}(e:H p=none):¬ A p:=λz=>by
 obtain⟨o,h1,_⟩:=h p z;grind
def Al.stay(h:Al A H)(s:zB H H'):Al A H':=λa z=>by obtain⟨o,h1,h2,q⟩:=h a z;exact⟨o,s _ _ h1 h2,h2,q⟩
def Al.noT(h:Al A H):∀a xs,A a->H a≠some (.tup xs):=λa xs z e=>by
 obtain⟨o,h1,_,q⟩:=h a z;have:=q.tup;grind
def Al.noT' {A:AL}{H H':Hp}(h:Al A H)(s:zB H H'){p:Addr}{xs:AT}(e:H' p=some (.tup xs)):¬ A p:=λz=>(h.stay s).noT p xs z e
structure F2 (Pn:PN)(fr:Bool)(r:R2)(F:W->W->Mo W):Prop where
 run:∀A H x y wx wy n Q R,Al A H->Bor A H wx x->Bor A H wy y->uB Pn A n H->F wx wy n R->(∀w m v H',R w m->Val A H' w v->Go Pn A H m H'->(fr=true->FrV A H H' w v)->Q v H')->r x y H Q
structure F1 (Pn:PN)(fr:Bool)(r:V->Hp->VK->Prop)(F:W->Mo W):Prop where
 run:∀A H x wx n Q R,Al A H->Bor A H wx x->uB Pn A n H->F wx n R->(∀w m v H',R w m->Val A H' w v->Go Pn A H m H'->(fr=true->FrV A H H' w v)->Q v H')->r x H Q
structure FL (Pn:PN)(fr:Bool)(r:AT->Hp->VK->Prop)(F:AU->Mo W):Prop where
 run:∀A H xs ws n Q R,Al A H->zr1 A H ws xs->uB Pn A n H->F ws n R->(∀w m v H',R w m->Val A H' w v->Go Pn A H m H'->(fr=true->FrV A H H' w v)->Q v H')->r xs H Q
def znV(B:F2 Pn fr r F)(I:RB Pn M ta fa)(J:RB Pn M tb fb):RE Pn M fr (tOp r ta tb) (zr3 F fa fb):=⟨λA σ H ρ n Q R E P L k=>by show I.run A σ H ρ n _ _ E P L λx O U H1 Y Z q=>?_;show J.run A σ H1 ρ O _ _ (E.stay q.st) q.pn Y λy n2 v2 H2 r2 b2 g2=>?_;have g:=q.trans g2;exact B.run A H2 U v2 x y n2 _ _ (E.stay g.st).al (Z.stay g2.st) b2 g2.pn r2 λw m v H' h1 h2 h3 h4=>k w m v H' h1 h2 (g.trans h3) λz=>(h4 z).back g.st⟩
def zwW(B:F1 Pn fr r F)(I:RB Pn M ta fa):RE Pn M fr (tUn r ta) (mUn F fa):=⟨λA σ H ρ n Q R E P J k=>by show I.run A σ H ρ n _ _ E P J λx L O H1 U Y q=>?_;exact B.run A H1 O x L _ _ (E.stay q.st).al Y q.pn U λw m v H' h1 h2 Z h4=>k w m v H' h1 h2 (q.trans Z) λz=>(h4 z).back q.st⟩
def zue {r:AT->Hp->VK->Prop}{F:AU->Mo W}{ta:TA}{fa:AC}(B:FL Pn fr r F)(I:RAB Pn M ta fa):RE Pn M fr (tCB r ta) (zwh F fa):=⟨λA σ H ρ n Q R E P J k=>by show I.run A σ H ρ n _ _ E P J λx L O H1 U Y q=>?_;exact B.run A H1 O x L _ _ (E.stay q.st).al Y q.pn U λw m v H' h1 h2 Z h4=>k w m v H' h1 h2 (q.trans Z) λz=>(h4 z).back q.st⟩
def yY(B:OpQ X (binaryOp q) r)(I:F2 Pn fr r F)(J:JB X Pn M a fa)(L:JB X Pn M b fb):JE X Pn M fr (.BinOp a q b pos) (zr3 F fa fb):=by obtain⟨ta,O,U⟩:=J.ex;obtain⟨tb,Y,Z⟩:=L.ex;exact⟨_,yX B O Y,znV I U Z⟩
def zwb(B:UnQ X (unaryOp q) r)(I:F1 Pn fr r F)(J:JB X Pn M a fa):JE X Pn M fr (.UnaryOp q a pos) (mUn F fa):=by obtain⟨ta,L,O⟩:=J.ex;exact⟨_,zwP B L,zwW I O⟩
def zm4(B:OpQ X (compareOp q) r)(I:F2 Pn fr r F)(J:JB X Pn M a fa)(L:JB X Pn M b fb)(O:behindInMarks q b=false):JE X Pn M fr (.Compare a [q] [b] pos) (zr3 F fa fb):=by obtain⟨ta,U,Y⟩:=J.ex;obtain⟨tb,Z,rb⟩:=L.ex;exact⟨_,zq8 B U Z O,znV I Y rb⟩
def zo0(h:RB Pn M ta fa):RT Pn M (zrM ta) (zs9 fa):=⟨λA σ H ρ n Q R E P B k=>by show h.run A σ H ρ n _ _ E P B  ?_;rintro x F I H1 ⟨c,e,r⟩ J L;subst e;have q:I = .bl c:=J;exact⟨c,q,k c F H1 r L⟩⟩
def zx(B:OpQ X (compareOp q) r)(I:F2 Pn fr r F)(J:JB X Pn M a fa)(L:JB X Pn M b fb)(O:behindInMarks q b=false):JT X Pn M (.Compare a [q] [b] pos) (zs9 (zr3 F fa fb)):=by obtain⟨ta,U,Y⟩:=J.ex;obtain⟨tb,Z,rb⟩:=L.ex;exact⟨_,zau B U Z O,zo0 (znV I Y rb).rb⟩
def zcc (h:JB X Pn M e f)(he:∀whole,isTrue e X.env whole=(do let v <- whole;standAt e.pos;holding [v] (truthy v)):=by intro _;rfl):JT X Pn M e (zs9 f):=by obtain⟨ta,qa,ra⟩:=h.ex;exact⟨_,zoW qa he,zo0 ra⟩
def zcV(h:JT X Pn M a t):JT X Pn M (.UnaryOp .Not a pos) (zws t):=by obtain⟨ta,q,B⟩:=h.ex;exact⟨_,zt8 q,⟨λA σ H ρ n Q R E P F k=>B.run A σ H ρ n _ _ E P F λb m H' r g=>k _ m H' r g⟩⟩
def zao(B:q = .And\/q = .Or)(h:JT X Pn M a t):JW X Pn M (.BoolOp q [a] pos) t:=by
 obtain⟨ta,F,I⟩:=h.ex;rcases B with rfl | rfl;exact⟨_,zhy F,I⟩;exact⟨_,zt9 F,I⟩
def zuq(h:RT Pn M t q)(h':RT Pn M u B):RT Pn M (zw1 t u) (zvi q B):=⟨λA σ H ρ n Q R E P F k=>by
 show h.run A σ H ρ n _ _ E P F λc m H1 r g=>?_
 cases c with
 | true=>exact h'.run A σ H1 ρ m _ _ (E.stay g.st) g.pn (by simpa using r) λb I H' J g'=>k b I H' J (g.trans g')
 | false=>exact k false m H1 (by simpa using r) g⟩
def zwY(h:RT Pn M t q)(h':RT Pn M u B):RT Pn M (tOr t u) (mOr q B):=⟨λA σ H ρ n Q R E P F k=>by
 show h.run A σ H ρ n _ _ E P F λc m H1 r g=>?_
 cases c with
 | false=>exact h'.run A σ H1 ρ m _ _ (E.stay g.st) g.pn (by simpa using r) λb I H' J g'=>k b I H' J (g.trans g')
 | true=>exact k true m H1 (by simpa using r) g⟩
def zdS {zQ:AO}{t u:Ev->Mo Bool}(h:JT X Pn M a t)(h':JW X Pn M (.BoolOp .And (b::zQ) pos) u):JW X Pn M (.BoolOp .And (a::b::zQ) pos) (zvi t u):=by obtain⟨ta,q,B⟩:=h.ex;obtain⟨tb,F,I⟩:=h'.ex;exact⟨_,ziw q F,zuq B I⟩
def zfV {zQ:AO}{t u:Ev->Mo Bool}(h:JT X Pn M a t)(h':JW X Pn M (.BoolOp .Or (b::zQ) pos) u):JW X Pn M (.BoolOp .Or (a::b::zQ) pos) (mOr t u):=by obtain⟨ta,q,B⟩:=h.ex;obtain⟨tb,F,I⟩:=h'.ex;exact⟨_,zwQ q F,zwY B I⟩
def JW.t {t:Ev->Mo Bool}(h:JW X Pn M e t):JT X Pn M e t:=let ⟨te,h1,h2⟩:=h.ex;⟨te,h1.pt,h2⟩
def zsY(h:JE X Pn M false a fa):JE X Pn M false (.BoolOp q [a] pos) fa:=let ⟨te,h1,h2⟩:=h.ex;⟨te,zt6 h1,h2⟩
def zsW {zQ:AO}(h:JB X Pn M a fa)(h':JE X Pn M false (.BoolOp .And (b::zQ) pos) fb):JE X Pn M false (.BoolOp .And (a::b::zQ) pos) (zqe fa fb):=by
 obtain⟨ta,B,F⟩:=h.ex;obtain⟨tb,I,J⟩:=h'.ex;show⟨_,ztZ B I,⟨λA σ H ρ n Q R E P L k=>?_⟩⟩;show F.run A σ H ρ n _ _ E P L  ?_;rintro x m v H1 ⟨c,O,r⟩ U g;subst O;have q:v = .bl c:=U;show⟨c,q,?_⟩
 cases c with
 | true=>
  rw[if_pos rfl] at r ⊢;exact J.run A σ H1 ρ m _ _ (E.stay g.st) g.pn r λw Y Z H' r' a' g' _=>k w Y Z H' r' a' (g.trans g') λz=>by cases z
 | false=>
  rw[if_neg (by ext)] at r ⊢;exact k _ m _ H1 r (Val.of rfl) g λz=>by cases z
def zqo (fa:AD):AD:=λρ n Q=>fa ρ n λx q=>∃c,x = .d (.bl c)/\Q (.d (.bl (!c))) q
def zwa (h:JB X Pn M a fa):JE X Pn M false (.UnaryOp .Not a pos) (zqo fa):=by obtain⟨ta,B,F⟩:=h.ex;show⟨_,zt5 B,⟨λA σ H ρ n Q R E P I k=>?_⟩⟩;show F.run A σ H ρ n _ _ E P I  ?_;rintro x m v H1 ⟨c,J,r⟩ L g;subst J;have q:v = .bl c:=L;exact⟨c,q,k _ m _ H1 r (Val.of rfl) g λz=>by cases z⟩
abbrev zsR:W->Bool
 | .d .non=>true
 | _=>false
abbrev mIsN (fa:AD):AD:=λρ n Q=>fa ρ n λx q=>Q (.d (.bl (zsR x))) q
abbrev mNotN (fa:AD):AD:=λρ n Q=>fa ρ n λx q=>Q (.d (.bl (!zsR x))) q
def zf:JA X Pn M [] zwr:=⟨_,ye,⟨λA σ H ρ n Q R E P q k=>k [] n [] H q rfl (Go.refl P)⟩⟩
def za(B:JE X Pn M fr e f)(F:JA X Pn M es fs)(hs:starEach (e::es) X.env=(false,eval e X.env)::starEach es X.env:=by rfl):JA X Pn M (e::es) (zqh f fs):=by obtain⟨ta,I,J⟩:=B.ex;obtain⟨tb,L,O⟩:=F.ex;show⟨_,zG I L hs,⟨λA σ H ρ n Q R E P U k=>?_⟩⟩;show J.run A σ H ρ n _ _ E P U λx Y Z H1 r1 b1 q _=>?_;exact O.run A σ H1 ρ Y _ _ (E.stay q.st) q.pn r1 λxs n2 vs H2 r2 b2 g2=>k _ n2 _ H2 r2 ⟨Z,vs,rfl,b1.stay g2.st,b2⟩ (q.trans g2)
def zn:JAB X Pn M [] zwr:=zf.bo
def zi(B:JB X Pn M e f)(F:JAB X Pn M es fs)(hs:starEach (e::es) X.env=(false,eval e X.env)::starEach es X.env:=by rfl):JAB X Pn M (e::es) (zqh f fs):=by obtain⟨ta,I,J⟩:=B.ex;obtain⟨tb,L,O⟩:=F.ex;show⟨_,zG I L hs,⟨λA σ H ρ n Q R E P U k=>?_⟩⟩;show J.run A σ H ρ n _ _ E P U λx Y Z H1 r1 b1 q=>?_;exact O.run A σ H1 ρ Y _ _ (E.stay q.st) q.pn r1 λxs n2 vs H2 r2 b2 g2=>k _ n2 _ H2 r2 ⟨Z,vs,rfl,b1.stay g2.st,b2⟩ (q.trans g2)
def lim:Nat:=500000
def zdV(h:n<=lim):n<=sizeLine:=af h (by ext)
def zdW(h:n<=lim):n<sizeLine:=aG h (by ext)
def dts:AU->Option AS
 | []=>some []
 | .d x::r=>(dts r).map (x::·)
 | _::_=>none
def zaY.dts:∀ {q:AU} {vs:AT} {l:AS},zaY A H q vs->dts q=some l->IsL (yb A H) l vs
 | [],vs,l,h,e=>by cases e;exact h
 | .d x::q,vs,l,⟨v,r,B,h1,h2⟩,e=>by obtain⟨l',F,rfl⟩:=aD.mp e;exact⟨v,r,B,h1.is,zaY.dts h2 F⟩
 | .pen _::_,_,_,_,e=>by cases e
 | .dk _::_,_,_,_,e=>by cases e
 | .dt _::_,_,_,_,e=>by cases e
 | .ss _ _ _::_,_,_,_,e=>by cases e
 | .df _::_,_,_,_,e=>by cases e
 | .kf _::_,_,_,_,e=>by cases e
 | .fl _::_,_,_,_,e=>by cases e
def zaY.len:∀ {q:AU} {vs:AT},zaY A H q vs->vs.length=q.length
 | [],_,h=>by cases h;rfl
 | _::q,vs,⟨v,r,e,_,h2⟩=>by rw[e,aO,aO,zaY.len h2]
def zfp {A:AL}{H H':Hp}{p:Addr}{xs:AT}{l:AS}(q:IsL (yb A H) l xs)(s:zB H H')(n:¬ A p)(g:H' p=some (.tup xs)):Val A H' (.d (.tup l)) (.ref p):=
 Val.of ⟨p,xs,rfl,zE n g,q.stay (yg s)⟩
def uo {A:AL}{H H':Hp}{p:Addr}{xs:AT}{l:AS}(q:IsL (yb A H) l xs)(s:zB H H')(n:¬ A p)(g:H' p=some (.lst xs)):Val A H' (.d (.lst l)) (.ref p):=
 Val.of ⟨p,xs,rfl,zE n g,q.stay (yg s)⟩
def uE {A:AL}{H H':Hp}{p:Addr}{xs:AT}{l:AS}(q:IsL (yb A H) l xs)(s:yJ H H')(n:H p=none)(g:H' p=some (.lst xs)):FrV A H H' (.d (.lst l)) (.ref p):=
 ⟨p,rfl,.of n,p,xs,rfl,g,q.stay (xl (zB.same s) (.of n))⟩
abbrev zvl:Nat->AU->(AS->Prop)->Prop
 | _,[],P=>P []
 | k+1,.d x::r,P=>zvl k r λl=>P (x::l)
 | _,_,_=>False
def zeW:∀ {k:Nat} {l:AU} {P:AS->Prop},zvl k l P->∃ds,dts l=some ds/\P ds/\l.length<=k
 | 0,[],P,h=>⟨[],rfl,h,aK _⟩
 | k+1,[],P,h=>⟨[],rfl,h,aK _⟩
 | 0,.d x::r,P,h=>h.elim
 | k+1,.d x::r,P,h=>by obtain⟨ds,e,h2,q⟩:=zeW (k:=k) (l:=r) (P:=λl=>P (x::l)) h;exact⟨x::ds,by simp[dts,e],h2,en q⟩
 | 0,.pen _::r,P,h=>h.elim
 | k+1,.pen _::r,P,h=>h.elim
 | 0,.dk _::r,P,h=>h.elim
 | k+1,.dk _::r,P,h=>h.elim
 | 0,.dt _::r,P,h=>h.elim
 | 0,.ss _ _ _::r,P,h=>h.elim
 | 0,.df _::r,P,h=>h.elim
 | 0,.kf _::r,P,h=>h.elim
 | 0,.fl _::r,P,h=>h.elim
 | k+1,.dt _::r,P,h=>h.elim
 | k+1,.ss _ _ _::r,P,h=>h.elim
 | k+1,.df _::r,P,h=>h.elim
 | k+1,.kf _::r,P,h=>h.elim
 | k+1,.fl _::r,P,h=>h.elim
abbrev zta (fa:AC):AD:=λρ n Q=>fa ρ n λq m=>zvl 200 q λl=>Q (.d (.tup l)) m
def xL{x1}(h:JA X Pn M es fs):JE X Pn M false (.Tuple es x1 pos) (zta fs):=by obtain⟨ta,q,B⟩:=h.ex;show⟨_,zdb q,⟨λA σ H ρ n Q R E P F k=>?_⟩⟩;show B.run A σ H ρ n _ _ E P F λU m vs H1 I b g=>?_;obtain⟨l,e,r,J⟩:=zeW I;show⟨zdV (by rw[b.len];exact af J (by ext)),λp H2 L O S=>?_⟩;exact k _ m _ H2 r (zfp (b.dts e) (zB.same S) ((E.stay g.st).new L) O) (g.trans (Go.same g.pn S)) λz=>by cases z
abbrev zwq (fa:AC):AD:=λρ n Q=>fa ρ n λq m=>zvl 200 q λl=>Q (.d (.lst l)) m
def yP(h:JA X Pn M es fs):JE X Pn M true (.List es pos) (zwq fs):=by obtain⟨ta,F,I⟩:=h.ex;show⟨_,zly F,⟨λA σ H ρ n Q R E P J k=>?_⟩⟩;show I.run A σ H ρ n _ _ E P J λU m vs H1 L b g=>?_;obtain⟨l,e,r,O⟩:=zeW L;show⟨zdV (by rw[b.len];exact af O (by ext)),λp H2 q B S=>?_⟩;exact k _ m _ H2 r (uo (b.dts e) (zB.same S) ((E.stay g.st).new q) B) (g.trans (Go.same g.pn S)) λ_=>(uE (b.dts e) S q B).back g.st
def zM {id:String}{r:AT->Hp->VK->Prop}{F:AU->Mo W}{x:Str}{fs:AC}(I:CallQ X (.builtin id) r)(J:FL Pn fr r F)(L:Gl X x)(O:X.mg x=none)(U:bootBuiltins x=some (.builtin id))(Y:JAB X Pn M (e::es) fs)(Z:x ≠ "__name__" := by ext)(q:Ah x:=by ext)
  (he:starEach (e::es) X.env=(false,eval e X.env)::starEach es X.env:=by rfl) (B:(backTo pos (starEach es X.env)).any (·.1)=false:=by rfl):JE X Pn M fr (.Call (.Name x p) (e::es) [] pos) (zwh F fs):=by
 obtain⟨ta,qa,ra⟩:=Y.ex;exact⟨_,xp I L O U qa Z q he B,zue J ra⟩
def xm(I:CallQ X (.type T) r)(J:FL Pn fr r F)(L:Gl X x)(O:X.mg x=none)(U:bootBuiltins x=some (.type T))(Y:JAB X Pn M (e::es) fs)(Z:x ≠ "__name__" := by ext)(q:Ah x:=by ext)(he:starEach (e::es) X.env=(false,eval e X.env)::starEach es X.env:=by rfl)(B:(backTo pos (starEach es X.env)).any (·.1)=false:=by rfl):JE X Pn M fr (.Call (.Name x p) (e::es) [] pos) (zwh F fs):=by
 obtain⟨ta,qa,ra⟩:=Y.ex;exact⟨_,zat I L O U qa Z q he B,zue J ra⟩
end
section
variable {Pn:PN}{K:AH}{A:AL}{H:Hp}
def yL{i:Int}(h:Bor A H (.d (.int i)) v):v = .int i:=h
def zjJ(h:Bor A H (.d (.bl i)) v):v = .bl i:=h
def xx(h:Bor A H (.d (.tup l)) v):∃a xs,v = .ref a/\H a=some (.tup xs)/\IsL (yb A H) l xs:=by obtain⟨a,xs,e,h1,h2⟩:=h;exact⟨a,xs,e,zt _ _ h1,h2⟩
def yM(h:Bor A H (.d (.lst l)) v):∃a xs,v = .ref a/\H a=some (.lst xs)/\IsL (yb A H) l xs:=h
def zpq(h:Bor A H (.d (.lst l)) v\/Bor A H (.d (.tup l)) v):∃a xs,v = .ref a/\(SqL K H a xs\/SqT K H a xs)/\IsL (yb A H) l xs:=by
 rcases h with h | h;obtain⟨a,xs,e,h1,h2⟩:=yM h;exact⟨a,xs,e,.inl (.of h1),h2⟩;obtain⟨a,xs,e,h1,h2⟩:=xx h;exact⟨a,xs,e,.inr (.of h1),h2⟩
def fI (C:Int->Int->Prop)(g:Int->Int->Dt):W->W->Mo W:=λx y n Q=>∃i j,x = .d (.int i)/\y = .d (.int j)/\C i j/\Q (.d (g i j)) n
def fI0 (g:Int->Int->Dt):W->W->Mo W:=λx y n Q=>∃i j,x = .d (.int i)/\y = .d (.int j)/\Q (.d (g i j)) n
def f2_I {C:Int->Int->Prop}{g:Int->Int->V}{g':Int->Int->Dt}(B:∀i j G,Is G (g' i j) (g i j)):F2 Pn false (rI C g) (fI C g'):=⟨by
 rintro A H x y L O n Q R U F q P ⟨i,j,I,J,c,r⟩ k;subst I J;exact⟨i,j,yL F,yL q,c,k _ n _ H r (Val.of (B _ _ _)) (Go.refl P) λz=>by cases z⟩⟩
def zke {g:Int->Int->V}{g':Int->Int->Dt}(B:∀i j G,Is G (g' i j) (g i j)):F2 Pn false (rI0 g) (fI0 g'):=⟨by
 rintro A H x y L O n Q R U F q P ⟨i,j,I,J,r⟩ k;subst I J;exact⟨i,j,yL F,yL q,k _ n _ H r (Val.of (B _ _ _)) (Go.refl P) λz=>by cases z⟩⟩
abbrev fAdd:=fI0 λi j=>.int (i+j)
abbrev fSub:=fI0 λi j=>.int (i - j)
abbrev fDiv:=fI zr2 λi j=>.int (i / j)
abbrev fMod:=fI (λ_ j=>0<j) λi j=>.int (i % j)
abbrev fLt:=fI0 λi j=>.bl (decide (i<j))
abbrev fLe:=fI0 λi j=>.bl (decide (i<=j))
abbrev fGt:=fI0 λi j=>.bl (decide (j<i))
def zxd:F2 Pn false (rI0 λi j=>.int (i+j)) fAdd:=zke λ_ _ _=>rfl
def zxn:F2 Pn false (rI0 λi j=>.int (i - j)) fSub:=zke λ_ _ _=>rfl
def zuX:F2 Pn false (rI zr2 λi j=>.int (i / j)) fDiv:=f2_I λ_ _ _=>rfl
def zxl:F2 Pn false (rI (λ_ j=>0<j) λi j=>.int (i % j)) fMod:=f2_I λ_ _ _=>rfl
def v_lt:F2 Pn false (rI0 λi j=>.bl (decide (i<j))) fLt:=zke λ_ _ _=>rfl
def v_le:F2 Pn false (rI0 λi j=>.bl (decide (i<=j))) fLe:=zke λ_ _ _=>rfl
def v_gt:F2 Pn false (rI0 λi j=>.bl (decide (j<i))) fGt:=zke λ_ _ _=>rfl
def zv1:W->Mo W:=λx n Q=>∃i,x = .d (.int i)/\Q (.d (.int (-i))) n
def zxm:F1 Pn false (rU λi=>.int (-i)) zv1:=⟨by
 rintro A H x B n Q R F q P ⟨i,e,r⟩ k;subst e;exact⟨i,yL q,k _ n _ H r (Val.of rfl) (Go.refl P) λz=>by cases z⟩⟩
abbrev sEq:Dt->Dt->Option Bool
 | .int i,.int j=>some (decide (i=j))
 | .bl i,.bl j=>some (decide (i=j))
 | .str i,.str j=>some (decide (i=j))
 | .non,.non=>some true
 | .non,.int _=>some false
 | .int _,.non=>some false
 | .non,.bl _=>some false
 | .bl _,.non=>some false
 | .non,.str _=>some false
 | .str _,.non=>some false
 | .int _,.str _=>some false
 | .str _,.int _=>some false
 | _,_=>none
def plain:Dt->Option V
 | .int i=>some (.int i)
 | .bl i=>some (.bl i)
 | .str i=>some (.str i)
 | .non=>some .non
 | _=>none
def zo3(h:sEq a b=some r):∃x y,plain a=some x/\plain b=some y/\zw0 x y=true/\decide (x=y)=r:=by cases a <;> cases b <;> cases h <;> show⟨_,_,rfl,rfl,rfl,?_⟩ <;> first | rfl | exact bg (by lia) | exact decide_eq_decide.mpr (by simp)
def zbc(h:Bor A H (.d a) v)(e:plain a=some x):v=x:=by cases a <;> cases e <;> exact h
def fEq:W->W->Mo W:=λx y n Q=>∃a b r,x = .d a/\y = .d b/\sEq a b=some r/\Q (.d (.bl r)) n
def fNe:W->W->Mo W:=λx y n Q=>∃a b r,x = .d a/\y = .d b/\sEq a b=some r/\Q (.d (.bl (!r))) n
def v_eq:F2 Pn false rEq fEq:=⟨by
 rintro A H x y L O n Q R U B q P ⟨a,b,r,F,I,e,h⟩ k;subst F I;obtain⟨Y,Z,J,p2,s,d⟩:=zo3 e;obtain rfl:=zbc B J;obtain rfl:=zbc q p2;exact⟨s,k _ n _ H h (Val.of (by rw[d];rfl)) (Go.refl P) λz=>by cases z⟩⟩
def v_ne:F2 Pn false rNe fNe:=⟨by
 rintro A H x y L O n Q R U B q P ⟨a,b,r,F,I,e,h⟩ k;subst F I;obtain⟨Y,Z,J,p2,s,d⟩:=zo3 e;obtain rfl:=zbc B J;obtain rfl:=zbc q p2;exact⟨s,k _ n _ H h (Val.of (by rw[d];rfl)) (Go.refl P) λz=>by cases z⟩⟩
def zvV:W->W->Mo W:=λx y n Q=>∃a b,x = .d a/\y = .d b/\a.eqOk/\b.eqOk/\∀r:Bool,(r=true↔a=b)->Q (.d (.bl r)) n
def zxf:F2 Pn false zvn zvV:=⟨by
 rintro A H x y U Y n Q R Z B q P ⟨a,b,F,I,J,L,h⟩ k;subst F I;exact⟨a,b,B.is,q.is,J,L,λr O=>k _ n _ H (h r O) (Val.of rfl) (Go.refl P) λz=>by cases z⟩⟩
def zgY:W->W->Mo W:=λx y n Q=>∃a b,x = .d (.bl a)/\y = .d (.bl b)/\Q (.d (.bl (a != b))) n
def zjr:F2 Pn false (λx y H Q=>∃a b,x = .bl a/\y = .bl b/\Q (.bl (a != b)) H) zgY:=⟨by
 rintro A H x y J L n Q R O B q P ⟨a,b,F,I,h⟩ k;subst F I;exact⟨a,b,zjJ B,zjJ q,k _ n _ H h (Val.of rfl) (Go.refl P) λz=>by cases z⟩⟩
def zvW (q:Bool):W->W->Mo W:=λx y n Q=>∃d ds,x = .d d/\(y = .d (.lst ds)\/y = .d (.tup ds))/\d.eqOk/\(Dt.lst ds).eqOk/\∀b:Bool,(b=true↔d∈ds)->Q (.d (.bl (if q then !b else b))) n
def zxg:F2 Pn false (zvo q) (zvW q):=⟨by
 rintro A H x y Y Z n Q R al F B P ⟨d,ds,I,J,L,O,h⟩ k;subst I;show⟨d,ds,F.is,?_,L,O,λb U=>k _ n _ H (h b U) (Val.of rfl) (Go.refl P) λz=>by cases z⟩;rcases J with rfl | rfl;exact .inl B.is;exact .inr B.is⟩
def zox{i:Int}(h:IsL G l xs)(e:atI l i=some d):∃v,atI xs i=some v/\Is G d v:=by
 unfold atI at e ⊢;rw[h.length];obtain⟨j,h1,h2⟩:=Option.bind_eq_some_iff.mp e;obtain⟨v,q,B⟩:=h.getD h2;right
def zvY:W->W->Mo W:=λx y n Q=>∃l i d,x = .d (.tup l)/\y = .d (.int i)/\atI l i=some d/\Q (.d d) n
def zvX:W->W->Mo W:=λx y n Q=>∃l i d,x = .d (.lst l)/\y = .d (.int i)/\atI l i=some d/\Q (.d d) n
def zxi:F2 Pn false (zua K) zvY:=⟨by
 rintro A H x y U Y n Q R Z B q P ⟨l,i,d,F,I,e,h⟩ k;subst F I;obtain⟨a,xs,J,L,O⟩:=xx B;obtain⟨v,h1,h2⟩:=zox O e;exact⟨a,xs,i,v,J,yL q,.of L,h1,k _ n _ H h (Val.of h2) (Go.refl P) λz=>by cases z⟩⟩
def zxh:F2 Pn false (zvp K) zvX:=⟨by
 rintro A H x y U Y n Q R Z B q P ⟨l,i,d,F,I,e,h⟩ k;subst F I;obtain⟨a,xs,J,L,O⟩:=yM B;obtain⟨v,h1,h2⟩:=zox O e;exact⟨a,xs,i,v,J,yL q,.of L,h1,k _ n _ H h (Val.of h2) (Go.refl P) λz=>by cases z⟩⟩
def zgX:W->W->Mo W:=λx y n Q=>∃l m,x = .d (.tup l)/\y = .d (.tup m)/\l.length+m.length<=lim/\Q (.d (.tup (l++m))) n
def zuW:F2 Pn false (zlF K) zgX:=⟨by
 rintro A H x y wx wy n Q R I J q P ⟨l,m,L,O,z,h⟩ k;subst L O;obtain⟨a,xs,U,Y,B⟩:=xx J;obtain⟨b,ys,Z,hb,F⟩:=xx q;show⟨a,b,xs,ys,U,Z,Y,hb,zdV (by rw[B.length,F.length];exact z),λp H' g S=>?_⟩;exact k _ n _ H' h (zfp (B.append F) (zB.same S) (I.noT' (zB.same S) g) g) (Go.same P S) λz=>by cases z⟩
def zpI:W->W->Mo W:=λx y n Q=>∃l m,x = .d (.lst l)/\y = .d (.lst m)/\l.length+m.length<=lim/\Q (.d (.lst (l++m))) n
def zuV:F2 Pn true zrk zpI:=⟨by
 rintro A H x y wx wy n Q R J L q P ⟨l,m,O,U,z,h⟩ k;subst O U;obtain⟨a,xs,Y,Z,B⟩:=yM L;obtain⟨b,ys,eb,hb,F⟩:=yM q;show⟨a,b,xs,ys,Y,eb,Z,hb,zdV (by rw[B.length,F.length];exact z),λp H' I g S=>?_⟩;exact k _ n _ H' h (uo (B.append F) (zB.same S) (J.new I) g) (Go.same P S) λz=>uE (B.append F) S I g⟩
def zg9(h:IsL G l xs):∀k:Nat,IsL G (List.replicate k l).flatten (List.replicate k xs).flatten
 | 0=>rfl
 | k+1=>by rw[cN,cN,dR,dR];exact h.append (zg9 h k)
abbrev lenD:W->Option Nat
 | .d (.lst l)=>some l.length
 | .d (.tup l)=>some l.length
 | _=>none
def zvZ:AU->Mo W:=λq n Q=>∃x k,q=[x]/\lenD x=some k/\Q (.d (.int (k:Int))) n
def zcK(h:zr1 A H [w] vs):∃v,vs=[v]/\Bor A H w v:=by obtain⟨v,r,e,h1,h2⟩:=h;cases h2;exact⟨v,e,h1⟩
def zvE(h:zr1 A H [w,u] vs):∃v y,vs=[v,y]/\Bor A H w v/\Bor A H u y:=by obtain⟨v,r,e,h1,h2⟩:=h;obtain⟨y,rfl,q⟩:=zcK h2;exact⟨v,y,e,h1,q⟩
def zxj:FL Pn false (λxs H Q=>∃x n,xs=[x]/\zr8 K x H n/\Q (.int n) H) zvZ:=⟨by
 rintro A H xs L n Q R O b P ⟨x,j,J,q,h⟩ k;subst J;obtain⟨v,rfl,I⟩:=zcK b;show⟨v,j,rfl,?_,k _ n _ H h (Val.of rfl) (Go.refl P) λz=>by cases z⟩
 cases x with
 | d x=>
  cases x with
  | lst l=>
   cases q;obtain⟨a,ys,rfl,B,F⟩:=yM I;exact .inl ⟨ys,.of B,F.length.symm⟩
  | tup l=>
   cases q;obtain⟨a,ys,rfl,B,F⟩:=xx I;exact .inr ⟨ys,.of B,F.length.symm⟩
  | _=>cases q
 | _=>cases q⟩
def zv0:AU->Mo W:=λq n Q=>∃i j,q=[.d (.int i),.d (.int j)]/\Q (.d (.int (if j > i then j else i))) n
def zxk:FL Pn false (λxs H Q=>∃i j,xs=[.int i,.int j]/\Q (.int (if j > i then j else i)) H) zv0:=⟨by
 rintro A H xs I n Q R J b P ⟨i,j,q,h⟩ k;subst q;obtain⟨v,y,rfl,B,F⟩:=zvE b;exact⟨i,j,by rw[yL B,yL F],k _ n _ H h (Val.of rfl) (Go.refl P) λz=>by cases z⟩⟩
def zkz:∀ {q:List Bool} {xs:AT},IsL G (q.map .bl) xs->xs=q.map V.bl
 | [],_,h=>h
 | b::q,xs,h=>by obtain⟨y,r,rfl,h1,h2⟩:=h;cases h1;rw[zkz h2];rfl
def zvU:AU->Mo W:=λB n Q=>∃q:List Bool,B=[.d (.lst (q.map .bl))]/\Q (.d (.bl (q.all id))) n
def zxe:FL Pn false (λxs H Q=>∃ (p:Addr) (q:List Bool),xs=[.ref p]/\H p=some (.lst (q.map V.bl))/\Q (.bl (q.all id)) H) zvU:=⟨by
 rintro A H xs L n Q R O b P ⟨q,B,h⟩ k;subst B;obtain⟨v,rfl,F⟩:=zcK b;obtain⟨a,ys,rfl,I,J⟩:=yM F;obtain rfl:=zkz J;exact⟨a,q,rfl,I,k _ n _ H h (Val.of rfl) (Go.refl P) λz=>by cases z⟩⟩
def zsG:AU->Mo W:=λq n Q=>∃l,(q=[.d (.lst l)]\/q=[.d (.tup l)])/\Q (.d (.lst l)) n
def zuY:FL Pn true (zlG K) zsG:=⟨by
 rintro A H xs L n Q R F b P ⟨l,I,h⟩ k
 obtain⟨v,rfl,J⟩:∃v,xs=[v]/\(Bor A H (.d (.lst l)) v\/Bor A H (.d (.tup l)) v):=by
  rcases I with rfl | rfl;obtain⟨v,e,h⟩:=zcK b;exact⟨v,e,.inl h⟩;obtain⟨v,e,h⟩:=zcK b;exact⟨v,e,.inr h⟩
 obtain⟨a,ys,rfl,hs,q⟩:=zpq (K:=K) J;exact⟨a,ys,rfl,hs,λp H' B g S=>k _ n _ H' h (uo q (zB.same S) (F.new B) g) (Go.same P S) λz=>uE q S B g⟩⟩
def zou:AU->Mo W:=λq n Q=>∃l,(q=[.d (.lst l)]\/q=[.d (.tup l)])/\Q (.d (.tup l)) n
def zrX:FL Pn false (zhA K) zou:=⟨by
 rintro A H xs O n Q R I b P ⟨l,J,h⟩ k;rcases J with rfl | rfl;obtain⟨v,rfl,B⟩:=zcK b;obtain⟨a,ys,rfl,q,F⟩:=yM B;exact⟨a,ys,rfl,.inl ⟨.of q,λp H' L g S=>k _ n _ H' h (zfp F (zB.same S) (I.new L) g) (Go.same P S) λz=>by cases z⟩⟩;obtain⟨v,rfl,B⟩:=zcK b;obtain⟨a,ys,e,q,F⟩:=id B;subst e;exact⟨a,ys,rfl,.inr ⟨.of (zt _ _ q),k _ n _ H h (Val.of ⟨a,ys,rfl,q,F⟩) (Go.refl P) λz=>by cases z⟩⟩⟩
def xA {α:Type}(xs:List α)(lo hi:AQ):List α:=(xs.drop (HT.sIx xs.length 0 lo)).take (HT.sIx xs.length xs.length hi - HT.sIx xs.length 0 lo)
def zg8{lo hi:AQ}(h:IsL G l xs):IsL G (xA l lo hi) (zdv xs lo hi):=by unfold xA zdv;rw[h.length];exact (h.drop _).take _
def yW {κ:Type}[DecidableEq κ](kvs:List (κ×Dt))(k:κ):Option Dt:=(kvs.find? λq=>decide (q.1=k)).map (·.2)
def zab.look {κ:Type}[DecidableEq κ]{G:Hp}{k:κ}:∀ {kvs:List (κ×Dt)} {ks:List (κ×V)},zab G kvs ks->(yW kvs k=none->um ks k=none)/\∀d,yW kvs k=some d->∃v,um ks k=some v/\Is G d v
 | [],_,h=>by cases h;exact⟨λ_=>rfl,λd e=>by cases e⟩
 | q::r,ks,⟨v,s,e,h1,h2⟩=>by
  subst e;have F:=zab.look (k:=k) h2;by_cases B:q.1=k;show⟨λz=>?_,λd z=>?_⟩;simp[yW,bI,B] at z;simp[yW,bI,B] at z;subst z;exact⟨v,ya B,h1⟩;have I:yW (q::r) k=yW r k:=by simp[yW,bI,B]
  rw[I,yj B];exact F
end
section
variable {X:Cx}{Pn:PN}{M S:AR}{fr:Bool}{e a b c:Expr}{es:AO}{f fa fb fc:AD}{pos p:Pos}
def uA(q:IxQ X r)(B:F2 Pn fr r F)(I:JB X Pn M a fa)(J:JB X Pn M b fb)(hs:zgL b):JE X Pn M fr (.Subscript a b pos) (zr3 F fa fb):=by obtain⟨ta,L,O⟩:=I.ex;obtain⟨tb,U,Y⟩:=J.ex;exact⟨_,znL q L U hs,znV B O Y⟩
abbrev zqn:Ev->Mo AQ:=λ_ n Q=>Q none n
def zqp (fa:AD):Ev->Mo AQ:=λρ n Q=>fa ρ n λx m=>∃i,x = .d (.int i)/\Q (some i) m
def zz:JO X Pn M none zqn:=⟨_,ze5,λA σ H ρ n Q R E P q k=>k none n H q (Go.refl P)⟩
def zA (h:JB X Pn M e f):JO X Pn M (some e) (zqp f):=by obtain⟨te,q,r⟩:=h.ex;show⟨_,ze6 q,λA σ H ρ n Q R E P B k=>?_⟩;show r.run A σ H ρ n _ _ E P B  ?_;rintro w m v H' ⟨i,e,r⟩ F g;subst e;exact⟨i,yL F,k (some i) m H' r g⟩
def zwv (fa:AD)(fl q:Ev->Mo AQ):AD:=λρ n Q=>fa ρ n λx B=>fl ρ B λlo F=>q ρ F λhi I=>∃l,x = .d (.tup l)/\Q (.d (.tup (xA l lo hi))) I
def zwu (fa:AD)(fl q:Ev->Mo AQ):AD:=λρ n Q=>fa ρ n λx B=>fl ρ B λlo F=>q ρ F λhi I=>∃l,x = .d (.lst l)/\Q (.d (.lst (xA l lo hi))) I
def zbW{fl I:Ev->Mo AQ}(L:JB X Pn M e f)(B:JO X Pn M lo fl)(O:JO X Pn M hi I):JE X Pn M false (.Subscript e (.Slice lo hi none p2) pos) (zwv f fl I):=by obtain⟨te,U,Y⟩:=L.ex;obtain⟨tl,Z,rl⟩:=B.ex;obtain⟨th,qh,rh⟩:=O.ex;show⟨_,zbE zhJ U Z qh,⟨λA σ H ρ n Q R E P hf k=>?_⟩⟩;show Y.run A σ H ρ n _ _ E P hf λw m v H1 r1 bb q=>?_;show rl A σ H1 ρ m _ _ (E.stay q.st) q.pn r1 λo m2 H2 r2 g2=>?_;show rh A σ H2 ρ m2 _ _ ((E.stay q.st).stay g2.st) g2.pn r2  ?_;rintro o3 m3 H3 ⟨l,e,r3⟩ F;subst e;have g:=(q.trans g2).trans F;obtain⟨ad,xs,rfl,ha,B⟩:=xx (bb.stay (g2.trans F).st);exact⟨ad,xs,rfl,ha,λp H' J S=>k _ m3 _ H' r3 (zfp (zg8 B) (zB.same S) (Al.noT' (E.stay g.st).al (zB.same S) J) J) (g.trans (Go.same F.pn S)) λz=>by cases z⟩
def xn{fl J:Ev->Mo AQ}(L:JB X Pn M e f)(q:JO X Pn M lo fl)(O:JO X Pn M hi J):JE X Pn M true (.Subscript e (.Slice lo hi none p2) pos) (zwu f fl J):=by obtain⟨te,U,Y⟩:=L.ex;obtain⟨tl,Z,rl⟩:=q.ex;obtain⟨th,qh,rh⟩:=O.ex;show⟨_,zbE zlX U Z qh,⟨λA σ H ρ n Q R E P hf k=>?_⟩⟩;show Y.run A σ H ρ n _ _ E P hf λw m v H1 r1 bb B=>?_;show rl A σ H1 ρ m _ _ (E.stay B.st) B.pn r1 λo m2 H2 r2 g2=>?_;show rh A σ H2 ρ m2 _ _ ((E.stay B.st).stay g2.st) g2.pn r2  ?_;rintro o3 m3 H3 ⟨l,e,r3⟩ F;subst e;have g:=(B.trans g2).trans F;obtain⟨ad,xs,rfl,ha,q⟩:=yM (bb.stay (g2.trans F).st);show⟨ad,xs,rfl,.of ha,λp I=>?_⟩;have S:=yJ.upd (o:=.lst (zdv xs o o3)) I;exact k _ m3 _ _ r3 (uo (zg8 q) (zB.same S) ((E.stay g.st).new I) zh) (g.trans (Go.same F.pn S)) λz=>(uE (zg8 q) S I zh).back g.st
def zha:∀ {ds:AS} {xs:AT},IsL G ds xs->IsL G ds.reverse xs.reverse
 | [],_,h=>by cases h;rfl
 | d::ds,xs,h=>by obtain⟨x,r,rfl,h1,h2⟩:=h;rw[c5,c5];exact (zha h2).append (IsL.one h1)
def zqs (fa:AD):AD:=λρ n Q=>fa ρ n λx m=>∃l,x = .d (.lst l)/\Q (.d (.lst l.reverse)) m
def zkK(I:JB X Pn M e f):JE X Pn M true (.Subscript e (.Slice none none (some (.UnaryOp .USub (.Constant (.int 1) j p4) p3)) p2) pos) (zqs f):=by obtain⟨te,J,L⟩:=I.ex;show⟨_,zrc J,⟨λA σ H ρ n Q R E P O k=>?_⟩⟩;show L.run A σ H ρ n _ _ E P O  ?_;rintro w m v H1 ⟨l,e,r⟩ U g;subst e;obtain⟨Y,xs,rfl,Z,q⟩:=yM U;exact⟨Y,xs,rfl,Z,λp H' B F S=>k _ m _ H' r (uo (zha q) (zB.same S) ((E.stay g.st).new B) F) (g.trans (Go.same g.pn S)) λz=>(uE (zha q) S B F).back g.st⟩
abbrev zwg:W->Option Key
 | .d (.int i)=>some (Sum.inl i)
 | .d (.str x)=>some (Sum.inr x)
 | _=>none
abbrev prD (q:Int×Dt):Dt:=.tup [.int q.1,q.2]
def kvD (q:Int×Dt):Key×Dt:=(Sum.inl q.1,q.2)
def spV (k:Nat)(fr:Bool)(F:PN->AU->Mo W):Sp:=λvs H Q _=>∃Pn A q n R,Al A H/\zaY A H q vs/\q.length=k/\uB Pn A n H/\F Pn q n R/\∀w m v H',R w m->Val A H' w v->Go Pn A H m H'->(fr=true->FrV A H H' w v)->Q v H'
def mFn (k:Nat)(F:AU->Mo W)(fa:AC):AD:=λρ n Q=>fa ρ n λq m=>q.length=k/\F q m Q
def zwV(q:RA Pn M ta fs):RE Pn M fr (zdt (spV k fr F) [] E0 ta) (mFn k (F Pn) fs):=⟨λA σ H ρ n Q R E P B I=>by show q.run A σ H ρ n _ _ E P B  ?_;rintro J m vs H1 ⟨L,r⟩ b g;rw[dF];exact⟨Pn,A,J,m,R,(E.stay g.st).al,b,L,g.pn,r,λw O v H' h1 h2 U Y=>I w O v H' h1 h2 (g.trans U) λz=>(Y z).back g.st⟩⟩
def yS(D:Dfn X.K X.mg x st ps fA fd)(G:FnOk X.prog X.w X.K X.mg X.base CX0 j fA fd ps (spV k fr F))(L:Room J X.A)(O:JA X Pn M (e::es) fs)(q:j<=J:=by ext)(U:Gl X x:=by rfl)(B:Ah x:=by ext)(Y:starEach (e::es) X.env=(false,eval e X.env)::starEach es X.env:=by rfl)(I:(backTo pos (starEach es X.env)).any (·.1)=false:=by rfl) :
  JE X Pn M fr (.Call (.Name x p) (e::es) [] pos) (mFn k (F Pn) fs):=by
 obtain⟨ta,Z,ra⟩:=O.ex;exact⟨_,zje D G L Z q U B Y I,zwV ra⟩
abbrev W.flat (fr:Bool):W->Bool
 | .d (.lst l)=>fr&&Dt.noLs l
 | .d x=>x.noL
 | .pen _=>true
 | .dk _=>false
 | .dt _=>false
 | .ss _ _ _=>false
 | .df _=>false
 | .kf _=>false
 | .fl _=>false
def uB.less(h:uB Pn A n H)(s:∀a,A' a->A a):uB Pn A' n H:=by
 show⟨?_,Pn.J.grow h.2 λa z=>.inl (s a z)⟩;have h:=h.1;split at h;trivial;exact⟨h.1,λz=>h.2.1 (s _ z),λz=>h.2.2 (s _ z)⟩
end
structure JG (X:Cx)(S M:AR)(e:Expr)(mg:W->Ev->(Ev->Prop)->Prop):Prop where
 ex:∃g,QG X e g/\RG S M g mg
structure JGs (X:Cx)(S M:AR)(es:AO)(mg:AS->Ev->(Ev->Prop)->Prop):Prop where
 ex:∃g,QGs X es g/\RGs S M g mg
structure JI (X:Cx)(Pn:PN)(M:AR)(ow:Bool)(tg e:Expr)(f:AC):Prop where
 ex:∃wi,QI X tg e wi/\RI Pn M ow wi f
structure JTs (X:Cx)(Pn:PN)(M:AR)(es:AO)(f:Ev->Mo Bool):Prop where
 ex:∃t,QTs X es t/\RT Pn M t f
section
variable {X:Cx}{Pn:PN}{M S:AR}{fr:Bool}{e a b c:Expr}{es:AO}{f fa fb fc:AD}{pos p:Pos}
def gN (i:Nat):W->Ev->(Ev->Prop)->Prop:=λw ρ Q=>Q (ρ.set i (some w))
def gNl:AS->Ev->(Ev->Prop)->Prop:=λds ρ Q=>ds=[]/\Q ρ
def gCn (g:W->Ev->(Ev->Prop)->Prop)(u:AS->Ev->(Ev->Prop)->Prop):AS->Ev->(Ev->Prop)->Prop:=λds ρ Q=>∃d r,ds=d::r/\g (.d d) ρ λq=>u r q Q
def gTp (n:Nat)(u:AS->Ev->(Ev->Prop)->Prop):W->Ev->(Ev->Prop)->Prop:=λw ρ Q=>∃ds,w = .d (.tup ds)/\ds.length=n/\u ds ρ Q
def EnvR.set(E:EnvR A M σ H ρ)(hi:i∉M)(h:Val A H w v):EnvR A M (σ.set i (some v)) H (ρ.set i (some w)) where
 len:=by rw[bh,bh];exact E.len
 val:=λj u e=>by
  by_cases q:j=i;subst q
  have J:j<ρ.length:=by
   have:=(ac.mp e).1;right
  rw[aM J] at e;cases e;exact⟨v,aM (by rw[E.len];exact J),λ_=>h,λz=>absurd z hi⟩;rw[ax (Ne.symm q)] at e ⊢;exact E.val j u e
 dis:=λj k u Z ad q L B O U Y=>by have F:i≠j:=λz=>hi (z ▸ q);have I:i≠k:=λz=>hi (z ▸ L);rw[ax F] at O Y;rw[ax I] at U ⊢;exact E.dis j k u Z ad q L B O U Y
 al:=E.al
def zfb(hi:i∉M)(hs:i∉S):RG S M (zag i) (gN i):=⟨λA σ H ρ v w Q R E h r k=>k _ _ r (E.set hi h) λj q=>⟨ax λ(z:i=j)=>hs (by rw[z];exact q),ax λ(z:i=j)=>hs (by rw[z];exact q)⟩⟩
def zl(q:X.N.Nodup)(B:X.N[i]?=some x:=by rfl)(F:Loc X.env.scope x:=by first | exact Or.inl rfl | exact Or.inr rfl)(hi:i∉M:=by ext)(hs:i∉S:=by ext)(I:X.fn x=true\/X.env.scope.names.lookup x=some .local:=by walk_at "l"):JG X S M (.Name x pos) (gN i):=⟨_,x9 q B F I,zfb hi hs⟩
def xM:JGs X S M [] gNl:=⟨_,zhx,⟨by
 rintro A σ H ρ vs ds Q R E h ⟨e,r⟩ k;subst e;exact⟨h,k σ ρ r E λ_ _=>⟨rfl,rfl⟩⟩⟩⟩
def zH(h1:JG X S M e g)(h2:JGs X S M es u)(hs:(assignEach (e::es) X.env).map (·.2)=assign e X.env::(assignEach es X.env).map (·.2):=by rfl):JGs X S M (e::es) (gCn g u):=by obtain⟨t1,O,U⟩:=h1.ex;obtain⟨t2,Y,Z⟩:=h2.ex;show⟨_,uN O Y hs,⟨ ?_⟩⟩;rintro A σ H ρ vs ds Q R E h ⟨d,r,e,hg⟩ k;subst e;obtain⟨v,s,rfl,hv,hr⟩:=h;show⟨v,s,rfl,?_⟩;show U.run A σ H ρ v _ _ _ E (Val.of hv) hg λq B hu E' J=>?_;exact Z.run A q H B s _ _ _ E' hr hu λF I hR E2 L=>k F I hR E2 λi hi=>⟨(L i hi).1.trans (J i hi).1,(L i hi).2.trans (J i hi).2⟩
def uW {k n:Nat}{u:AS->Ev->(Ev->Prop)->Prop}(K:AH)(I:X.K=K)(J:X.calm=true)(h:JGs X S M es u)(L:(assignEach es X.env).length=n:=by rfl)(q:(assignEach es X.env).findIdx? (·.1)=none:=by rfl):JG X S M (.Tuple es k pos) (gTp n u):=by obtain⟨t1,O,U⟩:=h.ex;show⟨_,zlz K I J O L q,⟨ ?_⟩⟩;rintro A σ H ρ v w Q R E h ⟨ds,e,Y,Z⟩ kk;subst e;obtain⟨ad,xs,rfl,B,F⟩:=h;exact⟨ad,xs,rfl,.of (zt _ _ B),by rw[F.length];exact Y,U.run A σ H ρ xs ds _ _ E F Z kk⟩
def zwn (fa:AD):AC:=λρ n Q=>fa ρ n λx m=>∃l,x = .d (.lst l)/\Q (l.map W.d) m
def zwp (fa:AD):AC:=λρ n Q=>fa ρ n λx m=>∃l,x = .d (.tup l)/\Q (l.map W.d) m
def zkI {G G':Hp}{l:AS}{xs:AT}{i:Nat}{w:W}(h:IsL G l xs)(e:(l.map W.d)[i]?=some w)(s:zB G G'):∃d x,w = .d d/\xs[i]?=some x/\Is G' d x:=by rw[aq] at e;obtain⟨d,h1,rfl⟩:=aD.mp e;obtain⟨x,h2,q⟩:=h.getD h1;exact⟨d,x,rfl,h2,q.stay s⟩
def zm2(h:yb A H q=some (.lst xs))(B:IsL (yb A H) l xs):ItV false A H (Itl K q) (l.map W.d) where
 one:=λi w A2 H2 e s _ _=>by obtain⟨d,x,rfl,F,I⟩:=zkI B e s;have g:=zt _ _ (s.lst h);show⟨⟨xs,x,.of g,F⟩,?_⟩;rintro y H3 ⟨J,L⟩;subst J;have:=L xs (.of g);rw[F] at this;cases this;exact⟨λ_ _ z=>z,Val.of I⟩
 stop:=λA2 H2 s _=>⟨xs,.of (zt _ _ (s.lst h)),by rw[ab,B.length];exact ah _⟩
def zp1(h:yb A H q=some (.tup xs))(B:IsL (yb A H) l xs):ItV false A H (Itt K q) (l.map W.d) where
 one:=λi w A2 H2 e s _ _=>by obtain⟨d,x,rfl,F,I⟩:=zkI B e s;have g:=zt _ _ (s.tup h);show⟨⟨xs,x,.of g,F⟩,?_⟩;rintro y H3 ⟨J,L⟩;subst J;have:=L xs (.of g);rw[F] at this;cases this;exact⟨λ_ _ z=>z,Val.of I⟩
 stop:=λA2 H2 s _=>⟨xs,.of (zt _ _ (s.tup h)),by rw[ab,B.length];exact ah _⟩
def y9(K:AH)(F:X.K=K)(h:JE X Pn M fr e f):JI X Pn M false tg e (zwn f):=by obtain⟨te,q,r⟩:=h.ex;show⟨_,ziv K F q,⟨λA σ H ρ n Q R E P I k=>?_⟩⟩;show r.run A σ H ρ n _ _ E P I  ?_;rintro w m v H1 ⟨l,e,r⟩ J g _;subst e;obtain⟨L,xs,rfl,B,O⟩:=J;exact⟨L,rfl,⟨xs,.of (zt _ _ B)⟩,k _ m _ H1 r (zm2 B O) g⟩
def zcU(K:AH)(F:X.K=K)(h:JE X Pn M fr e f):JI X Pn M false tg e (zwp f):=by obtain⟨te,q,r⟩:=h.ex;show⟨_,zrg K F q,⟨λA σ H ρ n Q R E P I k=>?_⟩⟩;show r.run A σ H ρ n _ _ E P I  ?_;rintro w m v H1 ⟨l,e,r⟩ J g _;subst e;obtain⟨L,xs,rfl,B,O⟩:=J;exact⟨L,rfl,⟨xs,.of (zt _ _ B)⟩,k _ m _ H1 r (zp1 B O) g⟩
def zjh (lo:Int)(n:Nat):AU:=(List.range n).map λi:Nat=>W.d (.int (lo+i))
def zp0{lo:Int}:ItV false A H (Itr lo n) (zjh lo n) where
 one:=λi w A2 H2 e s _ _=>by unfold zjh at e;rw[aq] at e;obtain⟨j,h1,rfl⟩:=aD.mp e;obtain⟨hi,h2⟩:=ac.mp h1;rw[bB] at h2;subst h2;rw[ay] at hi;show⟨hi,?_⟩;rintro y H3 ⟨q,B⟩;subst q B;exact⟨λ_ _ z=>z,Val.of rfl⟩
 stop:=λA2 H2 s _=>by
  change n<=(zjh lo n).length;unfold zjh;right
def zwo (fa:AC):AC:=λρ n Q=>fa ρ n λq m=>∃j:Int,q=[.d (.int j)]/\j<=1000000/\-1000000<=j/\Q (zjh 0 j.toNat) m
def yp(B:Gl X "range")(F:X.mg "range" = none)(I:JAB X Pn M [a] fs)(hs:starEach [a] X.env=[(false,eval a X.env)]:=by rfl):JI X Pn M false tg (.Call (.Name "range" p) [a] [] pos) (zwo fs):=by obtain⟨te,q,r⟩:=I.ex;show⟨_,zlA B F q hs,⟨λA σ H ρ n Q R E P J k=>?_⟩⟩;show r.run A σ H ρ n _ _ E P J  ?_;rintro U m vs H1 ⟨j,e,Y,Z,r⟩ L g;subst e;obtain⟨v,rfl,O⟩:=zcK L;obtain rfl:=yL O;exact⟨j,rfl,by lia,by lia,k _ m _ H1 r zp0 g⟩
def enW:Nat->AS->AU
 | _,[]=>[]
 | k,x::r=>.d (.tup [.int k,x])::enW (k+1) r
def zcP:∀ (l:AS) (k i:Nat),(enW k l)[i]?=(l[i]?).map λx=>W.d (.tup [.int ((k+i:Nat):Int),x])
 | [],_,_=>by simp[enW]
 | x::r,k,0=>by simp[enW]
 | x::r,k,i+1=>by have:=zcP r (k+1) i;simp only[enW,bC,this];rw[show k+1+i=k+(i+1) by lia]
def zgV:∀ (l:AS) (k:Nat),(enW k l).length=l.length
 | [],_=>rfl
 | x::r,k=>by rw[enW,aO,aO,zgV r]
def zwm (fa:AC):AC:=λρ n Q=>fa ρ n λq m=>∃l,q=[.d (.tup l)]/\Q (enW 0 l) m
def zm1(h:yb A H q=some (.tup xs))(B:IsL (yb A H) l xs):ItV false A H (Ite K q) (enW 0 l) where
 one:=λi w A2 H2 e s _ J=>by rw[zcP] at e;obtain⟨d,h1,rfl⟩:=aD.mp e;obtain⟨x,F,L⟩:=B.getD h1;have g:=zt _ _ (s.tup h);show⟨⟨xs,x,.of g,F⟩,?_⟩;rintro y H3 ⟨T,z,O,I,U,Y⟩;subst O U;have:=Y xs (.of g);rw[F] at this;cases this;have S:=yJ.upd (o:=.tup [.int i,x]) I;show⟨S,Val.of ⟨T,_,rfl,zE (J T I) zh,_,_,rfl,?_,_,_,rfl,(L.stay s).stay (zB.same (zam S)),rfl⟩⟩;change V.int (i:Int)=V.int ((0+i:Nat):Int);rw[Nat.zero_add]
 stop:=λA2 H2 s _=>⟨xs,.of (zt _ _ (s.tup h)),by rw[zgV,B.length];exact ah _⟩
def zp6{x1}(F:Gl X "enumerate")(I:X.mg "enumerate" = none)(J:JA X Pn M [a] fs)(hs:starEach [a] X.env=[(false,eval a X.env)]:=by rfl):JI X Pn M false (.Tuple elts x1 tpos) (.Call (.Name "enumerate" p) [a] [] pos) (zwm fs):=by obtain⟨te,q,r⟩:=J.ex;show⟨_,zrf F I q hs,⟨λA σ H ρ n Q R E P L k=>?_⟩⟩;show r.run A σ H ρ n _ _ E P L  ?_;rintro Z m vs H1 ⟨l,e,r⟩ O g;subst e;obtain⟨v,s,rfl,⟨U,xs,rfl,B,Y⟩,hs⟩:=O;cases hs;exact⟨U,rfl,⟨xs,.of (zt _ _ B)⟩,k _ m _ H1 r (zm1 B Y) g⟩
def ziW:AS->AS->AU
 | x::r,y::s=>.d (.tup [x,y])::ziW r s
 | _,_=>[]
def zfB (ρ:Ev)(cix:List (Option Nat)):Ev:=cix.map λo=>match o with
 | none=>none
 | some i=>(ρ[i]?).join
def xR (M:AR)(cix:List (Option Nat)):AR:=(List.range cix.length).filter λk=>match cix[k]? with
 | some (some i)=>M.contains i
 | _=>false
def zcB:k∈xR M cix↔∃i,cix[k]?=some (some i)/\i∈M:=by
 unfold xR;rw[bw,aU];constructor;rintro⟨h1,h2⟩;rw[ai h1] at h2 ⊢
 cases e:cix[k] with
 | none=>rw[e] at h2;cases h2
 | some i=>rw[e] at h2;exact⟨i,rfl,by simpa using h2⟩
 rintro⟨i,h1,h2⟩;exact⟨(ac.mp h1).1,by right⟩
def zbQ {α:Type}{l:List (Option α)}{cix:List (Option Nat)}{k:Nat}{x:α}:(cix.map λo=>match o with | none=>none | some i=>(l[i]?).join)[k]?=some (some x)↔∃i,cix[k]?=some (some i)/\l[i]?=some (some x):=by
 rw[aq]
 cases e:cix[k]? with
 | none=>simp
 | some o=>
  cases o with
  | none=>simp
  | some i=>
   simp only[Option.map_some,Option.some.injEq];constructor;intro h;show⟨i,rfl,?_⟩
   cases q:l[i]? with
   | none=>rw[q] at h;cases h
   | some z=>rw[q] at h;cases z with
    | none=>cases h
    | some y=>cases h;rfl
   right
def EnvR.cap(E:EnvR A M σ H ρ)(U:(cix.filterMap id).Nodup):EnvR A (xR M cix) (zcw σ cix) H (zfB ρ cix) where
 len:=by unfold zcw zfB;rw[ab,ab]
 val:=λk w e=>by
  obtain⟨i,h1,h2⟩:=zbQ.mp e;obtain⟨v,Y,Z,s3⟩:=E.val i w h2;show⟨v,zbQ.mpr ⟨i,h1,Y⟩,λz=>Z λy=>z (zcB.mpr ⟨i,h1,y⟩),λz=>?_⟩;obtain⟨j,h3,h4⟩:=zcB.mp z;right
 dis:=λk k' w u ad hk ag an e1 e2 Y Z=>by
  obtain⟨i,h1,h2⟩:=zbQ.mp e1;obtain⟨i',q,ap⟩:=zbQ.mp e2;obtain⟨j,h3,h4⟩:=zbQ.mp Y;obtain⟨j',F,as⟩:=zbQ.mp Z;rw[h1] at h3;cases h3;rw[q] at F;cases F;obtain⟨m,m1,m2⟩:=zcB.mp hk;rw[h1] at m1;cases m1;obtain⟨m',I,av⟩:=zcB.mp ag;rw[q] at I;cases I;show E.dis _ _ w u ad m2 av (λz=>?_) h2 ap h4 as;subst z
  have key:∀ (l:List (Option Nat)) (a b:Nat) (x:Nat),(l.filterMap id).Nodup->l[a]?=some (some x)->l[b]?=some (some x)->a=b:=by
   intro l
   induction l with
   | nil=>intro a b x _ h;simp at h
   | cons o l ih=>
    intro a b x U J L;have O:∀ (l:List (Option Nat)) (a:Nat),l[a]?=some (some x)->x∈l.filterMap id:=λl a h=>cR.mpr ⟨some x,ar h,rfl⟩
    cases o with
    | none=>
     have a0:(l.filterMap id).Nodup:=by simpa using U
     cases a with
     | zero=>simp at J
     | succ a=>
      cases b with
      | zero=>simp at L
      | succ b=>rw[ih a b x a0 (by simpa using J) (by simpa using L)]
    | some y=>
     have B:y∉l.filterMap id/\(l.filterMap id).Nodup:=by right
     cases a with
     | zero=>
      have a1:y=x:=by simpa using J
      subst a1
      cases b with
      | zero=>rfl
      | succ b=>exact absurd (O l b (by simpa using L)) B.1
     | succ a=>
      cases b with
      | zero=>
       have a2:y=x:=by simpa using L
       subst a2;exact absurd (O l a (by simpa using J)) B.1
      | succ b=>rw[ih a b x B.2 (by simpa using J) (by simpa using L)]
  exact an (key cix k k' _ U h1 q)
 al:=E.al
def EnvR.more {A:AL}{σ:St}{H H':Hp}{ρ:Ev}(E:EnvR A M σ H ρ){p:Addr}{o:HO}(s:zB H H')(n:Fr H p)(g:H' p=some o)(B:NP o)(F:Mt o):EnvR (λb=>A b\/b=p) M σ H' ρ where
 len:=E.len
 val:=λi w e=>by obtain⟨v,h1,h2,q⟩:=E.val i w e;show⟨v,h1,λz=>WAt.up (xl s n) (xl s n) (h2 z),λz=>?_⟩;obtain⟨a,e,I,J,L⟩:=q z;exact⟨a,e,.inl I,WAt.up s (xl s n) J,L⟩
 dis:=E.dis
 al:=λa h=>by
  rcases h with h | h;obtain⟨o,h1,h2,q⟩:=E.al a h;exact⟨o,s _ _ h1 h2,h2,q⟩;subst h;exact⟨o,g,B,F⟩
def EnvR.upd{A:AL}{σ:St}{H:Hp}{ρ:Ev}(E:EnvR A M σ H ρ){p:Addr}(Y:A p)(hn:∀i w,i∈M->ρ[i]?=some (some w)->σ[i]?≠some (some (.ref p)))(np:NP o)(nt:Mt o):EnvR A M σ (L2.upd H p o) ρ where
 len:=E.len
 val:=λi w e=>by
  obtain⟨v,h1,h2,h3⟩:=E.val i w e;show⟨v,h1,λz=>?_,λz=>?_⟩;change WAt _ _ _ _;rw[yz Y];exact h2 z;obtain⟨a,F,h4,L,U⟩:=h3 z;have J:a≠p:=λq=>hn i w z e (by rw[h1,F,q]);show⟨a,F,h4,?_,U⟩;change WAt _ _ _ _;rw[yz Y]
  cases w with
  | d x=>
   cases x with
   | lst l=>obtain⟨O,xs,B,I,g2⟩:=L;rw[F] at B;cases B;exact⟨a,xs,F,by rw[zg J];exact I,g2⟩
   | dct=>obtain⟨O,xs,B,I,g2⟩:=L;rw[F] at B;cases B;exact⟨a,xs,F,by rw[zg J];exact I,g2⟩
   | _=>cases U
  | pen p=>cases U
  | dk k=>obtain⟨O,xs,B,I,g2⟩:=L;rw[F] at B;cases B;exact⟨a,xs,F,by rw[zg J];exact I,g2⟩
  | dt k=>obtain⟨O,xs,B,I,g2⟩:=L;rw[F] at B;cases B;exact⟨a,xs,F,by rw[zg J];exact I,g2⟩
  | ss P w k=>obtain⟨O,xs,B,I,g2⟩:=L;rw[F] at B;cases B;exact⟨a,xs,F,by rw[zg J];exact I,g2⟩
  | df k=>obtain⟨O,ob,xs,B,I,g2⟩:=L;rw[F] at B;cases B;exact⟨a,ob,xs,F,by right,g2⟩
  | kf k=>obtain⟨O,ob,xs,B,I,g2⟩:=L;rw[F] at B;cases B;exact⟨a,ob,xs,F,by right,g2⟩
  | fl k=>obtain⟨O,ob,xs,B,I,g2⟩:=L;rw[F] at B;cases B;exact⟨a,ob,xs,F,by right,g2⟩
 dis:=E.dis
 al:=λa h=>by
  by_cases Z:a=p;subst Z;exact⟨o,zh,np,nt⟩;rw[zg Z];exact E.al a h
def uB.upd{A:AL}{H:Hp}{p:Addr}(h:uB Pn A n H)(B:A p):uB Pn A n (L2.upd H p o):=by
 show⟨?_,Pn.J.upd h.2 B⟩;have h:=h.1;split at h;trivial
 ·show⟨?_,h.2⟩;rename_i q c ns _;obtain⟨h1,h2,F⟩:=h;have I:c≠p:=λz=>h2 (z ▸ B);have L:q≠p:=λz=>F (z ▸ B);obtain⟨a,l,O,g2,U,Y⟩:=h1.ob;exact⟨⟨a,l,by rw[zg L];exact O,g2,U,Y⟩,by rw[zg I];exact h1.ls,h1.len⟩
end
structure JS (X:Cx)(Pn:PN)(S M:AR)(fr:Bool)(st:Stmt)(fs:Ms):Prop where
 ex:∃ts,QS X st ts/\RS Pn S M fr ts fs
structure JSs (X:Cx)(Pn:PN)(S M:AR)(fr:Bool)(st:List Stmt)(fs:Ms):Prop where
 ex:∃ts,QSs X st ts/\RS Pn S M fr ts fs
section
variable {X:Cx}{Pn:PN}{M S:AR}{fr fr':Bool}{e a b c:Expr}{es:AO}{f fa fb fc:AD}{pos p:Pos}
def uB.grow'(h:uB Pn A n H)(h':uB Pn A m H')(F:Fr H q)(g:H' q=some o)(B:NP o)(I:Mt o):uB Pn (λb=>A b\/b=q) m H':=by
 show⟨?_,Pn.J.grow h'.2 λa z=>z.imp_right λe=>⟨o,by rw[e];exact g,B,I⟩⟩;have h:=h.1;have h':=h'.1;revert h h'
 cases Pn.pn with
 | none=>exact λ_ _=>trivial
 | some x=>
  obtain⟨p,c,ns⟩:=x;intro h h';show⟨h'.1,λz=>z.elim h'.2.1 λz=>?_,λz=>z.elim h'.2.2 λz=>?_⟩;subst z;exact F _ h.1.ls NP.lst;subst z;obtain⟨a,l,e,_⟩:=h'.1.ob;rw[e] at g;cases g;have:=B _ rfl;rw[zqR] at this;cases this
def zn8(h:∀C s H ex,JE (zC X scope N C s H ex) Pn M fr e f):∃te,(∀C s H ex,QE (zC X scope N C s H ex) e te)/\RE Pn M fr te f:=
 ⟨λσ H Q=>∀C s H0 ex,(h C s H0 ex).ex.choose σ H Q,λC s H0 ex=>⟨λpins s' σ H Q I z=>(h C s H0 ex).ex.choose_spec.1.run pins s' σ H Q I (z C s H0 ex)⟩,
  ⟨λA σ H ρ n Q R E P q k C s H0 ex=>(h C s H0 ex).ex.choose_spec.2.run A σ H ρ n Q R E P q k⟩⟩
def zoa(h:∀C s H ex,JTs (zC X scope N C s H ex) Pn M es q):∃te,(∀C s H ex,QTs (zC X scope N C s H ex) es te)/\RT Pn M te q:=
 ⟨λσ H Q=>∀C s H0 ex,(h C s H0 ex).ex.choose σ H Q,λC s H0 ex=>⟨λpins s' σ H Q I z=>(h C s H0 ex).ex.choose_spec.1.run pins s' σ H Q I (z C s H0 ex)⟩,
  ⟨λA σ H ρ n Q R E P B k C s H0 ex=>(h C s H0 ex).ex.choose_spec.2.run A σ H ρ n Q R E P B k⟩⟩
def zn9(h:∀C s H ex,JG (zC X scope N C s H ex) S M e mg):∃g,(∀C s H ex,QG (zC X scope N C s H ex) e g)/\RG S M g mg:=
 ⟨λv σ H Q=>∀C s H0 ex,(h C s H0 ex).ex.choose v σ H Q,λC s H0 ex=>⟨λpins s' σ H v u Q I q z=>(h C s H0 ex).ex.choose_spec.1.run pins s' σ H v u Q I q (z C s H0 ex)⟩,
  ⟨λA σ H ρ v w Q R E B F k C s H0 ex=>(h C s H0 ex).ex.choose_spec.2.run A σ H ρ v w Q R E B F k⟩⟩
def zfD (mg:W->Ev->(Ev->Prop)->Prop)(O:Ev->Mo Bool)(U:AD)(J:Ev)(Q:AV):AU->Nat->Prop:=λl Y=>l.length<=lim/\∃I:Nat->Ev->Nat->AS->Prop,I 0 J Y []/\
 (∀i w q F acc,l[i]?=some w->I i q F acc->mg w q λB=>O B F λb L=>if b=true then U B L λx Z=>∃d,x = .d d/\I (i+1) B Z (acc++[d]) else I (i+1) B L acc)/\
 ∀ q F acc,I l.length q F acc->Q (.d (.lst acc)) F
abbrev zqg (q:AC) (mg:W->Ev->(Ev->Prop)->Prop) (B:Ev->Mo Bool) (F:AD) (cix:List (Option Nat)):AD:=λρ n Q=>q ρ n (zfD mg B F (zfB ρ cix) Q)
def zlJ(hn:(cix.filterMap id).Nodup)(hi:RI Pn M ow wi fi)(hg:RG (xR M cix) (xR M cix) g mg)(ht:RT Pn (xR M cix) ti ft)(he:RE Pn (xR M cix) fr' te fe):RE Pn M true (zl1 wi g ti te cix) (zqg fi mg ft fe cix):=⟨λA σ H ρ n Q R E P hf k=>by
 show hi.run A σ H ρ n _ _ E P hf λl m J H1 ⟨hz,I,i0,it,ie⟩ iv g1=>λacc B=>?_;have E1:=E.stay g1.st;have E2:=(E1.cap hn).more (zB.upd (o:=.lst []) B) (Fr.of B) zh NP.lst rfl;have P2:uB Pn (λb=>A b\/b=acc) m (L2.upd H1 acc (.lst [])):=g1.pn.grow' (g1.pn.same (yJ.upd B)) (Fr.of B) zh NP.lst rfl;have a2:∀k w,k∈xR M cix->(zfB ρ cix)[k]?=some (some w)->(zcw σ cix)[k]?≠some (some (.ref acc)):=λk w hk hw z=>by obtain⟨v,s1,_,s3⟩:=(E1.cap hn).val k w hw;obtain⟨a,e,hA,_⟩:=s3 hk;rw[z] at s1;cases s1;cases e;exact E1.new B hA
 have key:∀ L F H',EnvR (λb=>A b\/b=acc) (xR M cix) L H' F->(∀k∈xR M cix,L[k]?=(zcw σ cix)[k]?/\F[k]?=(zfB ρ cix)[k]?)->∀k w,k∈xR M cix->F[k]?=some (some w)->L[k]?≠some (some (.ref acc)):=λL F H' E' ap k w hk hw z=>by right
 show⟨λi mm L H'=>mm=l.length - i/\i<=l.length/\∃ F n' q xs,EnvR (λb=>A b\/b=acc) (xR M cix) L H' F/\uB Pn (λb=>A b\/b=acc) n' H'/\I i F n' q/\H' acc=some (.lst xs)/\IsL (yb (λb=>A b\/b=acc) H') q xs/\q.length<=i/\zB (yb A H1) (yb (λb=>A b\/b=acc) H')/\zB H1 H'/\(∀k∈xR M cix,L[k]?=(zcw σ cix)[k]?/\F[k]?=(zfB ρ cix)[k]?),
  ⟨l.length,by simp,aK _,_,m,[],[],E2,P2,i0,zh,rfl,ah _,xl (zB.upd B) (Fr.of B),zB.upd B,λk hk=>⟨rfl,rfl⟩⟩,?_⟩
 rintro i mm L H' ⟨rfl,a3,F,n',q,xs,E',P',hI,ad,U,a4,st,s1,ap⟩;by_cases av:i<l.length
 show Or.inr ?_;have an:l[i]?=some l[i]:=ai av;obtain⟨go,yl⟩:=iv.one i l[i] _ H' an st (λ_=>s1) λp hp=>E'.new hp
 show⟨go,λas H2=>∃ F n' q xs,EnvR (λb=>A b\/b=acc) (xR M cix) as H2 F/\uB Pn (λb=>A b\/b=acc) n' H2/\I (i+1) F n' q/\H2 acc=some (.lst xs)/\IsL (yb (λb=>A b\/b=acc) H2) q xs/\q.length<=i+1/\zB (yb A H1) (yb (λb=>A b\/b=acc) H2)/\zB H1 H2/\(∀k∈xR M cix,as[k]?=(zcw σ cix)[k]?/\F[k]?=(zfB ρ cix)[k]?),
  λas H2 h=>⟨l.length - (i+1),by lia,rfl,av,h⟩,λx H2 hy=>?_⟩
 obtain⟨S2,V2⟩:=yl x H2 hy;show hg.run _ L H2 F x l[i] _ _ (E'.stay (zB.same S2)) V2 (it i l[i] F n' q an hI) λag O r3 E3 f3=>?_;have Y:∀k∈xR M cix,ag[k]?=(zcw σ cix)[k]?/\O[k]?=(zfB ρ cix)[k]?:=λk hk=>⟨(f3 k hk).1.trans (ap k hk).1,(f3 k hk).2.trans (ap k hk).2⟩;show ht.run _ ag H2 O n' _ _ E3 (P'.same S2) r3 λb m3 H4 r4 g4=>?_;have Z:=(zB.same S2).trans g4.st
 cases b with
 | false=>
  rw[if_neg (by ext)] at r4 ⊢;exact⟨O,m3,q,xs,E3.stay g4.st,g4.pn,r4,Z.lst ad,U.stay (yg Z),by lia,st.trans (yg Z),s1.trans Z,Y⟩
 | true=>
  rw[if_pos rfl] at r4 ⊢;show he.run _ ag H4 O m3 _ _ (E3.stay g4.st) g4.pn r4  ?_;rintro w5 m5 v5 H5 ⟨d,e5,r5⟩ V5 g5 _;subst e5;have al:=Z.trans g5.st;have E5:=(E3.stay g4.st).stay g5.st;have a0:=al.lst ad;show⟨xs,a0,zdW (by rw[U.length];lia),O,m5,q++[d],xs++[v5],E5.upd (.inr rfl) (key ag O H5 E5 Y) NP.lst rfl,g5.pn.upd (.inr rfl),r5,zh,?_,by right,?_,?_,Y⟩;rw[yz (.inr rfl)];exact (U.stay (yg al)).append (IsL.one V5.is);rw[yz (.inr rfl)];exact st.trans (yg al);exact λb o e nn=>by rw[zg (zc e B)];exact s1.trans al b o e nn
 show Or.inl ?_;have a1:i=l.length:=by lia
 subst a1;show⟨iv.stop _ H' st (λ_=>s1),k _ n' _ H' (ie F n' q hI) (Val.of ⟨acc,xs,rfl,zE (E1.new B) ad,U.stay (zB.same (xB λb z=>.inl z))⟩) (g1.trans ⟨s1,P'.less λa z=>.inl z⟩) λ_=>⟨acc,rfl,(Fr.of B).back g1.st,acc,xs,rfl,ad,U⟩⟩⟩
abbrev zvk:Ev->Mo Bool:=λ_ n Q=>Q true n
def yV:JTs X Pn M [] zvk:=⟨_,zfa,⟨λA σ H ρ n Q R E P q k=>k true n H q (Go.refl P)⟩⟩
def zbX(h:JT X Pn M c q):JTs X Pn M [c] q:=let ⟨t,h1,h2⟩:=h.ex;⟨t,zlE h1,h2⟩
def xY(J:X.calm=true)(L:CompOk X scope N cix)(hi:JI X Pn M I tg iter q)(O:∀C s H ex,JG (zC X scope N C s H ex) (xR M cix) (xR M cix) tg mg)(U:∀C s H ex,JTs (zC X scope N C s H ex) Pn (xR M cix) ifs B)(Y:∀C s H ex,JE (zC X scope N C s H ex) Pn (xR M cix) fr' elt F)(Z:(cix.filterMap id).Nodup:=by ext)(hs:∀x,foldedSetIterable iter X.env x=pure x:=by intro _;rfl):JE X Pn M true (.ListComp elt [⟨tg,iter,ifs,0⟩] scope pos) (zqg q mg B F cix):=by
 obtain⟨ti,qi,ri⟩:=hi.ex;obtain⟨g,qg,rg⟩:=zn9 O;obtain⟨tt,qt,rt⟩:=zoa U;obtain⟨te,qe,re⟩:=zn8 Y;exact⟨_,ziu J L qi qg qt qe hs,zlJ Z ri rg rt re⟩
def zcz{ifs:AO}{scope:Scope}{N:AM}{cix:List (Option Nat)}{L:AC}{mg:W->Ev->(Ev->Prop)->Prop}{O:Ev->Mo Bool}{U:AD}{nx:Str}{px spos:Pos}(q:X.N.Nodup)(B:X.N[ix]?=some nx)(F:X.env.scope.names.lookup nx=some .local)(Z:X.calm=true)(cc:CompOk X scope N cix)(hi:JI X Pn M Y tg iter L)(hg:∀C s H ex,JG (zC X scope N C s H ex) (xR M cix) (xR M cix) tg mg)(ht:∀C s H ex,JTs (zC X scope N C s H ex) Pn (xR M cix) ifs O)(he:∀C s H ex,JE (zC X scope N C s H ex) Pn (xR M cix) fr' elt U)(hn:(cix.filterMap id).Nodup:=by ext)(I:swapsWithSole [.Name nx px] (.ListComp elt [⟨tg,iter,ifs,0⟩] scope pos) spos.line X.env=pure true:=by rfl)(hs:∀x,foldedSetIterable iter X.env x=pure x:=by intro _;rfl)(J:(assignEach [.Name nx px] X.env).map (·.2)=[assign (.Name nx px) X.env]:=by rfl):∃te,QS X (.Assign [.Name nx px] (.ListComp elt [⟨tg,iter,ifs,0⟩] scope pos) spos) (zgK te (zag ix))/\RE Pn M true te (zqg L mg O U cix):=by
 obtain⟨ti,qi,ri⟩:=hi.ex;obtain⟨g,qg,rg⟩:=zn9 hg;obtain⟨tt,qt,rt⟩:=zoa ht;obtain⟨te,qe,re⟩:=zn8 he;exact⟨_,zrj q B F Z cc qi qg qt qe I hs J,zlJ hn ri rg rt re⟩
def At3.step(h:At3 Pn B S M A σ H ρ n)(g:Go Pn A H m H'):At3 Pn B S M A σ H' ρ m where
 env:=h.env.stay g.st
 frm:=⟨h.frm.sub,h.frm.new,λb o e n c=>g.st b o (h.frm.st b o e n c) n,h.frm.al,h.frm.cn,λa z=>let ⟨o,e,n⟩:=h.frm.cs a z;⟨o,g.st a o e n,n⟩⟩
 pn:=g.pn
 prot:=h.prot.trans (yg g.st)
 fix:=h.fix
 mine:=h.mine
abbrev mRet (f:AD):Ms:=λρ n k=>f ρ n k.rt
def zuo(h:RE Pn M fr te f):RS Pn S M fr (zuF te) (mRet f):=⟨λB A σ H ρ n k D a F I=>by
 show h.run A σ H ρ n _ _ a.env a.pn I λw m v H' r J g L=>?_;have O:=a.step g;exact F.rt w m v H' (WAt.up (zB.same (xB a.frm.sub)) (zB.same (xB a.frm.sub)) J) O.frm.st (g.pn.less a.frm.sub) (λz=>by obtain⟨b,e,q,U⟩:=L z;exact FrV.less ⟨b,e,a.frm.back q (a.env.newF q),U⟩ a.frm.sub) r⟩
def zI (h:JE X Pn M fr e f):JS X Pn S M fr (.Return (some e) pos) (mRet f):=let ⟨te,q,r⟩:=h.ex;⟨_,uY q,zuo r⟩
def zqr (i:Nat):Ms:=λρ n k=>∃w,ρ[i]?=some (some w)/\k.rt w n
def zrw(hi:i∈M):RS Pn S M fr (zuF (zbL i)) (zqr i):=⟨by
 rintro B A σ H ρ n k D a kk ⟨w,e,r⟩;obtain⟨v,s1,_,s3⟩:=a.env.val i w e;obtain⟨F,rfl,hA,L,hm⟩:=s3 hi;have Z:=a.mine i w F hi e s1
 have O:¬ B.A0 F:=λz=>by
  rcases Z with Z | Z;obtain⟨o,o1,o2,_⟩:=a.frm.al F z;exact Z o o1 o2;exact a.frm.cn F Z z
 have q:yJ (yb A H) (yb B.A0 H):=xB a.frm.sub;have U:yJ (yb A H) (yb (λb=>B.A0 b\/b=F) H):=xB λb z=>z.elim (a.frm.sub b) λz=>z ▸ hA;show⟨.ref F,s1,kk.rt w n (.ref F) H ?_ a.frm.st (a.pn.less a.frm.sub) (λz=>⟨F,rfl,Z.resolve_right (kk.fc F),WAt.up (zB.refl _) (zB.same U) L⟩) r⟩
 cases w with
 | d x=>
  cases x with
  | lst l=>obtain⟨Y,xs,I,J,g2⟩:=L;cases I;exact⟨F,xs,rfl,zE O J,g2.stay (zB.same q)⟩
  | dct=>obtain⟨Y,xs,I,J,g2⟩:=L;cases I;exact⟨F,xs,rfl,zE O J,g2⟩
  | _=>cases hm
 | pen p=>cases hm
 | dk kvs=>obtain⟨Y,xs,I,J,g2,g3⟩:=L;cases I;exact⟨F,xs,rfl,zE O J,g2.stay (zB.same q),g3⟩
 | dt kvs=>obtain⟨Y,xs,I,J,g2⟩:=L;cases I;exact⟨F,xs,rfl,zE O J,g2.stay (zB.same q)⟩
 | ss P w kvs=>obtain⟨Y,xs,I,J,g2⟩:=L;cases I;exact⟨F,xs,rfl,zE O J,g2.stay (zB.same q)⟩
 | kf kvs=>obtain⟨Y,ob,xs,I,J,g2⟩:=L;cases I;exact⟨F,ob,xs,rfl,zE O J,g2.stay (zB.same q)⟩
 | fl kvs=>obtain⟨Y,ob,xs,I,J,g2⟩:=L;cases I;exact⟨F,ob,xs,rfl,zE O J,g2.stay (zB.same q)⟩
 | df kvs=>obtain⟨Y,ob,xs,I,J,g2⟩:=L;cases I;exact⟨F,ob,xs,rfl,zE O J,g2.stay (zB.same q)⟩⟩
def za3 (i:Nat){x:Str}(hi:i∈M:=by ext)(B:X.N[i]?=some x:=by rfl)(F:Vis X.env.scope x:=by walk_at "v")(I:Ah x:=by ext)
  (q:(x==("__classdict__" : Str))=false:=by ext) {pos':Pos}:JS X Pn S M fr (.Return (some (.Name x pos)) pos') (zqr i):=⟨_,uY (qv i B F I q),zrw hi⟩
abbrev zqf (f:AD) (mg:W->Ev->(Ev->Prop)->Prop):Ms:=λρ n k=>f ρ n λw m=>mg w ρ λq=>k.nx q m
def EnvR.mineG(a:At3 Pn B S M A σ H ρ n)(E:EnvR A M q H F)(f:∀i∈S++M,q[i]?=σ[i]?/\F[i]?=ρ[i]?):At3 Pn B S M A q H F n where
 env:=E
 frm:=a.frm
 pn:=a.pn
 prot:=a.prot
 fix:=λi hi=>(f i (aI.mpr (.inl hi))).1.trans (a.fix i hi)
 mine:=λi w I hi e s=>by obtain⟨J,L⟩:=f i (aI.mpr (.inr hi));rw[J] at s;rw[L] at e;exact a.mine i w I hi e s
def zlN(h:RE Pn M fr' te f)(J:RG (S++M) M g mg):RS Pn S M fr (zgK te g) (zqf f mg):=⟨λB A σ H ρ n k D a L O=>by show h.run A σ H ρ n _ _ a.env a.pn O λw m v H' r U g' _=>?_;have I:=a.step g';exact J.run A σ H' ρ v w _ _ I.env U r λq F Y E2 Z=>L.nx A q H' F m (EnvR.mineG I E2 Z) Y⟩
def zD {i:Nat}{x:Str}{pos':Pos}(I:X.N.Nodup)(J:JE X Pn M fr' e f)(hi:X.N[i]?=some x:=by rfl)(L:Loc X.env.scope x:=by first | exact Or.inl rfl | exact Or.inr rfl)(B:i∉M:=by ext)(F:i∉S++M:=by ext)(hs:swapsWith e (some (.Name x pos')) pos.line X.env=pure false:=by rfl)(O:X.fn x=true\/X.env.scope.names.lookup x=some .local:=by walk_at "l") :
  JS X Pn S M fr (.Assign [.Name x pos'] e pos) (zqf f (gN i)):=let ⟨te,q,r⟩:=J.ex;⟨_,ua I hi L q hs O,zlN r (zfb B F)⟩
def zkO{st:Stmt}(h:∃te,QS X st (zgK te (zag i))/\RE Pn M true te f)(B:i∉M:=by ext)(F:i∉S++M:=by ext):JS X Pn S M fr st (zqf f (gN i)):=let ⟨te,q,r⟩:=h;⟨_,q,zlN r (zfb B F)⟩
def zoz(B:JE X Pn M fr' e f)(F:JG X (S++M) M tg mg)(hs:swapsWithSole [tg] e pos.line X.env=pure false:=by rfl)(I:swappedStores [tg] e X.env=pure none:=by rfl)(h1:(assignEach [tg] X.env).map (·.2)=[assign tg X.env]:=by rfl):JS X Pn S M fr (.Assign [tg] e pos) (zqf f mg):=let ⟨te,q,r⟩:=B.ex;let ⟨g,q2,r2⟩:=F.ex;⟨_,zoV q q2 hs I h1,zlN r r2⟩
def zs8 (i:Nat)(f:AD):Ms:=λρ n k=>f ρ n λw m=>w.mut=true/\k.nx (ρ.set i (some w)) m
def zld(h:WAt T G w v)(hm:w.mut=true):∃a o,v = .ref a/\T a=some o/\NP o/\Mt o:=by
 cases w with
 | d x=>
  cases x with
  | lst l=>obtain⟨a,xs,e,g1,_⟩:=h;exact⟨a,_,e,g1,NP.lst,rfl⟩
  | dct=>obtain⟨a,xs,e,g1,g2⟩:=h;exact⟨a,_,e,g1,λk z=>by cases z;exact g2,rfl⟩
  | _=>cases hm
 | pen p=>cases hm
 | dk kvs=>obtain⟨a,xs,e,g1,_,g3⟩:=h;exact⟨a,_,e,g1,λk z=>by cases z;exact g3,rfl⟩
 | dt kvs=>obtain⟨a,xs,e,g1,_⟩:=h;exact⟨a,_,e,g1,(λk z=>by cases z),rfl⟩
 | ss P w kvs=>obtain⟨a,xs,e,g1,_⟩:=h;exact⟨a,_,e,g1,zih,rfl⟩
 | df kvs=>cases hm
 | kf kvs=>cases hm
 | fl kvs=>cases hm
def zoZ(h:RE Pn M true te f)(hi:i∈M)(hs:i∉S):RS Pn S M fr (zgK te (zag i)) (zs8 i f):=⟨λB A σ H ρ n k D a kk hf=>by
 show h.run A σ H ρ n _ _ a.env a.pn hf  ?_;rintro w m v H' ⟨hm,r⟩ hv g' ag;obtain⟨Y,rfl,O,hb⟩:=ag rfl;obtain⟨a2,o,U,ho,np,nt⟩:=zld hb hm;cases U;have E1:=a.env.more g'.st O ho np nt;have Z:¬ A Y:=a.env.newF O;show kk.nx (λb=>A b\/b=Y) _ H' _ m ⟨⟨?_,?_,?_,E1.al⟩,⟨λb z=>.inl (a.frm.sub b z),λb z=>?_,λb o e n c=>g'.st b o (a.frm.st b o e n c) n,a.frm.al,a.frm.cn,λb z=>let ⟨o,e,n⟩:=a.frm.cs b z;⟨o,g'.st b o e n,n⟩⟩,a.pn.grow' g'.pn O ho np nt,a.prot.trans (xl g'.st O),λj I=>?_,λj u b I e s=>?_⟩ r;rw[bh,bh];exact a.env.len;intro j u e;by_cases I:j=i;subst I
 have J:j<ρ.length:=by
  have:=(ac.mp e).1;right
 rw[aM J] at e;cases e;exact⟨.ref Y,aM (by rw[a.env.len];exact J),λz=>absurd hi z,λ_=>⟨Y,rfl,.inr rfl,hb,hm⟩⟩;rw[ax (Ne.symm I)] at e ⊢;exact E1.val j u e;intro j l u u' b I J L e1 U s1 s2
 have an:∀q u,q∈M->q≠i->ρ[q]?=some (some u)->σ[q]?≠some (some (.ref Y)):=λq u hq av eq sq=>by
  obtain⟨v,s,_,s3⟩:=a.env.val q u eq;obtain⟨c,ec,hc,_⟩:=s3 hq;right
 have ap:∀q (u:W),(ρ.set i (some w))[q]?=some (some u)->q<σ.length:=λq u e=>by have:=(ac.mp e).1;rw[bh] at this;rw[a.env.len];exact this
 by_cases F:j=i;subst F;rw[aM (ap _ _ e1)] at s1;cases s1;rw[ax L] at U s2;exact an l u' J (Ne.symm L) U s2;rw[ax (Ne.symm F)] at e1 s1;by_cases as:l=i;right;rw[ax (Ne.symm as)] at U s2;exact a.env.dis j l u u' b I J L e1 U s1 s2;rcases z with z | z;exact a.frm.new b z;subst z;exact .inr (.inl (a.frm.back O Z));rw[ax λ(z:i=j)=>hs (by rw[z];exact I)];exact a.fix j I;by_cases F:j=i;subst F
 have J:j<σ.length:=by
  have:=(ac.mp s).1;right
 rw[aM J] at s;cases s;exact .inl (a.frm.back O Z);rw[ax (Ne.symm F)] at e s;exact a.mine j u b I e s⟩
def xC {i:Nat}{x:Str}{pos':Pos}(I:X.N.Nodup)(J:JE X Pn M true e f)(hi:X.N[i]?=some x:=by rfl)(L:Loc X.env.scope x:=by first | exact Or.inl rfl | exact Or.inr rfl)(B:i∈M:=by ext)(F:i∉S:=by ext)(hs:swapsWith e (some (.Name x pos')) pos.line X.env=pure false:=by rfl)(O:X.fn x=true\/X.env.scope.names.lookup x=some .local:=by walk_at "l") :
  JS X Pn S M fr (.Assign [.Name x pos'] e pos) (zs8 i f):=let ⟨te,q,r⟩:=J.ex;⟨_,ua I hi L q hs O,zoZ r B F⟩
def zhe{st:Stmt}(h:∃te,QS X st (zgK te (zag i))/\RE Pn M true te f)(B:i∈M:=by ext)(F:i∉S:=by ext):JS X Pn S M fr st (zs8 i f):=let ⟨te,q,r⟩:=h;⟨_,q,zoZ r B F⟩
variable {st:Stmt}{sts:List Stmt}{fs gs:Ms}
abbrev mNx:Ms:=λρ n k=>k.nx ρ n
structure blk (g:Ms)(ρ:Ev)(n:Nat)(k:Kt):Prop where
 go:g ρ n k
def zsi(h:g ρ n k):blk g ρ n k:=⟨h⟩
def zsh:blk g ρ n k=g ρ n k:=propext ⟨λh=>h.go,λh=>⟨h⟩⟩
abbrev mSeq (f g:Ms):Ms:=λρ n k=>f ρ n { k with nx:=λq B=>blk g q B k }
def zwk (t:Ev->Mo Bool)(f g:Ms):Ms:=λρ n k=>t ρ n λc m=>if c=true then blk f ρ m k else blk g ρ m k
def zy:JSs X Pn S M fr [] mNx:=⟨_,zdc,⟨λB A σ H ρ n k D a q F=>q.nx A σ H ρ n a F⟩⟩
def zup(h1:RS Pn S M fr t fs)(h2:RS Pn S M fr u gs):RS Pn S M fr (zrL t u) (mSeq fs gs):=⟨λB A σ H ρ n k D a F L=>
 h1.run B A σ H ρ n { k with nx:=λq I=>blk gs q I k } _ a ⟨λA' J H' q I O r=>h2.run B A' J H' q I k D O F r.go,F.bk,F.ct,F.fc,F.rt⟩ L⟩
def zb (h1:JS X Pn S M fr st fs)(h2:JSs X Pn S M fr sts gs):JSs X Pn S M fr (st::sts) (mSeq fs gs):=let ⟨t,q,r⟩:=h1.ex;let ⟨u,q2,r2⟩:=h2.ex;⟨_,zW q q2,zup r r2⟩
def ze (h1:JS X Pn S M fr st fs):JSs X Pn S M fr [st] fs:=let ⟨t,q,r⟩:=h1.ex;⟨_,xq q,r⟩
def zZ(I:JT X Pn M c t)(J:JSs X Pn S M fr body fs)(L:JSs X Pn S M fr q gs):JS X Pn S M fr (.If c body q pos) (zwk t fs gs):=by
 obtain⟨tc,O,U⟩:=I.ex;obtain⟨ta,Y,Z⟩:=J.ex;obtain⟨tb,qb,rb⟩:=L.ex;show⟨_,zlD O Y qb,⟨λB A σ H ρ n k D a F hf=>?_⟩⟩;show U.run A σ H ρ n _ _ a.env a.pn hf λc m H1 r g=>?_
 cases c with
 | true=>rw[if_pos rfl] at r ⊢;exact Z.run B A σ H1 ρ m k D (a.step g) F r.go
 | false=>rw[if_neg (by ext)] at r ⊢;exact rb.run B A σ H1 ρ m k D (a.step g) F r.go
abbrev mDrop (f:AD):Ms:=λρ n k=>f ρ n λ_ m=>k.nx ρ m
def At3.wr(h:At3 Pn B S M A σ H ρ n)(hi:i∈M)(e:ρ[i]?=some (some w))(s:σ[i]?=some (some (.ref O)))(hl:IsL (yb A H) l xs):At3 Pn B S M A σ (L2.upd H O (.lst xs)) (ρ.set i (some (.d (.lst l)))) n:=by
 obtain⟨v,s1,_,s3⟩:=h.env.val i w e;rw[s] at s1;cases s1;obtain⟨Y,F,hA,_,_⟩:=s3 hi;cases F;have ag:i<ρ.length:=(ac.mp e).1
 have hE:EnvR A M σ (L2.upd H O (.lst xs)) (ρ.set i (some (.d (.lst l)))):=by
  show⟨by rw[bh];exact h.env.len,λj u Z=>?_,λj q u u' b hj hq I e1 F=>?_,λb hb=>?_⟩;by_cases hj:j=i;subst hj;rw[aM ag] at Z;cases Z;exact⟨.ref O,s,λz=>absurd hi z,λ_=>⟨O,rfl,hA,⟨O,xs,rfl,zh,by rw[yz hA];exact hl⟩,rfl⟩⟩;rw[ax (Ne.symm hj)] at Z;obtain⟨v,t1,t2,t3⟩:=h.env.val j u Z;show⟨v,t1,λz=>?_,λz=>?_⟩;change WAt _ _ _ _;rw[yz hA];exact t2 z;obtain⟨b,rfl,hb,J,hm⟩:=t3 z;have I:b≠O:=λq=>h.env.dis i j w u O hi z (Ne.symm hj) e Z s (by rw[t1,q]);show⟨b,rfl,hb,?_,hm⟩;change WAt _ _ _ _;rw[yz hA]
  cases u with
  | d x=>
   cases x with
   | lst l=>obtain⟨Y,xs,F,L,g2⟩:=J;cases F;exact⟨b,xs,rfl,by rw[zg I];exact L,g2⟩
   | dct=>obtain⟨Y,xs,F,L,g2⟩:=J;cases F;exact⟨b,xs,rfl,by rw[zg I];exact L,g2⟩
   | _=>cases hm
  | pen p=>cases hm
  | dk k=>obtain⟨Y,xs,F,L,g2⟩:=J;cases F;exact⟨b,xs,rfl,by rw[zg I];exact L,g2⟩
  | dt k=>obtain⟨Y,xs,F,L,g2⟩:=J;cases F;exact⟨b,xs,rfl,by rw[zg I];exact L,g2⟩
  | ss P w k=>obtain⟨Y,xs,F,L,g2⟩:=J;cases F;exact⟨b,xs,rfl,by rw[zg I];exact L,g2⟩
  | df k=>obtain⟨Y,ob,xs,F,L,g2⟩:=J;cases F;exact⟨b,ob,xs,rfl,by right,g2⟩
  | kf k=>obtain⟨Y,ob,xs,F,L,g2⟩:=J;cases F;exact⟨b,ob,xs,rfl,by right,g2⟩
  | fl k=>obtain⟨Y,ob,xs,F,L,g2⟩:=J;cases F;exact⟨b,ob,xs,rfl,by right,g2⟩
  have an:∀q (u:W),(ρ.set i (some (.d (.lst l))))[q]?=some (some u)->∃u',ρ[q]?=some (some u'):=λq u z=>by
   by_cases hq:q=i;subst hq;exact⟨w,e⟩;rw[ax (Ne.symm hq)] at z;exact⟨u,z⟩
  obtain⟨v1,f1⟩:=an j u e1;obtain⟨v2,f2⟩:=an q u' F;exact h.env.dis j q v1 v2 b hj hq I f1 f2;by_cases U:b=O;subst U;exact⟨_,zh,NP.lst,rfl⟩;rw[zg U];exact h.env.al b hb
 show⟨hE,⟨h.frm.sub,h.frm.new,λb o eb nn nc=>?_,h.frm.al,h.frm.cn,λb z=>(by
  by_cases U:b=O;subst U;exact⟨_,zh,NP.lst⟩;rw[zg U];exact h.frm.cs b z)⟩,h.pn.upd hA,by rw[yz hA];exact h.prot,h.fix,λj u b hj Z sj=>?_⟩
 have I:b≠O:=λq=>by
  subst q;rcases h.mine i w b hi e s with z | z;exact z o eb nn;exact nc z
 rw[zg I];exact h.frm.st b o eb nn nc;by_cases ap:j=i;subst ap;exact h.mine j w b hj e sj;rw[ax (Ne.symm ap)] at Z;exact h.mine j u b hj Z sj
def zvj (i:Nat)(f:AD):Ms:=λρ n k=>(∃l,ρ[i]?=some (some (.d (.lst l))))/\f ρ n λw m=>∃l d,ρ[i]?=some (some (.d (.lst l)))/\w = .d d/\l.length<lim/\k.nx (ρ.set i (some (.d (.lst (l++[d]))))) m
def zul(h:RE Pn M fr' te f)(hi:i∈M):RS Pn S M fr (zrI (tBM K "list" zhz (zbL i) (za8 te zpb))) (zvj i f):=⟨by
 rintro B A σ H ρ n k D a U ⟨⟨l0,Y⟩,Z⟩;obtain⟨v,q,_,s3⟩:=a.env.val i _ Y;obtain⟨I,rfl,hA,hb,_⟩:=s3 hi;obtain⟨a2,ag,e2,g0,_⟩:=hb;cases e2;show⟨.ref I,q,.inl ⟨rfl,_,SqL.of g0⟩,?_⟩;show h.run A σ H ρ n _ _ a.env a.pn Z  ?_;rintro w m v H' ⟨l,d,e,ed,hz,r⟩ hv g _;subst ed;have J:=a.step g;obtain⟨v2,L,_,t3⟩:=J.env.val i _ e;rw[q] at L;cases L;obtain⟨a3,e3,al,F,_⟩:=t3 hi;cases e3;obtain⟨a4,xs,e4,g4,O⟩:=F;cases e4;exact⟨I,xs,v,rfl,rfl,g4,zdW (by rw[O.length];exact bW hz),U.nx A σ _ _ m (J.wr hi e q (O.append (IsL.one hv.is))) r⟩⟩
def zbn (i:Nat){x:Str}{Y J sp L:Pos}(he:JE X Pn M fr' e f)(hi:i∈M:=by ext)(hN:X.N[i]?=some x:=by rfl)(hv:Vis X.env.scope x:=by walk_at "v")(hd:Ah x:=by ext)
  (Z:(x==("__classdict__" : Str))=false:=by ext) (O:starEach (e::[]) X.env=(false,eval e X.env)::starEach [] X.env:=by rfl) (hs:swapsWith (.Call (.Attribute (.Name x L) "append" Y) [e] [] J) none sp.line X.env=pure false:=by rfl) (F:attributeBase (.Name x L) "append" X.env (eval (.Name x L) X.env)=eval (.Name x L) X.env:=by rfl) (I:(Y.endLine==J.line)=true:=by rfl)
  (U:((backTo J (starEach [e] X.env)).all (λx=>!x.1)&&(backToKw J (keywordEach [] X.env)).all (λx=>x.1.isSome)&&decide (([e]:AO).length+([]:List Keyword).length+(if ([]:List Keyword).isEmpty then 0 else 1)<30))=true:=by rfl) (B:(backTo J (starEach [] X.env)).any (·.1)=false:=by rfl) :
  JS X Pn S M fr (.Expr (.Call (.Attribute (.Name x L) "append" Y) [e] [] J) sp) (zvj i f):=by
 obtain⟨te,q,r⟩:=he.ex;exact⟨_,ze9 (zt0 (qv i hN hv hd Z) (zG q ye O) F U I O B) hs,zul r hi⟩
def zsJ (mg:W->Ev->(Ev->Prop)->Prop)(fb:Ms)(ρ:Ev)(k:Kt):AU->Nat->Prop:=λl J=>∃I:Nat->Ev->Nat->Prop,I 0 ρ J/\
 (∀i w q B,l[i]?=some w->I i q B->mg w q λF=>fb F B { k with nx:=I (i+1),ct:=I (i+1),bk:=k.nx })/\∀ q B,I l.length q B->k.nx q B
abbrev mFor (q:AC) (mg:W->Ev->(Ev->Prop)->Prop) (fb:Ms):Ms:=λρ n k=>q ρ n (zsJ mg fb ρ k)
def zum {wi:TI}{g:TG}{tb:TS}{fi:AC}{mg:W->Ev->(Ev->Prop)->Prop}{fb:Ms}(hi:RI Pn M false wi fi)(hg:RG (S++M) M g mg)(hb:RS Pn S M fr tb fb):RS Pn S M fr (zw3 wi g tb) (mFor fi mg fb):=⟨λB A σ H ρ n k D a kk hf=>by
 show hi.run A σ H ρ n _ _ a.env a.pn hf  ?_;rintro l m J H1 ⟨I,i0,it,ie⟩ iv g1;have a1:=a.step g1;have ad:∀ {A':AL} {L:St} {H':Hp} {F:Ev} {O:Nat},At3 Pn { B with G0:=yb A H1 } S M A' L H' F O->At3 Pn B S M A' L H' F O:=λ{A' L H' F O} q=>⟨q.env,q.frm,q.pn,a1.prot.trans q.prot,q.fix,q.mine⟩;show⟨λi mm L H'=>mm=l.length - i/\i<=l.length/\∃A' F O,At3 Pn { B with G0:=yb A H1 } S M A' L H' F O/\I i F O,⟨l.length,by simp,aK _,A,ρ,m,⟨a1.env,a1.frm,a1.pn,zB.refl _,a1.fix,a1.mine⟩,i0⟩,?_⟩;rintro i mm L H' ⟨rfl,av,A',F,O,a',hI⟩;by_cases ag:i<l.length
 show Or.inr ?_;have Y:l[i]?=some l[i]:=ai ag;obtain⟨go,yl⟩:=iv.one i l[i] A' H' Y a'.prot (λz=>by cases z) λp hp=>a'.env.new hp;show⟨go,λal H2=>∃A' F O,At3 Pn { B with G0:=yb A H1 } S M A' al H2 F O/\I (i+1) F O,λal H2 h=>⟨l.length - (i+1),by lia,rfl,ag,h⟩,λx H2 hy=>?_⟩;obtain⟨S2,V2⟩:=yl x H2 hy;have a2:=a'.step (Go.same a'.pn S2);show hg.run A' L H2 F x l[i] _ _ a2.env V2 (it i l[i] F O Y hI) λan ap r3 E3 f3=>?_;show hb.run { B with G0:=yb A H1 } A' an H2 ap O _ _ (EnvR.mineG a2 E3 f3) ⟨?_,?_,?_,kk.fc,?_⟩ r3
 exact λA4 Z H4 U n4 a4 r4=>⟨A4,U,n4,a4,r4⟩;exact λA4 Z H4 U n4 a4 r4=>kk.nx A4 Z H4 U n4 (ad a4) r4;exact λA4 Z H4 U n4 a4 r4=>⟨A4,U,n4,a4,r4⟩;exact kk.rt;show Or.inl ?_;have as:i=l.length:=by lia
 subst as;exact⟨iv.stop A' H' a'.prot (λz=>by cases z),kk.nx A' L H' F O (ad a') (ie F O hI)⟩⟩
def yq {tg iter:Expr}{body:List Stmt}{q:AC}{mg:W->Ev->(Ev->Prop)->Prop}{fb:Ms}(B:PassesOwn (model X.prog X.w) X.A X.env X.xe)(F:X.calm=true)(hi:JI X Pn M false tg iter q)(I:JG X (S++M) M tg mg)(J:JSs X Pn S M fr body fb)(hs:∀x,foldedSetIterable iter X.env x=pure x:=by intro _;rfl) :
  JS X Pn S M fr (.For tg iter body [] pos) (mFor q mg fb):=by
 obtain⟨ti,L,O⟩:=hi.ex;obtain⟨U,Y,Z⟩:=I.ex;obtain⟨tb,qb,rb⟩:=J.ex;exact⟨_,zlC B F L Y qb hs,zum O Z rb⟩
def xJ (N:AM)(q:AU):Ev:=q.map some++List.replicate (N.length - q.length) none
def zaY.get:∀ {q:AU} {vs:AT} {i:Nat} {w:W},zaY A H q vs->q[i]?=some w->∃v,vs[i]?=some v/\Val A H w v
 | [],_,_,_,_,e=>by simp at e
 | x::q,vs,0,w,⟨v,r,B,h1,_⟩,e=>by right
 | x::q,vs,i+1,w,⟨v,r,B,_,h2⟩,e=>by
  subst B;obtain⟨u,F,I⟩:=zaY.get (i:=i) h2 (by simpa using e);right
def zkc {A:AL}{H:Hp}{N:AM}{ws:AU}{vs:AT}(al:Al A H)(h:zaY A H ws vs)(hM:∀i∈M,ws.length<=i):EnvR A M (L2.xi N vs) H (xJ N ws) where
 len:=by unfold L2.xi xJ;rw[ak,ak,ab,ab,List.length_replicate,List.length_replicate,h.len]
 val:=λi w e=>by
  unfold xJ at e
  have hi:i<ws.length:=by
   apply bJ;intro z;rw[bi (by right)] at e;obtain⟨_,q⟩:=ac.mp e;right
  rw[bf (by right),aq] at e;obtain⟨w',e1,e2⟩:=aD.mp e;cases e2;obtain⟨v,h1,h2⟩:=h.get e1;show⟨v,?_,λ_=>h2,λz=>absurd (hM i z) (by lia)⟩;unfold L2.xi;have hi':i<vs.length:=by rw[h.len];exact hi
  rw[bf (by right),aq,h1];rfl
 dis:=λi j w u ad hi hj hne e1=>by
  unfold xJ at e1;have:=hM i hi;rw[bi (by right)] at e1;obtain⟨_,q⟩:=ac.mp e1;right
 al:=al
def zth{P:Aa}{w:Ab}{K:AH}{mg:AI}{base:Heap}{J:Str}{f:Addr}{fd:Ac}{N ps:AM}{F:PN->AU->Mo W}(M:AR)(Z:(∀vs H Q E,spV m fr F vs H Q E->vs.length=ps.length)->(∀ (I:Value) (A:Ae) (B:List Env) (s:AZ) (H:Hp) (vs:AT) (Q:VK) (E:XK),Room k (A.deeper (PyProof.Rows.envOfC J (zd st) s.heap.objs.size f I))->spV m fr F vs H Q E->
   ∃t,QSs (zdN CX0 P w K mg base N J (zd st) f I A B s H E).nox (zJ st) t/\t { nx:=λ_ H'=>Q .non H',rt:=Q } (L2.xi N vs) H)->FnOk P w K mg base CX0 (k+1) f fd ps (spV m fr F))(hm:m=ps.length)(hM:∀i∈M,m<=i)(L:∀ (I:Value) (A:Ae) (B:List Env) (s:AZ) (H:Hp) (E:XK) (Pn:PN),Room k (A.deeper (PyProof.Rows.envOfC J (zd st) s.heap.objs.size f I))->
   ∃fs,JSs (zdN CX0 P w K mg base N J (zd st) f I A B s H E).nox Pn [] M fr (zJ st) fs/\∀O n R,O.length=m->F Pn O n R->fs (xJ N O) n { nx:=λ_ Y=>fr=false/\R (.d .non) Y,rt:=R }):FnOk P w K mg base CX0 (k+1) f fd ps (spV m fr F):=by
 show Z (λvs H Q E h=>?_) (λI A B s H vs Q E hr h=>?_);obtain⟨Pn,A,O,n,R,_,hv,hl,_⟩:=h;rw[hv.len,hl,hm];obtain⟨Pn,A3,O,n,R,al,hv,hl,hp,hF,q⟩:=h;obtain⟨fs,⟨t,qs,rs⟩,ad⟩:=L I A B s H E Pn hr;show⟨t,qs,rs.run { A0:=A3,H0:=H,G0:=yb A3 H,σ0:=L2.xi N vs } A3 (L2.xi N vs) H (xJ N O) n _ _ ⟨zkc al hv (λi hi=>by right),⟨λ_ z=>z,λ_ z=>.inl z,.of (zB.refl _),al,λ_ z=>z.elim,λ_ z=>z.elim⟩,hp,zB.refl _,λi hi=>rfl,λi w a hi e=>?_⟩ ⟨?_,?_,?_,λ_ z=>z,?_⟩ (ad O n R hl hF)⟩;exact absurd e (by unfold xJ;have:=hM i hi;rw[bi (by right)];intro z;obtain⟨_,q⟩:=ac.mp z;rw[List.getElem_replicate] at q;cases q);intro A' an H' ap Y a' ⟨U,r⟩;exact q _ Y .non H' r (Val.of (show Is _ .non .non from rfl)) ⟨a'.frm.st.stay,a'.pn.less a'.frm.sub⟩ λz=>by rw[U] at z;cases z
 right;right;intro w Y v H' ag st pn U r;exact q w Y v H' r ag ⟨st.stay,pn⟩ U
end
section
variable {X:Cx}{Pn:PN}{M S:AR}{fr fr':Bool}{e a b c:Expr}{es:AO}{f fa fb fc:AD}{pos p p2:Pos}
def zoD (B:Dt->Bool)(f:AD):AD:=λρ n Q=>f ρ n λw m=>∃d,w = .d d/\Q (.d (.bl (B d))) m
def zlK(q:∀d:Dt,PySem.W.kitOne K (.type d.ty) (.type T)=some (B d))(h:RB Pn M te f):RE Pn M false (tCB (λxs H Q=>∃x T t b,xs=[x,.ty T]/\TyOf K H x t/\PySem.W.kitOne K t (.type T)=some b/\Q (.bl b) H) (za8 te (za8 (tC (.ty T)) zpb))) (zoD B f):=⟨λA σ H ρ n Q R E P F k=>by show h.run A σ H ρ n _ _ E P F  ?_;rintro w m v H' ⟨d,e,r⟩ I g;subst e;exact⟨v,T,_,_,rfl,I.is.ty,q d,k _ m _ H' r (Val.of rfl) g λz=>by cases z⟩⟩
abbrev isStr:Dt->Bool
 | .str _=>true
 | _=>false
abbrev isDct:Dt->Bool
 | .dct=>true
 | _=>false
def zm5(U:∀d:Dt,PySem.W.kitOne X.K (.type d.ty) (.type T)=some (B d))(Y:bootBuiltins x=some (.type T))(I:Gl X x)(Z:x ≠ "__name__")(hd:(x==("__debug__" : Str))=false)(hg:Gl X "isinstance")(hm:X.mg "isinstance" = none)(J:X.mg x=none)(h:JB X Pn M e f)(F:starEach (e::[.Name x p2]) X.env=(false,eval e X.env)::starEach [.Name x p2] X.env)(L:starEach (.Name x p2::[]) X.env=(false,eval (.Name x p2) X.env)::starEach [] X.env)(O:(backTo pos (starEach [.Name x p2] X.env)).any (·.1)=false):JE X Pn M false (.Call (.Name "isinstance" p) [e,.Name x p2] [] pos) (zoD B f):=by
 obtain⟨te,q,r⟩:=h.ex;exact⟨_,xp zjV hg hm PyProof.Rows.boot_isinstance (zG q (zG (zq7 (v:=.ty T) I J Y rfl Z hd) ye L) F) (by ext) (by ext) F O,zlK U r⟩
def zaO (L:Gl X "isinstance")(O:X.mg "isinstance" = none)(q:X.mg "tuple" = none)(h:JB X Pn M e f)(B:Gl X "tuple" := by rfl)(F:starEach (e::[.Name "tuple" p2]) X.env=(false,eval e X.env)::starEach [.Name "tuple" p2] X.env:=by rfl)(I:starEach (.Name "tuple" p2::[]) X.env=(false,eval (.Name "tuple" p2) X.env)::starEach [] X.env:=by rfl)(J:(backTo pos (starEach [.Name "tuple" p2] X.env)).any (·.1)=false:=by rfl) :
  JE X Pn M false (.Call (.Name "isinstance" p) [e,.Name "tuple" p2] [] pos) (zoD Dt.isTup f):=zm5 (zqb _) bv B (by ext) (by ext) L O q h F I J
def zeB (L:Gl X "isinstance")(O:X.mg "isinstance" = none)(q:X.mg "list" = none)(h:JB X Pn M e f)(B:Gl X "list" := by rfl)(F:starEach (e::[.Name "list" p2]) X.env=(false,eval e X.env)::starEach [.Name "list" p2] X.env:=by rfl)(I:starEach (.Name "list" p2::[]) X.env=(false,eval (.Name "list" p2) X.env)::starEach [] X.env:=by rfl)(J:(backTo pos (starEach [.Name "list" p2] X.env)).any (·.1)=false:=by rfl) :
  JE X Pn M false (.Call (.Name "isinstance" p) [e,.Name "list" p2] [] pos) (zoD Dt.isLst f):=zm5 (zqa _) bY B (by ext) (by ext) L O q h F I J
def zfT (L:Gl X "isinstance")(O:X.mg "isinstance" = none)(q:X.mg "int" = none)(h:JB X Pn M e f)(B:Gl X "int" := by rfl)(F:starEach (e::[.Name "int" p2]) X.env=(false,eval e X.env)::starEach [.Name "int" p2] X.env:=by rfl)(I:starEach (.Name "int" p2::[]) X.env=(false,eval (.Name "int" p2) X.env)::starEach [] X.env:=by rfl)(J:(backTo pos (starEach [.Name "int" p2] X.env)).any (·.1)=false:=by rfl) :
  JE X Pn M false (.Call (.Name "isinstance" p) [e,.Name "int" p2] [] pos) (zoD Dt.isInt f):=zm5 (zp9 _) PyProof.Rows.boot_int B (by ext) (by ext) L O q h F I J
def uG (L:Gl X "isinstance")(O:X.mg "isinstance" = none)(q:X.mg "bool" = none)(h:JB X Pn M e f)(B:Gl X "bool" := by rfl)(F:starEach (e::[.Name "bool" p2]) X.env=(false,eval e X.env)::starEach [.Name "bool" p2] X.env:=by rfl)(I:starEach (.Name "bool" p2::[]) X.env=(false,eval (.Name "bool" p2) X.env)::starEach [] X.env:=by rfl)(J:(backTo pos (starEach [.Name "bool" p2] X.env)).any (·.1)=false:=by rfl) :
  JE X Pn M false (.Call (.Name "isinstance" p) [e,.Name "bool" p2] [] pos) (zoD Dt.isBl f):=zm5 (zs6 _) PyProof.Rows.boot_bool B (by ext) (by ext) L O q h F I J
def zgJ (n:Nat):AS:=(List.range n).map λi:Nat=>Dt.int i
def zkA(n:Nat):IsL G (zgJ n) ((List.range n).map λi:Nat=>V.int i):=by
 have q:zgJ n=(((List.range n).map λi:Nat=>(i:Int))).map Dt.int:=by unfold zgJ;rw[aB];rfl
 have B:((List.range n).map λi:Nat=>V.int i)=(((List.range n).map λi:Nat=>(i:Int))).map V.int:=by rw[aB];rfl
 rw[q,B];exact IsL.ints
def zeJ (fa:AC):AD:=λρ n Q=>fa ρ n λq m=>∃j:Nat,q=[.d (.int (j:Int))]/\j<=1000/\Q (.d (.lst (zgJ j))) m
def zbm{q:Pos}{J:Pos}(hm:X.mg "list" = none)(L:X.mg "range" = none)(ha:JAB X Pn M [a] fs)(hc:X.calm=true:=by rfl)(hg:Gl X "list" := by rfl)(O:Gl X "range" := by rfl)(hs:starEach (a::[]) X.env=(false,eval a X.env)::starEach [] X.env:=by rfl)(F:starEach (.Call (.Name "range" J) [a] [] q::[]) X.env=(false,eval (.Call (.Name "range" J) [a] [] q) X.env)::starEach [] X.env:=by rfl)(U:(backTo q (starEach [] X.env)).any (·.1)=false:=by rfl)(Y:(backTo pos (starEach [] X.env)).any (·.1)=false:=by rfl):JE X Pn M true (.Call (.Name "list" p) [.Call (.Name "range" J) [a] [] q] [] pos) (zeJ fs):=by
 obtain⟨ta,qa,ra⟩:=ha.ex;show⟨_,zat (zgQ hc) hg hm bY (zG (zat zmB O L PyProof.Rows.boot_range qa (by ext) (by ext) hs U) ye F) (by ext) (by ext) F Y,⟨λA σ H ρ n Q R E P hf k=>?_⟩⟩;show ra.run A σ H ρ n _ _ E P hf  ?_;rintro ws m vs H1 ⟨j,e,hj,r⟩ bb g;subst e;obtain⟨v,rfl,b1⟩:=zcK bb;obtain rfl:=yL b1;show⟨_,rfl,λp1 H2 np g2 S2=>⟨p1,j,rfl,g2,hj,λp3 H3 I Z S3=>?_⟩⟩;have B:=g.trans (Go.same g.pn S2);exact k _ m _ H3 r (uo (H:=H2) (zkA j) (zB.same S3) ((E.stay B.st).new I) Z) (B.trans (Go.same B.pn S3)) λ_=>(uE (H:=H2) (zkA j) S3 I Z).back B.st
abbrev truD:W->Option Bool
 | .d (.lst l)=>some (!l.isEmpty)
 | .d (.tup l)=>some (!l.isEmpty)
 | .d (.bl b)=>some b
 | .d (.int i)=>some (i != 0)
 | .d .non=>some false
 | _=>none
def zwx (f:AD):Ev->Mo Bool:=λρ n Q=>f ρ n λw m=>∃b,truD w=some b/\Q b m
def zfK(h:IsL G l xs):xs.isEmpty=l.isEmpty:=by have:=h.length;cases l <;> cases xs <;> right
def zm6 (h:JB X Pn M e f)(he:∀whole,isTrue e X.env whole=(do let v <- whole;standAt e.pos;holding [v] (truthy v)):=by intro _;rfl):JT X Pn M e (zwx f):=by
 obtain⟨te,q,r⟩:=h.ex;show⟨_,znP q he,⟨λA σ H ρ n Q R E P hf k=>?_⟩⟩;show r.run A σ H ρ n _ _ E P hf λw m v H1 ⟨b,e,r⟩ bb g=>⟨b,?_,k b m H1 r g⟩
 cases w with
 | d x=>
  cases x with
  | lst l=>cases e;obtain⟨ad,xs,rfl,h1,h2⟩:=yM bb;exact .inl ⟨xs,.of h1,by rw[zfK h2]⟩
  | tup l=>cases e;obtain⟨ad,xs,rfl,h1,h2⟩:=xx bb;exact .inr (.inl ⟨xs,.of h1,by rw[zfK h2]⟩)
  | bl b=>cases e;obtain rfl:=zjJ bb;rfl
  | int b=>cases e;obtain rfl:=yL bb;rfl
  | non=>cases e;have:v = .non:=bb;subst this;rfl
  | str _=>cases e
  | dct=>cases e
 | _=>cases e
def zie (F G:W->W->Mo W)(fa fb fc:AD):AD:=λρ n Q=>fa ρ n λx B=>fb ρ B λy I=>F x y I λz q=>∃k,z = .d (.bl k)/\if k=true then fc ρ q λu J=>G y u J Q else Q (.d (.bl false)) q
def znU(Z:F2 Pn false r F)(I:F2 Pn false L G)(ha:RB Pn M ta fa)(hb:RB Pn M tb fb)(hc:RB Pn M tc fc):RE Pn M false (zl0 r L ta tb tc) (zie F G fa fb fc):=⟨λA σ H ρ n Q R E P hf k=>by
 show ha.run A σ H ρ n _ _ E P hf λx n1 v1 H1 r1 b1 J=>?_;show hb.run A σ H1 ρ n1 _ _ (E.stay J.st) J.pn r1 λy n2 O H2 r2 U g2=>?_;have g:=J.trans g2;show Z.run A H2 v1 O x y n2 _ _ (E.stay g.st).al (b1.stay g2.st) U g2.pn r2  ?_;rintro w m v H' ⟨c,e,h1⟩ h2 Y h4;subst e;have hv:v = .bl c:=h2;show⟨c,hv,?_⟩;have q:=g.trans Y
 cases c with
 | false=>rw[if_neg (by ext)] at h1 ⊢;exact k _ m _ H' h1 (Val.of rfl) q λz=>by cases z
 | true=>
  rw[if_pos rfl] at h1 ⊢;show hc.run A σ H' ρ m _ _ (E.stay q.st) q.pn h1 λu n4 v4 H4 r4 b4 B=>?_;exact I.run A H4 O v4 y u n4 _ _ (E.stay (q.trans B).st).al (U.stay (Y.trans B).st) b4 B.pn r4 λw5 m5 v5 H5 a1 a2 a3 a4=>k w5 m5 v5 H5 a1 a2 ((q.trans B).trans a3) λz=>by cases z⟩
def zp4(O:OpQ X (compareOp B) r)(I:OpQ X (compareOp q) L)(U:F2 Pn false r F)(J:F2 Pn false L G)(Y:JB X Pn M a fa)(Z:JB X Pn M b fb)(hc:JB X Pn M c fc)(hm:lastMarks [B,q] [b,c]=false:=by with_unfolding_all rfl):JE X Pn M false (.Compare a [B,q] [b,c] pos) (zie F G fa fb fc):=by obtain⟨ta,qa,ra⟩:=Y.ex;obtain⟨tb,qb,rb⟩:=Z.ex;obtain⟨tc,qc,rc⟩:=hc.ex;exact⟨_,znH O I qa qb qc hm,znU U J ra rb rc⟩
def At3.own(h:At3 Pn B S M A σ H ρ n)(hi:i∈M)(e:ρ[i]?=some (some (.d (.lst l)))):∃q xs,σ[i]?=some (some (.ref q))/\A q/\H q=some (.lst xs)/\IsL (yb A H) l xs:=by
 obtain⟨v,J,_,F⟩:=h.env.val i _ e;obtain⟨q,rfl,L,I,_⟩:=F hi;obtain⟨O,xs,U,Y,Z⟩:=I;right
def zkB(q:Is G d v):∀ {ds:AS} {xs:AT} (k:Nat),IsL G ds xs->IsL G (ds.set k d) (xs.set k v)
 | [],_,_,h=>by cases h;rfl
 | x::ds,xs,0,⟨y,r,e,h1,h2⟩=>by subst e;exact⟨v,r,rfl,q,h2⟩
 | x::ds,xs,k+1,⟨y,r,e,h1,h2⟩=>by subst e;exact⟨y,_,rfl,h1,zkB q k h2⟩
def zwt (i:Nat)(fk f:AD):Ms:=λρ n k=>(∃l,ρ[i]?=some (some (.d (.lst l))))/\f ρ n λw m=>fk ρ m λy q=>∃l d j,ρ[i]?=some (some (.d (.lst l)))/\w = .d d/\y = .d (.int j)/\0<=j/\j<l.length/\k.nx (ρ.set i (some (.d (.lst (l.set j.toNat d))))) q
def zoA (i:Nat){x:Str}{np sp:Pos}(hk:JB X Pn M c fc)(he:JE X Pn M fr' e f)(hi:i∈M:=by ext)(hN:X.N[i]?=some x:=by rfl)(hv:Vis X.env.scope x:=by walk_at "v")(hd:Ah x:=by ext)
  (hcd:(x==("__classdict__" : Str))=false:=by ext) (hs:swapsWithSole [.Subscript (.Name x np) c p] e sp.line X.env=pure false:=by rfl) (hw:swappedStores [.Subscript (.Name x np) c p] e X.env=pure none:=by rfl)
  (h1:(assignEach [.Subscript (.Name x np) c p] X.env).map (·.2)=[assign (.Subscript (.Name x np) c p) X.env]:=by rfl) (ha:∀v,assign (.Subscript (.Name x np) c p) X.env v=(do
   let ov <- holding [v] (eval (.Name x np) X.env)
   let iv <- holding [v,ov] (eval c X.env)
   standAt p
   holding [v,ov,iv] (setItem ov iv v)
   release [v,ov,iv] []):=by intro _;rfl) :
  JS X Pn S M fr (.Assign [.Subscript (.Name x np) c p] e sp) (zwt i fc f):=by
 obtain⟨te,q,r⟩:=he.ex;obtain⟨tk,qk,rk⟩:=hk.ex;show⟨_,zoV q (zrd (qv i hN hv hd hcd) qk ha) hs hw h1,⟨ ?_⟩⟩;rintro B A σ H ρ n k D a kk ⟨⟨l0,e0⟩,hf⟩;obtain⟨ad,xs0,s0,hA,_⟩:=a.own hi e0;show r.run A σ H ρ n _ _ a.env a.pn hf λw m v H1 r1 hv1 g1 _=>⟨.ref ad,s0,?_⟩;have a1:=a.step g1;show rk.run A σ H1 ρ m _ _ a1.env a1.pn r1  ?_;rintro y m2 v2 H2 ⟨l,d,j,e,ed,ey,j0,j1,r2⟩ b2 g2;subst ed ey;have a2:=a1.step g2;obtain⟨ad2,xs,s2,_,g,hl⟩:=a2.own hi e;rw[s0] at s2;cases s2;exact⟨ad,xs,j,rfl,yL b2,g,j0,by rw[hl.length];exact j1,kk.nx A σ _ _ m2 (a2.wr hi e s0 (zkB (hv1.stay g2.st).is _ hl)) r2⟩
end
section
variable {A:AL}{H:Hp}
def zu0(h:zaY A H [w] vs):∃v,vs=[v]/\Val A H w v:=by obtain⟨v,r,e,h1,h2⟩:=h;cases h2;exact⟨v,e,h1⟩
def zrY(h:zaY A H [w,u] vs):∃v y,vs=[v,y]/\Val A H w v/\Val A H u y:=by obtain⟨v,r,e,h1,h2⟩:=h;obtain⟨y,rfl,q⟩:=zu0 h2;exact⟨v,y,e,h1,q⟩
def zu1(h:zaY A H [w,u,z] vs):∃v y x,vs=[v,y,x]/\Val A H w v/\Val A H u y/\Val A H z x:=by obtain⟨v,r,e,h1,h2⟩:=h;obtain⟨y,x,rfl,q,B⟩:=zrY h2;exact⟨v,y,x,e,h1,q,B⟩
def zmg{st:AG}(h:Val A H (.d (stD st)) v):∃a,v = .ref a/\H a=some (.tup (st.map V.int)):=by obtain⟨a,xs,e,h1,h2⟩:=h;obtain rfl:=h2.of_ints;exact⟨a,e,zt _ _ h1⟩
end
structure RoomOk (rm:AG):Prop where
 ne:rm≠[]
 few:rm.length<=8
 box:∀r∈rm,2<=r/\r<=4
def RoomOk.pos {rm:AG}(h:RoomOk rm):1<=rm.length:=by
 cases rm with
 | nil=>exact absurd rfl h.ne
 | cons _ _=>simp
abbrev FV:=PN->AU->Mo W
def zr9 (k:Nat)(fr:Bool)(F:FV)(sp:Sp):Prop:=∀vs H Q E,spV k fr F vs H Q E->sp vs H Q E
def FnOk.lift(h:FnOk P w K mg base CX j f fd ps sp)(l:zr9 k fr F sp):FnOk P w K mg base CX j f fd ps (spV k fr F):=h.imp l
def zjw:FV:=λPn q n R=>∃p c ns yH,Pn=⟨some (p,c,ns),J0⟩/\q=[.pen p,.d (.int yH)]/\n<=1000000/\1<=yH/\yH<1073741824/\∀r,0<=r->r<yH->R (.d (.int r)) (n+1)
def zkV:zr9 2 false zjw zlU:=by rintro vs H Q E ⟨Pn,A,ws,n,R,al,F,hl,B,⟨p,c,ns,yH,rfl,rfl,h1,h2,I,J⟩,q⟩;obtain⟨v,y,rfl,L,O⟩:=zrY F;have U:v = .ref p:=L;have Y:y = .int yH:=O;subst U Y;exact⟨p,c,ns,n,yH,rfl,B.1.1,h1,h2,I,λr H' Z r1 P' S'=>q _ (n+1) _ H' (J r Z r1) (Val.of rfl) ⟨S',⟨P',B.1.2⟩,trivial⟩ λz=>by cases z⟩
abbrev zu9:FV:=λPn B n R=>∃p c ns q,Pn=⟨some (p,c,ns),J0⟩/\B=[.pen p,.d (.int q)]/\n+20<=1000000/\4<=q/\q<=256/\∀rm,RoomOk rm->yD rm<=q->R (.d (stD rm)) (n+10)
abbrev zof:FV:=λPn q n R=>∃p c ns rm,Pn=⟨some (p,c,ns),J0⟩/\q=[.pen p,.d (stD rm)]/\n+20<=1000000/\RoomOk rm/\∀st,st.length=rm.length->(∀b:Int,0<=b->b<rm.length->0<=yH st b/\yH st b<yH rm b)->R (.d (stD st)) (n+10)
def zqv (g:List (Int×Int)):(Dt.tup (g.map ub)).noL=true:=by
 have:∀g:List (Int×Int),Dt.noLs (g.map ub)=true:=by
  intro g
  induction g with
  | nil=>rfl
  | cons q g B=>simp only[az,Dt.noLs,B,cZ];rfl
 exact this g
abbrev zg0 (g:List (Int×Int)):Dt:=.tup (g.map ub)
abbrev zr7:FV:=λPn F n R=>∃p c ns rm B,Pn=⟨some (p,c,ns),J0⟩/\F=[.pen p,.d (stD rm),.d (.int B)]/\n+40<=1000000/\RoomOk rm/\∀g,Giv rm g->(∀q∈g,q.1≠B)->g.length<=8->R (.d (zg0 g)) (n+30)
abbrev zvw:FV:=λ_ q n R=>∃d,q=[.d d]/\R (.d (.bl d.isWhole)) n
abbrev zvv:FV:=λ_ q n R=>∃a b,q=[.d (.bl a),.d (.bl b)]/\R (.d (.bl (a==b))) n
abbrev F_prod:FV:=λ_ q n R=>∃ns:AG,q=[.d (stD ns)]/\(∀n∈ns,2<=n/\n<=4)/\R (.d (.int (yD ns))) n
abbrev zvu:FV:=λ_ B n R=>∃st g,B=[.d (stD st),.d (zg0 g)]/\(∀q∈g,0<=q.1/\q.1<st.length)/\R (.d (.bl (zap st g))) n
abbrev xj (sts:AF):Dt:=.lst (sts.map stD)
def zlZ{sts:AF}(F:Al A H)(s:yJ H H')(n:H a=none)(h:H' a=some (.lst ys))(I:IsL H' (sts.map stD) ys):Val A H' (.d (xj sts)) (.ref a)/\FrV A H H' (.d (xj sts)) (.ref a):=by
 have q:=F.stay (zB.same s);have B:=zbV q.noT (xO sts) I;show⟨Val.of ⟨a,ys,rfl,zE (F.new n) h,B⟩,a,rfl,.of n,a,ys,rfl,h,zbV (λb xs z e=>?_) (xO sts) I⟩;rcases z with z | z;exact q.noT b xs z e;grind
abbrev F_all:FV:=λ_ q n R=>∃rm,q=[.d (stD rm)]/\RoomOk rm/\yD rm<=256/\R (.d (xj (yZ (rm.map zp)))) n
abbrev lsD (c:AG):Dt:=.lst (c.map .int)
abbrev zdJ:FV:=λ_ q n R=>∃cs:AF,q=[.d (.lst (cs.map lsD))]/\cs.length<=8/\(∀c∈cs,c.length<=4)/\R (.d (xj (yZ cs))) n
def zng(s:yJ G H):∀ {cs:AF} {xs:AT},IsL G (cs.map lsD) xs->zsa H xs cs:=λ{cs xs} h=>by show⟨by rw[h.length,ab],λi c F=>?_⟩;obtain⟨v,h1,h2⟩:=h.getD (i:=i) (d:=lsD c) (by right);obtain⟨a,ys,rfl,q,B⟩:=h2;obtain rfl:=B.of_ints;exact⟨a,h1,s _ _ q⟩
def zeH:zr9 1 true zdJ (zec K):=by rintro vs H Q E ⟨Pn,A,ws,n,R,I,J,hl,L,⟨cs,rfl,h1,h2,O⟩,q⟩;obtain⟨v,rfl,U⟩:=zu0 J;obtain⟨a,xs,rfl,Y,Z⟩:=U;show⟨a,xs,cs,rfl,zt _ _ Y,zng zt Z,h1,h2,λa ys H' na B F S=>?_⟩;obtain⟨z1,z2⟩:=zlZ I S na B F;exact q _ n _ H' O z1 (Go.same L S) λ_=>z2
def zwB {P:Aa}{w:Ab}{K:AH}{mg:AI}{base:Heap}{x F:Str}{st:Stmt}{f:Addr}{fd:Ac}{N ps:AM}{k r:Nat}(M:AR)(Fu:Fun K x F st f fd)(S:FnScope N ps (zd st))(ag:ps.length=1)(hN:N.length=r+2)(hM:∀i∈M,2<=i)
  (U:∀ (J:Value) (A:Ae) (B:List Env) (s:AZ) (H:Hp) (E:XK) (Pn:PN),Room k (A.deeper (PyProof.Rows.envOfC F (zd st) s.heap.objs.size f J))->
   ∃O zQ fs,zJ st=O::zQ/\QS (zdN CX0 P w K mg base N F (zd st) f J A B s H E).nox O (zgK (zdt (zn4 K) [] E0 (za8 (zbL 0) zpb)) (zag 1))/\
    JSs (zdN CX0 P w K mg base N F (zd st) f J A B s H E).nox Pn [] M false zQ fs/\∀p c ns,Pn=⟨some (p,c,ns),J0⟩->fs (none::some (.pen p)::List.replicate r none) 0 { nx:=λ_ _=>False,rt:=λw _=>w = .d (.bl true) }):FnOk P w K mg base CX0 (k+1) f fd ps (zlW K):=by
 show Fun.okQ Fu S (λvs H Q E h=>?_) (λJ A B s H vs Q E hr h=>?_);obtain⟨a,ns,rfl,_⟩:=h;exact ag.symm;obtain⟨a,ns,rfl,hS,hl,q⟩:=h;have Y:=λ(Pn:PN)=>U J A B s H E Pn hr;have ad:L2.xi N [.ref a]=some (.ref a)::none::List.replicate r none:=by unfold L2.xi;rw[hN];rfl
 have hd:∃O zQ,zJ st=O::zQ:=let ⟨O,zQ,_,e,_⟩:=Y ⟨none,J0⟩;⟨O,zQ,e⟩;obtain⟨O,zQ,e0⟩:=hd;rw[e0];have c2:∀Pn,∃fs,JSs (zdN CX0 P w K mg base N F (zd st) f J A B s H E).nox Pn [] M false zQ fs/\∀p c ns,Pn=⟨some (p,c,ns),J0⟩->fs (none::some (.pen p)::List.replicate r none) 0 { nx:=λ_ _=>False,rt:=λw _=>w = .d (.bl true) }:=λPn=>by obtain⟨al,Z,fs,e,_,h1,h2⟩:=Y Pn;rw[e0] at e;cases e;exact⟨fs,h1,h2⟩
 have q1:QS (zdN CX0 P w K mg base N F (zd st) f J A B s H E).nox O (zgK (zdt (zn4 K) [] E0 (za8 (zbL 0) zpb)) (zag 1)):=by
  obtain⟨al,Z,fs,e,h0,_⟩:=Y ⟨none,J0⟩;right
 show⟨_,zW q1 (u:=λD σ H=>∃Pn,(c2 Pn).choose_spec.1.ex.choose D σ H) ⟨λpins s' σ H D I ⟨Pn,z⟩=>(c2 Pn).choose_spec.1.ex.choose_spec.1.run pins s' σ H D I z⟩,?_⟩;show⟨.ref a,by rw[ad];rfl,a,ns,rfl,hS,hl,λp c H1 P1 S1=>⟨⟨some (p,c,ns),J0⟩,?_⟩⟩;have hs:=(c2 ⟨some (p,c,ns),J0⟩).choose_spec.2 p c ns rfl;have e1:(L2.xi N [.ref a]).set 1 (some (.ref p))=some (.ref a)::some (.ref p)::List.replicate r none:=by rw[ad];rfl
 rw[e1]
 have L:∀i (u:W),(none::some (.pen p)::List.replicate r none:Ev)[i]?=some (some u)->i=1/\u = .pen p:=λi u e=>by
  match i,e with
  | 0,e=>simp at e
  | 1,e=>exact⟨rfl,by simpa using e.symm⟩
  | i+2,e=>
   simp only[bC] at e;obtain⟨_,q⟩:=ac.mp e;right
 show (c2 ⟨some (p,c,ns),J0⟩).choose_spec.1.ex.choose_spec.2.run { A0:=λ_=>False,H0:=H1,G0:=yb (λ_=>False) H1,σ0:=[] } (λ_=>False) _ H1 _ 0 _ _ ⟨⟨?_,?_,?_,λ_ z=>z.elim⟩,⟨λ_ z=>z,λ_ z=>z.elim,.of (zB.refl _),λ_ z=>z.elim,λ_ z=>z.elim,λ_ z=>z.elim⟩,⟨⟨P1,λz=>z,λz=>z⟩,trivial⟩,zB.refl _,λi hi=>by simp at hi,?_⟩ ⟨?_,?_,?_,λ_ z=>z,?_⟩ hs;simp;intro i u e;obtain⟨rfl,rfl⟩:=L i u e;exact⟨.ref p,rfl,λ_=>rfl,λz=>absurd (hM 1 z) (by lia)⟩;intro i j u u' b hi hj an e1;obtain⟨rfl,rfl⟩:=L i u e1;exact absurd (hM 1 hi) (by lia);intro i u b hi e;obtain⟨rfl,rfl⟩:=L i u e;exact absurd (hM 1 hi) (by lia);intro _ _ _ _ _ _ z;exact z.elim;intro _ _ _ _ _ _ z;exact z.elim;intro _ _ _ _ _ _ z;exact z.elim;intro w n' v H' hv st pn _ r;have r':w = .d (.bl true):=r;subst r';have:v = .bl true:=hv;subst this;exact q H'
def zjR {α:Type}{l:AU}{F:Ev}{n:Nat}{mg:W->Ev->(Ev->Prop)->Prop}{Y:Ev->Mo Bool}{Z:AD}{Q:AV}(xs:List α)(I:α->W)(hl:l=xs.map I)(J:Ev->Prop)(P:α->Bool)(E:α->Dt)(ad:xs.length<=lim)(j0:J F)
  (h:∀a∈xs,∀ B,J B->∀C:Ev->Nat->Option Dt->Prop,(∀ q,J q->C q n (if P a then some (E a) else none))->mg (I a) B λq=>Y q n λb n2=>if b=true then Z q n2 λx L=>∃d,x = .d d/\C q L (some d) else C q n2 none)
  (fin:Q (.d (.lst ((xs.filter P).map E))) n):zfD mg Y Z F Q l n:=by
 subst hl;show⟨by right,λi B O acc=>J B/\O=n/\acc=((xs.take i).filter P).map E,⟨j0,rfl,by simp⟩,?_,?_⟩;rintro i w B O acc hw ⟨hj,rfl,rfl⟩;rw[aq] at hw;obtain⟨a,ha,rfl⟩:=aD.mp hw
 have:=h a (ar ha) B hj (λq L o=>match o with
  | some d=>J q/\L=O/\((xs.take i).filter P).map E++[d]=((xs.take (i+1)).filter P).map E
  | none=>J q/\L=O/\((xs.take i).filter P).map E=((xs.take (i+1)).filter P).map E) (λq U=>by
   rw[zj ha,eY,aE];by_cases hp:P a=true;right;rw[if_neg hp];exact⟨U,rfl,by simp[hp]⟩)
 exact this;grind
def zmA {α:Type}{l:AU}{F:Ev}{n:Nat}{mg:W->Ev->(Ev->Prop)->Prop}{Y:AD}{Q:AV}(xs:List α)(I:α->W)(hl:l=xs.map I)(J:Ev->Prop)(E:α->Dt)(Z:xs.length<=lim)(j0:J F)
  (h:∀a∈xs,∀ B,J B->∀C:Ev->Nat->Dt->Prop,(∀ q,J q->C q n (E a))->mg (I a) B λq=>Y q n λx L=>∃d,x = .d d/\C q L d)
  (fin:Q (.d (.lst (xs.map E))) n):zfD mg zvk Y F Q l n:=by
 subst hl;show⟨by right,λi B O acc=>J B/\O=n/\acc=(xs.take i).map E,⟨j0,rfl,by simp⟩,?_,?_⟩;rintro i w B O acc hw ⟨hj,rfl,rfl⟩;rw[aq] at hw;obtain⟨a,ha,rfl⟩:=aD.mp hw;exact h a (ar ha) B hj (λq L d=>J q/\L=O/\(xs.take i).map E++[d]=(xs.take (i+1)).map E) λq U=>⟨U,rfl,by rw[zj ha,aE];rfl⟩;grind
def zpR(I:Nat->Ev->Nat->Prop)(O:I 0 ρ n)(h:∀i q B,i<r->I i q B->mg (.d (.int (i:Int))) q λF=>fb F B { k with nx:=I (i+1),ct:=I (i+1),bk:=k.nx })(U:∀ q B,I r q B->k.nx q B):zsJ mg fb ρ k (zjh 0 r) n:=by
 show⟨I,O,λi w q B J L=>?_,λq B L=>U q B ?_⟩;unfold zjh at J;rw[aq] at J;obtain⟨j,h1,rfl⟩:=aD.mp J;obtain⟨hi,h2⟩:=ac.mp h1;rw[bB] at h2;right;unfold zjh at L;right
def zkk{α:Type}(xs:List α)(F:α->W)(U:l=xs.map F)(I:Nat->Ev->Nat->Prop)(Y:I 0 ρ n)(h:∀i a q B,xs[i]?=some a->I i q B->mg (F a) q λJ=>fb J B { k with nx:=I (i+1),ct:=I (i+1),bk:=k.nx })(Z:∀ q B,I xs.length q B->k.nx q B):zsJ mg fb ρ k l n:=by
 subst U;show⟨I,Y,λi w q B L O=>?_,λq B O=>Z q B (by right)⟩;rw[aq] at L;obtain⟨a,ha,rfl⟩:=aD.mp L;exact h i a q B ha O
def zdP(I:Nat->Ev->Nat->Prop)(L:I 0 ρ n)(h:∀i q F,i<r->I i q F->∀ (C B:Ev->Nat->Prop) (E:AV),(∀ {ρ m},I (i+1) ρ m->C ρ m)->(∀ {ρ m},k.nx ρ m->B ρ m)->(∀ {w m},k.rt w m->E w m)->mg (.d (.int (i:Int))) q λJ=>fb J F { rt:=E,nx:=C,ct:=C,bk:=B })(O:∀ q F,I r q F->k.nx q F):zsJ mg fb ρ k (zjh 0 r) n:=
 zpR I L (λi q F hi U=>h i q F hi U (I (i+1)) k.nx k.rt (λz=>z) (λz=>z) λz=>z) O
def zR{α:Type}(xs:List α)(F:α->W)(O:l=xs.map F)(I:Nat->Ev->Nat->Prop)(U:I 0 ρ n)(h:∀i a q J,xs[i]?=some a->I i q J->∀ (C B:Ev->Nat->Prop) (E:AV),(∀ {ρ m},I (i+1) ρ m->C ρ m)->(∀ {ρ m},k.nx ρ m->B ρ m)->(∀ {w m},k.rt w m->E w m)->mg (F a) q λL=>fb L J { rt:=E,nx:=C,ct:=C,bk:=B })(Y:∀ q J,I xs.length q J->k.nx q J):zsJ mg fb ρ k l n:=
 zkk xs F O I U (λi a q J Z hI=>h i a q J Z hI (I (i+1)) k.nx k.rt (λz=>z) (λz=>z) λz=>z) Y
def zmz{α:Type}(xs:List α)(L:α->W)(hl:l=xs.map L)(Y:xs.length<=lim)(I:Nat->Ev->Nat->AS->Prop)(h0:I 0 J n [])(h:∀i a q B acc,xs[i]?=some a->I i q B acc->∀C:Ev->Nat->AS->Prop,(∀ {ρ m l},I (i+1) ρ m l->C ρ m l)->mg (L a) q λF=>O F B λb Z=>if b=true then U F Z λx n3=>∃d,x = .d d/\C F n3 (acc++[d]) else C F Z acc)(fin:∀ q B acc,I xs.length q B acc->Q (.d (.lst acc)) B):zfD mg O U J Q l n:=by
 subst hl;show⟨by right,I,h0,λi w q B acc hw hI=>?_,λq B acc hI=>fin q B acc (by right)⟩;rw[aq] at hw;obtain⟨a,ha,rfl⟩:=aD.mp hw;exact h i a q B acc ha hI (I (i+1)) λz=>z
def zbb {α:Type}{l:List α}{i:Nat}{x:α}(h:l[i]?=some x):atI l (i:Int)=some x:=by
 have:=(ac.mp h).1;unfold atI ixN;right
def zsd {α:Type}{l:List α}{i:Int}(B:0<=i)(h1:i<l.length):∃d,atI l i=some d/\d∈l:=by
 obtain⟨j,rfl⟩:∃j:Nat,i=j:=⟨i.toNat,by lia⟩;have q:j<l.length:=by lia
 exact⟨l[j],zbb (ai q),bL q⟩
def zjE {α:Type}{l:List α}(h:l≠[]):∃d,atI l (-1)=some d/\d∈l:=by
 have q:0<l.length:=dr.mpr h;unfold atI ixN;rw[if_neg (by lia),if_pos (by lia)];have B:(-1+(l.length:Int)).toNat<l.length:=by lia
 right
def zpm {st:AG}{b:Int}(B:0<=b)(h1:b<st.length):atI (st.map Dt.int) b=some (.int (yH st b)):=by
 obtain⟨j,rfl⟩:∃j:Nat,b=j:=⟨b.toNat,by lia⟩;have q:j<st.length:=by lia
 show zbb ?_;rw[aq,ai q,zS];simp[q]
def gw (g:List (Int×Int))(i:Nat):AQ:=(g.find? λq=>decide (q.1=(i:Int))).map (·.2)
def zpD (rm:AG):enW 0 (rm.map Dt.int)=(List.range rm.length).map λi:Nat=>W.d (.tup [.int (i:Int),.int (rm.getD i 0)]):=by
 apply dW;intro i;rw[zcP,aq,aq];by_cases h:i<rm.length
 all_goals right
def cho (rm:AG)(g:List (Int×Int))(i:Nat):AG:=match gw g i with
 | some w=>[w]
 | none=>zp (rm.getD i 0)
def chs (rm:AG)(g:List (Int×Int)):AF:=(List.range rm.length).map (cho rm g)
def zwf (rm:AG)(g:List (Int×Int)):AF:=yZ (chs rm g)
section
variable {X:Cx}{Pn:PN}{M S:AR}{fr fr':Bool}{e a b c:Expr}{es:AO}{f fa fb fc:AD}{pos p p2:Pos}
def zqj (fa:AC):AC:=λρ n Q=>fa ρ n λq m=>∃l,q=[.d (.lst l)]/\Q (enW 0 l) m
def zkH(h:yb A H q=some (.lst xs))(B:IsL (yb A H) l xs):ItV false A H (Iel K q) (enW 0 l) where
 one:=λi w A2 H2 e s _ J=>by rw[zcP] at e;obtain⟨d,h1,rfl⟩:=aD.mp e;obtain⟨x,F,L⟩:=B.getD h1;have g:=zt _ _ (s.lst h);show⟨⟨xs,x,.of g,F⟩,?_⟩;rintro y H3 ⟨T,z,O,I,U,Y⟩;subst O U;have:=Y xs (.of g);rw[F] at this;cases this;have S:=yJ.upd (o:=.tup [.int i,x]) I;show⟨S,Val.of ⟨T,_,rfl,zE (J T I) zh,_,_,rfl,?_,_,_,rfl,(L.stay s).stay (zB.same (zam S)),rfl⟩⟩;change V.int (i:Int)=V.int ((0+i:Nat):Int);rw[Nat.zero_add]
 stop:=λA2 H2 s _=>⟨xs,.of (zt _ _ (s.lst h)),by rw[zgV,B.length];exact ah _⟩
def zeC{x1}(F:Gl X "enumerate")(I:X.mg "enumerate" = none)(J:JA X Pn M [a] fs)(hs:starEach [a] X.env=[(false,eval a X.env)]:=by rfl):JI X Pn M false (.Tuple elts x1 tpos) (.Call (.Name "enumerate" p) [a] [] pos) (zqj fs):=by obtain⟨te,q,r⟩:=J.ex;show⟨_,znM F I q hs,⟨λA σ H ρ n Q R E P L k=>?_⟩⟩;show r.run A σ H ρ n _ _ E P L  ?_;rintro Z m vs H1 ⟨l,e,r⟩ O g;subst e;obtain⟨v,s,rfl,⟨U,xs,rfl,B,Y⟩,hs⟩:=O;cases hs;exact⟨U,rfl,⟨xs,.of (zt _ _ B)⟩,k _ m _ H1 r (zkH B Y) g⟩
def ziI:∀ (l k:AS) (i:Nat),(ziW l k)[i]?=(l[i]?).bind λx=>(k[i]?).map λy=>W.d (.tup [x,y])
 | [],_,_=>by simp[ziW]
 | _::_,[],_=>by simp[ziW]
 | x::r,y::s,0=>by simp[ziW]
 | x::r,y::s,i+1=>by have:=ziI r s i;simp only[ziW,bC,this]
def ziJ:∀ (l k:AS),(ziW l k).length=min l.length k.length
 | [],_=>by simp[ziW]
 | _::_,[]=>by simp[ziW]
 | x::r,y::s=>by rw[ziW,aO,aO,aO,ziJ r s];lia
def zql (fa:AC):AC:=λρ n Q=>fa ρ n λq m=>∃l k,q=[.d (.lst l),.d (.lst k)]/\Q (ziW l k) m
def zm3(h:yb A H I=some (.lst xs))(L:IsL (yb A H) l xs)(h':yb A H J=some (.lst ys))(O:IsL (yb A H) k ys):ItV false A H (Izl K I J) (ziW l k) where
 one:=λi w A2 H2 e s _ hA=>by rw[ziI] at e;obtain⟨d,h1,e⟩:=Option.bind_eq_some_iff.mp e;obtain⟨d',q,rfl⟩:=aD.mp e;obtain⟨x,U,hd⟩:=L.getD h1;obtain⟨y,Y,B⟩:=O.getD q;have g:=zt _ _ (s.lst h);have g':=zt _ _ (s.lst h');show⟨⟨xs,ys,x,y,.of g,.of g',U,Y⟩,?_⟩;rintro v H3 ⟨T,z,z',e1,Z,e3,hz,F⟩;subst e1 e3;have q1:=hz xs (.of g);have q2:=F ys (.of g');rw[U] at q1;rw[Y] at q2;cases q1;cases q2;have S:=yJ.upd (o:=.tup [x,y]) Z;exact⟨S,Val.of ⟨T,_,rfl,zE (hA T Z) zh,_,_,rfl,(hd.stay s).stay (zB.same (zam S)),_,_,rfl,(B.stay s).stay (zB.same (zam S)),rfl⟩⟩
 stop:=λA2 H2 s _=>⟨xs,ys,.of (zt _ _ (s.lst h)),.of (zt _ _ (s.lst h')),by rw[ziJ,L.length,O.length];lia⟩
def zeD {elts:AO}{x1}{tpos:Pos}{fs:AC}(J:Gl X "zip")(L:X.mg "zip" = none)(O:JA X Pn M [a,b] fs)(hs:starEach [a,b] X.env=[(false,eval a X.env),(false,eval b X.env)]:=by rfl)(I:starEach [b] X.env=[(false,eval b X.env)]:=by rfl):JI X Pn M false (.Tuple elts x1 tpos) (.Call (.Name "zip" p) [a,b] [] pos) (zql fs):=by obtain⟨te,q,r⟩:=O.ex;show⟨_,zrh J L q hs I,⟨λA σ H ρ n Q R E P U k=>?_⟩⟩;show r.run A σ H ρ n _ _ E P U  ?_;rintro ws m vs H1 ⟨l,kk,e,r⟩ Y g;subst e;obtain⟨v,s,rfl,⟨Z,xs,rfl,B,hl⟩,v2,s2,rfl,⟨bd,ys,rfl,F,hk⟩,hs⟩:=Y;cases hs;exact⟨Z,bd,rfl,⟨xs,.of (zt _ _ B)⟩,⟨ys,.of (zt _ _ F)⟩,k _ m _ H1 r (zm3 B hl F hk) g⟩
def zwj (i:Nat)(f:AD):Ms:=λρ n k=>(∃l,ρ[i]?=some (some (.d (.lst l))))/\f ρ n λw m=>∃l q,ρ[i]?=some (some (.d (.lst l)))/\w = .d (.lst q)/\l.length+q.length<=lim/\k.nx (ρ.set i (some (.d (.lst (l++q))))) m
def zkN (i:Nat){x:Str}{ap O sp U:Pos}(he:JE X Pn M fr' e f)(hi:i∈M:=by ext)(hN:X.N[i]?=some x:=by rfl)(hv:Vis X.env.scope x:=by walk_at "v")(hd:Ah x:=by ext)
  (al:(x==("__classdict__" : Str))=false:=by ext) (Y:starEach (e::[]) X.env=(false,eval e X.env)::starEach [] X.env:=by rfl) (hs:swapsWith (.Call (.Attribute (.Name x U) "extend" ap) [e] [] O) none sp.line X.env=pure false:=by rfl) (J:attributeBase (.Name x U) "extend" X.env (eval (.Name x U) X.env)=eval (.Name x U) X.env:=by rfl) (L:(ap.endLine==O.line)=true:=by rfl)
  (Z:((backTo O (starEach [e] X.env)).all (λx=>!x.1)&&(backToKw O (keywordEach [] X.env)).all (λx=>x.1.isSome)&&decide (([e]:AO).length+([]:List Keyword).length+(if ([]:List Keyword).isEmpty then 0 else 1)<30))=true:=by rfl) (I:(backTo O (starEach [] X.env)).any (·.1)=false:=by rfl) :
  JS X Pn S M fr (.Expr (.Call (.Attribute (.Name x U) "extend" ap) [e] [] O) sp) (zwj i f):=by
 obtain⟨te,q,r⟩:=he.ex;show⟨_,ze9 (zgm bU PySem.F.slot_list_extend PySem.F.type_list_extend zla (qv i hN hv hd al) (zG q ye Y) J Z L Y I) hs,⟨ ?_⟩⟩;rintro B A σ H ρ n k D a kk ⟨⟨l0,e0⟩,hf⟩;obtain⟨ad,as,s1,hA,g0,_⟩:=a.own hi e0;show⟨.ref ad,s1,.inl ⟨rfl,_,SqL.of g0⟩,?_⟩;show r.run A σ H ρ n _ _ a.env a.pn hf  ?_;rintro w m v H' ⟨l,l2,e,ed,hz,r⟩ hv g _;subst ed;have a':=a.step g;obtain⟨av,xs,s2,_,g4,hl⟩:=a'.own hi e;rw[s1] at s2;cases s2;obtain⟨b2,ys,rfl,an,ag⟩:=hv;exact⟨ad,b2,xs,ys,rfl,rfl,g4,zt _ _ an,zdV (by rw[hl.length,ag.length];exact hz),kk.nx A σ _ _ m (a'.wr hi e s1 (hl.append ag)) r⟩
def zow {α:Type}(l:List α)(k:Nat)(x:α):List α:=l.take k++x::l.drop k
def zwl (i:Nat)(fk f:AD):Ms:=λρ n k=>(∃l,ρ[i]?=some (some (.d (.lst l))))/\fk ρ n λy m=>f ρ m λw q=>∃l d j,ρ[i]?=some (some (.d (.lst l)))/\w = .d d/\y = .d (.int j)/\0<=j/\j<=l.length/\l.length<lim/\k.nx (ρ.set i (some (.d (.lst (zow l j.toNat d))))) q
def zs1(i:Nat){x:Str}{ap O sp U:Pos}(hc:JE X Pn M ag c fc)(he:JE X Pn M fr' e f)(hi:i∈M:=by ext)(hN:X.N[i]?=some x:=by rfl)(hv:Vis X.env.scope x:=by walk_at "v")(hd:Ah x:=by ext)(al:(x==("__classdict__" : Str))=false:=by ext)(Y:starEach (c::[e]) X.env=(false,eval c X.env)::starEach [e] X.env:=by rfl)(an:starEach (e::[]) X.env=(false,eval e X.env)::starEach [] X.env:=by rfl)(hs:swapsWith (.Call (.Attribute (.Name x U) "insert" ap) [c,e] [] O) none sp.line X.env=pure false:=by rfl)(J:attributeBase (.Name x U) "insert" X.env (eval (.Name x U) X.env)=eval (.Name x U) X.env:=by rfl)(L:(ap.endLine==O.line)=true:=by rfl)(Z:((backTo O (starEach [c,e] X.env)).all (λx=>!x.1)&&(backToKw O (keywordEach [] X.env)).all (λx=>x.1.isSome)&&decide (([c,e]:AO).length+([]:List Keyword).length+(if ([]:List Keyword).isEmpty then 0 else 1)<30))=true:=by rfl)(I:(backTo O (starEach [e] X.env)).any (·.1)=false:=by rfl) :
  JS X Pn S M fr (.Expr (.Call (.Attribute (.Name x U) "insert" ap) [c,e] [] O) sp) (zwl i fc f):=by
 obtain⟨te,q,r⟩:=he.ex;obtain⟨tc,qc,rc⟩:=hc.ex;show⟨_,ze9 (zgm bU PySem.F.slot_list_insert PySem.F.type_list_insert zlc (qv i hN hv hd al) (zG qc (zG q ye an) Y) J Z L Y I) hs,⟨ ?_⟩⟩;rintro B A σ H ρ n k D a kk ⟨⟨l0,e0⟩,hf⟩;obtain⟨ad,av,s1,hA,g0,_⟩:=a.own hi e0;show⟨.ref ad,s1,.inl ⟨rfl,_,SqL.of g0⟩,?_⟩;show rc.run A σ H ρ n _ _ a.env a.pn hf λw1 m1 v1 H1 r1 as g1 _=>?_;have a1:=a.step g1;show r.run A σ H1 ρ m1 _ _ a1.env a1.pn r1  ?_;rintro w m v H' ⟨l,d,j,e,ed,ey,j0,j1,hz,r⟩ hv g _;subst ed ey;have e1:v1 = .int j:=as;subst e1;have a':=a1.step g;obtain⟨a0,xs,s2,_,g4,hl⟩:=a'.own hi e;rw[s1] at s2;cases s2;show⟨ad,xs,j,v,rfl,rfl,g4,j0,by rw[hl.length];exact j1,zdW (by rw[hl.length];exact bW hz),kk.nx A σ _ _ m (a'.wr hi e s1 ?_) r⟩;exact (hl.take _).append ⟨v,_,rfl,hv.is,hl.drop _⟩
def zfR:∀ {ds:AS} {xs:AT} (k:Nat),IsL G ds xs->IsL G (ds.eraseIdx k) (xs.eraseIdx k)
 | [],_,_,h=>by cases h;rfl
 | x::ds,xs,0,⟨y,r,e,h1,h2⟩=>by subst e;exact h2
 | x::ds,xs,k+1,⟨y,r,e,h1,h2⟩=>by subst e;exact⟨y,_,rfl,h1,zfR k h2⟩
def zqq (i:Nat)(fk:AD):Ms:=λρ n k=>(∃l,ρ[i]?=some (some (.d (.lst l))))/\fk ρ n λy m=>∃l j,ρ[i]?=some (some (.d (.lst l)))/\y = .d (.int j)/\0<=j/\j<l.length/\l.length<=lim/\k.nx (ρ.set i (some (.d (.lst (l.eraseIdx j.toNat))))) m
def zo4 {n:Nat}{j:Int}(q:0<=j)(h1:j<n):seqIndex? j n=some j.toNat:=(zhb (by unfold ixN;rw[if_pos q,if_pos h1])).1
def zp7 (i:Nat){x:Str}{Z L sp O:Pos}(hc:JB X Pn M c fc)(hi:i∈M:=by ext)(hN:X.N[i]?=some x:=by rfl)(hv:Vis X.env.scope x:=by walk_at "v")(hd:Ah x:=by ext)
  (ag:(x==("__classdict__" : Str))=false:=by ext) (U:starEach (c::[]) X.env=(false,eval c X.env)::starEach [] X.env:=by rfl) (hs:swapsWith (.Call (.Attribute (.Name x O) "pop" Z) [c] [] L) none sp.line X.env=pure false:=by rfl) (I:attributeBase (.Name x O) "pop" X.env (eval (.Name x O) X.env)=eval (.Name x O) X.env:=by rfl) (J:(Z.endLine==L.line)=true:=by rfl)
  (Y:((backTo L (starEach [c] X.env)).all (λx=>!x.1)&&(backToKw L (keywordEach [] X.env)).all (λx=>x.1.isSome)&&decide (([c]:AO).length+([]:List Keyword).length+(if ([]:List Keyword).isEmpty then 0 else 1)<30))=true:=by rfl) (q:(backTo L (starEach [] X.env)).any (·.1)=false:=by rfl) :
  JS X Pn S M fr (.Expr (.Call (.Attribute (.Name x O) "pop" Z) [c] [] L) sp) (zqq i fc):=by
 obtain⟨tc,qc,rc⟩:=hc.ex;show⟨_,ze9 (zgm bU PySem.F.slot_list_pop PySem.F.type_list_pop zig (qv i hN hv hd ag) (zG qc ye U) I Y J U q) hs,⟨ ?_⟩⟩;rintro B A σ H ρ n k D a kk ⟨⟨l0,e0⟩,hf⟩;obtain⟨ad,as,s1,hA,g0,_⟩:=a.own hi e0;show⟨.ref ad,s1,.inl ⟨rfl,_,SqL.of g0⟩,?_⟩;show rc.run A σ H ρ n _ _ a.env a.pn hf  ?_;rintro w m v H' ⟨l,j,e,ey,j0,j1,hz,r⟩ hv g;subst ey;have e1:v = .int j:=hv;subst e1;have a':=a.step g;obtain⟨av,xs,s2,_,g4,hl⟩:=a'.own hi e;rw[s1] at s2;cases s2;have al:=hl.length;have an:(l.length:Int)<=500000:=by have:l.length<=500000:=hz;lia
 exact⟨ad,xs,j,j.toNat,xs[j.toNat]'(by lia),rfl,rfl,g4,by lia,by lia,zo4 j0 (by lia),ai _,kk.nx A σ _ _ m (a'.wr hi e s1 (zfR _ hl)) r⟩
def zpP:W->W->Mo W:=λx y n Q=>∃l j,x = .d (.lst l)/\y = .d (.int j)/\0<=j/\j<=1000000/\l.length * j.toNat<=lim/\Q (.d (.lst (List.replicate j.toNat l).flatten)) n
def zuZ:F2 Pn true zvq zpP:=⟨by
 rintro A H x y Z wy n Q R I J q P ⟨l,j,L,O,j1,j2,z,h⟩ k;subst L O;obtain⟨a,xs,U,Y,B⟩:=yM J;show⟨a,j,xs,U,yL q,Y,by lia,by lia,zdV (by rw[B.length];exact z),λp F=>?_⟩;have S:=yJ.upd (o:=.lst (List.replicate j.toNat xs).flatten) F;exact k _ n _ _ h (uo (zg9 B _) (zB.same S) (I.new F) zh) (Go.same P S) λz=>uE (zg9 B _) S F zh⟩
def zkf:AU->Mo W:=λB n Q=>∃ns:AG,B=[.d (.lst (ns.map .int))]/\ns.length<64/\∀q:AG,q.Perm ns->q.Pairwise (·<=·)->Q (.d (.lst (q.map .int))) n
def zrV:FL Pn true zlH zkf:=⟨by
 rintro A H xs Y n Q R I b P ⟨ns,e,q,h⟩ k;subst e;obtain⟨v,rfl,J⟩:=zcK b;obtain⟨a,ys,rfl,L,O⟩:=yM J;obtain rfl:=O.of_ints;exact⟨a,ns,rfl,L,q,λB U hs p H' F g S=>k _ n _ H' (h B U hs) (uo (H:=H) IsL.ints (zB.same S) (I.new F) g) (Go.same P S) λz=>uE (H:=H) IsL.ints S F g⟩⟩
def zkh:AU->Mo W:=λB n Q=>∃ (sts:AF) (m:Nat),B=[.d (.lst (sts.map stD))]/\sts.length<64/\1<=m/\(∀st∈sts,st.length=m)/\sts.Nodup/\∀q:AF,q.Perm sts->(q.Pairwise λa b=>HT.lexLt a b=true)->Q (.d (xj q)) n
def zrW:FL Pn true zro zkh:=⟨by
 rintro A H xs ws n Q R L b P ⟨sts,m,e,F,h1,U,I,h⟩ k;subst e;obtain⟨v,rfl,Y⟩:=zcK b;obtain⟨a,ys,rfl,Z,hl⟩:=yM Y;show⟨a,ys,sts,m,rfl,Z,hl.stay (zB.same zt),F,h1,U,I,λJ q hy hp hs p H' O g S=>?_⟩;have B:IsL (yb A H) (q.map stD) J:=zbV L.noT (xO q) hy;exact k _ n _ H' (h q hp hs) (uo B (zB.same S) (L.new O) g) (Go.same P S) λz=>uE B S O g⟩
def zkJ:JE X Pn M true (.Dict [] [] pos) (mC (.dt [])):=⟨_,znJ,⟨λA σ H ρ n Q R E P B k=>λp H' q g S=>k _ n _ H' B ⟨p,[],rfl,zE (E.new q) g,rfl⟩ (Go.same P S) λ_=>⟨p,rfl,.of q,p,[],rfl,g,rfl⟩⟩⟩
def zk2 (fd fk:AD):AD:=λρ n Q=>fd ρ n λx q=>fk ρ q λy B=>∃kvs st d,x = .dt kvs/\y = .d (stD st)/\yW kvs st=some d/\Q (.d d) B
def uF (I:X.A.units+1<cLine)(J:JB X Pn M a fa)(L:JB X Pn M b fb)(hs:zsb b):JE X Pn M false (.Subscript a b pos) (zk2 fa fb):=by obtain⟨ta,O,U⟩:=J.ex;obtain⟨tb,Y,Z⟩:=L.ex;show⟨_,ui I O Y hs,⟨λA σ H ρ n Q R E P hf k=>?_⟩⟩;show U.run A σ H ρ n _ _ E P hf λw1 m1 v1 H1 r1 b1 q=>?_;show Z.run A σ H1 ρ m1 _ _ (E.stay q.st) q.pn r1  ?_;rintro w2 m2 v2 H2 ⟨kvs,st,d,e1,e2,e3,r⟩ b2 g2;subst e1 e2;obtain⟨ad,ks,rfl,B,hk⟩:=b1.stay g2.st;obtain⟨bd,xs,rfl,F,hx⟩:=xx b2;obtain rfl:=hx.of_ints;obtain⟨v,h1,h2⟩:=(hk.look (k:=st)).2 d e3;show⟨ad,v,rfl,?_,k _ m2 _ H2 r (Val.of h2) (q.trans g2) λz=>by cases z⟩;rw[<- h1];exact zbO.i B F
def zfr {κ:Type}[DecidableEq κ](kvs:List (κ×Dt))(k:κ)(d:Dt):List (κ×Dt):=
 if (kvs.any λkv=>decide (kv.1=k))=true then kvs.map (λkv=>if kv.1=k then (kv.1,d) else kv) else kvs++[(k,d)]
def zab.any {κ:Type}[DecidableEq κ]{G:Hp}{k:κ}:∀ {kvs:List (κ×Dt)} {ks:List (κ×V)},zab G kvs ks->(ks.any λkv=>decide (kv.1=k))=kvs.any λkv=>decide (kv.1=k)
 | [],_,h=>by cases h;rfl
 | q::r,ks,⟨v,s,e,h1,h2⟩=>by subst e;rw[cD,cD,zab.any h2]
def zab.map1 {κ:Type}[DecidableEq κ]{G:Hp}{k:κ}{d:Dt}{x:V}(F:Is G d x):∀ {kvs:List (κ×Dt)} {ks:List (κ×V)},zab G kvs ks->zab G (kvs.map λkv=>if kv.1=k then (kv.1,d) else kv) (ks.map λkv=>if kv.1=k then (kv.1,x) else kv)
 | [],_,h=>by cases h;rfl
 | q::r,ks,⟨v,s,e,h1,h2⟩=>by
  subst e;rw[az,az];by_cases B:q.1=k;rw[if_pos B,if_pos B];exact⟨x,_,rfl,F,zab.map1 F h2⟩;rw[if_neg B,if_neg B];exact⟨v,_,rfl,h1,zab.map1 F h2⟩
def zab.snoc {κ:Type}{G:Hp}{k:κ}{d:Dt}{x:V}(B:Is G d x):∀ {kvs:List (κ×Dt)} {ks:List (κ×V)},zab G kvs ks->zab G (kvs++[(k,d)]) (ks++[(k,x)])
 | [],_,h=>by cases h;exact⟨x,[],rfl,B,rfl⟩
 | q::r,ks,⟨v,s,e,h1,h2⟩=>by subst e;exact⟨v,_,rfl,h1,zab.snoc B h2⟩
def zab.put{κ:Type}[DecidableEq κ]{k:κ}{kvs:List (κ×Dt)}{ks:List (κ×V)}(h:zab G kvs ks)(q:Is G d x):zab G (zfr kvs k d) (zad ks k x):=by
 unfold zfr zad;rw[h.any];split;exact h.map1 q;exact h.snoc q
def zab.len {κ:Type}{G:Hp}:∀ {kvs:List (κ×Dt)} {ks:List (κ×V)},zab G kvs ks->ks.length=kvs.length
 | [],_,h=>by cases h;rfl
 | q::r,ks,⟨v,s,e,h1,h2⟩=>by subst e;rw[aO,aO,zab.len h2]
def At3.wrX(h:At3 Pn B S M A σ H ρ n)(hi:i∈M)(e:ρ[i]?=some (some w))(s:σ[i]?=some (some (.ref ad)))(hw:WAt (L2.upd H ad o) (yb A H) w' (.ref ad))(hm':w'.mut=true)(np:NP o)(nt:Mt o):At3 Pn B S M A σ (L2.upd H ad o) (ρ.set i (some w')) n:=by
 obtain⟨v,s1,_,s3⟩:=h.env.val i w e;rw[s] at s1;cases s1;obtain⟨a2,e2,hA,_,_⟩:=s3 hi;cases e2;have hlen:i<ρ.length:=(ac.mp e).1
 have hE:EnvR A M σ (L2.upd H ad o) (ρ.set i (some w')):=by
  show⟨by rw[bh];exact h.env.len,λj u ej=>?_,λj q u u' b hj hq hne e1 e2=>?_,λb hb=>?_⟩;by_cases hj:j=i;subst hj;rw[aM hlen] at ej;cases ej;exact⟨.ref ad,s,λz=>absurd hi z,λ_=>⟨ad,rfl,hA,by change WAt _ _ _ _;rw[yz hA];exact hw,hm'⟩⟩;rw[ax (Ne.symm hj)] at ej;obtain⟨v,t1,t2,t3⟩:=h.env.val j u ej;show⟨v,t1,λz=>?_,λz=>?_⟩;change WAt _ _ _ _;rw[yz hA];exact t2 z;obtain⟨b,rfl,hb,hbb,hm⟩:=t3 z;have hne:b≠ad:=λq=>h.env.dis i j w u ad hi z (Ne.symm hj) e ej s (by rw[t1,q]);show⟨b,rfl,hb,?_,hm⟩;change WAt _ _ _ _;rw[yz hA]
  cases u with
  | d x=>
   cases x with
   | lst l=>obtain⟨a2,xs,e2,g1,g2⟩:=hbb;cases e2;exact⟨b,xs,rfl,by rw[zg hne];exact g1,g2⟩
   | dct=>obtain⟨a2,xs,e2,g1,g2⟩:=hbb;cases e2;exact⟨b,xs,rfl,by rw[zg hne];exact g1,g2⟩
   | _=>cases hm
  | pen p=>cases hm
  | dk k=>obtain⟨a2,xs,e2,g1,g2⟩:=hbb;cases e2;exact⟨b,xs,rfl,by rw[zg hne];exact g1,g2⟩
  | dt k=>obtain⟨a2,xs,e2,g1,g2⟩:=hbb;cases e2;exact⟨b,xs,rfl,by rw[zg hne];exact g1,g2⟩
  | ss P w k=>obtain⟨a2,xs,e2,g1,g2⟩:=hbb;cases e2;exact⟨b,xs,rfl,by rw[zg hne];exact g1,g2⟩
  | df k=>obtain⟨a2,ob,xs,e2,g1,g2⟩:=hbb;cases e2;exact⟨b,ob,xs,rfl,by right,g2⟩
  | kf k=>obtain⟨a2,ob,xs,e2,g1,g2⟩:=hbb;cases e2;exact⟨b,ob,xs,rfl,by right,g2⟩
  | fl k=>obtain⟨a2,ob,xs,e2,g1,g2⟩:=hbb;cases e2;exact⟨b,ob,xs,rfl,by right,g2⟩
  have get:∀q (u:W),(ρ.set i (some w'))[q]?=some (some u)->∃u',ρ[q]?=some (some u'):=λq u z=>by
   by_cases hq:q=i;subst hq;exact⟨w,e⟩;rw[ax (Ne.symm hq)] at z;exact⟨u,z⟩
  obtain⟨v1,f1⟩:=get j u e1;obtain⟨v2,f2⟩:=get q u' e2;exact h.env.dis j q v1 v2 b hj hq hne f1 f2;by_cases hb':b=ad;subst hb';exact⟨_,zh,np,nt⟩;rw[zg hb'];exact h.env.al b hb
 show⟨hE,⟨h.frm.sub,h.frm.new,λb o eb nn nc=>?_,h.frm.al,h.frm.cn,λb z=>(by
  by_cases hb':b=ad;subst hb';exact⟨_,zh,np⟩;rw[zg hb'];exact h.frm.cs b z)⟩,h.pn.upd hA,by rw[yz hA];exact h.prot,h.fix,λj u b hj ej sj=>?_⟩
 have hne:b≠ad:=λq=>by
  subst q;rcases h.mine i w b hi e s with z | z;exact z o eb nn;exact nc z
 rw[zg hne];exact h.frm.st b o eb nn nc;by_cases hj':j=i;subst hj';exact h.mine j w b hj e sj;rw[ax (Ne.symm hj')] at ej;exact h.mine j u b hj ej sj
def zk3 (i:Nat)(fk f:AD):Ms:=λρ n k=>(∃kvs,ρ[i]?=some (some (.dt kvs)))/\f ρ n λw m=>fk ρ m λy q=>∃kvs st d,ρ[i]?=some (some (.dt kvs))/\w = .d d/\y = .d (stD st)/\kvs.length<lim/\k.nx (ρ.set i (some (.dt (zfr kvs st d)))) q
def zeE (i:Nat){x:Str}{np sp:Pos}(hu:X.A.units+1<cLine)(hk:JB X Pn M c fc)(he:JE X Pn M fr' e f)(hi:i∈M:=by ext)(hN:X.N[i]?=some x:=by rfl)(hv:Vis X.env.scope x:=by walk_at "v")(hd:Ah x:=by ext)
  (I:(x==("__classdict__" : Str))=false:=by ext) (hs:swapsWith e (some (.Subscript (.Name x np) c p)) sp.line X.env=pure false:=by rfl) :
  JS X Pn S M fr (.Assign [.Subscript (.Name x np) c p] e sp) (zk3 i fc f):=by
 obtain⟨te,q,r⟩:=he.ex;obtain⟨tk,qk,rk⟩:=hk.ex;show⟨_,ze8 hu (qv i hN hv hd I) qk q hs,⟨ ?_⟩⟩;rintro B A σ H ρ n k D a kk ⟨⟨l0,e0⟩,hf⟩;obtain⟨v0,J,_,o3⟩:=a.env.val i _ e0;obtain⟨L,rfl,hA,ag,_⟩:=o3 hi;show r.run A σ H ρ n _ _ a.env a.pn hf λw m v H1 r1 O g1 _=>⟨.ref L,J,?_⟩;have U:=a.step g1;show rk.run A σ H1 ρ m _ _ U.env U.pn r1  ?_;rintro y m2 v2 H2 ⟨kvs,st,d,e,ed,ey,hz,r2⟩ b2 g2;subst ed ey;have a2:=U.step g2;obtain⟨v3,s3,_,o4⟩:=a2.env.val i _ e;rw[J] at s3;cases s3;obtain⟨al,e4,_,hb,_⟩:=o4 hi;cases e4;obtain⟨a5,ks,e5,Y,F⟩:=hb;cases e5;obtain⟨bd,xs,rfl,Z,hx⟩:=xx b2;obtain rfl:=hx.of_ints;exact⟨L,_,rfl,zdx.i Y Z (zdW (by rw[F.len];exact bW hz)),kk.nx A σ _ _ m2 (a2.wrX (w':=.dt (zfr kvs st d)) hi e J ⟨L,_,rfl,zh,F.put (O.stay g2.st).is⟩ rfl (λk z=>by cases z) rfl) r2⟩
end
def zk9 {a c:Int}{n:Nat}(q:0<=a)(h1:a<=n)(h2:n<=1000000)(B:0<=c)(F:c<2147483549):0<=(c+70009) * (2 * a+1)+6133 * a * a+577 * a/\(c+70009) * (2 * a+1)+6133 * a * a+577 * a<=11000000000000000:=by
 have I:(c+70009) * (2 * a+1)<=2147553558 * 2000001:=db (by lia) (by lia) (by lia) (by lia);have J:0<=(c+70009) * (2 * a+1):=e8 (by lia) (by lia);have L:a * a<=1000000 * 1000000:=db (by lia) (by lia) (by lia) (by lia);have O:0<=a * a:=e8 q q;grind
def zrb{X:Cx}(K:AH)(L:X.K=K){es:AO}{to:TE}{t:TA}{apos cpos:Pos}(O:QE X o to)(U:QA X (e::es) t)(B:attributeBase o "pop" X.env (eval o X.env)=eval o X.env:=by rfl)(J:((backTo cpos (starEach (e::es) X.env)).all (λx=>!x.1)&&(backToKw cpos (keywordEach [] X.env)).all (λx=>x.1.isSome)
   && decide ((e::es).length+([]:List Keyword).length+(if ([]:List Keyword).isEmpty then 0 else 1)<30))=true:=by rfl)(I:(apos.endLine==cpos.line)=true:=by rfl)(hs:starEach (e::es) X.env=(false,eval e X.env)::starEach es X.env:=by rfl)(q:(backTo cpos (starEach es X.env)).any (·.1)=false:=by rfl) :
  QE X (.Call (.Attribute o "pop" apos) (e::es) [] cpos) (tBM K "list" zoX to t):=by
 subst L;exact zgm bU PySem.F.slot_list_pop PySem.F.type_list_pop zig O U B J I hs q
def zo6:Sp:=λvs H Q E=>∃ (p c a:Addr) (ns:AG) (n:Nat) (xs:AT),vs=[.ref p,.ref a]/\Pen H p c ns n/\n+xs.length<=1000000/\xs.length<=100000/\H a=some (.lst xs)/\
 ∀b ys H',H b=none->H' b=some (.lst ys)->ys.Perm xs->Pen H' p c ns (n+xs.length)->zB H H'->Q (.ref b) H'
def zmZ(h:ys.Perm xs):∀ {l:AS},IsL G l xs->∃l':AS,l'.Perm l/\IsL G l' ys:=by
 induction h with
 | nil=>intro l h;exact⟨l,.refl _,h⟩
 | cons x _ J=>
  intro l h
  match l,h with
  | [],h=>exact absurd h (by intro z;cases z)
  | d::ds,⟨Z,r,e,h1,h2⟩=>
   cases e;obtain⟨l',p,B⟩:=J h2;exact⟨d::l',p.cons d,x,_,rfl,h1,B⟩
 | swap x y s=>
  intro l h
  match l,h with
  | [],h=>exact absurd h (by intro z;cases z)
  | [_],⟨_,_,e,_,h2⟩=>cases e;exact absurd h2 (by intro z;cases z)
  | d::e::ds,⟨_,_,q,h1,_,_,L,B,O⟩=>
   cases q;cases L;exact⟨e::d::ds,.swap _ _ _,_,_,rfl,B,_,_,rfl,h1,O⟩
 | trans _ _ F I=>
  intro l h;obtain⟨l1,U,h1⟩:=I h;obtain⟨Y,p2,h2⟩:=F h1;exact⟨Y,p2.trans U,h2⟩
def zjy:FV:=λPn q n R=>∃p c ns l,Pn=⟨some (p,c,ns),J0⟩/\q=[.pen p,.d (.lst l)]/\n+l.length<=1000000/\l.length<=100000/\∀l':AS,l'.Perm l->R (.d (.lst l')) (n+l.length)
def zkW:zr9 2 true zjy zo6:=by rintro vs H Q E ⟨Pn,A,ws,n,R,Y,Z,hl,L,⟨p,c,ns,l,rfl,rfl,h1,h2,h4⟩,q⟩;obtain⟨v,y,rfl,b1,b2⟩:=zrY Z;have e1:v = .ref p:=b1;subst e1;obtain⟨a,xs,rfl,ha,O⟩:=b2;have U:=O.length;show⟨p,c,a,ns,n,xs,rfl,L.1.1,by lia,by lia,zt _ _ ha,λb ys H' J F B P' S'=>?_⟩;obtain⟨l',pl,I⟩:=zmZ B O;show q _ _ _ H' (h4 l' pl) (uo I S' (Y.new J) F) ⟨S',⟨by right,L.1.2⟩,trivial⟩ λ_=>⟨b,rfl,.of J,b,ys,rfl,F,I.stay (xl S' (.of J))⟩
def zhR {α:Type}:∀ {l:List α} {k:Nat} (h:k<l.length),(l[k]::l.eraseIdx k).Perm l
 | [],_,h=>absurd h (by simp)
 | x::l,0,_=>.refl _
 | x::l,k+1,h=>by have:=zhR (l:=l) (k:=k) (by simpa using h);simp only[List.getElem_cons_succ,List.eraseIdx_cons_succ];exact (List.Perm.swap x _ _).trans (this.cons x)
def ziT{xs ys zs:AT}(q:k<zs.length)(h:(ys++zs).Perm xs):(ys++[zs[k]]++zs.eraseIdx k).Perm xs:=by show .trans ?_ h;rw[b6];exact (zhR q).append_left ys
section
variable {X:Cx}{Pn:PN}{M S:AR}{fr fr':Bool}{e a b c:Expr}{es:AO}{f fa fb fc:AD}{pos p:Pos}
def zab.keys {κ:Type}{G:Hp}:∀ {kvs:List (κ×Dt)} {ks:List (κ×V)},zab G kvs ks->ks.map (·.1)=kvs.map (·.1)
 | [],_,h=>by cases h;rfl
 | q::r,_,⟨v,s,e,_,h⟩=>by subst e;rw[az,az,zab.keys h]
def WAt.mv(t:∀o,T ad=some o->T' ad=some o)(g:yJ G G')(m:w.mut=true)(h:WAt T G w (.ref ad)):WAt T' G' w (.ref ad):=by
 cases w with
 | d x=>
  cases x with
  | lst l=>obtain⟨a2,xs,e2,g1,g2⟩:=h;cases e2;exact⟨ad,xs,rfl,t _ g1,g2.stay (zB.same g)⟩
  | dct=>obtain⟨a2,xs,e2,g1,g2⟩:=h;cases e2;exact⟨ad,xs,rfl,t _ g1,g2⟩
  | _=>cases m
 | pen p=>cases m
 | dk k=>obtain⟨a2,xs,e2,g1,g2,g3⟩:=h;cases e2;exact⟨ad,xs,rfl,t _ g1,g2.stay (zB.same g),g3⟩
 | dt k=>obtain⟨a2,xs,e2,g1,g2⟩:=h;cases e2;exact⟨ad,xs,rfl,t _ g1,g2.stay (zB.same g)⟩
 | ss P w k=>obtain⟨a2,xs,e2,g1,g2⟩:=h;cases e2;exact⟨ad,xs,rfl,t _ g1,g2.stay (zB.same g)⟩
 | df k=>obtain⟨a2,ob,xs,e2,g1,g2⟩:=h;cases e2;exact⟨ad,ob,xs,rfl,t _ g1,g2.stay (zB.same g)⟩
 | kf k=>obtain⟨a2,ob,xs,e2,g1,g2⟩:=h;cases e2;exact⟨ad,ob,xs,rfl,t _ g1,g2.stay (zB.same g)⟩
 | fl k=>obtain⟨a2,ob,xs,e2,g1,g2⟩:=h;cases e2;exact⟨ad,ob,xs,rfl,t _ g1,g2.stay (zB.same g)⟩
def At3.move(h:At3 Pn B S M A σ H ρ n)(hj:j∈M)(hi:i∉M)(av:i∉S)(e:ρ[j]?=some (some w))(s:σ[j]?=some (some (.ref I))):At3 Pn B S M (λb=>A b/\b≠I) (σ.set i (some (.ref I))) H ((ρ.set j none).set i (some w)) n:=by
 obtain⟨v,s1,_,s3⟩:=h.env.val j w e;rw[s] at s1;cases s1;obtain⟨a2,e2,hA,an,ap⟩:=s3 hj;cases e2;have a3:i≠j:=λz=>hi (z ▸ hj);have J:∀b,(A b/\b≠I)->A b:=λb z=>z.1;have L:yJ (yb A H) (yb (λb=>A b/\b≠I) H):=xB J
 have Y:∀q (u:W),((ρ.set j none).set i (some w))[q]?=some (some u)->q≠i->q≠j/\ρ[q]?=some (some u):=λq u z hq=>by
  rw[ax (Ne.symm hq)] at z;by_cases O:q=j;subst O;rw[List.getElem?_set] at z;right;rw[ax (Ne.symm O)] at z;exact⟨O,z⟩
 have Z:¬ B.A0 I:=λz=>by
  rcases h.mine j w I hj e s with q | q;obtain⟨o,o1,o2,_⟩:=h.frm.al I z;exact q o o1 o2;exact h.frm.cn I q z
 have ag:Val (λb=>A b/\b≠I) H w (.ref I):=by exact WAt.mv (λo ho=>zE (λz=>z.2 rfl) ho) L ap an
 show⟨⟨?_,?_,?_,?_⟩,⟨λb z=>⟨h.frm.sub b z,λq=>Z (q ▸ z)⟩,λb z=>h.frm.new b z.1,h.frm.st,h.frm.al,h.frm.cn,h.frm.cs⟩,h.pn.less J,h.prot.trans (zB.same L),λk hk=>?_,λk u b hk ek sk=>?_⟩;rw[bh,bh,bh];exact h.env.len;intro q u eq;by_cases hq:q=i;subst hq
 have U:q<(ρ.set j none).length:=by
  have:=(ac.mp eq).1;right
 rw[aM U] at eq;cases eq;rw[bh] at U;show⟨.ref I,aM (by rw[h.env.len];exact U),λ_=>ag,λz=>absurd z hi⟩;obtain⟨O,z⟩:=Y q u eq hq;obtain⟨v,t1,t2,t3⟩:=h.env.val q u z;show⟨v,by rw[ax (Ne.symm hq)];exact t1,λy=>WAt.up (zB.same L) (zB.same L) (t2 y),λy=>?_⟩;obtain⟨b,rfl,hb,a0,hm⟩:=t3 y;show⟨b,rfl,⟨hb,λq'=>?_⟩,WAt.up (zB.refl _) (zB.same L) a0,hm⟩;subst q';exact h.env.dis j q w u b hj y (Ne.symm O) e z s t1;intro q k u u' b hq hk a1 e1 e2;have as:q≠i:=λz=>hi (z ▸ hq);have F:k≠i:=λz=>hi (z ▸ hk);rw[ax (Ne.symm as),ax (Ne.symm F)];exact h.env.dis q k u u' b hq hk a1 (Y q u e1 as).2 (Y k u' e2 F).2;exact λb z=>h.env.al b z.1;have F:k≠i:=λz=>av (z ▸ hk);rw[ax (Ne.symm F)];exact h.fix k hk;have F:k≠i:=λz=>hi (z ▸ hk);rw[ax (Ne.symm F)] at sk;exact h.mine k u b hk (Y k u ek F).2 sk
def zqm (i j:Nat):Ms:=λρ n k=>∃w,ρ[j]?=some (some w)/\k.nx ((ρ.set j none).set i (some w)) n
def zhd(j:Nat){x y:Str}{px L sp:Pos}(Y:X.N.Nodup)(hi:X.N[i]?=some x)(Z:Loc X.env.scope x)(O:j∈M:=by ext)(q:i∉M:=by ext)(F:i∉S:=by ext)(I:X.N[j]?=some y:=by rfl)(hv:Vis X.env.scope y:=by walk_at "v")(hd:Ah y:=by ext)(J:(y==("__classdict__" : Str))=false:=by ext)(hs:swapsWith (.Name y L) (some (.Name x px)) sp.line X.env=pure false:=by rfl)(hf:X.fn x=true\/X.env.scope.names.lookup x=some .local:=by walk_at "l"):JS X Pn S M fr (.Assign [.Name x px] (.Name y L) sp) (zqm i j):=by
 show⟨_,ua (i:=i) Y hi Z (qv j I hv hd J) hs hf,⟨ ?_⟩⟩;rintro B A σ H ρ n k D a kk ⟨w,e,r⟩;obtain⟨v,U,_,s3⟩:=a.env.val j w e;obtain⟨ad,rfl,hA,_,_⟩:=s3 O;exact⟨.ref ad,U,kk.nx _ _ H _ n (a.move O q F e U) r⟩
end
end L3
namespace L3
open L2
structure StOk (rm st:AG):Prop where
 len:st.length=rm.length
 box:∀b:Int,0<=b->b<rm.length->0<=yH st b/\yH st b<yH rm b
def xw:∀ (ns:AG),(∀n∈ns,1<=n)->((yZ (ns.map zp)).length:Int)=yD ns:=by
 have:∀ (k:Nat) (ns:AG),ns.length=k->(∀n∈ns,1<=n)->((yZ (ns.map zp)).length:Int)=yD ns:=by
  intro k
  induction k with
  | zero=>intro ns e _;rw[bn e];rfl
  | succ k B=>
   intro ns e h
   obtain⟨m,x,rfl⟩:∃m x,ns=m++[x]:=by
    have q:ns≠[]:=by intro z;rw[z] at e;cases e
    exact⟨ns.dropLast,ns.getLast q,(bp q).symm⟩
   rw[ak] at e;rw[aE,az,dZ,xk,ut,ux,yU];have h1:=B m (by simpa using e) λn F=>h n (bE _ F);have h2:=h x (aX _ (by simp));rw[Int.natCast_mul,h1,eM (by lia)]
 right
def zbB:∀ {ns:AG},(∀n∈ns,1<=n)->1<=yD ns:=λ{ns} h=>by
 have h1:=xw ns h
 have:∀ (ns:AG) (a:Int),1<=a->(∀n∈ns,1<=n)->1<=ns.foldl (· * ·) a:=by
  intro ns
  induction ns with
  | nil=>intro a q _;exact q
  | cons n ns F=>
   intro a q B;show F (a * n) ?_ λm I=>B m (aw _ I);have:=B n am;exact Int.le_trans (by ext) (db q this (by ext) (by lia))
 exact this ns 1 (by ext) h
def zgk {ns:AG}(q:ns≠[])(h:∀n∈ns,2<=n):2<=yD ns:=by
 obtain⟨m,x,rfl⟩:∃m x,ns=m++[x]:=⟨ns.dropLast,ns.getLast q,(bp q).symm⟩;rw[ux];have h1:=zbB (ns:=m) λn B=>by have:=h n (bE _ B);lia
 have h2:=h x (aX _ (by simp));exact Int.le_trans (by simp) (db h1 h2 (by ext) (by lia))
def zmQ (a b:AG)(k:Nat):Wi:=⟨((List.range a.length).filter λi=>!decide (i=k)).map λi:Nat=>((i:Int),a.getD i 0),(k:Int),b.getD k 0,a.getD k 0⟩
def zmR {rm a b:AG}{k:Nat}(J:StOk rm a)(L:StOk rm b)(O:k<a.length)(F:a.getD k 0≠b.getD k 0):WishOk rm (zmQ a b k):=by
 have U:=J.len;have A:∀i:Nat,i<rm.length->0<=a.getD i 0/\a.getD i 0<yH rm (i:Int):=λi hi=>by have:=J.box (i:Int) (by lia) (by lia);rwa[zS] at this
 have Bb:∀i:Nat,i<rm.length->0<=b.getD i 0/\b.getD i 0<yH rm (i:Int):=λi hi=>by have:=L.box (i:Int) (by lia) (by lia);rwa[zS] at this
 have B:k<rm.length:=by lia
 show⟨⟨λq I=>?_,?_⟩,by change (0:Int)<=(k:Int);lia,by change (k:Int)<_;lia,λq I=>?_,(Bb k B).1,(Bb k B).2,(A k B).1,(A k B).2,λz=>F z.symm⟩;obtain⟨i,hi,rfl⟩:=au.mp I;right;change List.Pairwise (λa b:Int×Int=>a.1<b.1) (((List.range a.length).filter λi=>!decide (i=k)).map λi:Nat=>((i:Int),a.getD i 0));rw[bD];show List.Pairwise.imp (R:=λi j:Nat=>i<j) (λ{i j} h=>?_) (List.Pairwise.filter _ List.pairwise_lt_range);grind;obtain⟨i,hi,rfl⟩:=au.mp I;have:=(bw.mp hi).2;change (i:Int)≠(k:Int);grind
def zvC (rm:AG)(bk:AW)(g:List (Int×Int)):AF:=(zwf rm g).filter λst=>decide (zai bk st (g.map (·.1))=[])
abbrev y8 (bk:AW):Dt:=.tup (bk.map zU)
def xu (rm:AG)(bk:AW):Prop:=∀x∈bk,WishOk rm x
def zii (x:Wi):(zU x).noL=true:=by have h:=zqv x.g;unfold zU;simp only[Dt.noL,Dt.noLs,cZ,Bool.true_and] at h ⊢;exact h
def zxo(h:zaY A H [w,u,z,y] vs):∃a b c d,vs=[a,b,c,d]/\Val A H w a/\Val A H u b/\Val A H z c/\Val A H y d:=by obtain⟨v,r,e,h1,h2⟩:=h;obtain⟨b,c,d,rfl,q,B,F⟩:=zu1 h2;exact⟨v,b,c,d,e,h1,q,B,F⟩
abbrev F_bett:FV:=λ_ q n R=>∃rm bk st hs,q=[.d (stD rm),.d (y8 bk),.d (stD st),.d (stD hs)]/\RoomOk rm/\xu rm bk/\st.length=rm.length/\R (.d (xj (zaZ bk st hs))) n
abbrev zu7:FV:=λ_ q n R=>∃rm bk g,q=[.d (stD rm),.d (y8 bk),.d (zg0 g)]/\RoomOk rm/\xu rm bk/\Giv rm g/\R (.d (xj (zvC rm bk g))) n
def uO (r:Nat):zjh 0 r=(List.range r).map λk:Nat=>W.d (.int (k:Int)):=by
 unfold zjh;right
def zjF{q:AF}(h:i<q.length):atI (q.map stD) (i:Int)=some (stD (q.getD i [])):=by
 show zbb ?_;right
def zel {ns:AG}(I:ns.length<=8)(q:∀m∈ns,2<=m/\m<=4)(k:Nat):(yZ ((ns.take k).map zp)).length<=65536:=by
 have:=zhP (cs:=ns.map zp) (by right) (λc B=>by obtain⟨m,F,rfl⟩:=au.mp B;have:=q m F;rw[yU];lia) k;right
def zah{q:AF}(h:i<q.length):q.getD i []∈q:=by right
def zsc {L:AS}{a:Int}{G:Dt->Prop}(q:0<=a)(h1:a<L.length)(h:∀x∈L,G x):∃x,atI L a=some x/\G x:=by obtain⟨d,h2,B⟩:=zsd q h1;exact⟨d,h2,h d B⟩
def zci:∀ {rm:AG},(∀r∈rm,2<=r/\r<=4)->yD rm<=256->rm.length<=8:=λ{rm} B J=>by
 have:∀ (k:Nat) (rm:AG),rm.length=k->(∀r∈rm,2<=r/\r<=4)->(2:Int) ^ k<=yD rm:=by
  intro k
  induction k with
  | zero=>intro rm e _;rw[bn e];decide
  | succ k I=>
   intro rm e B
   obtain⟨m,x,rfl⟩:∃m x,rm=m++[x]:=by
    have q:rm≠[]:=by intro z;rw[z] at e;cases e
    exact⟨rm.dropLast,rm.getLast q,(bp q).symm⟩
   rw[ak] at e;have h1:=I m (by simpa using e) λn F=>B n (bE _ F);have h2:=B x (aX _ (by simp));rw[ux,Int.pow_succ];have L:(0:Int)<=2 ^ k:=Int.pow_nonneg (by ext);exact db h1 h2.1 (by ext) (by lia)
 apply bJ;intro F;have h1:=this _ rm rfl B
 have h2:(2:Int) ^ 9<=2 ^ rm.length:=by
  have:(2:Nat) ^ 9<=2 ^ rm.length:=cq (by ext) (by lia)
  exact_mod_cast this
 grind
def zj7 {a b:AG}(B:a.length=b.length)(q:a≠b):∃k zQ,((List.range a.length).filter λk=>!decide (a.getD k 0=b.getD k 0))=k::zQ/\k<a.length/\a.getD k 0≠b.getD k 0:=by
 cases h:(List.range a.length).filter λk=>!decide (a.getD k 0=b.getD k 0) with
 | nil=>
  exfalso;apply q;apply fN B;right
 | cons k zQ=>
  have F:k∈(List.range a.length).filter λk=>!decide (a.getD k 0=b.getD k 0):=by rw[h];simp
  obtain⟨h1,h2⟩:=bw.mp F;right
def StOk.snoc {rm st:AG}{w v:Int}(h:StOk rm st)(I:0<=v)(J:v<w):StOk (rm++[w]) (st++[v]):=by
 have L:=h.len;show⟨by right,λb q B=>?_⟩;rw[ak] at B;by_cases F:b<(rm.length:Int);rw[zcf q (by lia),zcf q F];exact h.box b q F
 have e:b=(rm.length:Int):=by
  have:b<(rm.length:Int)+1:=by simpa using B
  lia
 subst e;rw[zce,<- L,zce];exact⟨I,J⟩
def zjl {sts q B:AF}{k w:Nat}(I:k<sts.length)(Z:sts.Nodup)(h1:q.Nodup)(h2:∀x∈q,∃a∈sts.take k,∃v:Int,0<=v/\v<w/\x=a++[v])(h3:q.length=k * w)(J:B.Perm ((List.range w).map λv:Nat=>sts.getD k []++[(v:Int)])) :
  (q++B).Nodup/\(∀x∈q++B,∃a∈sts.take (k+1),∃v:Int,0<=v/\v<w/\x=a++[v])/\(q++B).length=(k+1) * w:=by
 have L:sts.getD k []=sts[k]:=by simp[I]
 have ht:sts.take (k+1)=sts.take k++[sts[k]]:=zj (ai I)
 have O:∀x∈B,∃v:Int,0<=v/\v<w/\x=sts[k]++[v]:=λx F=>by
  obtain⟨v,hv,rfl⟩:=au.mp (J.mem_iff.mp F);right
 have nB:B.Nodup:=by
  show J.nodup_iff.mpr ?_;change List.Pairwise _ _;rw[bD];show List.Pairwise.imp (λ{a b} h e=>h ?_) eo;have:=List.append_cancel_left e;grind
 have ad:sts[k]∉sts.take k:=λz=>by have U:=Z;rw[<- ee k sts,di I] at U;exact (cv.mp U).2.2 _ z _ am rfl
 show⟨cv.mpr ⟨h1,nB,λx F y hy e=>?_⟩,λx F=>?_,?_⟩;obtain⟨a,Y,v,_,_,rfl⟩:=h2 x F;obtain⟨u,_,_,rfl⟩:=O y hy;right;rw[ht];rcases aI.mp F with z | z;obtain⟨a,Y,r⟩:=h2 x z;exact⟨a,bE _ Y,r⟩;obtain⟨v,r⟩:=O x z;exact⟨_,aX _ (by simp),v,r⟩;rw[ak,h3,J.length_eq,ab,ay,Nat.succ_mul]
def xU {α q:Type}(f:α->q)(l:List α)(lo hi:AQ):xA (l.map f) lo hi=(xA l lo hi).map f:=by
 unfold xA;right
def zjZ {α:Type}{l:List α}{lo hi:AQ}{x:α}(h:x∈xA l lo hi):x∈l:=c9 (bG h)
def za2 {α:Type}(l:List α)(lo hi:AQ):(xA l lo hi).length<=l.length:=by unfold xA;rw[aV,cg];lia
def zsm {st:AG}{b w:Int}(q:0<=b):xA st none (some b)++[w]++xA st (some (b+1)) none=chg st b w:=by
 have h:=zjM st (w:=w) q;have B:zdv (st.map V.int) none (some b)=(xA st none (some b)).map V.int:=by rw[<- xU];rfl
 have F:zdv (st.map V.int) (some (b+1)) none=(xA st (some (b+1)) none).map V.int:=by rw[<- xU];rfl
 rw[B,F] at h;have I:(xA st none (some b)).map V.int++[V.int w]++(xA st (some (b+1)) none).map V.int=(xA st none (some b)++[w]++xA st (some (b+1)) none).map V.int:=by rw[aE,aE];rfl
 rw[I] at h;exact eZ (by grind) |>.mp h
def zdY {l:AF}(h:l.Nodup){k:Nat}(q:k+1<l.length):l.getD k []≠l.getD (k+1) []:=by have:=b7.mp h k (k+1) (by lia) q (by lia);simpa [show k<l.length by lia,q] using this
def xu.app{rm:AG}(h:xu rm bk)(h':xu rm q):xu rm (bk++q):=λx B=>(aI.mp B).elim (h x) (h' x)
def xu.set{rm:AG}(h:xu rm bk)(q:WishOk rm x)(i:Nat):xu rm (bk.set i x):=λy B=>(List.mem_or_eq_of_mem_set B).elim (h y) λe=>e ▸ q
def xu.ins{rm:AG}(h:xu rm bk)(q:WishOk rm x)(i:Nat):xu rm (zow bk i x):=λy B=>by
 rcases aI.mp B with z | z;exact h y (bG z);rcases aF.mp z with rfl | z;exact q;exact h y (c9 z)
def zpZ {α q:Type}(f:α->q)(l:List α)(i:Nat)(x:α):zow (l.map f) i (f x)=(zow l i x).map f:=by
 unfold zow;right
def zpY {α:Type}(l:List α)(i:Nat)(x:α):(zow l i x).length=l.length+1:=by
 unfold zow;grind
def unI:Dt->Int
 | .int i=>i
 | _=>0
def zcx {α:Type}(l:List α)(k:Nat):xA l none (some (k:Int))=l.take k:=by
 unfold xA;rw[HT.sIx_none,HT.sIx_nat,fg,fQ];grind
def uC:∀ (ns st:AG),st∈yZ (ns.map zp)->StOk ns st:=by
 have:∀ (k:Nat) (ns:AG),ns.length=k->∀st,st∈yZ (ns.map zp)->StOk ns st:=by
  intro k
  induction k with
  | zero=>
   intro ns e st q;rw[bn e] at q ⊢;rw[ao.mp q];exact⟨rfl,λb U F=>absurd F (by simp;lia)⟩
  | succ k I=>
   intro ns e st q
   obtain⟨m,x,rfl⟩:∃m x,ns=m++[x]:=by
    have B:ns≠[]:=by intro z;rw[z] at e;cases e
    exact⟨ns.dropLast,ns.getLast B,(bp B).symm⟩
   rw[ak] at e;rw[aE,az,dZ,xk] at q;obtain⟨r,J,q⟩:=fP.mp q;obtain⟨v,L,rfl⟩:=au.mp q;obtain⟨j,O,rfl⟩:=au.mp L;have:=aU.mp O;exact (I m (by simpa using e) r J).snoc (by lia) (by lia)
 right
def zhv {κ:Type}[DecidableEq κ](kvs:List (κ×Dt))(k:κ)(d:Dt):(zfr kvs k d).length<=kvs.length+1:=by
 unfold zfr;split
 all_goals right
def zdQ (bk:AW)(x:Wi)(st hs:AG):zai (bk++[x]) st hs=zai bk st hs++(if (zbh st x&&!hs.contains x.b)=true then [chg st x.b x.r] else []):=by
 unfold zai;grind
def zpr{st:AG}{b x:Int}(q:0<=b)(B:st.length<=1000)(h:Q (.d (stD (chg st b x))) n):zgX (.d (.tup (xA (st.map Dt.int) none (some b)))) (.d (.tup [.int x])) n λw m=>zgX w (.d (.tup (xA (st.map Dt.int) (some (b+1)) none))) m Q:=by
 have F:=za2 st none (some b);have I:=za2 st (some (b+1)) none;rw[xU,xU];show⟨_,_,rfl,rfl,by rw[ab];exact af (by simp;lia:_<=1001) (by ext),_,_,rfl,rfl,by rw[ak,ab,ab];exact af (by simp;lia:_<=2001) (by ext),?_⟩;have e:(xA st none (some b)).map Dt.int++[Dt.int x]++(xA st (some (b+1)) none).map Dt.int=(chg st b x).map Dt.int:=by rw[<- zsm q,aE,aE];rfl
 rw[e];exact h
section
variable {X:Cx}{Pn:PN}{M S:AR}{fr fr':Bool}{e a b c:Expr}{es:AO}{f fa fb fc:AD}{pos p:Pos}
def zk6 (t:Ev->Mo Bool)(fb:Ms):Ms:=λρ n k=>∃I:Nat->Ev->Nat->Prop,(∃m,I m ρ n)/\
 ∀m q L,I m q L->t q L λb O=>if b=true then fb q O { k with nx:=λB J=>∃F,F<m/\I F B J,ct:=λB J=>∃F,F<m/\I F B J,bk:=k.nx } else k.nx q O
def zib {body:List Stmt}{t:Ev->Mo Bool}{fb:Ms}(hp:PassesOwn (model X.prog X.w) X.A X.env X.xe)(hc:JT X Pn M c t)(hb:JSs X Pn S M fr body fb):JS X Pn S M fr (.While c body [] pos) (zk6 t fb):=by
 obtain⟨tc,qc,rc⟩:=hc.ex;obtain⟨tb,qb,rb⟩:=hb.ex;show⟨_,⟨znE hp qc.run qb.run⟩,⟨ ?_⟩⟩;rintro B A σ H ρ n k D a kk ⟨I,⟨m0,i0⟩,it⟩;show⟨λm F H'=>∃A' q O,At3 Pn B S M A' F H' q O/\I m q O,⟨m0,A,ρ,n,a,i0⟩,?_⟩;rintro m F H' ⟨A',q,O,a',hI⟩;show rc.run A' F H' q O _ _ a'.env a'.pn (it m q O hI) λb n2 H2 r g=>?_;have a2:=a'.step g
 cases b with
 | false=>
  rw[if_neg (by ext)] at r ⊢;exact kk.nx A' F H2 q n2 a2 r
 | true=>
  rw[if_pos rfl] at r ⊢;show⟨λZ H3=>∃A' q O,At3 Pn B S M A' Z H3 q O/\∃L,L<m/\I L q O,λZ H3 ⟨A3,ad,n3,a3,L,hm,h⟩=>⟨L,hm,A3,ad,n3,a3,h⟩,?_⟩;show rb.run B A' F H2 q n2 { k with nx:=λU n3=>∃L,L<m/\I L U n3,ct:=λU n3=>∃L,L<m/\I L U n3,bk:=k.nx } _ a2 ⟨?_,?_,?_,kk.fc,?_⟩ r;exact λA4 Y H4 J n4 a4 r4=>⟨A4,J,n4,a4,r4⟩;exact λA4 Y H4 J n4 a4 r4=>kk.nx A4 Y H4 J n4 a4 r4;exact λA4 Y H4 J n4 a4 r4=>⟨A4,J,n4,a4,r4⟩;exact kk.rt
def zmj{t:Ev->Mo Bool}{fb:Ms}{ρ:Ev}{k:Kt}(I:Nat->Ev->Nat->Prop)(L:Nat)(Y:I L ρ n)(h:∀m q O,I m q O->t q O λb U=>if b=true then fb q U { k with nx:=λB J=>∃F,F<m/\I F B J,ct:=λB J=>∃F,F<m/\I F B J,bk:=k.nx } else k.nx q U):zk6 t fb ρ n k:=⟨I,⟨L,Y⟩,h⟩
end
end L3
namespace L2
open PyProof.Rows
def zdA(ke ve gens scope pos):eval (.DictComp ke ve gens scope pos) env=comprehension (.DictComp ke ve gens scope pos) scope env (firstIterPos gens pos) newDict (firstAsync gens) (firstIter gens env):=rfl
def zet (ke ve target iter:Expr)(ifs:AO)(scope:Scope)(pos:Pos)(it:Value)(d:Addr)(env:Env) :
  compTurn (.DictComp ke ve [⟨target,iter,ifs,0⟩] scope pos) 0 it (.ref d) env=(do
   standAt iter.pos
   match <- pyNext it with
   | none=>pure (.done .next)
   | some v=>
    letOwnedTupleGo target it v
    assign target env v
    let mut ok:=true
    for c in ifs do
     if ok then ok <- isTrue c env (eval c env)
    if ok then
     (do
      let kv <- eval ke env
      let vv <- holding [kv] (eval ve env)
      standAt { ke.pos with endLine:=ve.pos.endLine,endCol:=ve.pos.endCol }
      holding [kv,vv] (dictSet d kv vv))
    again (.compLoop (.DictComp ke ve [⟨target,iter,ifs,0⟩] scope pos) 0 it (.ref d) env)):=by rfl
section
variable {prog:Aa}{w:Ab}{A:Ae}{E:AA}{R:Result->AZ->Prop}{s:AZ}
def zac {ke ve target iter ifs zQ scope pos it acc env}
  (h0:codeAny (model prog w) A (.compLoop (.DictComp ke ve (⟨target,iter,ifs,0⟩::zQ) scope pos) 0 it acc env) R s)
  (h:Ag prog w A (pyIter it) (λit' s'=>codeAny (model prog w) A (.compLoop (.DictComp ke ve (⟨target,iter,ifs,0⟩::zQ) scope pos) 0 it' acc env) R s')
   (notedBy (model prog w) A env λx s'=>R (.error x) s') s) :
  codeAny (model prog w) A (.compStart (.DictComp ke ve (⟨target,iter,ifs,0⟩::zQ) scope pos) 0 it acc env) R s:=by
 show dM ?_;change wpAny _ _ ((compStart (.DictComp ke ve (⟨target,iter,ifs,0⟩::zQ) scope pos) 0 it acc env).onRaise (λx=>do noteFrame x env;standAt theWindowsPlace)) _ _ s;show wpAny_notedAt ?_;unfold compStart;change wpAny _ _ (ask >>= _) _ _ s;show aa (br (wpAny_ite ?_));split
 first
  | exact aa (by grind)
  | exact ae (And.intro rfl h0)
 first
  | exact aa (by grind)
  | (show aa (fS ?_);change wpAny _ _ (standAt iter.pos >>= _) _ _ s;exact aa (bK (aa (aQ h (λit' s' h'=>ae (And.intro rfl h')) λ_ _ x=>x))))
def zbS(I:Nat->AZ->Prop)(turn:∀n s,I n s->Ag prog w A (pyNext it) (λr s₁=>match r with
   | none=>R (.ok .next) s₁
   | some v=>Ag prog w A (letOwnedTupleGo target it v) (λ_ s₂=>Ag prog w A (assign target env v) (λ_ s₃=>
     Ag prog w A (forIn ifs true λc r=>if r=true then do let ok <- isTrue c env (eval c env);pure (ForInStep.yield ok) else pure (ForInStep.yield r)) (λok s₄=>
      if ok=true then Ag prog w A (eval ke env) (λx s₅=>Ag prog w A (eval ve env) (λy s₆=>
       Ag prog w A (dictSet d x y) (λ_ s₇=>∃m,m<n/\I m s₇) (λ_ _=>False) s₆) (λ_ _=>False) s₅) (λ_ _=>False) s₄
      else ∃m,m<n/\I m s₄) (λ_ _=>False) s₃) (λ_ _=>False) s₂) (λ_ _=>False) s₁) (λ_ _=>False) s)(n:Nat)(h:I n s) :
  codeAny (model prog w) A (.compLoop (.DictComp ke ve [⟨target,iter,ifs,0⟩] scope pos) 0 it (.ref d) env) R s:=by
 show eV rfl I (λn s hI=>?_) n h;change wpAny _ A ((compTurn (.DictComp ke ve [⟨target,iter,ifs,0⟩] scope pos) 0 it (.ref d) env).onRaise (λx=>do noteFrame x env;theTreesLotGoes x)) _ _ s;show fF ?_;rw[zet];show aa (bK (aa (aQ (turn n s hI) (λr s₁ h₁=>?_) λ_ _ h'=>h'.elim)))
 cases r with
 | none=>exact ae h₁
 | some v=>
  show aa (aQ h₁ (λ_ s₂ h₂=>?_) λ_ _ h'=>h'.elim);show aa (aQ h₂ (λ_ s₃ h₃=>aa (aQ h₃ (λok s₄ h₄=>?_) λ_ _ h'=>h'.elim)) λ_ _ h'=>h'.elim)
  cases ok with
  | false=>exact ae ⟨rfl,h₄⟩
  | true=>
   show aa (aa (aQ h₄ (λx s₅ h₅=>?_) λ_ _ h'=>h'.elim));show aa (bq (aQ h₅ (λy s₆ h₆=>?_) λ_ _ h'=>h'.elim));show aa (bK (bq (aQ h₆ (λ_ s₇ h₇=>?_) λ_ _ h'=>h'.elim)));exact ae ⟨rfl,h₇⟩
def zi8(h:Q (.ref s.heap.objs.size) { s with heap:=s.heap.push { cls:=.type "dict",data:=.dict #[] } }):Ag prog w A (newDict) Q E s:=by simp only[newDict,newObj];exact aa (wpAny_alloc (ae h))
variable {X:Cx}{pins:AB}{σ:St}{H:Hp}{a:Addr}{y v:V}{u r:Value}{o:Option V}
def zj3(hu:A.units+1<cLine)(I:Inv X pins σ H s)(g:zdx H a y v H')(Z:yB y u)(rv:yB v r)(h:∀s',Inv X pins σ H' s'->Q () s') :
  wpAny (model X.prog X.w) A (dictSet a u r) Q E s:=by
 rcases g with ⟨kvs,k,e,ey,l,eH⟩ | ⟨kvs,k,b,e,ey,eb,l,eH⟩;subst ey eH;obtain⟨z,L,vs,B,O⟩:=zpC I.hok e;have U:vs.length<=sizeLine:=by rw[<- B.length];exact z
 have Y:(zad kvs k v).length<=sizeLine:=by have:=xZ kvs k v;lia
 show wpAny_dictSet_pairs (hsz:=U) (zi3 Z) O λh' F hs=>h _ ?_;have he:∃q,h'.get? a=some q:=let ⟨q,_,_,J,_⟩:=F;⟨q,J⟩;exact zcO I (by rw[e];exact True.intro) hs he (zj8 Y L (B.put k rv) F);subst ey eH;cases (show u=Value.ref b from Z);obtain⟨z,L,xs,B,O⟩:=zsB I.hok e;have U:xs.length<=sizeLine:=by rw[<- eu B];exact z
 have Y:(zad kvs k v).length<=sizeLine:=by have:=xZ kvs k v;lia
 show wpAny_dictSet_heap (hsz:=U) (Nat.lt_of_succ_lt hu) (zfX I.hok eb) O λh' F hs=>h _ ?_;obtain⟨q,es,ep,J,h2,h3,h4,_,h5⟩:=F;show zcO I (by rw[e];exact True.intro) hs ⟨q,J⟩ ⟨Y,L,_,(B.put k eb rv).keeps λc ys ec=>?_,q,es,ep,J,h2,h3,h4,h5⟩;rw[zg (by grind)];exact ec
end
def zvS (g:TG)(ti:TT)(tk tv:TE)(acc:Addr)(N:St->Hp->Prop)(x:V)(σ:St)(H:Hp):Prop:=
 g x σ H λq H3=>ti q H3 λB H4=>if B=true then tk q H4 λy H5=>tv q H5 λv H6=>∃H7,zdx H6 acc y v H7/\N q H7 else N q H4
def zvR (J:It)(g:TG)(ti:TT)(tk tv:TE)(acc:Addr)(Q:VK)(σ:St)(H:Hp):Prop:=∃W:Nat->Nat->St->Hp->Prop,(∃m,W 0 m σ H)/\
 ∀i m q H',W i m q H'->(J.stop i H'/\Q (.ref acc) H')\/(J.go i H'/\∃N:St->Hp->Prop,(∀ B H2,N B H2->∃F,F<m/\W (i+1) F B H2)/\∀x H2,J.yld i H' x H2->zvS g ti tk tv acc N x q H2)
def ziF (o0:HO)(wi:TI)(g:TG)(ti:TT)(tk tv:TE)(cix:List (Option Nat)):TE:=λσ H Q=>wi σ H λJ H1=>∀acc,H1 acc=none->zvR J g ti tk tv acc Q (zcw σ cix) (upd H1 acc o0)
section
variable {X:Cx}{Fam:Cx->Prop}{scope:Scope}{N:AM}{cix:List (Option Nat)}{z:Str}{use:Option (Value->Sem Unit)}{Qp:AA}{elt ke ve tg iter tg2 iter2:Expr}{ifs ifs2:AO}{pos ipos spos px:Pos}{wi wi2:TI}{g g2:TG}{ti ti2:TT}{te tk tv:TE}{pins:AB}{σ:St}{H:Hp}{s:AZ}{Q:VK}{o0:HO}
def zfJ (Y:o0 = .dK []\/o0 = .dT [])(hu:X.A.units+1<cLine)(O:Opn X scope cix Fam)(hc:X.calm=true)(hi:PI X tg iter wi)(hg:∀X',Fam X'->PG X' tg g)(ht:∀X',Fam X'->PTs X' ifs ti)(hk:∀X',Fam X'->PE X' ke tk)(hv:∀X',Fam X'->PE X' ve tv)(hs:∀x,foldedSetIterable iter X.env x=pure x)(I:Inv X pins σ H s)
  (h:ziF o0 wi g ti tk tv cix σ H Q) (F:zvt X pins σ use Qp Q) :
  Af X (comprehension (.DictComp ke ve [⟨tg,iter,ifs,0⟩] scope pos) scope X.env ipos newDict false (eval iter X.env) use) Qp X.xe s:=
 zbe (ob:={ cls:=.type "dict",data:=.dict #[] }) (o0:=λ_=>o0) (Fin:=λacc H=>Q (.ref acc) H) (B:=λX' acc P s=>wpAny (model X'.prog X'.w) X'.A (eval ke X'.env) (λx s5=>wpAny (model X'.prog X'.w) X'.A (eval ve X'.env) (λy s6=>wpAny (model X'.prog X'.w) X'.A (dictSet acc x y) (λ_ s7=>P s7) (λ_ _=>False) s6) (λ_ _=>False) s5) (λ_ _=>False) s) (tb:=λacc Nx σ H=>tk σ H λy H5=>tv σ H5 λv H6=>∃H7,zdx H6 acc y v H7/\Nx σ H7) O hc rfl hs (λ_ _ _ _ _ h0 h1=>zac h0 h1) (λ_ _ _ _ _ _ I L n h=>zbS I L n h) (λs Q h=>zi8 h) (λ{_ _ _ s} I _=>by
  rcases Y with rfl | rfl;exact zev s.heap I.big
  exact zhZ s.heap I.big) hi hg ht (λX' hF pX wX AX _ xX acc pl s σ H Nx P I q k=>by
  have e9:=hk X' hF pl s σ H _ I q;rw[xX] at e9;show thn e9 ?_;rintro u2 Z ⟨y,H10,I10,ad,ag⟩;have U:=hv X' hF pl Z σ H10 _ I10 ag;rw[xX] at U;show thn U ?_;rintro u3 an ⟨v,H11,I11,al,H12,dp,nx⟩;exact zj3 (by rw[AX];exact hu) I11 dp ad al λs' I'=>k _ _ _ I' nx) I h (λJ H1 acc q hn=>q acc hn) F
end
def zhw{X:Cx}{tk tv:TE}{ifs:AO}{scope:Scope}{wi:TI}{g:TG}{ti:TT}{N:AM}{o0:HO}(B:o0 = .dK []\/o0 = .dT [])(F:X.A.units+1<cLine)(J:X.calm=true)(c:CompOk X scope N cix)(hi:QI X tg iter wi)(L:∀C s H ex,QG (zC X scope N C s H ex) tg g)(O:∀C s H ex,QTs (zC X scope N C s H ex) ifs ti)(U:∀C s H ex,QE (zC X scope N C s H ex) ke tk)(Y:∀C s H ex,QE (zC X scope N C s H ex) ve tv)(hs:∀x,foldedSetIterable iter X.env x=pure x:=by intro _;rfl):QE X (.DictComp ke ve [⟨tg,iter,ifs,0⟩] scope pos) (ziF o0 wi g ti tk tv cix):=⟨λpins s σ H Q I h=>by
 rw[zdA];exact zfJ B F (uv c) J hi.run (zcy λC s H ex=>(L C s H ex).run) (zcy λC s H ex=>(O C s H ex).run) (zcy λC s H ex=>(U C s H ex).run) (zcy λC s H ex=>(Y C s H ex).run) hs I h λ_ _ _ _ _ Z hb q=>zew Z hb q⟩
section
variable {X:Cx}{pins:AB}{σ:St}{H:Hp}{A:Ae}
end
def znO{X:Cx}{ifs:AO}{scope:Scope}{pos spos:Pos}{wi:TI}{g:TG}{ti:TT}{tk tv:TE}{o0:HO}{N:AM}{nx:Str}(q:o0 = .dK []\/o0 = .dT [])(Y:X.A.units+1<cLine)(B:X.N.Nodup)(F:X.N[ix]?=some nx)(J:X.env.scope.names.lookup nx=some .local)(Z:X.calm=true)(c:CompOk X scope N cix)(hi:QI X tg iter wi)(hg:∀C s H ex,QG (zC X scope N C s H ex) tg g)(ht:∀C s H ex,QTs (zC X scope N C s H ex) ifs ti)(hk:∀C s H ex,QE (zC X scope N C s H ex) ke tk)(hv:∀C s H ex,QE (zC X scope N C s H ex) ve tv)(L:swapsWithSole [.Name nx px] (.DictComp ke ve [⟨tg,iter,ifs,0⟩] scope pos) spos.line X.env=pure true:=by rfl)(hs:∀x,foldedSetIterable iter X.env x=pure x:=by intro _;rfl)(O:(assignEach [.Name nx px] X.env).map (·.2)=[assign (.Name nx px) X.env]:=by rfl):QS X (.Assign [.Name nx px] (.DictComp ke ve [⟨tg,iter,ifs,0⟩] scope pos) spos) (zgK (ziF o0 wi g ti tk tv cix) (zag ix)):=⟨λpins s σ H D I h=>zem B F J L O (λ_=>rfl) λU Qp hf=>zfJ (Q:=λv H=>D.nx (σ.set ix (some v)) H) q Y (uv c) Z hi.run (zcy λC s H ex=>(hg C s H ex).run) (zcy λC s H ex=>(ht C s H ex).run) (zcy λC s H ex=>(hk C s H ex).run) (zcy λC s H ex=>(hv C s H ex).run) hs I h hf⟩
end L2
namespace L3
open L2
section
variable {X:Cx}{Pn:PN}{M S:AR}{fr fr':Bool}{e a b c:Expr}{es:AO}{f fa fb fc:AD}{pos p:Pos}
def zja (ks:List (AG×V)):NP (dtO ks):=λ_ e=>by cases e
def zor (mg:W->Ev->(Ev->Prop)->Prop)(O:Ev->Mo Bool)(fk fv:AD)(J:Ev)(Q:AV):AU->Nat->Prop:=λl U=>l.length<=lim/\∃I:Nat->Ev->Nat->List (AG×Dt)->Prop,I 0 J U []/\
 (∀i w B F acc,l[i]?=some w->I i B F acc->mg w B λq=>O q F λb L=>if b=true then fk q L λy Y=>fv q Y λx Z=>∃st d,y = .d (stD st)/\x = .d d/\I (i+1) q Z (zfr acc st d) else I (i+1) q L acc)/\
 ∀ B F acc,I l.length B F acc->Q (.dt acc) F
abbrev zhi (q:AC) (mg:W->Ev->(Ev->Prop)->Prop) (B:Ev->Mo Bool) (fk fv:AD) (cix:List (Option Nat)):AD:=λρ n Q=>q ρ n (zor mg B fk fv (zfB ρ cix) Q)
def zsA (mg:W->Ev->(Ev->Prop)->Prop)(O:Ev->Mo Bool)(fk fv:AD)(J:Ev)(Q:AV):AU->Nat->Prop:=λl U=>l.length<=lim/\∃I:Nat->Ev->Nat->List (Key×Dt)->Prop,I 0 J U []/\
 (∀i w B F acc,l[i]?=some w->I i B F acc->mg w B λq=>O q F λb L=>if b=true then fk q L λy Y=>fv q Y λx Z=>∃ (j:Int) (d:Dt),y = .d (.int j)/\x = .d d/\I (i+1) q Z (zfr acc (Sum.inl j) d) else I (i+1) q L acc)/\
 ∀ B F acc,I l.length B F acc->Q (.dk acc) F
abbrev zwi (q:AC) (mg:W->Ev->(Ev->Prop)->Prop) (B:Ev->Mo Bool) (fk fv:AD) (cix:List (Option Nat)):AD:=λρ n Q=>q ρ n (zsA mg B fk fv (zfB ρ cix) Q)
def zgo{wi:TI}{g:TG}{ti:TT}{tk tv:TE}{cix:List (Option Nat)}{fi:AC}{mg:W->Ev->(Ev->Prop)->Prop}{ft:Ev->Mo Bool}{fk fv:AD}(hn:(cix.filterMap id).Nodup)(hi:RI Pn M ow wi fi)(hg:RG (xR M cix) (xR M cix) g mg)(ht:RT Pn (xR M cix) ti ft)(hk:RB Pn (xR M cix) tk fk)(he:RE Pn (xR M cix) fr' tv fv):RE Pn M true (ziF (.dT []) wi g ti tk tv cix) (zhi fi mg ft fk fv cix):=⟨λA σ H ρ n Q R E P hf k=>by
 show hi.run A σ H ρ n _ _ E P hf λl m J H1 ⟨hz,I,i0,it,ie⟩ iv g1=>λacc B=>?_;have E1:=E.stay g1.st;have E2:=(E1.cap hn).more (zB.upd (o:=.dT []) B) (Fr.of B) zh (zja []) rfl;have P2:uB Pn (λb=>A b\/b=acc) m (L2.upd H1 acc (.dT [])):=g1.pn.grow' (g1.pn.same (yJ.upd B)) (Fr.of B) zh (zja []) rfl;have a3:∀k w,k∈xR M cix->(zfB ρ cix)[k]?=some (some w)->(zcw σ cix)[k]?≠some (some (.ref acc)):=λk w hk hw z=>by obtain⟨v,s1,_,s3⟩:=(E1.cap hn).val k w hw;obtain⟨a,e,hA,_⟩:=s3 hk;rw[z] at s1;cases s1;cases e;exact E1.new B hA
 have key:∀ L F H',EnvR (λb=>A b\/b=acc) (xR M cix) L H' F->(∀k∈xR M cix,L[k]?=(zcw σ cix)[k]?/\F[k]?=(zfB ρ cix)[k]?)->∀k w,k∈xR M cix->F[k]?=some (some w)->L[k]?≠some (some (.ref acc)):=λL F H' E' ap k w hk hw z=>by right
 show⟨λi mm L H'=>mm=l.length - i/\i<=l.length/\∃ F n' q xs,EnvR (λb=>A b\/b=acc) (xR M cix) L H' F/\uB Pn (λb=>A b\/b=acc) n' H'/\I i F n' q/\H' acc=some (dtO xs)/\zab (yb (λb=>A b\/b=acc) H') q xs/\q.length<=i/\zB (yb A H1) (yb (λb=>A b\/b=acc) H')/\zB H1 H'/\(∀k∈xR M cix,L[k]?=(zcw σ cix)[k]?/\F[k]?=(zfB ρ cix)[k]?),
  ⟨l.length,by simp,aK _,_,m,[],[],E2,P2,i0,zh,rfl,ah _,xl (zB.upd B) (Fr.of B),zB.upd B,λk hk=>⟨rfl,rfl⟩⟩,?_⟩
 rintro i mm L H' ⟨rfl,a4,F,n',q,xs,E',P',hI,ag,U,a5,st,s1,ap⟩;by_cases av:i<l.length
 show Or.inr ?_;have an:l[i]?=some l[i]:=ai av;obtain⟨go,yl⟩:=iv.one i l[i] _ H' an st (λ_=>s1) λp hp=>E'.new hp
 show⟨go,λas H2=>∃ F n' q xs,EnvR (λb=>A b\/b=acc) (xR M cix) as H2 F/\uB Pn (λb=>A b\/b=acc) n' H2/\I (i+1) F n' q/\H2 acc=some (dtO xs)/\zab (yb (λb=>A b\/b=acc) H2) q xs/\q.length<=i+1/\zB (yb A H1) (yb (λb=>A b\/b=acc) H2)/\zB H1 H2/\(∀k∈xR M cix,as[k]?=(zcw σ cix)[k]?/\F[k]?=(zfB ρ cix)[k]?),
  λas H2 h=>⟨l.length - (i+1),by lia,rfl,av,h⟩,λx H2 hy=>?_⟩
 obtain⟨S2,V2⟩:=yl x H2 hy;show hg.run _ L H2 F x l[i] _ _ (E'.stay (zB.same S2)) V2 (it i l[i] F n' q an hI) λY O r3 E3 f3=>?_;have Z:∀k∈xR M cix,Y[k]?=(zcw σ cix)[k]?/\O[k]?=(zfB ρ cix)[k]?:=λk hk=>⟨(f3 k hk).1.trans (ap k hk).1,(f3 k hk).2.trans (ap k hk).2⟩;show ht.run _ Y H2 O n' _ _ E3 (P'.same S2) r3 λb m3 H4 r4 g4=>?_;have ad:=(zB.same S2).trans g4.st
 cases b with
 | false=>
  rw[if_neg (by ext)] at r4 ⊢;exact⟨O,m3,q,xs,E3.stay g4.st,g4.pn,r4,ad _ _ ag (zja _),U.stay (yg ad),by lia,st.trans (yg ad),s1.trans ad,Z⟩
 | true=>
  rw[if_pos rfl] at r4 ⊢;show hk.run _ Y H4 O m3 _ _ (E3.stay g4.st) g4.pn r4 λy5 m5 u5 H5 r5 B5 g5=>?_;show he.run _ Y H5 O m5 _ _ ((E3.stay g4.st).stay g5.st) g5.pn r5  ?_;rintro w6 m6 v6 H6 ⟨ky,d,ey,e6,r6⟩ V6 g6 _;subst ey e6;have al:=(ad.trans g5.st).trans g6.st;have E6:=((E3.stay g4.st).stay g5.st).stay g6.st;have a0:H6 acc=some (dtO xs):=al _ _ ag (zja _);obtain⟨bd,zs,rfl,a1,hx⟩:=xx (B5.stay g6.st);obtain rfl:=hx.of_ints;have a7:=zhv q ky d;show⟨_,zdx.i a0 a1 (zdW (by rw[U.len];lia)),O,m6,zfr q ky d,zad xs ky v6,E6.upd (.inr rfl) (key Y O H6 E6 Z) (zja _) rfl,g6.pn.upd (.inr rfl),r6,zh,?_,by lia,?_,?_,Z⟩;rw[yz (.inr rfl)];exact (U.stay (yg al)).put V6.is;rw[yz (.inr rfl)];exact st.trans (yg al);exact λb o e nn=>by rw[zg (zc e B)];exact s1.trans al b o e nn
 show Or.inl ?_;have a2:i=l.length:=by lia
 subst a2;show⟨iv.stop _ H' st (λ_=>s1),k _ n' _ H' (ie F n' q hI) ⟨acc,xs,rfl,zE (E1.new B) ag,U.stay (zB.same (xB λb z=>.inl z))⟩ (g1.trans ⟨s1,P'.less λa z=>.inl z⟩) λ_=>⟨acc,rfl,(Fr.of B).back g1.st,acc,xs,rfl,ag,U⟩⟩⟩
def zuS(h:∀C s H ex,JB (zC X scope N C s H ex) Pn M e f):∃te,(∀C s H ex,QE (zC X scope N C s H ex) e te)/\RB Pn M te f:=
 ⟨λσ H Q=>∀C s H0 ex,(h C s H0 ex).ex.choose σ H Q,λC s H0 ex=>⟨λpins s' σ H Q I z=>(h C s H0 ex).ex.choose_spec.1.run pins s' σ H Q I (z C s H0 ex)⟩,
  ⟨λA σ H ρ n Q R E P q k C s H0 ex=>(h C s H0 ex).ex.choose_spec.2.run A σ H ρ n Q R E P q k⟩⟩
def zh9(I:X.A.units+1<cLine)(J:X.calm=true)(L:CompOk X scope N cix)(hi:JI X Pn M F tg iter q)(O:∀C s H ex,JG (zC X scope N C s H ex) (xR M cix) (xR M cix) tg mg)(U:∀C s H ex,JTs (zC X scope N C s H ex) Pn (xR M cix) ifs B)(Y:∀C s H ex,JB (zC X scope N C s H ex) Pn (xR M cix) ke fk)(Z:∀C s H ex,JE (zC X scope N C s H ex) Pn (xR M cix) fr' ve fv)(hn:(cix.filterMap id).Nodup:=by ext)(hs:∀x,foldedSetIterable iter X.env x=pure x:=by intro _;rfl):JE X Pn M true (.DictComp ke ve [⟨tg,iter,ifs,0⟩] scope pos) (zhi q mg B fk fv cix):=by
 obtain⟨ti,qi,ri⟩:=hi.ex;obtain⟨g,qg,rg⟩:=zn9 O;obtain⟨tt,qt,rt⟩:=zoa U;obtain⟨tk,qk,rk⟩:=zuS Y;obtain⟨te,qe,re⟩:=zn8 Z;exact⟨_,zhw (o0:=.dT []) (by simp) I J L qi qg qt qk qe hs,zgo hn ri rg rt rk re⟩
def zi2{ifs:AO}{scope:Scope}{N:AM}{cix:List (Option Nat)}{L:AC}{mg:W->Ev->(Ev->Prop)->Prop}{O:Ev->Mo Bool}{fk fv:AD}{nx:Str}{px spos:Pos}(Y:X.A.units+1<cLine)(q:X.N.Nodup)(B:X.N[ix]?=some nx)(F:X.env.scope.names.lookup nx=some .local)(Z:X.calm=true)(cc:CompOk X scope N cix)(hi:JI X Pn M U tg iter L)(hg:∀C s H ex,JG (zC X scope N C s H ex) (xR M cix) (xR M cix) tg mg)(ht:∀C s H ex,JTs (zC X scope N C s H ex) Pn (xR M cix) ifs O)(hk:∀C s H ex,JB (zC X scope N C s H ex) Pn (xR M cix) ke fk)(he:∀C s H ex,JE (zC X scope N C s H ex) Pn (xR M cix) fr' ve fv)(hn:(cix.filterMap id).Nodup:=by ext)(I:swapsWithSole [.Name nx px] (.DictComp ke ve [⟨tg,iter,ifs,0⟩] scope pos) spos.line X.env=pure true:=by rfl)(hs:∀x,foldedSetIterable iter X.env x=pure x:=by intro _;rfl)(J:(assignEach [.Name nx px] X.env).map (·.2)=[assign (.Name nx px) X.env]:=by rfl):∃te,QS X (.Assign [.Name nx px] (.DictComp ke ve [⟨tg,iter,ifs,0⟩] scope pos) spos) (zgK te (zag ix))/\RE Pn M true te (zhi L mg O fk fv cix):=by
 obtain⟨ti,qi,ri⟩:=hi.ex;obtain⟨g,qg,rg⟩:=zn9 hg;obtain⟨tt,qt,rt⟩:=zoa ht;obtain⟨tk,qk,rk⟩:=zuS hk;obtain⟨te,qe,re⟩:=zn8 he;exact⟨_,znO (o0:=.dT []) (by simp) Y q B F Z cc qi qg qt qk qe I hs J,zgo hn ri rg rt rk re⟩
end
abbrev onI (w:W) (P:Int->Prop):Prop:=match w with | .d (.int i)=>P i | _=>False
abbrev onB (w:W) (P:Bool->Prop):Prop:=match w with | .d (.bl i)=>P i | _=>False
abbrev onT (w:W) (P:AS->Prop):Prop:=match w with | .d (.tup i)=>P i | _=>False
abbrev onL (w:W) (P:AS->Prop):Prop:=match w with | .d (.lst i)=>P i | _=>False
abbrev onS (w:W) (P:AS->Prop):Prop:=match w with | .d (.lst i)=>P i | .d (.tup i)=>P i | _=>False
abbrev onD (w:W) (P:Dt->Prop):Prop:=match w with | .d i=>P i | _=>False
abbrev onK (w:W) (P:List (Key×Dt)->Prop):Prop:=match w with | .dk i=>P i | _=>False
abbrev onE (w:W) (P:List (AG×Dt)->Prop):Prop:=match w with | .dt i=>P i | _=>False
abbrev onO {α:Type} (o:Option α) (P:α->Prop):Prop:=match o with | some i=>P i | none=>False
abbrev onC (c:Bool) (A B:Prop):Prop:=match c with | true=>A | false=>B
abbrev on1 (l:AU) (P:W->Prop):Prop:=match l with | [a]=>P a | _=>False
abbrev on2 (l:AU) (P:W->W->Prop):Prop:=match l with | [a,b]=>P a b | _=>False
abbrev onV:Ev->Nat->(W->Prop)->Prop
 | [],_,_=>False
 | a::_,0,P=>onO a P
 | _::r,i+1,P=>onV r i P
abbrev onP:Ev->Nat->W->(Ev->Prop)->Prop
 | [],_,_,Q=>Q []
 | _::r,0,w,Q=>Q (some w::r)
 | a::r,i+1,w,Q=>onP r i w λq=>Q (a::q)
abbrev onN:Ev->Nat->(Ev->Prop)->Prop
 | [],_,Q=>Q []
 | _::r,0,Q=>Q (none::r)
 | a::r,i+1,Q=>onN r i λq=>Q (a::q)
abbrev zdH {α:Type}:Nat->List α->Prop->Prop
 | 0,[],P=>P
 | k+1,_::r,P=>zdH k r P
 | _,_,_=>False
def x6{P:Int->Prop}:onI w P = ∃i,w = .d (.int i)/\P i:=propext ⟨λh=>by rcases w with (x|x|x|x|_|_) <;> first | exact False.elim h | (cases x <;> first | exact False.elim h | exact⟨_,rfl,h⟩),by right⟩
def zd0:onB w P = ∃i,w = .d (.bl i)/\P i:=propext ⟨λh=>by rcases w with (x|x|x|x|_|_) <;> first | exact False.elim h | (cases x <;> first | exact False.elim h | exact⟨_,rfl,h⟩),by rintro⟨i,e,h⟩;subst e;exact h⟩
def zd1:onT w P = ∃i,w = .d (.tup i)/\P i:=propext ⟨λh=>by rcases w with (x|x|x|x|_|_) <;> first | exact False.elim h | (cases x <;> first | exact False.elim h | exact⟨_,rfl,h⟩),by right⟩
def xG:onL w P = ∃i,w = .d (.lst i)/\P i:=propext ⟨λh=>by rcases w with (x|x|x|x|_|_) <;> first | exact False.elim h | (cases x <;> first | exact False.elim h | exact⟨_,rfl,h⟩),by right⟩
def zoI:onS w P = ∃i,(w = .d (.lst i)\/w = .d (.tup i))/\P i:=propext ⟨λh=>by rcases w with (x|x|x|x|_|_) <;> first | exact False.elim h | (cases x <;> first | exact False.elim h | exact⟨_,.inl rfl,h⟩ | exact⟨_,.inr rfl,h⟩),by rintro⟨i,e,h⟩;rcases e with e | e <;> subst e <;> exact h⟩
def xF:onD w P = ∃i,w = .d i/\P i:=propext ⟨λh=>by cases w <;> first | exact False.elim h | exact⟨_,rfl,h⟩,by right⟩
def zim{P:List (AG×Dt)->Prop}:onE w P = ∃i,w = .dt i/\P i:=propext ⟨λh=>by cases w <;> first | exact False.elim h | exact⟨_,rfl,h⟩,by right⟩
def zch {α:Type}{w:Option α}{P:α->Prop}:onO w P = ∃i,w=some i/\P i:=propext ⟨λh=>by cases w <;> first | exact False.elim h | exact⟨_,rfl,h⟩,by right⟩
def zaT{A B:Prop}:onC c A B=if c=true then A else B:=by cases c <;> simp[onC]
def zar:on1 l P = ∃a,l=[a]/\P a:=propext ⟨λh=>by rcases l with (_|⟨a,_|⟨b,l⟩⟩) <;> first | exact False.elim h | exact⟨_,rfl,h⟩,by right⟩
def zoF:on2 l P = ∃a b,l=[a,b]/\P a b:=propext ⟨λh=>by rcases l with (_|⟨a,_|⟨b,_|⟨c,l⟩⟩⟩) <;> first | exact False.elim h | exact⟨_,_,rfl,h⟩,by right⟩
def zaU:∀ {ρ:Ev} {i:Nat} {P:W->Prop},onV ρ i P = ∃w,ρ[i]?=some (some w)/\P w
 | [],i,P=>by simp[onV]
 | some w::r,0,P=>by simp[onV]
 | none::r,0,P=>by simp[onV]
 | some w::r,i+1,P=>by simpa [onV] using zaU (ρ:=r) (i:=i) (P:=P)
 | none::r,i+1,P=>by simpa [onV] using zaU (ρ:=r) (i:=i) (P:=P)
def uu:∀ {ρ:Ev} {i:Nat} {w:W} {Q:Ev->Prop},onP ρ i w Q=Q (ρ.set i (some w))
 | [],i,w,Q=>rfl
 | a::r,0,w,Q=>rfl
 | a::r,i+1,w,Q=>by rw[onP,uu];rfl
def zoH:∀ {ρ:Ev} {i:Nat} {Q:Ev->Prop},onN ρ i Q=Q (ρ.set i none)
 | [],i,Q=>rfl
 | a::r,0,Q=>rfl
 | a::r,i+1,Q=>by rw[onN,zoH];rfl
def zcC {α:Type}:∀ {k:Nat} {l:List α} {P:Prop},zdH k l P=(l.length=k/\P)
 | 0,[],P=>by simp[zdH]
 | 0,a::r,P=>by simp[zdH]
 | k+1,[],P=>by simp[zdH]
 | k+1,a::r,P=>by simp[zdH,zcC (l:=r)]
def yw {P:Prop}[Decidable P]{A B:Prop}(h1:P->A)(h2:¬ P->B):onC (decide P) A B:=by
 by_cases h:P
 all_goals right
def zgd {P:Prop}[Decidable P]{A B:Prop}(h1:¬ P->A)(h2:P->B):onC (!decide P) A B:=by
 by_cases h:P
 all_goals right
def zjc{A B:Prop}(h1:c=true->A)(h2:c=false->B):onC c A B:=by
 cases c;exact h2 rfl;exact h1 rfl
def zoG{A B:Prop}(h1:c=false->A)(h2:c=true->B):onC (!c) A B:=by
 cases c;exact h1 rfl;exact h2 rfl
def zqz{A B:Prop}(h:c=true)(h1:A):onC c A B:=by subst h;exact h1
def zqy{A B:Prop}(h:c=false)(h1:B):onC c A B:=by subst h;exact h1
def xc {α:Type}{o:Option α}{a:α}{P:α->Prop}(e:o=some a)(h:P a):onO o P:=by subst e;exact h
def onA{st:AG}{b:Int}(q:0<=b)(h1:b<st.length)(h:P (.int (yH st b))):onO (atI (st.map Dt.int) b) P:=xc (zpm q h1) h
def zqx {L:AS}{a:Int}{P:Dt->Prop}(q:0<=a)(h1:a<L.length)(h:∀x∈L,P x):onO (atI L a) P:=by obtain⟨x,e,B⟩:=zsc q h1 h;exact xc e B
section
variable {X:Cx}{Pn:PN}{M S:AR}{fr fr':Bool}{e a b c:Expr}{es:AO}{f fa fb fc g:AD}{pos p:Pos}{t u:Ev->Mo Bool}{fs gs:AC}
def wE (h:f=g)(j:JE X Pn M fr e f):JE X Pn M fr e g:=h ▸ j
def wB (h:f=g)(j:JB X Pn M e f):JB X Pn M e g:=h ▸ j
def wT (h:t=u)(j:JT X Pn M e t):JT X Pn M e u:=h ▸ j
def wW (h:t=u)(j:JW X Pn M e t):JW X Pn M e u:=h ▸ j
def wO {f g:Ev->Mo AQ}{e:Option Expr}(h:f=g)(j:JO X Pn M e f):JO X Pn M e g:=h ▸ j
def wG {f g:W->Ev->(Ev->Prop)->Prop}(h:f=g)(j:JG X S M e f):JG X S M e g:=h ▸ j
def wH {f g:AS->Ev->(Ev->Prop)->Prop}(h:f=g)(j:JGs X S M es f):JGs X S M es g:=h ▸ j
def wI(h:fs=gs)(j:JI X Pn M q tg e fs):JI X Pn M q tg e gs:=h ▸ j
def wS {s:Stmt}{f g:Ms}(h:f=g)(j:JS X Pn S M fr s f):JS X Pn S M fr s g:=h ▸ j
abbrev zsz (i:Nat):AD:=λρ n Q=>onV ρ i λw=>Q w n
def zk5:ztb i=zsz i:=by funext ρ n Q;exact zaU.symm
def kv (i:Nat){x:Str}(hi:i∉M:=by ext)(B:X.N[i]?=some x:=by rfl)(F:Vis X.env.scope x:=by walk_at "v")(I:Ah x:=by ext)
  (q:(x==("__classdict__" : Str))=false:=by ext):JE X Pn M false (.Name x pos) (zsz i):=wE zk5 (zwc i hi B F I q)
def kb(i:Nat)(B:X.N[i]?=some x:=by rfl)(F:Vis X.env.scope x:=by walk_at "v")(I:Ah x:=by ext)(q:(x==("__classdict__" : Str))=false:=by ext):JB X Pn M (.Name x pos) (zsz i):=wB zk5 (zv6 i B F I q)
abbrev dTst (fa:AD):Ev->Mo Bool:=λρ n Q=>fa ρ n λx m=>onB x λc=>Q c m
def zk:zs9 fa=dTst fa:=by funext ρ n Q;simp only[zs9,dTst,zd0]
abbrev dAnd (t u:Ev->Mo Bool):Ev->Mo Bool:=λρ n Q=>t ρ n λc m=>onC c (u ρ m Q) (Q false m)
def zbY:zvi t u=dAnd t u:=by funext ρ n Q;simp only[zvi,dAnd,zaT]
abbrev dOr (t u:Ev->Mo Bool):Ev->Mo Bool:=λρ n Q=>t ρ n λc m=>onC c (Q true m) (u ρ m Q)
def zcd:mOr t u=dOr t u:=by funext ρ n Q;simp only[mOr,dOr,zaT]
abbrev dNot (t:Ev->Mo Bool):Ev->Mo Bool:=λρ n Q=>t ρ n λc m=>onC c (Q false m) (Q true m)
def za6:zws t=dNot t:=by funext ρ n Q;simp only[zws,dNot];congr 1;funext c m;cases c <;> rfl
abbrev zsn (fa fb:AD):AD:=λρ n Q=>fa ρ n λx m=>onB x λc=>onC c (fb ρ m Q) (Q (.d (.bl false)) m)
def zid:zqe fa fb=zsn fa fb:=by funext ρ n Q;simp only[zqe,zsn,zaT,zd0]
abbrev dOrV (fa fb:AD):AD:=λρ n Q=>fa ρ n λx m=>onB x λc=>onC c (Q (.d (.bl true)) m) (fb ρ m Q)
abbrev zst (fa:AD):AD:=λρ n Q=>fa ρ n λx m=>onB x λc=>Q (.d (.bl (!c))) m
def zni:zqo fa=zst fa:=by funext ρ n Q;simp only[zqo,zst,zd0]
abbrev dIf (t:Ev->Mo Bool) (fa fb:AD):AD:=λρ n Q=>t ρ n λc m=>onC c (fa ρ m Q) (fb ρ m Q)
abbrev dI (C:Int->Int->Prop) (g:Int->Int->Dt):W->W->Mo W:=λx y n Q=>onI x λi=>onI y λj=>C i j/\Q (.d (g i j)) n
def zsF {C:Int->Int->Prop}{g:Int->Int->Dt}:fI C g=dI C g:=by funext x y n Q;simp only[dI,x6];exact propext ⟨by rintro⟨i,j,q,B,h⟩;exact⟨i,q,j,B,h⟩,by rintro⟨i,q,j,B,h⟩;exact⟨i,j,q,B,h⟩⟩
abbrev dI0 (g:Int->Int->Dt):W->W->Mo W:=λx y n Q=>onI x λi=>onI y λj=>Q (.d (g i j)) n
def zfN {g:Int->Int->Dt}:fI0 g=dI0 g:=by funext x y n Q;simp only[dI0,x6];exact propext ⟨by rintro⟨i,j,q,B,h⟩;exact⟨i,q,j,B,h⟩,by rintro⟨i,q,j,B,h⟩;exact⟨i,j,q,B,h⟩⟩
def uk:F2 Pn false (rI0 λi j=>.int (i+j)) (dI0 λi j=>.int (i+j)):=zfN ▸ zxd
def zuR:F2 Pn false (rI0 λi j=>.int (i - j)) (dI0 λi j=>.int (i - j)):=zfN ▸ zxn
def zuP:F2 Pn false (rI zr2 λi j=>.int (i / j)) (dI zr2 λi j=>.int (i / j)):=zsF ▸ zuX
def zrQ:F2 Pn false (rI (λ_ j=>0<j) λi j=>.int (i % j)) (dI (λ_ j=>0<j) λi j=>.int (i % j)):=zsF ▸ zxl
def zr5:F2 Pn false (rI0 λi j=>.bl (decide (i<j))) (dI0 λi j=>.bl (decide (i<j))):=zfN ▸ v_lt
def zw9:F2 Pn false (rI0 λi j=>.bl (decide (i<=j))) (dI0 λi j=>.bl (decide (i<=j))):=zfN ▸ v_le
def u_gt:F2 Pn false (rI0 λi j=>.bl (decide (i > j))) (dI0 λi j=>.bl (decide (j<i))):=zfN ▸ v_gt
abbrev zvO:W->Mo W:=λx n Q=>onI x λi=>Q (.d (.int (-i))) n
def zrR:F1 Pn false (rU λi=>.int (-i)) zvO:=(show zv1=zvO by funext x n Q;simp only[zv1,zvO,x6]) ▸ zxm
abbrev dEq:W->W->Mo W:=λx y n Q=>onD x λa=>onD y λb=>onO (sEq a b) λr=>Q (.d (.bl r)) n
def zsE:fEq=dEq:=by
 funext x y n Q;simp only[fEq,dEq,xF,zch];right
abbrev dNe:W->W->Mo W:=λx y n Q=>onD x λa=>onD y λb=>onO (sEq a b) λr=>Q (.d (.bl (!r))) n
def zsH:fNe=dNe:=by
 funext x y n Q;simp only[fNe,dNe,xF,zch];right
def zae:F2 Pn false rEq dEq:=zsE ▸ v_eq
def zpc:F2 Pn false rNe dNe:=zsH ▸ v_ne
abbrev zvG:W->W->Mo W:=λx y n Q=>onD x λa=>onD y λb=>a.eqOk/\b.eqOk/\∀r:Bool,(r=true↔a=b)->Q (.d (.bl r)) n
abbrev dNeD:W->W->Mo W:=λx y n Q=>onD x λa=>onD y λb=>a.eqOk/\b.eqOk/\∀r:Bool,(r=true↔a=b)->Q (.d (.bl (!r))) n
def zpJ:zvV=zvG:=by
 funext x y n Q;simp only[zvV,zvG,xF];right
def zuO:F2 Pn false zvn zvG:=zpJ ▸ zxf
abbrev dIsB:W->W->Mo W:=λx y n Q=>onB x λa=>onB y λb=>Q (.d (.bl (a==b))) n
abbrev zgS:W->W->Mo W:=λx y n Q=>onB x λa=>onB y λb=>Q (.d (.bl (a != b))) n
def ziU:zgY=zgS:=by
 funext x y n Q;simp only[zgY,zgS,zd0];right
def zjp:F2 Pn false (λx y H Q=>∃a b,x = .bl a/\y = .bl b/\Q (.bl (a != b)) H) zgS:=ziU ▸ zjr
abbrev dInI:W->W->Mo W:=λx y n Q=>onI x λb=>onS y λl=>∃ns:AG,l=ns.map .int/\Q (.d (.bl (ns.contains b))) n
abbrev zvP:W->W->Mo W:=λx y n Q=>onI x λb=>onS y λl=>∃ns:AG,l=ns.map .int/\Q (.d (.bl (!ns.contains b))) n
abbrev xr:Bool->Bool->Bool
 | false,b=>b
 | true,b=>!b
abbrev zvI (q:Bool):W->W->Mo W:=λx y n Q=>onD x λd=>onS y λds=>d.eqOk/\(Dt.lst ds).eqOk/\∀b:Bool,(b=true↔d∈ds)->Q (.d (.bl (xr q b))) n
def zu4 {q b:Bool}:(if q then !b else b)=xr q b:=by cases q <;> rfl
def zpK:zvW q=zvI q:=by
 funext x y n Q;simp only[zvW,zvI,xF,zoI,zu4];right
def zn7:F2 Pn false (zvo q) (zvI q):=zpK ▸ zxg
abbrev zvK:W->W->Mo W:=λx y n Q=>onT x λl=>onI y λi=>onO (atI l i) λd=>Q (.d d) n
abbrev zvJ:W->W->Mo W:=λx y n Q=>onL x λl=>onI y λi=>onO (atI l i) λd=>Q (.d d) n
def zpM:zvY=zvK:=by
 funext x y n Q;simp only[zvY,zvK,zd1,x6,zch];right
def zpL:zvX=zvJ:=by
 funext x y n Q;simp only[zvX,zvJ,xG,x6,zch];right
def ul:F2 Pn false (zua K) zvK:=zpM ▸ zxi
def uS:F2 Pn false (zvp K) zvJ:=zpL ▸ zxh
abbrev zmF:W->W->Mo W:=λx y n Q=>onT x λl=>onT y λm=>l.length+m.length<=lim/\Q (.d (.tup (l++m))) n
abbrev zpy:W->W->Mo W:=λx y n Q=>onL x λl=>onL y λm=>l.length+m.length<=lim/\Q (.d (.lst (l++m))) n
def zmM:zgX=zmF:=by
 funext x y n Q;simp only[zgX,zmF,zd1];right
def zmL:zpI=zpy:=by
 funext x y n Q;simp only[zpI,zpy,xG];right
def xK:F2 Pn false (zlF K) zmF:=zmM ▸ zuW
def xh:F2 Pn true zrk zpy:=zmL ▸ zuV
abbrev dRepT:W->W->Mo W:=λx y n Q=>onT x λl=>onI y λj=>(1<=j/\j<=1000000/\l.length * j.toNat<=lim)/\Q (.d (.tup (List.replicate j.toNat l).flatten)) n
abbrev zpA:W->W->Mo W:=λx y n Q=>onL x λl=>onI y λj=>(0<=j/\j<=1000000/\l.length * j.toNat<=lim)/\Q (.d (.lst (List.replicate j.toNat l).flatten)) n
def zmN:zpP=zpA:=by
 funext x y n Q;simp only[zpP,zpA,xG,x6,and_assoc];right
def zpd:F2 Pn true zvq zpA:=zmN ▸ zuZ
def ws1:on1 q P = ∃a,q=[a]/\P a:=zar
abbrev zvL:AU->Mo W:=λq n Q=>on1 q λx=>onO (lenD x) λk=>Q (.d (.int (k:Int))) n
def zpN:zvZ=zvL:=by
 funext ws n Q;simp only[zvZ,zvL,zar,zch];right
def xP:FL Pn false (λxs H Q=>∃x n,xs=[x]/\zr8 K x H n/\Q (.int n) H) zvL:=zpN ▸ zxj
abbrev dAbs:AU->Mo W:=λq n Q=>on1 q λx=>onI x λi=>Q (.d (.int (if i<0 then -i else i))) n
abbrev dMin:AU->Mo W:=λq n Q=>on2 q λx y=>onI x λi=>onI y λj=>Q (.d (.int (if j<i then j else i))) n
abbrev zvN:AU->Mo W:=λq n Q=>on2 q λx y=>onI x λi=>onI y λj=>Q (.d (.int (if j > i then j else i))) n
def zpO:zv0=zvN:=by funext ws n Q;simp only[zv0,zvN,zoF,x6];exact propext ⟨by rintro⟨x,y,e,h⟩;exact⟨_,_,e,x,rfl,y,rfl,h⟩,by rintro⟨x,y,e,k,q,l,B,h⟩;subst q B;exact⟨k,l,e,h⟩⟩
def zxa:FL Pn false (λxs H Q=>∃i j,xs=[.int i,.int j]/\Q (.int (if j > i then j else i)) H) zvN:=zpO ▸ zxk
abbrev zvF:AU->Mo W:=λB n Q=>on1 B λx=>onL x λl=>∃q:List Bool,l=q.map .bl/\Q (.d (.bl (q.all id))) n
def zpH:zvU=zvF:=by funext ws n Q;simp only[zvU,zvF,zar,xG];exact propext ⟨by rintro⟨x,e,h⟩;exact⟨_,e,_,rfl,x,rfl,h⟩,by right⟩
def zrP:FL Pn false (λxs H Q=>∃ (p:Addr) (q:List Bool),xs=[.ref p]/\H p=some (.lst (q.map V.bl))/\Q (.bl (q.all id)) H) zvF:=zpH ▸ zxe
abbrev zsr:AU->Mo W:=λq n Q=>on1 q λx=>onS x λl=>Q (.d (.lst l)) n
abbrev zoq:AU->Mo W:=λq n Q=>on1 q λx=>onS x λl=>Q (.d (.tup l)) n
def zuv:(∃l,(q=[.d (.lst l)]\/q=[.d (.tup l)])/\P l)=on1 q λx=>onS x P:=by
 simp only[zar,zoI];grind
def zma:FL Pn true (zlG K) zsr:=(show zsG=zsr by funext ws n Q;exact zuv) ▸ zuY
def za9:FL Pn false (zhA K) zoq:=(show zou=zoq by funext ws n Q;exact zuv) ▸ zrX
abbrev dDictT:AU->Mo W:=λq n Q=>on1 q λx=>onT x λl=>∃ps:List (Int×Dt),l=ps.map prD/\(ps.map (·.1)).Nodup/\ps.length<=1000/\Q (.dk (ps.map kvD)) n
abbrev dInt1:AU->Mo W:=λq n Q=>on1 q λx=>match x with
 | .d (.int i)=>Q (.d (.int i)) n
 | .d (.bl b)=>Q (.d (.int (if b then 1 else 0))) n
 | _=>False
abbrev zj1:AU->Mo W:=λB n Q=>on1 B λx=>onL x λl=>∃ns:AG,l=ns.map .int/\ns.length<64/\∀q:AG,q.Perm ns->q.Pairwise (·<=·)->Q (.d (.lst (q.map .int))) n
def zkg:zkf=zj1:=by funext ws n Q;simp only[zkf,zj1,zar,xG];exact propext ⟨by rintro⟨x,e,h⟩;exact⟨_,e,_,rfl,x,rfl,h⟩,by right⟩
def zrS:FL Pn true zlH zj1:=zkg ▸ zrV
abbrev zj2:AU->Mo W:=λB n Q=>on1 B λx=>onL x λl=>∃ (sts:AF) (m:Nat),l=sts.map stD/\sts.length<64/\1<=m/\(∀st∈sts,st.length=m)/\sts.Nodup/\∀q:AF,q.Perm sts->(q.Pairwise λa b=>HT.lexLt a b=true)->Q (.d (xj q)) n
def zki:zkh=zj2:=by funext ws n Q;simp only[zkh,zj2,zar,xG];exact propext ⟨by rintro⟨x,m,e,h⟩;exact⟨_,e,_,rfl,x,m,rfl,h⟩,by right⟩
def zrT:FL Pn true zro zj2:=zki ▸ zrW
abbrev dListD:AU->Mo W:=λq n Q=>on1 q λx=>onE x λkvs=>((kvs.map (·.1)).Nodup->Q (.d (.lst ((kvs.map (·.1)).map stD))) n)
end
section
variable {fa fb fc f fk fd fv:AD}{t u:Ev->Mo Bool}{fs gs:AC}
abbrev zsu (fa:AD):Ev->Mo AQ:=λρ n Q=>fa ρ n λx m=>onI x λi=>Q (some i) m
def zq:zqp fa=zsu fa:=by funext ρ n Q;simp only[zqp,zsu,x6]
abbrev dSlT (fa:AD) (fl q:Ev->Mo AQ):AD:=λρ n Q=>fa ρ n λx B=>fl ρ B λlo F=>q ρ F λhi I=>onT x λl=>Q (.d (.tup (xA l lo hi))) I
def xz {fl q:Ev->Mo AQ}:zwv fa fl q=dSlT fa fl q:=by funext ρ n Q;simp only[zwv,dSlT,zd1]
abbrev dSlL (fa:AD) (fl q:Ev->Mo AQ):AD:=λρ n Q=>fa ρ n λx B=>fl ρ B λlo F=>q ρ F λhi I=>onL x λl=>Q (.d (.lst (xA l lo hi))) I
def zO {fl q:Ev->Mo AQ}:zwu fa fl q=dSlL fa fl q:=by funext ρ n Q;simp only[zwu,dSlL,xG]
abbrev dRevT (fa:AD):AD:=λρ n Q=>fa ρ n λx m=>onT x λl=>Q (.d (.tup l.reverse)) m
abbrev zsw (fa:AD):AD:=λρ n Q=>fa ρ n λx m=>onL x λl=>Q (.d (.lst l.reverse)) m
def zeL:zqs fa=zsw fa:=by funext ρ n Q;simp only[zqs,zsw,xG]
abbrev dDGet (fd fk:AD):AD:=λρ n Q=>fd ρ n λx q=>fk ρ q λy B=>onK x λkvs=>onO (zwg y) λk=>onO (yW kvs k) λd=>Q (.d d) B
abbrev dDIn (q:Bool) (fk fd:AD):AD:=λρ n Q=>fk ρ n λy B=>fd ρ B λx F=>onK x λkvs=>onO (zwg y) λk=>Q (.d (.bl (xr q (yW kvs k).isSome))) F
abbrev dFn (k:Nat) (F:AU->Mo W) (fs:AC):AD:=λρ n Q=>fs ρ n λq m=>zdH k q (F q m Q)
def zr:mFn k F fs=dFn k F fs:=by funext ρ n Q;simp only[mFn,dFn,zcC]
abbrev dFnB (k:Nat) (fr:Bool) (F:AU->Mo W) (fs:AC):AD:=λρ n Q=>fs ρ n λq m=>zdH k q (F q m λw B=>W.flat fr w=true/\Q w B)
abbrev eN (i:Nat):W->Ev->(Ev->Prop)->Prop:=λw ρ Q=>onP ρ i w Q
def zK:gN i=eN i:=by funext w ρ Q;exact uu.symm
abbrev eNl:AS->Ev->(Ev->Prop)->Prop:=λds ρ Q=>match ds with | []=>Q ρ | _=>False
def uU:gNl=eNl:=by
 funext ds ρ Q
 cases ds with
 | nil=>simp[gNl,eNl]
 | cons _ _=>simp[gNl,eNl]
abbrev eCn (g:W->Ev->(Ev->Prop)->Prop) (u:AS->Ev->(Ev->Prop)->Prop):AS->Ev->(Ev->Prop)->Prop:=λds ρ Q=>match ds with | d::r=>g (.d d) ρ λq=>u r q Q | []=>False
def yn {g:W->Ev->(Ev->Prop)->Prop}{u:AS->Ev->(Ev->Prop)->Prop}:gCn g u=eCn g u:=by
 funext ds ρ Q
 cases ds with
 | nil=>simp[gCn,eCn]
 | cons d r=>exact propext ⟨by rintro⟨d',q,e,h⟩;cases e;exact h,λh=>⟨d,r,rfl,h⟩⟩
abbrev eTp (n:Nat) (u:AS->Ev->(Ev->Prop)->Prop):W->Ev->(Ev->Prop)->Prop:=λw ρ Q=>onT w λds=>zdH n ds (u ds ρ Q)
def uV {n:Nat}{u:AS->Ev->(Ev->Prop)->Prop}:gTp n u=eTp n u:=by funext w ρ Q;simp only[gTp,eTp,zd1,zcC]
abbrev dItL (fa:AD):AC:=λρ n Q=>fa ρ n λx m=>onL x λl=>Q (l.map W.d) m
abbrev dItT (fa:AD):AC:=λρ n Q=>fa ρ n λx m=>onT x λl=>Q (l.map W.d) m
def xb:zwn fa=dItL fa:=by funext ρ n Q;simp only[zwn,dItL,xG]
def za5:zwp fa=dItT fa:=by funext ρ n Q;simp only[zwp,dItT,zd1]
abbrev dItR (fs:AC):AC:=λρ n Q=>fs ρ n λq m=>on1 q λx=>onI x λj=>(j<=1000000/\-1000000<=j)/\Q (zjh 0 j.toNat) m
def xy:zwo fs=dItR fs:=by funext ρ n Q;simp only[zwo,dItR,zar,x6];congr 1;funext ws m;exact propext ⟨by right,by right⟩
abbrev dItR2 (fs:AC):AC:=λρ n Q=>fs ρ n λq m=>on2 q λx y=>onI x λi=>onI y λj=>(j<=1000000/\-1000000<=j/\i<=1000000/\-1000000<=i)/\Q (zjh i (j - i).toNat) m
abbrev dItE (fs:AC):AC:=λρ n Q=>fs ρ n λq m=>on1 q λx=>onT x λl=>Q (enW 0 l) m
abbrev zsp (fs:AC):AC:=λρ n Q=>fs ρ n λq m=>on1 q λx=>onL x λl=>Q (enW 0 l) m
def zqk:zwm fs=dItE fs:=by funext ρ n Q;simp only[zwm,dItE,zar,zd1];congr 1;funext ws m;exact propext ⟨by right,by right⟩
def zeI:zqj fs=zsp fs:=by funext ρ n Q;simp only[zqj,zsp,zar,xG];congr 1;funext ws m;exact propext ⟨by right,by right⟩
abbrev dItZ (fs:AC):AC:=λρ n Q=>fs ρ n λq m=>on2 q λx y=>onT x λl=>onT y λk=>l.length=k.length/\Q (ziW l k) m
abbrev dItZM (fs:AC):AC:=λρ n Q=>fs ρ n λq m=>on2 q λx y=>onL x λl=>onT y λk=>l.length=k.length/\Q (ziW l k) m
abbrev zsq (fs:AC):AC:=λρ n Q=>fs ρ n λq m=>on2 q λx y=>onL x λl=>onL y λk=>Q (ziW l k) m
def zcA:zql fs=zsq fs:=by funext ρ n Q;simp only[zql,zsq,zoF,xG];congr 1;funext ws m;exact propext ⟨by rintro⟨i,j,e,h⟩;exact⟨_,_,e,i,rfl,j,rfl,h⟩,by rintro⟨x,y,e,i,q,j,B,h⟩;subst q B;exact⟨i,j,e,h⟩⟩
abbrev dIfS (t:Ev->Mo Bool) (f g:Ms):Ms:=λρ n k=>t ρ n λc m=>onC c (blk f ρ m k) (blk g ρ m k)
def zu {f g:Ms}:zwk t f g=dIfS t f g:=by funext ρ n k;simp only[zwk,dIfS,zaT]
abbrev zvQ (i:Nat):Ms:=λρ n k=>onV ρ i λw=>k.rt w n
def uJ:zqr i=zvQ i:=by funext ρ n k;exact zaU.symm
abbrev dSet (i:Nat) (f:AD):Ms:=λρ n k=>f ρ n λw m=>onP ρ i w λq=>k.nx q m
def zo:zqf f (gN i)=dSet i f:=by change zqf f (gN i)=zqf f (eN i);rw[zK]
abbrev dOwn (i:Nat) (f:AD):Ms:=λρ n k=>f ρ n λw m=>onC (W.mut w) (onP ρ i w λρ'=>k.nx ρ' m) False
def yr:zs8 i f=dOwn i f:=by funext ρ n k;simp only[zs8,dOwn,uu (Q:=λρ'=>k.nx ρ' _)];congr 1;funext w m;cases h:W.mut w <;> simp
abbrev dApp (i:Nat) (f:AD):Ms:=λρ n k=>onV ρ i λv=>onL v λl=>f ρ n λw m=>onD w λd=>l.length<lim/\onP ρ i (.d (.lst (l++[d]))) λq=>k.nx q m
def zc2:(onV ρ i λv=>onL v P) = ∃l,ρ[i]?=some (some (.d (.lst l)))/\P l:=by simp only[zaU,xG];exact propext ⟨by right,by right⟩
def zsC{P:List (AG×Dt)->Prop}:(onV ρ i λv=>onE v P) = ∃l,ρ[i]?=some (some (.dt l))/\P l:=by simp only[zaU,zim];exact propext ⟨by right,by right⟩
def uH:zvj i f=dApp i f:=by
 funext ρ n k;simp only[zvj,dApp,zc2,xF,uu (Q:=λq=>k.nx q _)];show propext ⟨λ⟨⟨l,e⟩,h⟩=>⟨l,e,?_⟩,λ⟨l,e,h⟩=>⟨⟨l,e⟩,?_⟩⟩
 all_goals
  right
abbrev dExt (i:Nat) (f:AD):Ms:=λρ n k=>onV ρ i λv=>onL v λl=>f ρ n λw m=>onL w λB=>l.length+B.length<=lim/\onP ρ i (.d (.lst (l++B))) λq=>k.nx q m
def zhj:zwj i f=dExt i f:=by
 funext ρ n k;simp only[zwj,dExt,zc2];simp only[xG,uu (Q:=λq=>k.nx q _)];show propext ⟨λ⟨⟨l,e⟩,h⟩=>⟨l,e,?_⟩,λ⟨l,e,h⟩=>⟨⟨l,e⟩,?_⟩⟩
 all_goals
  right
abbrev dIns (i:Nat) (fk f:AD):Ms:=λρ n k=>onV ρ i λv=>onL v λl=>fk ρ n λy m=>f ρ m λw B=>onD w λd=>onI y λj=>(0<=j/\j<=l.length/\l.length<lim)/\onP ρ i (.d (.lst (zow l j.toNat d))) λq=>k.nx q B
def zqi:zwl i fk f=dIns i fk f:=by
 funext ρ n k;simp only[zwl,dIns,zc2,xF,x6,uu (Q:=λq=>k.nx q _)];show propext ⟨λ⟨⟨l,e⟩,h⟩=>⟨l,e,?_⟩,λ⟨l,e,h⟩=>⟨⟨l,e⟩,?_⟩⟩
 all_goals
  show (congrArg (fk ρ n) ?_).mp h;funext y m;show congrArg (f ρ m) ?_;funext w m2;show propext ?_;simp[e,and_assoc]
abbrev zsv (i:Nat) (fk:AD):Ms:=λρ n k=>onV ρ i λv=>onL v λl=>fk ρ n λy m=>onI y λj=>(0<=j/\j<l.length/\l.length<=lim)/\onP ρ i (.d (.lst (l.eraseIdx j.toNat))) λq=>k.nx q m
def znj:zqq i fk=zsv i fk:=by
 funext ρ n k;simp only[zqq,zsv,zc2,x6,uu (Q:=λq=>k.nx q _)];show propext ⟨λ⟨⟨l,e⟩,h⟩=>⟨l,e,?_⟩,λ⟨l,e,h⟩=>⟨⟨l,e⟩,?_⟩⟩
 all_goals
  show (congrArg (fk ρ n) ?_).mp h;funext y m;show propext ?_;simp[e,and_assoc]
abbrev zvg (i:Nat):Ms:=λρ n k=>onV ρ i λv=>onL v λl=>onP ρ i (.d (.lst l.reverse)) λq=>k.nx q n
abbrev dPut (i:Nat) (fk f:AD):Ms:=λρ n k=>onV ρ i λv=>onL v λl=>f ρ n λw m=>fk ρ m λy B=>onD w λd=>onI y λj=>(0<=j/\j<l.length)/\onP ρ i (.d (.lst (l.set j.toNat d))) λq=>k.nx q B
def zk4:zwt i fk f=dPut i fk f:=by
 funext ρ n k;simp only[zwt,dPut,zc2,xF,x6,uu (Q:=λq=>k.nx q _)];show propext ⟨λ⟨⟨l,e⟩,h⟩=>⟨l,e,?_⟩,λ⟨l,e,h⟩=>⟨⟨l,e⟩,?_⟩⟩
 all_goals
  show (congrArg (f ρ n) ?_).mp h;funext y m;show congrArg (fk ρ m) ?_;funext w m2;show propext ?_;simp[e,and_assoc]
abbrev onSt (w:W) (P:AG->Prop):Prop:=∃st,w = .d (stD st)/\P st
abbrev zoo (fd fk:AD):AD:=λρ n Q=>fd ρ n λx q=>fk ρ q λy B=>onE x λkvs=>∃st,y = .d (stD st)/\onO (yW kvs st) λd=>Q (.d d) B
def xo:zk2 fd fk=zoo fd fk:=by
 funext ρ n Q;simp only[zk2,zoo,zim,zch];grind
abbrev zop (i:Nat) (fk f:AD):Ms:=λρ n k=>onV ρ i λv=>onE v λkvs=>f ρ n λw m=>fk ρ m λy B=>onD w λd=>∃st,y = .d (stD st)/\kvs.length<lim/\onP ρ i (.dt (zfr kvs st d)) λq=>k.nx q B
def zc3:zk3 i fk f=zop i fk f:=by
 funext ρ n k;simp only[zk3,zop,zsC,xF,uu (Q:=λB=>k.nx B _)];show propext ⟨λ⟨⟨l,e⟩,h⟩=>⟨l,e,?_⟩,λ⟨l,e,h⟩=>⟨⟨l,e⟩,?_⟩⟩
 all_goals
  show (congrArg (f ρ n) ?_).mp h;funext y m;show congrArg (fk ρ m) ?_;funext w m2;show propext ?_;constructor
 rintro⟨kvs,st,d,q,F,I,h1,h2⟩;rw[e] at q;cases q;exact⟨d,F,st,I,h1,h2⟩;right;right;rintro⟨kvs,st,d,q,F,I,h1,h2⟩;rw[e] at q;cases q;exact⟨d,F,st,I,h1,h2⟩
abbrev zss (i j:Nat):Ms:=λρ n k=>onV ρ j λw=>onN ρ j λq=>onP q i w λB=>k.nx B n
def zeK:zqm i j=zss i j:=by funext ρ n k;simp only[zqm,zss,zaU,uu (Q:=λq=>k.nx q _),zoH (Q:=λB=>k.nx (B.set i (some _)) n)]
abbrev dPar (i j:Nat) (fs:AC):Ms:=λρ n k=>fs ρ n λF m=>on2 F λw u=>onP ρ i w λq=>onP q j u λB=>k.nx B m
abbrev dIsi (B:Dt->Bool) (f:AD):AD:=λρ n Q=>f ρ n λw m=>onD w λd=>Q (.d (.bl (B d))) m
def za4:zoD B f=dIsi B f:=by funext ρ n Q;simp only[zoD,dIsi,xF]
abbrev zhX (fs:AC):AD:=λρ n Q=>fs ρ n λq m=>on1 q λx=>onI x λj=>(0<=j/\j<=1000)/\Q (.d (.lst (zgJ j.toNat))) m
abbrev zsy (fs:AC):AD:=λρ n Q=>fs ρ n λq m=>on1 q λx=>onI x λj=>(0<=j/\j<=1000)/\Q (.d (.tup (zgJ j.toNat))) m
def zuk {q:AU}{P:Nat->Prop}:(∃j:Nat,q=[.d (.int (j:Int))]/\j<=1000/\P j)=on1 q λx=>onI x λj=>(0<=j/\j<=1000)/\P j.toNat:=by simp only[zar,x6];exact propext ⟨by rintro⟨j,e,h1,h⟩;exact⟨_,e,_,rfl,⟨by lia,by lia⟩,by simpa using h⟩,by rintro⟨x,e,j,B,⟨h1,h2⟩,h⟩;exact⟨j.toNat,by grind,by lia,h⟩⟩
def uI:zeJ fs=zhX fs:=by funext ρ n Q;simp only[zeJ,zhX];congr 1;funext ws m;exact zuk (P:=λj=>Q (.d (.lst (zgJ j))) m)
abbrev dTru (f:AD):Ev->Mo Bool:=λρ n Q=>f ρ n λw m=>onO (truD w) λb=>Q b m
def zqt:zwx f=dTru f:=by funext ρ n Q;simp only[zwx,dTru,zch]
abbrev zon (F G:W->W->Mo W) (fa fb fc:AD):AD:=λρ n Q=>fa ρ n λx B=>fb ρ B λy I=>F x y I λz q=>onB z λk=>onC k (fc ρ q λu J=>G y u J Q) (Q (.d (.bl false)) q)
def zk1:zie F G fa fb fc=zon F G fa fb fc:=by funext ρ n Q;simp only[zie,zon,zd0,zaT]
def zfC{α:Type}(xs:List α)(F:α->W)(hl:l=xs.map F)(O:xs.length<=lim)(I:Nat->Ev->Nat->AS->Prop)(h0:I 0 L n [])(h:∀i a q J acc,xs[i]?=some a->I i q J acc->∀C:Ev->Nat->AS->Prop,(∀ {ρ m l},I (i+1) ρ m l->C ρ m l)->mg (F a) q λB=>U B J λb Z=>onC b (Y B Z λx n3=>onD x λd=>C B n3 (acc++[d])) (C B Z acc))(fin:∀ q J acc,I xs.length q J acc->Q (.d (.lst acc)) J):zfD mg U Y L Q l n:=by
 show zmz xs F hl O I h0 (λi a q J acc ha hI C hC=>?_) fin;have:=h i a q J acc ha hI C hC;simp only[zaT,xF] at this;exact this
def zcM{α:Type}(xs:List α)(F:α->W)(Z:l=xs.map F)(J:Ev->Prop)(P:α->Bool)(E:α->Dt)(L:xs.length<=lim)(j0:J I)(h:∀a∈xs,∀ B,J B->∀C:Ev->Nat->Option Dt->Prop,(∀ {q},P a=true->J q->C q n (some (E a)))->(∀ {q},P a=false->J q->C q n none)->mg (F a) B λq=>O q n λb Y=>onC b (U q Y λx n3=>onD x λd=>C q n3 (some d)) (C q Y none))(fin:Q (.d (.lst ((xs.filter P).map E))) n):zfD mg O U I Q l n:=by
 show zjR xs F Z J P E L j0 (λa ha B hj C hC=>?_) fin;have:=h a ha B hj C (λ{q} e z=>by right) λ{q} e z=>by have:=hC q z;rwa[if_neg (by rw[e];decide)] at this
 simp only[zaT,xF] at this;exact this
def zbd{α:Type}(xs:List α)(F:α->W)(U:l=xs.map F)(J:Ev->Prop)(E:α->Dt)(L:xs.length<=lim)(Y:J I)(h:∀a∈xs,∀ B,J B->∀C:Ev->Nat->Dt->Prop,(∀ {q},J q->C q n (E a))->mg (F a) B λq=>O q n λx Z=>onD x λd=>C q Z d)(fin:Q (.d (.lst (xs.map E))) n):zfD mg zvk O I Q l n:=by
 show zmA xs F U J E L Y (λa ha B hj C hC=>?_) fin;have:=h a ha B hj C λ{q} z=>hC q z;simp only[xF] at this;exact this
def zpf{t:Ev->Mo Bool}{fb:Ms}{ρ:Ev}{k:Kt}(I:Nat->Ev->Nat->Prop)(O:Nat)(Y:I O ρ n)(h:∀m q J,I m q J->∀ (C B:Ev->Nat->Prop) (E:AV),(∀ {ρ n} (F:Nat),F<m->I F ρ n->C ρ n)->(∀ {ρ n},k.nx ρ n->B ρ n)->(∀ {w n},k.rt w n->E w n)->t q J λb U=>onC b (blk fb q U { rt:=E,nx:=C,ct:=C,bk:=B }) (B q U)):zk6 t fb ρ n k:=by
 show zmj I O Y λm q J Z=>?_;have:=h m q J Z (λL n3=>∃F,F<m/\I F L n3) k.nx k.rt (λF a b=>⟨F,a,b⟩) (λz=>z) λz=>z;simp only[zaT,zsh] at this;exact this
end
abbrev rep:Nat->(Ev->Prop)->Prop
 | 0,Q=>Q []
 | k+1,Q=>rep k λρ=>Q (none::ρ)
abbrev beg:AU->Nat->(Ev->Prop)->Prop
 | [],r,Q=>rep r Q
 | w::q,r,Q=>beg q r λρ=>Q (some w::ρ)
def zlL:∀ {r:Nat} {Q:Ev->Prop},rep r Q=Q (List.replicate r none)
 | 0,Q=>rfl
 | r+1,Q=>by rw[rep,zlL];rfl
def zjG:∀ {q:AU} {r:Nat} {Q:Ev->Prop},beg q r Q=Q (q.map some++List.replicate r none)
 | [],r,Q=>by rw[beg,zlL];rfl
 | w::q,r,Q=>by rw[beg,zjG];rfl
def zti {P:Aa}{w:Ab}{K:AH}{mg:AI}{base:Heap}{I:Str}{st:Stmt}{f:Addr}{fd:Ac}{N ps:AM}{k m:Nat}{fr:Bool}{F:PN->AU->Mo W}(M:AR)(r:Nat)(O:(∀vs H Q E,spV m fr F vs H Q E->vs.length=ps.length)->(∀ (B:Value) (A:Ae) (q:List Env) (s:AZ) (H:Hp) (vs:AT) (Q:VK) (E:XK),Room k (A.deeper (PyProof.Rows.envOfC I (zd st) s.heap.objs.size f B))->spV m fr F vs H Q E->
   ∃t,QSs (zdN CX0 P w K mg base N I (zd st) f B A q s H E).nox (zJ st) t/\t { nx:=λ_ H'=>Q .non H',rt:=Q } (L2.xi N vs) H)->FnOk P w K mg base CX0 (k+1) f fd ps (spV m fr F)) (U:m=ps.length) (Y:∀i∈M,m<=i) (Z:N.length=m+r)
  (J:∀ (B:Value) (A:Ae) (q:List Env) (s:AZ) (H:Hp) (E:XK) (Pn:PN),Room k (A.deeper (PyProof.Rows.envOfC I (zd st) s.heap.objs.size f B))->
   ∃fs,JSs (zdN CX0 P w K mg base N I (zd st) f B A q s H E).nox Pn [] M fr (zJ st) fs/\∀L n R,F Pn L n R->beg L r λρ=>fs ρ n { nx:=λ_ n'=>onC fr False (R (.d .non) n'),rt:=R }):FnOk P w K mg base CX0 (k+1) f fd ps (spV m fr F):=by
 show zth M O U Y λB A q s H E Pn hr=>?_;obtain⟨fs,h1,h2⟩:=J B A q s H E Pn hr;show⟨fs,h1,λL n R hl hF=>?_⟩;have:=h2 L n R hF;rw[zjG] at this;have e:xJ N L=L.map some++List.replicate r none:=by unfold xJ;rw[Z,hl,Nat.add_sub_cancel_left]
 grind
def Fun.okW(M:AR)(r:Nat)(Fu:Fun K x q st f fd)(S:FnScope N ps (zd st))(O:m=ps.length)(U:∀i∈M,m<=i)(Y:N.length=m+r)(B:∀ (J:Value) (A:Ae) (I:List Env) (s:AZ) (H:Hp) (E:XK) (Pn:PN),Room k (A.deeper (PyProof.Rows.envOfC q (zd st) s.heap.objs.size f J))->
   ∃fs,JSs (zdN CX0 P w K mg base N q (zd st) f J A I s H E).nox Pn [] M fr (zJ st) fs/\∀L n R,F Pn L n R->beg L r λρ=>fs ρ n { nx:=λ_ Z=>onC fr False (R (.d .non) Z),rt:=R }):FnOk P w K mg base CX0 (k+1) f fd ps (spV m fr F):=zti M r (λl b=>Fun.okQ Fu S l b) O U Y B
abbrev dItS (i:Nat):AC:=λρ n Q=>onV ρ i λx=>onS x λl=>Q (l.map W.d) n
def zuh{fs:Ms}(h:rep r λρ=>fs (a::b::ρ) n k):fs (a::b::List.replicate r none) n k:=by rw[zlL] at h;exact h
def zwA {G:Prop}(P:W->Prop)(h:(∀a,P a)->G)(r:∀a,P a):G:=h r
def len1 {st:AG}{x:Dt}(h:st.length<=1000):(st.map Dt.int).length+[x].length<=lim:=by rw[ab];exact af (by simp;lia:_<=1001) (by ext)
def cat1 {st:AG}{x:Int}:st.map Dt.int++[Dt.int x]=(st++[x]).map Dt.int:=by right
def zjL {st:AG}{b x:Int}(q:0<=b)(B:st.length<=1000):xA (st.map Dt.int) none (some b)++[Dt.int x]++xA (st.map Dt.int) (some (b+1)) none=(chg st b x).map Dt.int:=by
 have key:∀z:W,zgX (.d (.tup (xA (st.map Dt.int) none (some b)))) (.d (.tup [.int x])) 0 (λw m=>zgX w (.d (.tup (xA (st.map Dt.int) (some (b+1)) none))) m λw' _=>w' = .d (stD (chg st b x))):=λz=>zpr q B rfl;obtain⟨l,m,F,I,_,J,L,O,U,_,h⟩:=key (.d .non);grind
def zhU {st:AG}{b:Int}{x:Dt}(q:st.length<=1000):(xA (st.map Dt.int) none (some b)).length+[x].length<=lim:=by have:=za2 (st.map Dt.int) none (some b);rw[ab] at this;exact af (by simp;lia:_<=1001) (by ext)
def zhV{st:AG}{b c:Int}(q:st.length<=1000):(xA (st.map Dt.int) none (some b)++[x]).length+(xA (st.map Dt.int) (some c) none).length<=lim:=by have h1:=za2 (st.map Dt.int) none (some b);have h2:=za2 (st.map Dt.int) (some c) none;rw[ab] at h1 h2;rw[ak];exact af (by simp;lia:_<=2001) (by ext)
def scR (mg:W->Ev->(Ev->Prop)->Prop)(O:Ev->Mo Bool)(U:AD)(J:Ev)(Q:AF->Nat->Prop):AU->Nat->Prop:=λl Y=>∃I:Nat->Ev->Nat->AF->Prop,I 0 J Y []/\
 (∀i w q F acc,l[i]?=some w->I i q F acc->mg w q λB=>O B F λb L=>if b=true then U B L λx Z=>∃st,x = .d (stD st)/\I (i+1) B Z (acc++[st]) else I (i+1) B L acc)/\
 (∀i q F acc ks,I i q F acc->List.Nodup ks->(∀z∈ks,z∈acc)->ks.length<300)/\
 ∀ q F acc ks,I l.length q F acc->List.Nodup ks->(∀z,z∈ks↔z∈acc)->Q ks F
abbrev zww (q:AC) (mg:W->Ev->(Ev->Prop)->Prop) (B:Ev->Mo Bool) (F:AD) (cix:List (Option Nat)):AD:=λρ n Q=>q ρ n (scR mg B F (zfB ρ cix) λks I=>∃m,ks.length<64/\1<=m/\(∀st∈ks,st.length=m)/\∀l':AF,l'.Perm ks->(l'.Pairwise λa b=>HT.lexLt a b=true)->Q (.d (xj l')) I)
section
variable {X:Cx}{Pn:PN}{M S:AR}{fr fr':Bool}{pos p:Pos}
end
abbrev dGetI (fd fk q:AD):AD:=λρ n Q=>fd ρ n λx B=>onK x λkvs=>fk ρ B λy F=>q ρ F λz I=>onO (zwg y) λk=>onI z λi=>Q (.d ((yW kvs k).getD (.int i))) I
section
variable {X:Cx}{Pn:PN}{M:AR}{a b c:Expr}{fa fb fc:AD}{apos cpos:Pos}
end
end L3
namespace L2
open PyProof.Rows
section
variable {X:Cx}{e lo st:Expr}{te tl tk:TE}{pos p2:Pos}
end
end L2
namespace L3
open L2
abbrev dFromL (fa fl fk:AD):AD:=λρ n Q=>fa ρ n λx q=>onL x λl=>fl ρ q λy B=>onI y λc=>fk ρ B λz F=>onI z λk=>(0<=c/\1<=k)/\∀ys:AS,ys.Sublist (l.drop c.toNat)->Q (.d (.lst ys)) F
section
variable {X:Cx}{Pn:PN}{M:AR}{e lo st:Expr}{f fl fk:AD}{pos p2:Pos}
end
def zhh (A:AL)(a:Addr):AL:=λb=>A b/\b≠a
def zpU:HO:=.dK [(Sum.inr "at",.non)]
def zkr:¬ NP zpU:=λh=>by have:=h _ rfl;rw[ya (p:=((Sum.inr "at" : Key),V.non)) rfl] at this;cases this
abbrev zko (H:Hp)(a:Addr):Hp:=L2.upd H a zpU
def zkp:zko H a a=some zpU:=zh
def zcR(h:b≠a):zko H a b=H b:=zg h
def zkq:Fr (zko H a) a:=λo e=>by rw[zkp] at e;cases e;exact zkr
def zbi(B:A a):zB (yb A H) (yb (zhh A a) (zko H a)):=λb o e F=>by
 obtain⟨h1,h2⟩:=z7.mp e;by_cases q:b=a;right;exact zE (λz=>h1 z.1) (by rw[zcR q];exact h2)
def zjB(q:Al A H):Al (zhh A a) (zko H a):=λb z=>by obtain⟨o,h1,h2⟩:=q b z.1;exact⟨o,by rw[zcR z.2];exact h1,h2⟩
def WAt.top(h:WAt T G u (.ref c))(e:T' c=T c)(hm:u.mut=true):WAt T' G u (.ref c):=by
 cases u with
 | d x=>
  cases x with
  | lst l=>obtain⟨a2,xs,e2,g1,g2⟩:=h;cases e2;exact⟨c,xs,rfl,by rw[e];exact g1,g2⟩
  | dct=>obtain⟨a2,xs,e2,g1,g2⟩:=h;cases e2;exact⟨c,xs,rfl,by rw[e];exact g1,g2⟩
  | _=>cases hm
 | pen p=>cases hm
 | dk kvs=>obtain⟨a2,xs,e2,g1,g2,g3⟩:=h;cases e2;exact⟨c,xs,rfl,by rw[e];exact g1,g2,g3⟩
 | dt kvs=>obtain⟨a2,xs,e2,g1,g2⟩:=h;cases e2;exact⟨c,xs,rfl,by rw[e];exact g1,g2⟩
 | ss P w kvs=>obtain⟨a2,xs,e2,g1,g2⟩:=h;cases e2;exact⟨c,xs,rfl,by rw[e];exact g1,g2⟩
 | df kvs=>obtain⟨a2,ob,xs,e2,g1,g2⟩:=h;cases e2;exact⟨c,ob,xs,rfl,by rw[e];exact g1,g2⟩
 | kf kvs=>obtain⟨a2,ob,xs,e2,g1,g2⟩:=h;cases e2;exact⟨c,ob,xs,rfl,by rw[e];exact g1,g2⟩
 | fl kvs=>obtain⟨a2,ob,xs,e2,g1,g2⟩:=h;cases e2;exact⟨c,ob,xs,rfl,by rw[e];exact g1,g2⟩
section
variable {X:Cx}{Pn:PN}{M S:AR}{fr fr':Bool}{pos p:Pos}
def At3.put(a:At3 Pn B S M A σ H ρ n)(hi:i∈M)(hs:i∉S)(g':Go Pn A H m H')(hF:Fr H ad)(hb:WAt H' (yb (λb=>A b\/b=ad) H') w (.ref ad))(hm:w.mut=true) :
  At3 Pn B S M (λb=>A b\/b=ad) (σ.set i (some (.ref ad))) H' (ρ.set i (some w)) m:=by
 obtain⟨a2,o,e2,ho,np,nt⟩:=zld hb hm;cases e2;have E1:=a.env.more g'.st hF ho np nt;have hnA:¬ A ad:=a.env.newF hF;show⟨⟨?_,?_,?_,E1.al⟩,⟨λb z=>.inl (a.frm.sub b z),λb z=>?_,λb o e n c=>g'.st b o (a.frm.st b o e n c) n,a.frm.al,a.frm.cn,λb z=>let ⟨o,e,n⟩:=a.frm.cs b z;⟨o,g'.st b o e n,n⟩⟩,a.pn.grow' g'.pn hF ho np nt,a.prot.trans (xl g'.st hF),λj hj=>?_,λj u b hj e s=>?_⟩;rw[bh,bh];exact a.env.len;intro j u e;by_cases hj:j=i;subst hj
 have hl:j<ρ.length:=by
  have:=(ac.mp e).1;right
 rw[aM hl] at e;cases e;exact⟨.ref ad,aM (by rw[a.env.len];exact hl),λz=>absurd hi z,λ_=>⟨ad,rfl,.inr rfl,hb,hm⟩⟩;rw[ax (Ne.symm hj)] at e ⊢;exact E1.val j u e;intro j l u u' b hj hl hne e1 e2 s1 s2
 have own:∀q u,q∈M->q≠i->ρ[q]?=some (some u)->σ[q]?≠some (some (.ref ad)):=λq u hq hqi eq sq=>by
  obtain⟨v,s,_,s3⟩:=a.env.val q u eq;obtain⟨c,ec,hc,_⟩:=s3 hq;right
 have len:∀q (u:W),(ρ.set i (some w))[q]?=some (some u)->q<σ.length:=λq u e=>by have:=(ac.mp e).1;rw[bh] at this;rw[a.env.len];exact this
 by_cases hji:j=i;subst hji;rw[aM (len _ _ e1)] at s1;cases s1;rw[ax hne] at e2 s2;exact own l u' hl (Ne.symm hne) e2 s2;rw[ax (Ne.symm hji)] at e1 s1;by_cases hli:l=i;right;rw[ax (Ne.symm hli)] at e2 s2;exact a.env.dis j l u u' b hj hl hne e1 e2 s1 s2;rcases z with z | z;exact a.frm.new b z;subst z;exact .inr (.inl (a.frm.back hF hnA));rw[ax λ(z:i=j)=>hs (by rw[z];exact hj)];exact a.fix j hj;by_cases hji:j=i;subst hji
 have hl:j<σ.length:=by
  have:=(ac.mp s).1;right
 rw[aM hl] at s;cases s;exact .inl (a.frm.back hF hnA);rw[ax (Ne.symm hji)] at e s;exact a.mine j u b hj e s
def At3.let'(a:At3 Pn B S M A σ H ρ n)(J:∀b,¬ B.ca b)(hi:i∈M)(e:ρ[i]?=some (some w))(s:σ[i]?=some (some (.ref I)))(L:A I) :
  At3 Pn B S M (zhh A I) σ (zko H I) (ρ.set i none) n:=by
 have hF:Fr B.H0 I:=(a.mine i w I hi e s).resolve_right (J I)
 have U:∀ {j:Nat} {u:W},(ρ.set i none)[j]?=some (some u)->j≠i/\ρ[j]?=some (some u):=λ{j u} h=>by
  by_cases F:j=i;subst F;rw[aM (ac.mp e).1] at h;cases h;rw[ax (Ne.symm F)] at h;exact⟨F,h⟩
 show⟨⟨?_,?_,?_,zjB a.env.al⟩,⟨λb z=>?_,λb z=>a.frm.new b z.1,λb o e' np nc=>?_,a.frm.al,a.frm.cn,λb z=>absurd z (J b)⟩,(a.pn.upd L).less λ_ z=>z.1,a.prot.trans (zbi L),a.fix,?_⟩;rw[bh];exact a.env.len;intro j u h;obtain⟨F,h⟩:=U h;obtain⟨v,Y,s2,s3⟩:=a.env.val j u h;show⟨v,Y,λz=>WAt.up (zbi L) (zbi L) (s2 z),λz=>?_⟩;obtain⟨c,rfl,hc,hb,hm⟩:=s3 z;have O:c≠I:=λq=>by subst q;exact a.env.dis i j w u c hi z (Ne.symm F) e h s Y
 show⟨c,rfl,⟨hc,O⟩,?_,hm⟩;exact WAt.top (WAt.up (zB.refl _) (zbi L) hb) (zcR O) hm;intro j l u u' b F hl Z e1 e2;exact a.env.dis j l u u' b F hl Z (U e1).2 (U e2).2;show⟨a.frm.sub b z,λq=>?_⟩;subst q;obtain⟨o,o1,o2,_⟩:=a.frm.al b z;exact hF o o1 o2;rw[zcR λq=>by subst q;exact hF o e' np];exact a.frm.st b o e' np nc;intro j u b F h Y;exact a.mine j u b F (U h).2 Y
def spG (k:Nat)(fr:Bool)(F:PN->AU->Mo W):Sp:=λvs H Q _=>∃Pn A us zs w a n R,vs=us++[.ref a]/\Al A H/\A a/\zaY A H zs us/\Bor A H w (.ref a)/\w.mut=true/\zs.length+1=k/\uB Pn A n H/\F Pn (zs++[w]) n R/\
 ∀w' m v H',R w' m->Val (zhh A a) H' w' v->zB (zko H a) H'->uB Pn (zhh A a) m H'->(fr=true->FrV (zhh A a) (zko H a) H' w' v)->Q v H'
abbrev dGiv (i:Nat) (F:AU->Mo W) (f1 f2:AD):Ms:=λρ n k=>f1 ρ n λw1 m1=>f2 ρ m1 λw2 m2=>onV ρ i λw=>F [w1,w2,w] m2 λw' m'=>onC (W.mut w') (onP ρ i w' λρ'=>k.nx ρ' m') False
def zun(h1:RE Pn M b1 t1 f1)(h2:RE Pn M b2 t2 f2)(hi:i∈M)(hs:i∉S) :
  RS Pn S M fr (zgK (zdt (spG 3 true F) [] E0 (za8 t1 (za8 t2 (za8 (zbL i) zpb)))) (zag i)) (dGiv i (F Pn) f1 f2):=⟨λB A σ H ρ n k D a kk hf=>by
 show h1.run A σ H ρ n _ _ a.env a.pn hf λw1 m1 v1 H1 r1 V1 g1 _=>?_;show h2.run A σ H1 ρ m1 _ _ (a.env.stay g1.st) g1.pn r1 λw2 m2 v2 H2 r2 V2 g2 _=>?_;rw[zaU] at r2;obtain⟨w,ew,r2⟩:=r2;have a2:=(a.step g1).step g2;obtain⟨v,s1,_,s3⟩:=a2.env.val i w ew;obtain⟨ad,rfl,hA,hb,hm⟩:=s3 hi;show⟨.ref ad,s1,?_⟩;change spG 3 true F ([v1,v2,.ref ad]++[]) H2 (λx H1=>zag i x σ H1 D.nx) E0;rw[dF];show⟨Pn,A,[v1,v2],[w1,w2],w,ad,m2,_,rfl,a2.env.al,hA,⟨v1,_,rfl,V1.stay g2.st,v2,_,rfl,V2,rfl⟩,hb,hm,rfl,g2.pn,r2,λw' m' v' H' r' hv st pn hfr=>?_⟩;rw[zaT] at r'
 cases hm':W.mut w' with
 | false=>rw[hm'] at r';exact r'.elim
 | true=>
  rw[hm',if_pos rfl,uu] at r';obtain⟨a',rfl,hF,hb'⟩:=hfr rfl;have av:=a2.let' kk.fc hi ew s1 hA;have:=av.put hi hs ⟨st,pn⟩ hF hb' hm';rw[List.set_set] at this;exact kk.nx _ _ H' _ m' this r'⟩
def zs0{x y:Str}{st:Stmt}{ps:AM}{fA:Addr}{fd:Ac}{F:PN->AU->Mo W}{f1 f2:AD}{p3 px spos:Pos}(D:Dfn X.K X.mg y st ps fA fd)(G:FnOk X.prog X.w X.K X.mg X.base CX0 j fA fd ps (spG 3 true F))(hr:Room Z X.A)(h1:JE X Pn M b1 B f1)(h2:JE X Pn M b2 q f2)(hN:X.N.Nodup)(hi:X.N[i]?=some x)(hx:Loc X.env.scope x)(I:i∈M:=by ext)(J:i∉S:=by ext)(L:j<=Z:=by ext)(hg:Gl X y:=by rfl)(O:Ah y:=by ext)(hv:Vis X.env.scope x:=by walk_at "v")(hd:Ah x:=by ext)(U:(x==("__classdict__" : Str))=false:=by ext)(q1:starEach [B,q,.Name x p3] X.env=(false,eval B X.env)::starEach [q,.Name x p3] X.env:=by rfl)(q2:starEach [q,.Name x p3] X.env=(false,eval q X.env)::starEach [.Name x p3] X.env:=by rfl)(q3:starEach [.Name x p3] X.env=(false,eval (.Name x p3) X.env)::starEach [] X.env:=by rfl)(Y:(backTo pos (starEach [q,.Name x p3] X.env)).any (·.1)=false:=by rfl)(hs:swapsWith (.Call (.Name y p) [B,q,.Name x p3] [] pos) (some (.Name x px)) spos.line X.env=pure false:=by rfl)(hf:X.fn x=true\/X.env.scope.names.lookup x=some .local:=by walk_at "l") :
  JS X Pn S M fr (.Assign [.Name x px] (.Call (.Name y p) [B,q,.Name x p3] [] pos) spos) (dGiv i (F Pn) f1 f2):=by
 obtain⟨t1,p1,r1⟩:=h1.ex;obtain⟨t2,p2,r2⟩:=h2.ex;exact⟨_,ua hN hi hx (zje D G hr (zG p1 (zG p2 (zG (qv i hi hv hd U) ye q3) q2) q1) L hg O q1 Y) hs hf,zun r1 r2 I J⟩
def ziS {A:AL}{H:Hp}{N:AM}{zs:AU}{us:AT}{w:W}{a:Addr}(al:Al A H)(hA:A a)(h:zaY A H zs us)(hb:Bor A H w (.ref a))(hm:w.mut=true)(hg:zs.length∈M)(hM:∀i∈M,zs.length<=i) :
  EnvR A M (L2.xi N (us++[.ref a])) H (xJ N (zs++[w]))/\∀i u,i∈M->(xJ N (zs++[w]))[i]?=some (some u)->(L2.xi N (us++[.ref a]))[i]?=some (some (.ref a)):=by
 have hl:=h.len
 have few:∀i u,(xJ N (zs++[w]))[i]?=some (some u)->i<zs.length+1/\(zs++[w])[i]?=some u:=λi u e=>by
  unfold xJ at e
  have hi:i<(zs++[w]).length:=by
   apply bJ;intro z;rw[bi (by right)] at e;obtain⟨_,q⟩:=ac.mp e;right
  rw[bf (by right),aq] at e;right
 have at':∀i v,(us++[V.ref a])[i]?=some v->(L2.xi N (us++[.ref a]))[i]?=some (some v):=λi v e=>by unfold L2.xi;rw[bf (by rw[ab];exact (ac.mp e).1),aq,e];rfl
 have last:(us++[V.ref a])[zs.length]?=some (.ref a):=by rw[<- hl];simp
 show⟨⟨?_,λi u e=>?_,λi j u u' b hi hj hne e1 e2=>?_,al⟩,λi u hi e=>?_⟩;unfold L2.xi xJ;simp[hl];obtain⟨h1,h2⟩:=few i u e;by_cases hi:i<zs.length;rw[bf hi] at h2;obtain⟨v,v1,v2⟩:=h.get h2;exact⟨v,at' i v (by grind),λ_=>v2,by grind⟩;have hie:i=zs.length:=by lia
 subst hie;have:u=w:=by simpa using h2.symm
 subst this;exact⟨.ref a,at' _ _ last,λz=>absurd hg z,λ_=>⟨a,rfl,hA,hb,hm⟩⟩;have h1:=(few i u e1).1;have h2:=(few j u' e2).1;have h3:=hM i hi;have h4:=hM j hj;exact absurd (show i=j by lia) hne;have h1:=(few i u e).1;have h3:=hM i hi;have:i=zs.length:=by lia
 subst this;exact at' _ _ last
def ztf(M:AR)(r:Nat)(Y:(∀vs H Q E,spG m fr F vs H Q E->vs.length=ps.length)->(∀ (I:Value) (A:Ae) (B:List Env) (s:AZ) (H:Hp) (vs:AT) (Q:VK) (E:XK),Room k (A.deeper (PyProof.Rows.envOfC J (zd st) s.heap.objs.size f I))->spG m fr F vs H Q E->
   ∃t,QSs (zdN CX0 P w K mg base N J (zd st) f I A B s H E).nox (zJ st) t/\t { nx:=λ_ H'=>Q .non H',rt:=Q } (L2.xi N vs) H)->FnOk P w K mg base CX0 (k+1) f fd ps (spG m fr F))(hm:m=ps.length)(hg:m - 1∈M)(hM:∀i∈M,m - 1<=i)(hN:N.length=m+r)(O:∀ (I:Value) (A:Ae) (B:List Env) (s:AZ) (H:Hp) (E:XK) (Pn:PN),Room k (A.deeper (PyProof.Rows.envOfC J (zd st) s.heap.objs.size f I))->
   ∃fs,JSs (zdN CX0 P w K mg base N J (zd st) f I A B s H E).nox Pn [] M fr (zJ st) fs/\∀ws n R,F Pn ws n R->beg ws r λρ=>fs ρ n { nx:=λ_ n'=>False,rt:=R }):FnOk P w K mg base CX0 (k+1) f fd ps (spG m fr F):=by
 show Y (λvs H Q E h=>?_) (λI A B s H vs Q E hr h=>?_);obtain⟨Pn,A,us,zs,w,a,n,R,rfl,_,_,Z,_,_,hl,_⟩:=h;rw[ak,Z.len,<- hm,<- hl];rfl;obtain⟨Pn,A3,us,zs,w,a,n,R,rfl,al,hA,Z,U,ad,hl,hp,hF,q⟩:=h;obtain⟨fs,⟨t,qs,rs⟩,ag⟩:=O I A B s H E Pn hr;obtain⟨ev,mi⟩:=ziS (N:=N) (M:=M) al hA Z U ad (by grind) (by grind);have L:=ag (zs++[w]) n R hF;rw[zjG] at L
 have e:xJ N (zs++[w])=(zs++[w]).map some++List.replicate r none:=by
  unfold xJ;right
 rw[<- e] at L;show⟨t,qs,rs.run { A0:=zhh A3 a,H0:=zko H a,G0:=yb A3 H,σ0:=L2.xi N (us++[.ref a]) } A3 (L2.xi N (us++[.ref a])) H (xJ N (zs++[w])) n _ _ ⟨ev,⟨λ_ z=>z.1,λb z=>?_,λb o e np _=>?_,zjB al,λ_ z=>z.elim,λ_ z=>z.elim⟩,hp,zB.refl _,λi hi=>rfl,λi u b hi e1 s1=>?_⟩ ⟨?_,?_,?_,λ_ z=>z,?_⟩ L⟩;by_cases U:b=a;subst U;exact .inr (.inl zkq);exact .inl ⟨z,U⟩;by_cases U:b=a;subst U;have e:zko H b b=some o:=e;rw[zkp] at e;cases e;exact absurd np zkr;have e:zko H a b=some o:=e;rwa[zcR U] at e;have:=mi i u hi e1;rw[s1] at this;cases this;exact .inl zkq;right;right;right;intro w n' v H' an st pn ap r;exact q w n' v H' r an st.stay pn ap
def Fun.okG(M:AR)(r:Nat)(Fu:Fun K x q st f fd)(S:FnScope N ps (zd st))(O:m=ps.length)(U:m - 1∈M)(Y:∀i∈M,m - 1<=i)(Z:N.length=m+r)(B:∀ (J:Value) (A:Ae) (I:List Env) (s:AZ) (H:Hp) (E:XK) (Pn:PN),Room k (A.deeper (PyProof.Rows.envOfC q (zd st) s.heap.objs.size f J))->
   ∃fs,JSs (zdN CX0 P w K mg base N q (zd st) f J A I s H E).nox Pn [] M fr (zJ st) fs/\∀L n R,F Pn L n R->beg L r λρ=>fs ρ n { nx:=λ_ n'=>False,rt:=R }):FnOk P w K mg base CX0 (k+1) f fd ps (spG m fr F):=ztf M r (λl b=>Fun.okQ Fu S l b) O U Y Z B
end
end L3
namespace L2
open PyProof.Rows PySem.W PySem.SeqAt
section
variable {X:Cx}
end
end L2
namespace L3
open L2
section
variable {X:Cx}{Pn:PN}{M S:AR}{fr fr':Bool}{e o:Expr}{f fo:AD}{pos p:Pos}
abbrev dLenK:AU->Mo W:=λq n Q=>on1 q λx=>onK x λkvs=>Q (.d (.int (kvs.length:Nat))) n
abbrev dListK:AU->Mo W:=λq n Q=>on1 q λx=>onK x λkvs=>∃ns:AG,kvs.map (·.1)=ns.map Sum.inl/\Q (.d (.lst (ns.map .int))) n
abbrev dIndex (fo f:AD):AD:=λρ n Q=>fo ρ n λx q=>onL x λl=>f ρ q λy B=>onI y λk=>∃ns:AG,l=ns.map .int/\k∈ns/\Q (.d (.int (ns.idxOf k:Nat))) B
abbrev zvM (f:AD):AD:=λρ n Q=>f ρ n λx q=>onL x λl=>∃ns:AG,l=ns.map .int/\ns.Nodup/\ns.length<=1000/\Q (.d (.int (ns.length:Nat))) q
end
end L3
namespace L2
def us_1 {α:Type}{us:List α}(h:us.length=1):∃a,us=[a]:=match us,h with | [a],_=>⟨a,rfl⟩
def us_2 {α:Type}{us:List α}(h:us.length=2):∃a b,us=[a,b]:=match us,h with | [a,b],_=>⟨a,b,rfl⟩
def us_3 {α:Type}{us:List α}(h:us.length=3):∃a b c,us=[a,b,c]:=match us,h with | [a,b,c],_=>⟨a,b,c,rfl⟩
def us_4 {α:Type}{us:List α}(h:us.length=4):∃a b c d,us=[a,b,c,d]:=match us,h with | [a,b,c,d],_=>⟨a,b,c,d,rfl⟩
open PyProof.Rows PySem.W PySem.Calls
end L2
namespace L3
open L2
section
variable {X:Cx}{Pn:PN}{M S:AR}{fr fr':Bool}{e a b c:Expr}{es:AO}{f fa fb fc:AD}{pos p:Pos}
end
def zkC:∀ {q:List Bool} {xs:AT},IsL G (q.map .bl) xs->xs=q.map V.bl
 | [],_,h=>h
 | b::q,xs,h=>by obtain⟨x,r,rfl,h1,h2⟩:=h;have e:x = .bl b:=h1;rw[e,zkC h2];rfl
def zku:∀q:List Bool,inV (.bl b) (q.map V.bl)=q.contains b
 | []=>rfl
 | c::q=>by have:=zku (b:=b) q;unfold inV at this ⊢;rw[az,cD,this,List.contains_cons];cases b <;> cases c <;> rfl
def zh1:∀q:List Bool,(q.map V.bl).all zdB=true
 | []=>rfl
 | _::q=>by rw[az,cE,zh1 q];rfl
section
variable {Pn:PN}{K:AH}
abbrev dInB:W->W->Mo W:=λx y n Q=>onB x λb=>onL y λl=>∃q:List Bool,l=q.map .bl/\Q (.d (.bl (q.contains b))) n
def zw6:F2 Pn false (rIn K false) dInB:=⟨λA H x y L O n Q R U B q P h k=>by simp only[dInB,zd0,xG] at h;obtain⟨b,rfl,l,rfl,F,rfl,h⟩:=h;obtain⟨a,xs,rfl,I,J⟩:=yM q;obtain rfl:=zkC J;have e:x = .bl b:=B;subst e;exact⟨a,_,rfl,.inl (.of I),rfl,zh1 F,k _ n _ H h (Val.of (by rw[zku];rfl)) (Go.refl P) λz=>by cases z⟩⟩
end
end L3
namespace L2
open PyProof.Rows PySem.W PySem.Calls
section
variable {prog:Aa}{w:Ab}{A:Ae}{E:AA}{s:AZ}
variable {X:Cx}
end
end L2
namespace L3
open L2
section
variable {X:Cx}{Pn:PN}{M S:AR}{fr fr':Bool}{pos p:Pos}{e:Expr}{f:AD}
def zrE{ks:AF}(h:Bor A H (.ss P w ks) v):∃a,v = .ref a/\zdu P w H a ks:=by obtain⟨a,xs,e,B,g2,F,I⟩:=h;exact⟨a,e,xs,B,λq J=>zt _ _ (F q J),g2,I⟩
abbrev dSAdd (P:Aa) (w:Ab) (i:Nat) (f:AD):Ms:=λρ n k=>onV ρ i λv=>∃ks,v = .ss P w ks/\f ρ n λx m=>∃st:AG,x = .d (stD st)/\ks.length<300/\
 ∀q:AF,(∀y,y∈q↔y=st\/y∈ks)->q.length<=ks.length+1->q.Nodup->onP ρ i (.ss P w q) λB=>k.nx B m
abbrev dSortS (P:Aa) (w:Ab):AU->Mo W:=λB n Q=>on1 B λx=>∃ (ks:AF) (m:Nat),x = .ss P w ks/\ks.length<64/\1<=m/\(∀st∈ks,st.length=m)/\∀q:AF,q.Perm ks->(q.Pairwise λa b=>HT.lexLt a b=true)->Q (.d (xj q)) n
end
def ziA {α:Type}{p:List α->Prop}(q:p [])(hs:∀l x,p l->p (l++[x]))(l:List α):p l:=by
 have h:∀l:List α,p l.reverse:=λl=>by
  induction l with
  | nil=>exact q
  | cons x l B=>rw[c5];exact hs _ _ B
 have:=h l.reverse;grind
def zh4 {α:Type}(a b:List α)(i:Nat)(d:α)(h:i<a.length):(a++b).getD i d=a.getD i d:=by grind
def znl:∀ {cs:AF} {st:AG},st∈yZ cs↔st.length=cs.length/\∀i,i<cs.length->st.getD i 0∈cs.getD i []:=by
 intro cs;show ziA (p:=λcs=>∀ {st:AG},st∈yZ cs↔st.length=cs.length/\∀i,i<cs.length->st.getD i 0∈cs.getD i []) ?_ ?_ cs;intro st;simp[yZ,List.length_eq_zero_iff];intro cs c I st;rw[xk];unfold xT;rw[fP];constructor;rintro⟨r,J,h⟩;obtain⟨w,L,rfl⟩:=au.mp h;obtain⟨h1,h2⟩:=I.mp J;show⟨by simp[h1],λi hi=>?_⟩;simp at hi;by_cases e:i=cs.length;right;grind;rintro⟨h1,h2⟩;simp at h1;have q:st≠[]:=λz=>by rw[z] at h1;simp at h1
 have F:=bp q;have B:st.dropLast.length=cs.length:=by simp[h1]
 show⟨st.dropLast,I.mpr ⟨B,λi hi=>?_⟩,au.mpr ⟨st.getLast q,?_,F⟩⟩;have:=h2 i (by simp;omega);rw[zh4 _ _ _ _ hi] at this;rw[<- F,zh4 _ _ _ _ (by omega)] at this;exact this;have:=h2 cs.length (by simp);rw[<- F] at this;have e:(st.dropLast++[st.getLast q]).getD cs.length 0=st.getLast q:=by simp[<- B]
 right
def zpj:∀ (cs:AF),(∀c∈cs,c.Pairwise (· < ·))->Up' (yZ cs):=by
 intro cs;show ziA (p:=λcs=>(∀c∈cs,c.Pairwise (· < ·))->Up' (yZ cs)) ?_ ?_ cs;intro _;simp[yZ,Up'];intro cs c F h;have I:=h c (by simp);have F:=F λd J=>h d (by simp[J]);rw[xk];have q:=zek cs;generalize yZ cs=rows at F q;unfold xT Up';rw[List.pairwise_flatMap];constructor;intro r hr;rw[bD];show I.imp λ{a b} B=>?_;exact lex_app r B;show (List.Pairwise.and_mem.mp F).imp λ{a b} ⟨L,O,B⟩=>?_;intro x U y Y;obtain⟨v,_,rfl⟩:=au.mp U;obtain⟨w,_,rfl⟩:=au.mp Y;exact lex_pre ((q a L).trans (q b O).symm) B
where
 lex_app:∀ (r:AG) {a b:Int},a<b->HT.lexLt (r++[a]) (r++[b])=true
  | [],a,b,h=>by
   change (if a=b then HT.lexLt [] [] else decide (a<b))=true;grind
  | x::r,a,b,h=>by change (if x=x then HT.lexLt (r++[a]) (r++[b]) else decide (x<x))=true;rw[if_pos rfl];exact lex_app r h
 lex_pre:∀ {r t:AG} {a b:Int},r.length=t.length->HT.lexLt r t=true->HT.lexLt (r++[a]) (t++[b])=true
  | [],[],_,_,_,h=>by rw[xf] at h;cases h
  | [],_::_,_,_,h,_=>by simp at h
  | _::_,[],_,_,h,_=>by simp at h
  | x::r,y::t,a,b,Z,h=>by
   have h:(if x=y then HT.lexLt r t else decide (x<y))=true:=h;change (if x=y then HT.lexLt (r++[a]) (t++[b]) else decide (x<y))=true;by_cases e:x=y;rw[if_pos e] at h ⊢;exact lex_pre (by simpa using Z) h;right
end L3
namespace L3
open L2
def IsP (Pn:PN)(p:Addr):Prop:=∃c ns,Pn=⟨some (p,c,ns),J0⟩
def dc{yH:Int}(q:IsP Pn p)(h:∀r,0<=r->r<yH->Q (.d (.int r)) (n+1))(B:n<=1000000:=by lia)(h1:1<=yH:=by lia)(h2:yH<1073741824:=by lia):zjw Pn [.pen p,.d (.int yH)] n Q:=let ⟨c,ns,e⟩:=q;⟨p,c,ns,yH,e,rfl,B,h1,h2,h⟩
def tc(q:IsP Pn p)(h:∀l':AS,l'.Perm l->Q (.d (.lst l')) (n+l.length))(B:n+l.length<=1000000:=by lia)(h1:l.length<=100000:=by lia):zjy Pn [.pen p,.d (.lst l)] n Q:=let ⟨c,ns,e⟩:=q;⟨p,c,ns,l,e,rfl,B,h1,h⟩
def zlM {B:AG}{a L q:Int}(F:∀r∈B,2<=r/\r<=4)(U:2<=a/\a<=4)(I:yD B * L<=q)(h:a<=L):yD (B++[a]) * (L / a)<=q/\1<=L / a/\L / a<=L:=by
 have h1:1<=L / a:=(Int.le_ediv_iff_mul_le (by lia)).mpr (by lia);have h2:a * (L / a)<=L:=Int.mul_ediv_self_le (by lia);have J:0<=yD B:=by have:=zbB (ns:=B) (λr O=>by have:=F r O;lia);lia
 show⟨?_,h1,?_⟩;rw[ux,Int.mul_assoc];exact Int.le_trans (cm h2 J) I;exact Int.ediv_le_self _ (by lia)
def zj9 {α:Type}(f:α->Dt)(d:α)(l:List α):enW 0 (l.map f)=(List.range l.length).map λi:Nat=>W.d (.tup [.int (i:Int),f (l.getD i d)]):=by
 apply dW;intro i;rw[zcP,aq,aq];by_cases h:i<l.length
 all_goals right
def zka (sts:AF):enW 0 (sts.map stD)=(List.range sts.length).map λk:Nat=>W.d (.tup [.int (k:Int),stD (sts.getD k [])]):=zj9 stD [] sts
def zaG:(zgJ k).length=k:=by unfold zgJ;rw[ab,ay]
def zrv:zgJ k=(zp (k:Int)).map Dt.int:=by unfold zgJ zp;rw[aB,aP];rfl
def ze1{α:Type}{f:α->Dt}{xs:List α}(h:l.Perm (xs.map f)):∃ys:List α,l=ys.map f/\ys.Perm xs:=by
 generalize B:xs.map f=zs at h
 induction h generalizing xs with
 | nil=>exact⟨[],rfl,by right⟩
 | @cons x U Y _ J=>
  match xs,B with
  | y::r,B=>
   rw[az] at B;obtain⟨h1,h2⟩:=List.cons.inj B;obtain⟨ys,e,q⟩:=J h2;exact⟨y::ys,by right,q.cons y⟩
 | swap x y l=>
  match xs,B with
  | a::b::r,B=>
   rw[az,az] at B;obtain⟨h1,h2⟩:=List.cons.inj B;obtain⟨Z,h4⟩:=List.cons.inj h2;exact⟨b::a::r,by right,.swap ..⟩
 | trans _ _ F I=>
  obtain⟨ys,e,q⟩:=I B;obtain⟨zs,L,O⟩:=F e.symm;exact⟨zs,L,O.trans q⟩
def zir{l:AS}(h:l.Perm (zgJ k)):∃q:AG,l=q.map Dt.int/\q.Perm (zp (k:Int)):=by rw[zrv] at h;exact ze1 h
def zaD {m b:Int}:b∈zp m↔0<=b/\b<m:=by
 unfold zp;rw[au];constructor;rintro⟨k,q,rfl⟩;grind;rintro⟨B,h1⟩;exact⟨b.toNat,aU.mpr (by lia),by lia⟩
def zgn (m:Int):(zp m).Nodup:=by unfold zp List.Nodup;rw[bD];exact List.pairwise_lt_range.imp λh=>by lia
def zk7 {α q:Type}{G:Prop}(C:α->q->Prop)(P:α->q->Prop)(h:(∀a b,C a b->P a b)->G)(r:∀a b,C a b->P a b):G:=h r
def zrN {q:AG}(h:q.Nodup){i:Nat}(hi:i<q.length):q.getD i 0∉q.take i:=λz=>by
 obtain⟨j,B,e⟩:=bF.mp z;rw[aV] at B;rw[fD] at e;have:q.getD i 0=q[i]:=by simp[hi]
 rw[this] at e;have:=(cA h).mp e;lia
def zbg{q:AG}(hi:i<q.length):q.getD i 0∈q:=by right
def zj0 {α:Type}(l:List α)(lo hi:AQ):(xA l lo hi).Sublist l:=(dQ _ _).trans (List.drop_sublist _ _)
def zfG {α:Type}(l:List α):xA l (some 1) none=l.drop 1:=by
 unfold xA
 have h1:HT.sIx l.length 0 (some 1)=min 1 l.length:=by unfold HT.sIx;simp;try lia
 have h2:HT.sIx l.length l.length none=l.length:=rfl;rw[h1,h2,bX (by simp)]
 cases l with
 | nil=>rfl
 | cons a l=>simp
def zmk:∀ (l k:AS) (i:Nat),(ziW l k)[i]?=(l[i]?).bind λx=>(k[i]?).map λy=>W.d (.tup [x,y])
 | [],k,i=>by simp[ziW]
 | x::r,[],i=>by
  simp only[ziW,List.getElem?_nil,Option.map_none];right
 | x::r,y::s,0=>rfl
 | x::r,y::s,i+1=>by rw[ziW,bC,bC,bC];exact zmk r s i
def zfq (q:AF):ziW (q.map stD) (xA (q.map stD) (some 1) none)=(List.range (q.length - 1)).map λi:Nat=>W.d (.tup [stD (q.getD i []),stD (q.getD (i+1) [])]):=by
 rw[zfG];apply dW;intro i;rw[zmk,List.getElem?_drop,aq,aq,aq];grind
def zbs {κ:Type}[DecidableEq κ](kvs:List (κ×Dt))(k z:κ)(d:Dt):yW (zfr kvs k d) z=if z=k then some d else yW kvs z:=by
 unfold zfr;by_cases F:(kvs.any λkv=>decide (kv.1=k))=true;rw[if_pos F];unfold yW
 induction kvs with
 | nil=>simp at F
 | cons q r J=>
  rw[az,bI,bI];by_cases e:q.1=k;rw[if_pos e];by_cases B:z=k;right;have h1:¬ q.1=z:=λw=>B (w.symm.trans e);rw[if_neg B];simp only[h1,decide_false];by_cases L:(r.any λkv=>decide (kv.1=k))=true;right;congr 2;show (eL λp I=>?_).trans (List.map_id _);grind;grind
 rw[if_neg F];unfold yW;rw[List.find?_append];by_cases B:z=k;subst B;have:kvs.find? (λq=>decide (q.1=z))=none:=List.find?_eq_none.mpr λp I w=>F (dn.mpr ⟨p,I,w⟩);rw[this];simp;have:¬ k=z:=λw=>B w.symm;right
def zb8 {rm st:AG}(h:StOk rm st):st∈yZ (rm.map zp):=by
 rw[znl];have q:=h.len;show⟨by grind,λi hi=>?_⟩;rw[ab] at hi;have e:(rm.map zp).getD i []=zp (rm.getD i 0):=by simp[hi]
 rw[e,zaD];have:=h.box (i:Int) (by lia) (by lia);rw[zS,zS] at this;exact this
def zhl {l:AF}{st:AG}:(Dt.tup (st.map Dt.int)∈l.map stD)↔st∈l:=by
 constructor;intro z;obtain⟨s,hs,e⟩:=au.mp z;have:s=st:=eZ (by grind) |>.mp (Dt.tup.inj e);grind;exact λz=>au.mpr ⟨_,z,rfl⟩
def ziD {rm st:AG}{b x:Int}(h:StOk rm st)(q:0<=b)(J:b<rm.length)(L:0<=x)(x1:x<yH rm b):StOk rm (chg st b x):=by
 have F:=h.len;show⟨by rw[zjN q (by lia)];exact F,λc B I=>?_⟩;rw[zps q (by lia) B];split;right;exact h.box c B I
def zsg{rm:AG}(h:xu rm bk):(Dt.lst (bk.map zU)).eqOk:=(zgW (rm:=rm) λd q=>by obtain⟨x,B,rfl⟩:=au.mp q;exact⟨x,rfl,h x B⟩).2
def zrO{rm:AG}(h:WishOk rm x):WishOk rm (zuM x):=⟨h.giv,h.b0,h.b1,h.apart,h.w0,h.w1,h.r0,h.r1,Ne.symm h.ne⟩
def zpx{rm:AG}(h:WishOk rm x){lo hi:AQ}:WishOk rm { x with g:=xA x.g lo hi }:=by have s:=zj0 x.g lo hi;exact⟨⟨λq B=>h.giv.ok q (s.subset B),h.giv.up.sublist s⟩,h.b0,h.b1,λq B=>h.apart q (s.subset B),h.r0,h.r1,h.w0,h.w1,h.ne⟩
end L3
namespace L3
def zfL {α q:Type}(f:α->q):∀ (l:List α) (i:Nat),(l.eraseIdx i).map f=(l.map f).eraseIdx i
 | [],_=>rfl
 | _::_,0=>rfl
 | x::l,i+1=>by simp[zfL f l i]
open L2
def lpE (bk:AW)(q:Int)(st:AG):List (Int×Int):=(lpF bk q st).map λr=>(r.getD 0 0,r.getD 1 0)
def zfF {α:Type}(l:List α)(k:Nat):xA l (some (k:Int)) none=l.drop k:=by
 unfold xA
 have h1:HT.sIx l.length 0 (some (k:Int))=min k l.length:=by unfold HT.sIx;simp;try lia
 have h2:HT.sIx l.length l.length none=l.length:=rfl;rw[h1,h2,bX (by simp)];right
end L3
namespace L3
open L2
end L3
namespace L2
open PyProof.Rows PySem.W PySem.Calls
section
variable {X:Cx}{pins:AB}{σ:St}{H:Hp}{s:AZ}{a:Addr}
def Inv.frz {kvs:List (AG×V)}(I:Inv X pins σ H s)(h:H a=some (dtO kvs)):∃ob,Inv X pins σ (upd H a (.frz ob (dtO kvs))) s:=by obtain⟨z,lo,xs,r,o,es,F,h1,h2,J,L,O⟩:=(show yo X.prog X.w H s.heap a (.dT (zdC kvs)) from I.hok a _ h);show⟨o,I.write (x:=a) (e:=a) (h':=s.heap) (t':=s.toks) (by rw[h];trivial) (.inl rfl) (λ_ _ _ e=>e) ⟨o,h1⟩ ⟨h1,z,lo,xs,Paired.imp' (λp q y=>?_) r,o,es,F,h1,h2,J,L,O⟩⟩;obtain⟨U,B,Y⟩:=y;exact⟨U,by rw[zg (λy=>by rw[y,h] at B;cases B)];exact B,Y⟩
def tFrz (te:TE):TE:=λσ H Q=>te σ H λx H1=>∃a ks,x = .ref a/\H1 a=some (dtO ks)/\∀ob,Q x (upd H1 a (.frz ob (dtO ks)))
def zt3(h:QE X e te):QE X e (tFrz te):=⟨by
 intro pins s σ H Q I q;show thn (h.run pins s σ H _ I q) ?_;rintro v L ⟨x,H1,I1,B,a,ks,rfl,F,J⟩;obtain⟨ob,I2⟩:=I1.frz F;exact⟨_,_,I2,B,J ob⟩⟩
def zmP{kvs:List (AG×V)}(I:Inv X pins σ H s)(h:H a=some (.frz ob (dtO kvs))) :
  (a==sysModules)=false/\∃ (es:Array DictEntry) (B:Nat) (ys:AE),ob.ExactDict/\ob.data = .dict es B/\zcE s.heap a es B/\ys.map (·.1)=kvs.map (·.1)/\(∀q∈ys,H q.2=some (.tup (q.1.map V.int)))/\es.toList.map (·.key)=ys.map (λq=>Value.ref q.2)/\(kvs.map (·.1)).Nodup:=by
 have k:=I.hok a _ h;obtain⟨lo,es,B,ys,⟨o,F,J,L⟩,O,U,Y,_,Z⟩:=zmI I (.inr ⟨ob,h⟩);have:o=ob:=by have:=k.1;rw[F] at this;exact bz this
 subst this;exact⟨lo,es,B,ys,J,L,⟨o,F,J,L⟩,O,U,Y,Z⟩
end
def Itd (d:Addr)(ob:Obj)(ks:List (AG×V))(ys:AE):It:=
 ⟨λi H=>H d=some (.frz ob (dtO ks))/\i<ys.length,λi H x H'=>H'=H/\∃q,ys[i]?=some q/\x = .ref q.2,λi H=>H d=some (.frz ob (dtO ks))/\i=ys.length⟩
def zl6 {P:Aa}{w:Ab}{K:AH}{tg:Expr}{ob:Obj}{ks:List (AG×V)}{ys:AE}{es:Array DictEntry}{L:Nat}(d B:Addr)(hx:ob.ExactDict)(hd:ob.data = .dict es L)(U:es.toList.map (·.key)=ys.map (λq=>Value.ref q.2)) :
  Turn P w K tg (Itd d ob ks ys) [B] B (λi h=>h.IsKeyIter B d i es.size L) where
 mem:=by simp
 obj:=λi h st b F=>by
  have e:b=B:=by simpa using F
  subst e;obtain⟨o,e,c,d⟩:=st;right
 keep:=λi h h' ⟨o,e,r⟩ k=>⟨o,k B (by simp) o e,r⟩
 item:=by
  rintro X Y Z hK hc i pins s σ H E I O st ⟨hg,hi⟩;subst Y Z hK;obtain⟨f0,f1,f2,f3,f4,f5⟩:=O B (by simp);have hm:zcE s.heap d es L:=⟨ob,(I.hok d _ hg).1,hx,hd⟩;have hl:es.toList.length=ys.length:=by have:=congrArg List.length U;rwa[ab,ab] at this
  have e1:es[i]?=some es.toList[i]:=by rw[zcp,ai]
  have e2:es.toList[i].key=Value.ref ys[i].2:=by
   have:(es.toList.map (·.key))[i]?=(ys.map (λq=>Value.ref q.2))[i]?:=by rw[U]
   rw[aq,aq,ai (by lia),ai hi] at this;right
  show zi9 st hm e1 λh' J sb=>?_;have I1:Inv X pins σ H { s with heap:=h' }:=I.turned (t':=s.toks) (λb o F e=>(sb.2 b F).trans e) f0 f1 f3 f4 f5;obtain⟨o,e,c,d⟩:=id J;exact⟨_,rfl,zmT (s:={ s with heap:=h' }) e c d (by ext) ⟨.ref ys[i].2,H,I1,e2,⟨rfl,_,ai hi,rfl⟩,J,λb F=>(O b F).1⟩⟩
 done:=by
  rintro X Y Z hK hc i pins s σ H E I O st ⟨hg,hi⟩;subst Y Z hK;obtain⟨f0,f1,f2,f3,f4,f5⟩:=O B (by simp);have hm:zcE s.heap d es L:=⟨ob,(I.hok d _ hg).1,hx,hd⟩;have hl:es.size=ys.length:=by have:=congrArg List.length U;rwa[ab,ab,be] at this
  subst hi;rw[<- hl] at st;exact zlg (I.ok.hd hc) st hm λh' eb=>⟨rfl,I.turned (t':=s.toks) (λb o F e=>eb b o F e) f0 f1 f3 f4 f5⟩
 self:=λ_ _ _ _ _ st h=>wpAny_pyIter_keyiter st h
def zv3 (te:TE):TI:=λσ H R=>te σ H λx H1=>∃a ob ks,x = .ref a/\H1 a=some (.frz ob (dtO ks))/\∀ys:AE,ys.map (·.1)=ks.map (·.1)->(∀q∈ys,H1 q.2=some (.tup (q.1.map V.int)))->(ks.map (·.1)).Nodup->R (Itd a ob ks ys) H1
def zre(h:QE X e te):QI X tg e (zv3 te):=⟨by
 intro pins s σ H R I q;show thn (h.run pins s σ H _ I q) ?_;rintro v B ⟨x,H1,I1,F,a,ob,ks,rfl,J,L⟩;cases F;obtain⟨lo,es,ep,ys,O,U,Y,Z,e2,e3,e5⟩:=zmP I1 J;show zkF lo Y ?_;show⟨B.heap.objs.size,[B.heap.objs.size],_,_,H1,rfl,I1.kept (t':=B.toks) λb o e=>aj _ e,zl6 a _ O U e3,⟨_,aC _ rfl,rfl,rfl⟩,λb hb=>?_,L ys Z e2 e5⟩;have e:b=B.heap.objs.size:=by simpa using hb
 subst e;exact I1.fpOk (ah _) (I1.hok.fresh (ah _))⟩
end L2
namespace L3
open L2
def zny{ks:List (AG×V)}(h:uB Pn A n H)(q:H p=some (dtO ks)):uB Pn A n (L2.upd H p o):=by
 show⟨?_,Pn.J.frz h.2 q (zja _) rfl⟩;have h:=h.1;split at h;trivial;show⟨?_,h.2⟩;obtain⟨h1,_⟩:=h;obtain⟨a,l,B,g2⟩:=h1.ob;exact⟨⟨a,l,by rw[zg λz=>by rw[z,q] at B;cases B];exact B,g2⟩,by rw[zg λz=>by have:=h1.ls;rw[z,q] at this;cases this];exact h1.ls,h1.len⟩
def zh6:∀st:AG,IsL G (st.map Dt.int) (st.map V.int)
 | []=>rfl
 | _::st=>⟨_,_,rfl,rfl,zh6 st⟩
abbrev onZ (w:W) (P:List (AG×Dt)->Prop):Prop:=match w with | .df i=>P i | _=>False
def zoJ{P:List (AG×Dt)->Prop}:onZ w P = ∃i,w = .df i/\P i:=propext ⟨λh=>by cases w <;> first | exact False.elim h | exact⟨_,rfl,h⟩,by right⟩
section
variable {X:Cx}{Pn:PN}{M S:AR}{fr fr':Bool}{pos p:Pos}{e a b c:Expr}{f fa fb fc:AD}
abbrev dFrz (f:AD):AD:=λρ n Q=>f ρ n λx m=>onE x λkvs=>Q (.df kvs) m
def zv9 (h:JE X Pn M true e f):JE X Pn M false e (dFrz f):=by
 obtain⟨te,q,r⟩:=h.ex;show⟨_,zt3 q,⟨λA σ H ρ n Q R E P U k=>?_⟩⟩;show r.run A σ H ρ n _ _ E P U λw m v H' F hv g Y=>?_;rw[zim] at F;obtain⟨kvs,rfl,F⟩:=F;obtain⟨L,Z,B,ag,ks,e2,h1,h2⟩:=Y rfl;subst Z;cases e2;have nA:=E.newF B;show⟨L,ks,rfl,h1,λob=>k _ m _ _ F ⟨L,ob,ks,rfl,zE nA zh,h2.stay λb o I J=>?_⟩ ⟨λb o I J=>?_,?_⟩ λz=>by cases z⟩;obtain⟨O,z2⟩:=z7.mp I;exact zE (λy=>O (.inl y)) (by rw[zg λy=>O (.inr y)];exact z2);rw[zg λy=>by subst y;exact B o I J];exact g.st b o I J;exact zny g.pn h1
def zsU{ks:List (AG×V)}{ys:AE}(h:yb A H B=some (.frz ob (dtO ks)))(F:l=ys.map λq=>W.d (stD q.1))(I:∀q∈ys,yb A H q.2=some (.tup (q.1.map V.int))):ItV false A H (Itd B ob ks ys) l where
 one:=λi w A2 H2 e s _ _=>by subst F;rw[aq] at e;obtain⟨q,h1,rfl⟩:=aD.mp e;show⟨⟨zt _ _ (s _ _ h λk z=>by cases z),(ac.mp h1).1⟩,?_⟩;rintro y H3 ⟨rfl,J,h2,rfl⟩;rw[h1] at h2;cases h2;exact⟨λ_ _ z=>z,Val.of ⟨q.2,_,rfl,s.tup (I q (ar h1)),zh6 q.1⟩⟩
 stop:=λA2 H2 s _=>by subst F;exact⟨zt _ _ (s _ _ h λk z=>by cases z),by simp⟩
abbrev dItF (fa:AD):AC:=λρ n Q=>fa ρ n λx m=>onZ x λkvs=>(kvs.map (·.1)).Nodup->Q (kvs.map λq=>W.d (stD q.1)) m
def zi1(h:JE X Pn M fr e f):JI X Pn M false tg e (dItF f):=by
 obtain⟨te,q,r⟩:=h.ex;show⟨_,zre q,⟨λA σ H ρ n Q R E P U k=>?_⟩⟩;show r.run A σ H ρ n _ _ E P U λw m v H1 F Y g _=>?_;rw[zoJ] at F;obtain⟨kvs,rfl,F⟩:=F;obtain⟨Z,ob,ks,rfl,B,hl⟩:=Y;have J:ks.map (·.1)=kvs.map (·.1):=hl.keys;have I:=(E.stay g.st).alT;show⟨Z,ob,ks,rfl,zt _ _ B,λys e1 L e3=>k _ m _ H1 (F (by rw[<- J];exact e3)) (zsU B ?_ λq O=>zE (λy=>I _ _ y (L q O)) (L q O)) g⟩;have:(ys.map (·.1)).map (λst=>W.d (stD st))=(kvs.map (·.1)).map λst=>W.d (stD st):=by rw[e1,J]
 rw[aB,aB] at this;exact this.symm
abbrev zvH (fd fk:AD):AD:=λρ n Q=>fd ρ n λx q=>fk ρ q λy B=>onZ x λkvs=>∃st,y = .d (stD st)/\onO (yW kvs st) λd=>Q (.d d) B
def zsj{kvs:List (AG×Dt)}(h:Bor A H (.df kvs) v):∃q ks,v = .ref q/\Rd H q (dtO ks)/\zab (yb A H) kvs ks:=by obtain⟨q,ob,ks,e,h1,h2⟩:=h;exact⟨q,ks,e,.inr ⟨ob,h1⟩,h2⟩
def zbO.z {H:Hp}{a b:Addr}{kvs:List (AG×V)}{st:AG}(e:Rd H a (dtO kvs))(q:H b=some (.tup (st.map V.int))):zbO H a (.ref b) (um kvs st):=
 .inr ⟨_,st.map Sum.inl,b,e,rfl,by rw[zbU];exact q,(zeG kvs st).symm⟩
def zhc (J:X.A.units+1<cLine)(L:JB X Pn M a fa)(O:JB X Pn M b fb)(hs:zsb b):JE X Pn M false (.Subscript a b pos) (zvH fa fb):=by obtain⟨ta,U,Y⟩:=L.ex;obtain⟨tb,Z,rb⟩:=O.ex;show⟨_,ui J U Z hs,⟨λA σ H ρ n Q R E P hf k=>?_⟩⟩;show Y.run A σ H ρ n _ _ E P hf λw1 m1 v1 H1 r1 b1 B=>?_;show rb.run A σ H1 ρ m1 _ _ (E.stay B.st) B.pn r1 λw2 m2 v2 H2 q b2 g2=>?_;rw[zoJ] at q;obtain⟨kvs,rfl,st,rfl,q⟩:=q;rw[zch] at q;obtain⟨d,e3,r⟩:=q;obtain⟨ad,ks,rfl,F,hk⟩:=zsj (b1.stay g2.st);obtain⟨bd,xs,rfl,I,hx⟩:=xx b2;obtain rfl:=hx.of_ints;obtain⟨v,h1,h2⟩:=(hk.look (k:=st)).2 d e3;show⟨ad,v,rfl,?_,k _ m2 _ H2 r (Val.of h2) (B.trans g2) λz=>by cases z⟩;rw[<- h1];exact zbO.z F I
abbrev dGetFD (fd fk q:AD):AD:=λρ n Q=>fd ρ n λx B=>onZ x λkvs=>fk ρ B λy F=>q ρ F λz I=>∃st,y = .d (stD st)/\onD z λi=>Q (.d ((yW kvs st).getD i)) I
abbrev dDictL:AU->Mo W:=λB n Q=>on1 B λx=>∃kvs:List (AG×Dt),x = .d (.lst (kvs.map λq=>Dt.tup [stD q.1,q.2]))/\(kvs.map (·.1)).Nodup/\kvs.length<=lim/\Q (.dt kvs) n
end
def zeu(xs:AF)(hl:l=xs.map λi=>W.d (stD i))(J:Ev->Prop)(P:AG->Bool)(E:AG->Dt)(hN:xs.Nodup)(ag:xs.length<=lim)(j0:J L)(h:∀a∈xs,∀ F,J F->∀C:Ev->Nat->Option (AG×Dt)->Prop,(∀ {B},P a=true->J B->C B n (some (a,E a)))->(∀ {B},P a=false->J B->C B n none)->mg (.d (stD a)) F λB=>ft B n λb n2=>onC b (fk B n2 λy n3=>fv B n3 λx U=>∃j,y = .d (stD j)/\onD x λd=>C B U (some (j,d))) (C B n2 none))(fin:Q (.dt ((xs.filter P).map λa=>(a,E a))) n):zor mg ft fk fv L Q l n:=by
 subst hl;show⟨by right,λi F Y acc=>J F/\Y=n/\acc=((xs.take i).filter P).map λa=>(a,E a),⟨j0,rfl,rfl⟩,?_,?_⟩;rintro i w F Y acc hw ⟨Z,rfl,rfl⟩;rw[aq] at hw;obtain⟨a,O,rfl⟩:=aD.mp hw
 have:=h a (ar O) F Z (λB U o=>match o with
  | some q=>J B/\U=Y/\zfr (((xs.take i).filter P).map λa=>(a,E a)) q.1 q.2=((xs.take (i+1)).filter P).map λa=>(a,E a)
  | none=>J B/\U=Y/\(((xs.take i).filter P).map λa=>(a,E a))=((xs.take (i+1)).filter P).map λa=>(a,E a)) (λ{B} hp I=>by
   show⟨I,rfl,?_⟩;have hi:=(ac.mp O).1;have hn:((((xs.take i).filter P).map λa=>(a,E a)).any λkv=>decide (kv.1=a))=false:=by rw[List.any_eq_false];intro kv ad z;obtain⟨b,hb,rfl⟩:=au.mp ad;have e:b=a:=bP z;subst e;obtain⟨j,Z,e2⟩:=bF.mp (bw.mp hb).1;rw[aV] at Z;rw[fD] at e2;have e3:=(ac.mp O).2;rw[<- e3] at e2;have:=(cA hN).mp e2;lia
   unfold zfr;rw[hn,if_neg (by ext),zj O,eY,aE]
   simp[hp]) (λ{B} hp I=>by
   show⟨I,rfl,?_⟩;rw[zj O,eY,aE];simp[hp])
 simp only[zaT,xF] at this;grind;grind
abbrev lpD (bk:AW) (b:Int) (st:AG):Dt:=.lst ((lpE bk b st).map ub)
abbrev rowD (rm:AG) (bk:AW) (st:AG):Dt:=.lst ((List.range rm.length).map λb:Nat=>lpD bk (b:Int) st)
def zuU {l:AF}(h:Up' l):l.Nodup:=h.imp λh e=>by subst e;rw[xf] at h;cases h
def zoj (rm:AG):(yZ (rm.map zp)).Nodup:=zuU (zpj _ λc q=>by obtain⟨m,_,rfl⟩:=au.mp q;unfold zp;rw[bD];exact List.pairwise_lt_range.imp λh=>by lia)
def zpl {rm:AG}(q:RoomOk rm):(yZ (rm.map zp)).length<=65536:=by
 have:=zel q.few q.box rm.length;right
def zg1 {rm:AG}{g:List (Int×Int)}(h:Giv rm g):g.length<=rm.length:=by
 have:=zT (l:=g.map (·.1)) (l':=zp rm.length) (bD.mpr (h.up.imp λh e=>by lia)) λx B=>by obtain⟨q,F,rfl⟩:=au.mp B;have:=h.ok q F;exact zaD.mpr ⟨this.1,this.2.1⟩
 rw[ab,yU] at this;lia
def ztc {α q B:Type}{G:Prop}(C:α->q->B->Prop)(P:α->q->B->Prop)(h:(∀a b c,C a b c->P a b c)->G)(r:∀a b c,C a b c->P a b c):G:=h r
section
variable {X:Cx}{Pn:PN}{M S cM:AR}{fr fr':Bool}{e:Expr}{es:AO}{pos:Pos}{A:AL}{acc:Addr}{H1 H H':Hp}{σc σ:St}{ρc ρ:Ev}{n m:Nat}{ds:AS}
def inR (mg:W->Ev->(Ev->Prop)->Prop)(L:Ev->Mo Bool)(O:AD)(B:Ev)(F:AS)(K:Ev->Nat->AS->Prop):AU->Nat->Prop:=λl U=>∃I:Nat->Ev->Nat->AS->Prop,I 0 B U F/\
 (∀i w ρ n ds,l[i]?=some w->I i ρ n ds->mg w ρ λq=>L q n λb J=>if b=true then O q J λx Y=>∃d,x = .d d/\ds.length<=lim/\I (i+1) q Y (ds++[d]) else I (i+1) q J ds)/\
 ∀ ρ n ds,I l.length ρ n ds->K ρ n ds
def zsk (mg:W->Ev->(Ev->Prop)->Prop)(U:Ev->Mo Bool)(B:AC)(F:W->Ev->(Ev->Prop)->Prop)(J:Ev->Mo Bool)(Y:AD)(L:Ev)(Q:AV):AU->Nat->Prop:=λl Z=>∃I:Nat->Ev->Nat->AS->Prop,I 0 L Z []/\
 (∀i w ρ n ds,l[i]?=some w->I i ρ n ds->mg w ρ λq=>U q n λb O=>if b=true then B q O (inR F J Y q ds (I (i+1))) else I (i+1) q O ds)/\
 ∀ ρ n ds,I l.length ρ n ds->Q (.d (.lst ds)) n
abbrev mComp2 (I:AC) (mg:W->Ev->(Ev->Prop)->Prop) (J:Ev->Mo Bool) (q:AC) (B:W->Ev->(Ev->Prop)->Prop) (F:Ev->Mo Bool) (L:AD) (cix:List (Option Nat)):AD:=λρ n Q=>I ρ n (zsk mg J q B F L (zfB ρ cix) Q)
end
end L3
namespace L2
open PyProof.Rows PySem.W PySem.Calls
section
variable {X:Cx}{pins:AB}{σ:St}{H:Hp}{s:AZ}{a:Addr}
end
end L2
namespace L3
open L2
abbrev onY (w:W) (P:List (Key×Dt)->Prop):Prop:=match w with | .kf i=>P i | _=>False
section
variable {X:Cx}{Pn:PN}{M S:AR}{fr fr':Bool}{pos p:Pos}{e a b c:Expr}{f fa fb fc:AD}
abbrev dFrzK (f:AD):AD:=λρ n Q=>f ρ n λx m=>onK x λkvs=>Q (.kf kvs) m
abbrev dItK (fa:AD):AC:=λρ n Q=>fa ρ n λx m=>onY x λkvs=>∃ns:AG,kvs.map (·.1)=ns.map Sum.inl/\Q (ns.map λi=>W.d (.int i)) m
abbrev dGetY (fd fk:AD):AD:=λρ n Q=>fd ρ n λx q=>fk ρ q λy B=>onY x λkvs=>onI y λi=>onO (yW kvs (Sum.inl i)) λd=>Q (.d d) B
abbrev dListY:AU->Mo W:=λq n Q=>on1 q λx=>onY x λkvs=>∃ns:AG,kvs.map (·.1)=ns.map Sum.inl/\Q (.d (.lst (ns.map .int))) n
abbrev dRetT (f:AD) (i:Nat):Ms:=λρ n k=>f ρ n λw m=>onD w λd=>onV ρ i λx=>onL x λl=>k.rt (.d (.tup [d,.lst l])) m
end
end L3
namespace L2
open PyProof.Rows PySem.SeqAt
section
variable {prog:Aa}{w:Ab}{t:SetTable}{es:Array (Int×Value)}{xs:List (List Key×Addr)}{A:Ae}{E:AA}{s:AZ}
def zpQ{ns:AG}(U:A.units<cLine)(S:xS prog w s.heap a xs)(Y:(tk prog w).is s.heap (ns.map Sum.inl) b)(B:∀q∈xs,(tk prog w).is s.heap q.1 q.2)(h:∀r:Option Nat,(r.isSome=true↔(ns.map Sum.inl)∈xs.map (·.1))->Q r s) :
  Ag prog w A (setFind a (.ref b) ((tk prog w).hash (ns.map Sum.inl))) Q E s:=by
 obtain⟨o,es,ep,t,J,hx,L,T,F⟩:=S;unfold setFind;rw[show (100000:Nat)=99999+1 from rfl];unfold setFindIn;show aa (bt J L T.fits ?_);dsimp only;rw[show byScan (.ref b) es=false from rfl];simp only[aR,if_false];unfold setSearch;have O:=T.msk.le;show aa (zds U T Y B J L ?found ?free 100000 0 none rfl (by unfold SetTable.turns;lia) (aK _) (λm O=>absurd O (cw _)))
 case found=>
  intro r i q Z I hr;obtain rfl:r=some i:=hr.resolve_left λz=>by cases z.2
  exact ae (h _ ⟨λ_=>au.mpr ⟨q,ar Z,I⟩,λ_=>rfl⟩)
 case free=>
  intro N hN he hp;exact ae (h none ⟨λz=>(by cases z),λz=>absurd z (T.out hN he hp)⟩)
def zv5{ns:AG}(J:A.in1.units<cLine)(S:xS prog w s.heap a xs)(L:(tk prog w).is s.heap (ns.map Sum.inl) b)(B:∀q∈xs,(tk prog w).is s.heap q.1 q.2)(h:∀ (c:Bool) (n:Nat),(c=true↔(ns.map Sum.inl)∈xs.map (·.1))->Q c { s with toks:=n }) :
  Ag prog w A (contains (.ref a) (.ref b)) Q E s:=by
 have I:s.TypeIs (.ref a) "set" := by obtain⟨o,es,Z,t,O,U,_⟩:=S;exact⟨o,O,U.1⟩
 unfold contains;show bq ?_;show aa (eE I F.slot_set_contains.lookup ?_);change wpAny _ _ (if (some (Value.builtin "set.__contains__")==some Value.none)=true then _ else _) _ E s;rw[if_neg (by rw[beq_builtin_none];exact aJ)]
 show aa (wpAny_callSpecialUnlessNone?_slot (name:=Str.ofString "__contains__") I F.slot_set_contains
  (aZ F.slot_set_contains I entry_set_contains ?_ (F.args_set_contains_2 _ _)))
 unfold Builtin.«frozenset.__contains__» Builtin.Frozenset.oneOther;simp only[List.isEmpty_nil,bind_assoc];unfold Builtin.Frozenset.addrOf Builtin.Frozenset.withSetAsKey setContains;show aa (ae ?_);try dsimp only;show aa (ae ?_);try dsimp only;show aa (wpAny_tryCatch ?_);show bq ?_;show aa ((tk prog w).pyHash J L ?_);show aa (zpQ (s:={ s with toks:=s.toks+(tk prog w).draws (ns.map Sum.inl) }) J S L B λr Y=>?_);show ae ?_;change wpAny _ _ (ret (Value.bool r.isSome)) _ _ _;exact ae ⟨_,rfl,bN (h _ _ Y)⟩
variable {X:Cx}
def rInS (P:Aa)(w:Ab):R2:=λx y H Q=>∃ (a b:Addr) (ns:AG) (ks:AF),x = .ref b/\y = .ref a/\zdu P w H a ks/\H b=some (.tup (ns.map V.int))/\∀c:Bool,(c=true↔ns∈ks)->Q (.bl c) H
def ztu (hu:X.A.units+1<cLine):OpQ X (compareOp .In) (rInS X.prog X.w):=⟨by
 intro pins s σ H x y v u Q I rx ry h;obtain⟨a,b,ns,ks,rfl,rfl,⟨xs,hH,hel,rfl,hnd⟩,hb,q⟩:=h;cases rx;cases ry;have S:=(show yo X.prog X.w H s.heap a (zhG X.prog X.w a (yT xs)) from I.hok a _ hH).1;change wpAny _ _ (do return Value.bool (<- contains (.ref a) (.ref b))) _ _ _;show aa (zv5 (by lia) S (zcW I hb) (λq hq=>?_) λc n hc=>ae ⟨.bl c,H,I.tok _,rfl,q c (hc.trans zc4)⟩);obtain⟨z,hz,rfl⟩:=au.mp hq;exact zcW I (hel z hz)⟩
def zrm:V->AT->Hp->VK->Prop:=λx vs H Q=>∃ (l:Addr) (xs:AT) (v:V) (d:Dt) (ds:AS),x = .ref l/\vs=[v]/\H l=some (.lst xs)/\IsL H ds xs/\Is H d v/\d.eqOk/\(Dt.lst ds).eqOk/\d∈ds/\∀j:Nat,ds[j]?=some d->(∀i,i<j->ds[i]?≠some d)->Q (.int j) H
open Classical in
def zlb (hu:X.A.units+64<cLine):MtM X "list.index" zrm:=by
 intro pins s σ H x vs v us Q I rx rv h;obtain⟨l,xs,u0,d,ds,rfl,rfl,hH,Z,hd,kd,ks,hm,q⟩:=h;cases rx;obtain⟨u,rfl,ru⟩:=rv.one;obtain⟨z,its,n,r,hl,e⟩:=I.lstM hH;obtain⟨as,ra⟩:=y4 I.hok 8 hd ru kd;obtain⟨bs,rb⟩:=xW I.hok 7 Z r λw hw=>by rw[uR] at hw;obtain⟨d',ad,rfl⟩:=au.mp hw;exact zbl ks d' ad
 obtain⟨l1,l2,l3⟩:=zfZ kd ks hu;have B:=readsAll_map _ _ _ l1 rb;rw[zbo,uR,aB] at B;have L:its.length=ds.length:=by have:=congrArg List.length B;rwa[ab,ab] at this
 have rd:∀ (m:Nat) (h1:m<its.length) (h2:m<ds.length),readOf s.heap its[m]=PySem.W.kqdP ds[m].toW:=λm h1 h2=>by have:=congrArg (λl=>l[m]?) B;rw[aq,aq,ai h1,ai h2] at this;exact bz this
 have ev:∀ (m:Nat) (h2:m<ds.length),PyData.eqv (PySem.W.kqdP ds[m].toW) (PySem.W.kqdP d.toW)=true↔ds[m]=d:=λm h2=>(eI 7 _ _ 8 (zbl ks _ (bL h2)) kd).trans ⟨λh=>zfm h,λh=>by rw[h]⟩
 let j:=ds.findIdx λx=>decide (x=d)
 have O:j<ds.length:=List.findIdx_lt_length_of_exists ⟨d,hm,a6 rfl⟩;have U:ds[j]=d:=bP (List.findIdx_getElem (p:=λx=>decide (x=d)) (w:=O));have Y:∀m (h2:m<ds.length),m<j->ds[m]≠d:=λm h2 J z=>by have:=List.not_of_lt_findIdx (p:=λx=>decide (x=d)) J;rw[a6 z] at this;cases this
 have z:xs.length<=sizeLine:=z;rw[bM] at z;have:=r.length
 show eB F.slot_list_index ⟨_,e,rfl⟩ F.entry_list_index (F.args_list_index_2 _ _)
  (list_indexAt l its.toArray n none #[] u (λy=>PyData.eqv (readOf s.heap y) (PySem.W.kqdP d.toW)) j (by simpa [L] using O) (by lia) ?_ ?_) ⟨e,items_eqAt rb ra l1 l2 l3,?_⟩
 change PyData.eqv (readOf s.heap its[j]) _=true;rw[rd j (by lia) O];exact (ev j O).mpr U;intro m ag J;have h2:m<ds.length:=by lia
 change PyData.eqv (readOf s.heap its[m]) _=false;rw[rd m (by lia) h2,<- Bool.not_eq_true];exact λh=>Y m h2 J ((ev m h2).mp h);show⟨.int (j:Nat),H,I.tok _,⟨_,rfl⟩,q j (by rw[ai O,U]) λi hi z=>?_⟩;have h2:i<ds.length:=by lia
 rw[ai h2] at z;exact Y i h2 hi (bz z)
end
end L2
namespace L3
open L2
section
variable {X:Cx}{Pn:PN}{M S:AR}{fr fr':Bool}{pos p:Pos}{e o a b c:Expr}{es:AO}{f fo fa fc:AD}
abbrev dAug (F:Int->Int->Int) (i:Nat) (f:AD):Ms:=λρ n k=>onV ρ i λx=>onI x λa=>f ρ n λy m=>onI y λb=>onP ρ i (.d (.int (F a b))) λq=>k.nx q m
def zsZ {i:Nat}{x:Str}{op:Operator}{F:Int->Int->Int}{pos':Pos}(hN:X.N.Nodup)(ho:PIp X op (ipI F))(he:JB X Pn M e f)(hi:X.N[i]?=some x:=by rfl)(hx:Loc X.env.scope x:=by first | exact Or.inl rfl | exact Or.inr rfl)(J:i∉M:=by ext)(U:i∉S++M:=by ext)(I:X.fn x=true\/X.env.scope.names.lookup x=some .local:=by walk_at "l") :
  JS X Pn S M fr (.AugAssign (.Name x pos') op e pos) (dAug F i f):=by
 obtain⟨te,q,r⟩:=he.ex;show⟨_,⟨ztQ hN hi hx q.run ho I⟩,⟨λB A σ H ρ n k D a kk I=>?_⟩⟩;simp only[dAug,zaU,x6,uu] at I;obtain⟨w0,e0,L,rfl,I⟩:=I;obtain⟨v,s1,s2,_⟩:=a.env.val i _ e0;obtain rfl:v = .int L:=(s2 J).is;show⟨_,s1,r.run A σ H ρ n _ _ a.env a.pn I ?_⟩;rintro y m v2 H1 ⟨O,rfl,r1⟩ b1 g1;obtain rfl:v2 = .int O:=yL b1;have a1:=a.step g1;exact⟨L,O,rfl,rfl,(zfb J U).run A σ H1 ρ (.int (F L O)) (.d (.int (F L O))) _ (λY=>k.nx Y m) a1.env (Val.of rfl) r1 λZ ad r2 E2 f2=>kk.nx A Z H1 ad m (EnvR.mineG a1 E2 f2) r2⟩
abbrev zso (F:Int->Int->Int) (i:Nat) (fk f:AD):Ms:=λρ n k=>onV ρ i λx=>onE x λkvs=>fk ρ n λy m=>∃st,y = .d (stD st)/\∃a,yW kvs st=some (.int a)/\f ρ m λw B=>onI w λb=>kvs.length<lim/\onP ρ i (.dt (zfr kvs st (.int (F a b)))) λq=>k.nx q B
def zkM (i:Nat){x:Str}{op:Operator}{F:Int->Int->Int}{np:Pos}(hu:X.A.units+1<cLine)(hk:JB X Pn M c fc)(ho:zve X op (ipI F))(he:JB X Pn M e f)(hi:i∈M:=by ext)(hN:X.N[i]?=some x:=by rfl)(hv:Vis X.env.scope x:=by walk_at "v")(hd:Ah x:=by ext)
  (hcd:(x==("__classdict__" : Str))=false:=by ext) (ha:∀ov iv new,augStore c ov iv new=(do holding [new,ov,iv] (setItem ov iv new);release [new,ov,iv] [];pure .next):=by intros;rfl) :
  JS X Pn S M fr (.AugAssign (.Subscript (.Name x np) c p) op e pos) (zso F i fc f):=by
 obtain⟨te,q,r⟩:=he.ex;obtain⟨tk,qk,rk⟩:=hk.ex;show⟨_,⟨zq0 hu (qv i hN hv hd hcd).run qk.run q.run ho ha⟩,⟨λB A σ H ρ n k D a kk hf=>?_⟩⟩;simp only[zso,zaU,zim,x6,uu] at hf;obtain⟨w0,e0,kvs,rfl,hf⟩:=hf;obtain⟨v0,s0,_,o3⟩:=a.env.val i _ e0;obtain⟨ad,rfl,hA,_,_⟩:=o3 hi;show⟨.ref ad,s0,rk.run A σ H ρ n _ _ a.env a.pn hf ?_⟩;rintro y m v2 H1 ⟨st,rfl,a0,ha0,r1⟩ b1 g1;have a1:=a.step g1;obtain⟨bd,xs,rfl,hbd,hx⟩:=xx b1;obtain rfl:=hx.of_ints;have own:∀ {H1:Hp} {m:Nat},At3 Pn B S M A σ H1 ρ m->∃ks,H1 ad=some (dtO ks)/\zab (yb A H1) kvs ks:=λa1=>by obtain⟨v3,s3,_,o4⟩:=a1.env.val i _ e0;rw[s0] at s3;cases s3;obtain⟨ad2,e4,_,hb,_⟩:=o4 hi;cases e4;obtain⟨a5,ks,e5,had,hkv⟩:=hb;cases e5;exact⟨ks,had,hkv⟩
 obtain⟨ks,had,hkv⟩:=own a1;obtain⟨v,h1,h2⟩:=(hkv.look (k:=st)).2 _ ha0;show⟨ad,v,rfl,h1 ▸ zbO.i had hbd,r.run A σ H1 ρ m _ _ a1.env a1.pn r1 ?_⟩;rintro w m2 v3 H2 ⟨b0,rfl,hz,r2⟩ b2 g2;have a2:=a1.step g2;obtain rfl:v3 = .int b0:=yL b2;obtain⟨ks2,had2,hkv2⟩:=own a2;exact⟨a0,b0,h2,rfl,_,zdx.i had2 (g2.st.tup hbd) (zdW (by rw[hkv2.len];exact bW hz)),kk.nx A σ _ _ m2 (a2.wrX (w':=.dt (zfr kvs st (.int (F a0 b0)))) hi e0 s0 ⟨ad,_,rfl,zh,hkv2.put (show Is _ (.int _) _ from rfl)⟩ rfl (λk z=>by cases z) rfl) r2⟩
abbrev zsx (P:Aa) (w:Ab):AU->Mo W:=λq n Q=>on1 q λx=>∃sts:AF,x = .d (.lst (sts.map stD))/\(∀ks:AF,ks.Nodup->(∀z∈ks,z∈sts)->ks.length<300)/\∀ks:AF,ks.Nodup->(∀st,st∈ks↔st∈sts)->Q (.ss P w ks) n
def zuQ:FL Pn true (zoY P w) (zsx P w):=⟨λA H xs ws n Q R L b Pp h k=>by
 simp only[zsx,zar] at h;obtain⟨x,rfl,sts,rfl,I,h⟩:=h;obtain⟨v,r,rfl,U,rfl⟩:=b;obtain⟨Y,ys,rfl,Z,hl⟩:=yM U;show⟨Y,ys,sts,rfl,Z,hl.stay (zB.same zt),I,λl H' ks O SV mm Sm=>?_⟩;obtain⟨xs,h1,h2,I,J⟩:=SV;have F:=L.stay (zB.same Sm);show k _ n _ H' (h ks J mm) ⟨l,xs,rfl,zE (L.new O) h1,I,λq B=>zE (λz=>F.noT _ _ z (h2 q B)) (h2 q B),J⟩ (Go.same Pp Sm) λ_=>⟨l,rfl,.of O,l,xs,rfl,h1,I,λq B=>zE (λz=>?_) (h2 q B),J⟩;rcases z with z | z;exact F.noT _ _ z (h2 q B);have:=h2 q B;rw[z,h1] at this;cases this⟩
abbrev dInS (P:Aa) (w:Ab):W->W->Mo W:=λx y n Q=>∃ (st:AG) (ks:AF),x = .d (stD st)/\y = .ss P w ks/\∀c:Bool,(c=true↔st∈ks)->Q (.d (.bl c)) n
def zw8:F2 Pn false (rInS P w) (dInS P w):=⟨λA H x y U Y n Q R Z B F Pp h k=>by obtain⟨st,ks,rfl,rfl,h⟩:=h;obtain⟨I,rfl,SV⟩:=zrE F;obtain⟨J,xs,rfl,q,L⟩:=xx B;obtain rfl:=L.of_ints;exact⟨I,J,st,ks,rfl,rfl,SV,q,λc O=>k _ n _ H (h c O) (Val.of rfl) (Go.refl Pp) λz=>by cases z⟩⟩
abbrev dItEF (fa:AC):AC:=λρ n Q=>fa ρ n λq m=>on1 q λx=>onZ x λkvs=>(kvs.map (·.1)).Nodup->Q (enW 0 ((kvs.map (·.1)).map stD)) m
abbrev zpz (fo f:AD):AD:=λρ n Q=>fo ρ n λx q=>onL x λl=>f ρ q λy B=>onD y λd=>d.eqOk/\(Dt.lst l).eqOk/\d∈l/\∀j:Nat,l[j]?=some d->(∀i,i<j->l[i]?≠some d)->Q (.d (.int j)) B
def zia (K:AH)(Z:X.K=K)(hu:X.A.units+64<cLine){apos cpos:Pos}(ho:JB X Pn M o fo)(he:JB X Pn M e f)
  (B:attributeBase o "index" X.env (eval o X.env)=eval o X.env:=by rfl)
  (J:((backTo cpos (starEach [e] X.env)).all (λx=>!x.1)&&(backToKw cpos (keywordEach [] X.env)).all (λx=>x.1.isSome)
   && decide (([e]:AO).length+([]:List Keyword).length+(if ([]:List Keyword).isEmpty then 0 else 1)<30))=true:=by rfl)
  (I:(apos.endLine==cpos.line)=true:=by rfl) (hs:starEach [e] X.env=(false,eval e X.env)::starEach [] X.env:=by rfl) (q:(backTo cpos (starEach [] X.env)).any (·.1)=false:=by rfl) :
  JE X Pn M false (.Call (.Attribute o "index" apos) [e] [] cpos) (zpz fo f):=by
 subst Z;obtain⟨to,qo,ro⟩:=ho.ex;obtain⟨te,qe,re⟩:=he.ex;show⟨_,zgm bU PySem.F.slot_list_index PySem.F.type_list_index (zlb hu) qo (zG qe ye hs) B J I hs q,⟨λA σ H ρ n Q R E P hf k=>?_⟩⟩;show ro.run A σ H ρ n _ _ E P hf λw m v H1 L b1 U=>?_;rw[xG] at L;obtain⟨l,rfl,L⟩:=L;obtain⟨ad,xs,rfl,Y,hl⟩:=yM b1;show⟨.inl ⟨rfl,_,SqL.of Y⟩,?_⟩;show re.run A σ H1 ρ m _ _ (E.stay U.st) U.pn L λw2 m2 v2 H2 O b2 g2=>?_;rw[xF] at O;obtain⟨d,rfl,k1,k2,k3,O⟩:=O;exact⟨ad,xs,v2,d,l,rfl,rfl,g2.st.lst Y,(hl.stay (zB.same zt)).stay g2.st,b2.is,k1,k2,k3,λj h1 h2=>k _ m2 _ H2 (O j h1 h2) (Val.of rfl) (U.trans g2) λz=>by cases z⟩
def zsX:JE X Pn M true (.Dict [] [] pos) (mC (.d .dct)):=⟨_,znI,⟨λA σ H ρ n Q R E P B k=>λp q=>k _ n _ _ B ⟨p,[],rfl,zE (E.new q) zh,rfl⟩ (Go.same P (yJ.upd q)) λ_=>⟨p,rfl,.of q,p,[],rfl,zh,rfl⟩⟩⟩
abbrev snN:AU->(AU->Prop)->Prop
 | [],P=>P [.d .non]
 | a::r,P=>snN r λq=>P (a::q)
def zo5:∀ {q:AU} {P:AU->Prop},snN q P=P (q++[.d .non])
 | [],P=>rfl
 | a::r,P=>by rw[snN,zo5];rfl
def zaY.non:∀ {q:AU} {vs:AT},zaY A H q vs->zaY A H (q++[.d .non]) (vs++[.non])
 | [],_,h=>by cases h;exact⟨_,_,rfl,Val.of rfl,rfl⟩
 | _::_,_,⟨v,r,e,h1,h2⟩=>by subst e;exact⟨v,_,rfl,h1,zaY.non h2⟩
abbrev dFnD (k:Nat) (F:AU->Mo W) (fs:AC):AD:=λρ n Q=>fs ρ n λq m=>snN q λus=>zdH k us (F us m Q)
def zv7(D:DfnD X.K X.mg x st ps [Value.none] fA fd)(G:FnOk X.prog X.w X.K X.mg X.base CX0 j fA fd ps (spV k fr F))(L:Room q X.A)(O:JA X Pn M (e::es) fs)(B:j<=q:=by ext)(U:Gl X x:=by rfl)(I:Ah x:=by ext)(Y:starEach (e::es) X.env=(false,eval e X.env)::starEach es X.env:=by rfl)(J:(backTo pos (starEach es X.env)).any (·.1)=false:=by rfl) :
  JE X Pn M fr (.Call (.Name x p) (e::es) [] pos) (dFnD k (F Pn) fs):=by
 obtain⟨ta,Z,ra⟩:=O.ex;show⟨_,zt1 (dv:=[.non]) D (.cons rfl .nil) G L Z B U I Y J,⟨λA σ H ρ n Q R E P hf q=>?_⟩⟩;show ra.run A σ H ρ n _ _ E P hf λws m vs H1 h b g=>?_;rw[zo5,zcC] at h;exact⟨Pn,A,_,m,R,(E.stay g.st).al,b.non,h.1,g.pn,h.2,λw m' v H' h1 h2 h3 h4=>q w m' v H' h1 h2 (g.trans h3) λz=>(h4 z).back g.st⟩
end
end L3
namespace L2
open PyProof.Rows
section
variable {X:Cx}{pins:AB}{σ:St}{H G G':Hp}{s:AZ}{d l:Addr}{ob:Obj}{kvs:List (List Key×V)}
def DTo (P:Aa)(w:Ab)(G:Hp)(d:Addr)(ob:Obj)(kvs:List (List Key×V)):Prop:=kvs.length<=sizeLine/\(d==sysModules)=false/\∃xs:List (List Key×Addr×Value),
 Paired (λ(p:List Key×V) (q:List Key×Addr×Value)=>p.1=q.1/\G q.2.1=some (.tup (p.1.map kV))/\yB p.2 q.2.2) kvs xs/\∃es B,ob.ExactDict/\ob.data = .dict es B/\es.toList=xs.map (entryOfKey (tupleKind (zV P w)))/\(xs.map (·.1)).Nodup
def DTo.st(h:DTo P w G d ob kvs)(t:zdy G G'):DTo P w G' d ob kvs:=by obtain⟨z,lo,xs,r,q⟩:=h;exact⟨z,lo,xs,Paired.imp' (λp q y=>⟨y.1,t _ _ y.2.1,y.2.2⟩) r,q⟩
def Inv.thaw (I:Inv X pins σ H s)(h:H d=some (kO d ob))(D:DTo X.prog X.w H d ob kvs):Inv X pins σ (upd H d (.dT kvs)) s:=by obtain⟨z,lo,xs,r,es,B,h2,F,J,L⟩:=D;have h1:s.heap.get? d=some ob:=(show yo X.prog X.w H s.heap d (kO d ob) from I.hok d _ h).1;show I.write (x:=d) (e:=d) (h':=s.heap) (t':=s.toks) (by rw[h];trivial) (.inl rfl) (λ_ _ _ e=>e) ⟨ob,h1⟩ ⟨z,lo,xs,Paired.imp' (λp q y=>⟨y.1,?_,y.2.2⟩) r,ob,es,B,h1,h2,F,J,L⟩;rw[zg λe=>by have:=y.2.1;rw[e,h] at this;cases this];exact y.2.1
def Inv.keep (I:Inv X pins σ H s)(h:H d=some (.dT kvs)):∃ob,DTo X.prog X.w H d ob kvs/\s.heap.get? d=some ob/\Inv X pins σ (upd H d (kO d ob)) s:=by obtain⟨z,lo,xs,r,o,es,q,h1,h2,B,F,J⟩:=(show yo X.prog X.w H s.heap d (.dT kvs) from I.hok d _ h);exact⟨o,⟨z,lo,xs,r,es,q,h2,B,F,J⟩,h1,I.write (x:=d) (e:=d) (h':=s.heap) (t':=s.toks) (by rw[h];trivial) (.inl rfl) (λ_ _ _ e=>e) ⟨o,h1⟩ ⟨h1,⟨o,h1⟩,λh1 h2 p k=>k o p⟩⟩
def Inv.frzL(I:Inv X pins σ H s)(h:H l=some (.lst xs)):∃ob,Inv X pins σ (upd H l (.frz ob (.lst xs))) s:=by obtain⟨z,its,n,r,e⟩:=(show yo X.prog X.w H s.heap l (.lst xs) from I.hok l _ h);exact⟨_,I.write (x:=l) (e:=l) (h':=s.heap) (t':=s.toks) (by rw[h];trivial) (.inl rfl) (λ_ _ _ e=>e) ⟨_,e⟩ ⟨e,z,its,n,r,e⟩⟩
variable {e:Expr}{te:TE}
def zuI (P:Aa)(w:Ab)(te:TE):TE:=λσ H Q=>te σ H λx H1=>∃d ob kvs,H1 d=some (kO d ob)/\DTo P w H1 d ob kvs/\Q x (upd H1 d (.dT kvs))
def zqP (h:PE X e te):PE X e (zuI X.prog X.w te):=λpins s σ H Q I q=>thn (h pins s σ H _ I q) λu F ⟨x,H1,I1,r,d,ob,kvs,h1,h2,B⟩=>⟨x,_,I1.thaw h1 h2,r,B⟩
def zuz (P:Aa)(w:Ab)(te:TE):TE:=λσ H Q=>te σ H λx H1=>∃d kvs,H1 d=some (.dT kvs)/\∀ob,DTo P w H1 d ob kvs->(∃h:Heap,h.get? d=some ob)->Q x (upd H1 d (kO d ob))
def zqK (h:PE X e te):PE X e (zuz X.prog X.w te):=λpins s σ H Q I q=>thn (h pins s σ H _ I q) λu F ⟨x,H1,I1,r,d,kvs,h1,B⟩=>by obtain⟨ob,D,g,I2⟩:=I1.keep h1;exact⟨x,_,I2,r,B ob D ⟨_,g⟩⟩
def zpa (P:Aa)(w:Ab)(t:TA):TA:=λσ H Q=>t σ H λvs H1=>∃d kvs,H1 d=some (.dT kvs)/\∀ob,DTo P w H1 d ob kvs->(∃h:Heap,h.get? d=some ob)->Q vs (upd H1 d (kO d ob))
def zqF(h:PA X es t):PA X es (zpa X.prog X.w t):=λpos pins s σ H Q I q=>by show aQ (h pos pins s σ H _ I q) ?_ λ_ _ x=>x;rintro us F ⟨vs,H1,I1,r,d,kvs,h1,B⟩;obtain⟨ob,D,g,I2⟩:=I1.keep h1;exact⟨vs,_,I2,r,B ob D ⟨_,g⟩⟩
def zuy (te:TE):TE:=λσ H Q=>te σ H λx H1=>∃l xs,x = .ref l/\H1 l=some (.lst xs)/\∀ob,Q x (upd H1 l (.frz ob (.lst xs)))
def zqJ (h:PE X e te):PE X e (zuy te):=λpins s σ H Q I q=>thn (h pins s σ H _ I q) λu F ⟨x,H1,I1,r,l,xs,ex,h1,B⟩=>by obtain⟨ob,I2⟩:=I1.frzL h1;exact⟨x,_,I2,r,B ob⟩
end
end L2
namespace L3
open L2
def Sm (G G':Hp):Prop:=∀b o,G b=some o->imm o=true\/¬ NP o->G' b=some o
def Sm.t(h:Sm G G'):zdy G G':=λb xs e=>h b _ e (.inl rfl)
def ztd(h:∃h:Heap,h.get? d=some ob):¬ NP (kO d ob):=λn=>by have:=n [(Sum.inr "at",.non)] (by unfold kO pnK;dsimp only;rw[if_pos ⟨d,ob,h,rfl⟩]);cases this
structure LdI where
 P:Aa
 w:Ab
 C:Addr
 a:Addr
 dx:Addr
 d:Addr
 rm:AG
 bk:AW
 hs:AG
def LdE (L:LdI)(G:Hp)(q:AG×V):Prop:=StOk L.rm q.1/\∃B o xs,q.2 = .ref B/\G B=some (.frz o (.lst xs))/\IsL G ((zaZ L.bk q.1 L.hs).map stD) xs
structure LdG (L:LdI)(G:Hp):Prop where
 ex:∃ (x1 x2 x3:V) (ob:Obj) (ks:List (AG×V)),G L.a=some (.ins L.C L.dx [("room",x1),("wishes",x2),("held",x3),("known",.ref L.d)])/\G L.dx=some (.own L.a)/\Is G (stD L.rm) x1/\Is G (y8 L.bk) x2/\zaX G x3 L.hs/\
  G L.d=some (kO L.d ob)/\(∃h:Heap,h.get? L.d=some ob)/\DTo L.P L.w G L.d ob (zdC ks)/\∀q∈ks,LdE L G q
 room:RoomOk L.rm
 book:xu L.rm L.bk
def LdE.sm{q:AG×V}(h:LdE L G q)(s:Sm G G'):LdE L G' q:=by obtain⟨B,F,o,xs,h1,h2,I⟩:=h;exact⟨B,F,o,xs,h1,s _ _ h2 (.inl rfl),I.stayT s.t (xO _)⟩
def zaX.stayT{hs:AG}(h:zaX G v hs)(s:zdy G G'):zaX G' v hs:=h.imp id λ⟨p,e,q⟩=>⟨p,e,s _ _ q⟩
def LdG.sm(h:LdG L G)(s:Sm G G'):LdG L G':=by
 obtain⟨⟨x1,F,I,ob,ks,h1,h2,J,O,U,Y,B,Z,h9⟩,hr,hb⟩:=h;have n1:(stD L.rm).noL=true:=by simpa [Dt.noL] using zbu L.rm
 have n2:(y8 L.bk).noL=true:=by simpa [Dt.noL] using zaE L.bk
 exact⟨⟨x1,F,I,ob,ks,s _ _ h1 (.inl rfl),s _ _ h2 (.inl rfl),J.stayT s.t n1,O.stayT s.t n2,zaX.stayT U s.t,s _ _ Y (.inr (ztd B)),B,Z.st s.t,λq hq=>(h9 q hq).sm s⟩,hr,hb⟩
def LdG.close{ks:List (AG×V)}(h:LdG L G)(s:∀b o,G b=some o->b≠L.d->G' b=some o)(e:G' L.d=some (kO L.d ob))(F:∃h:Heap,h.get? L.d=some ob)(D:DTo L.P L.w G' L.d ob (zdC ks))(q:∀q∈ks,LdE L G' q):LdG L G':=by
 obtain⟨⟨x1,I,J,O,U,h1,h2,Y,Z,h5,B,h7,h8,h9⟩,hr,hb⟩:=h;have n1:(stD L.rm).noL=true:=by simpa [Dt.noL] using zbu L.rm
 have n2:(y8 L.bk).noL=true:=by simpa [Dt.noL] using zaE L.bk
 have t:zdy G G':=λb xs z=>s b _ z λy=>by subst y;rw[B] at z;cases z
 exact⟨⟨x1,I,J,ob,ks,s _ _ h1 (λy=>by rw[y,B] at h1;cases h1),s _ _ h2 (λy=>by rw[y,B] at h2;cases h2),Y.stayT t n1,Z.stayT t n2,zaX.stayT h5 t,e,F,D,q⟩,hr,hb⟩
def zfh (P:Aa)(w:Ab)(C:Addr):Sp:=λvs H Q _=>∃ (L:LdI) (st:AG) (q:Addr),vs=[.ref L.a,.ref q]/\L.P=P/\L.w=w/\L.C=C/\LdG L H/\StOk L.rm st/\H q=some (.tup (st.map V.int))/\
 ∀ (B:Addr) (o:Obj) (ys:AT) (H':Hp),H' B=some (.frz o (.lst ys))->IsL H' ((zaZ L.bk st L.hs).map stD) ys->LdG L H'->(∀b o,H b=some o->b≠L.d->H' b=some o)->Q (.ref B) H'
def ldF (x1 q B:V)(d:Addr):List (Str×V):=[("room",x1),("wishes",q),("held",B),("known",.ref d)]
def zfi (C:Addr):Sp:=λvs H Q _=>∃ (a dx:Addr) (q B F:V),vs=[.ref a,q,B,F]/\H a=some (.ins C dx [])/\
 ∀ (d:Addr) (H':Hp),H d=none->H' a=some (.ins C dx (ldF q B F d))->H' d=some (.dT [])->(∀b o,H b=some o->b≠a->H' b=some o)->Q .non H'
def ldJ (L:LdI):Jv where
 K:=λA H=>LdG L (yb A H)
 same:=λh s=>h.sm λb o e _=>zam s b o e
 grow:=λ{A A' H} h g=>h.sm λb o e n=>by
  obtain⟨F,B⟩:=z7.mp e;show zE (λz=>?_) B;rcases g b z with q | ⟨o',q1,q2,q3⟩;exact F q;rw[B] at q1;cases q1;rcases n with n | n;rw[show imm o=false from q3] at n;cases n;exact n q2
 upd:=λ{A H p o} h I=>by rw[yz I];exact h
 frz:=λ{A H p o o'} h I J O=>h.sm λb u e n=>by
  obtain⟨F,B⟩:=z7.mp e
  have U:b≠p:=λz=>by
   subst z;rw[I] at B;cases B;rcases n with n | n;rw[show imm o=false from O] at n;cases n;exact n J
  exact zE F (by rw[zg U];exact B)
def zne (x1 q B:V)(d:Addr):(ldF x1 q B d).lookup ("room" : Str)=some x1:=by unfold ldF;rw[List.lookup,show (("room" : Str) == "room")=true by decide +kernel]
def zi4 (x1 q B:V)(d:Addr):(ldF x1 q B d).lookup ("wishes" : Str)=some q:=by unfold ldF;rw[List.lookup,show (("wishes" : Str) == "room")=false by decide +kernel];dsimp only;rw[List.lookup,show (("wishes" : Str) == "wishes")=true by decide +kernel]
def znd (x1 B q:V)(d:Addr):(ldF x1 B q d).lookup ("held" : Str)=some q:=by unfold ldF;rw[List.lookup,show (("held" : Str) == "room")=false by decide +kernel];dsimp only;rw[List.lookup,show (("held" : Str) == "wishes")=false by decide +kernel];dsimp only;rw[List.lookup,show (("held" : Str) == "held")=true by decide +kernel]
def zbp (x1 q B:V)(d:Addr):(ldF x1 q B d).lookup ("known" : Str)=some (.ref d):=by unfold ldF;rw[List.lookup,show (("known" : Str) == "room")=false by decide +kernel];dsimp only;rw[List.lookup,show (("known" : Str) == "wishes")=false by decide +kernel];dsimp only;rw[List.lookup,show (("known" : Str) == "held")=false by decide +kernel];dsimp only;rw[List.lookup,show (("known" : Str) == "known")=true by decide +kernel]
def zkR (x1 q B:V)(d:Addr):(ldF x1 q B d).lookup ("after" : Str)=none:=by unfold ldF;rw[List.lookup,show (("after" : Str) == "room")=false by decide +kernel];dsimp only;rw[List.lookup,show (("after" : Str) == "wishes")=false by decide +kernel];dsimp only;rw[List.lookup,show (("after" : Str) == "held")=false by decide +kernel];dsimp only;rw[List.lookup,show (("after" : Str) == "known")=false by decide +kernel];rfl
def zqc (x1 q B:V)(d:Addr):zcu "known" (.ref d) (zcu "held" B (zcu "wishes" q (zcu "room" x1 [])))=ldF x1 q B d:=by unfold ldF;simp only[zcu,if_neg (show ¬ ("room" : Str) = "wishes" by decide +kernel),if_neg (show ¬ ("room" : Str) = "held" by decide +kernel),if_neg (show ¬ ("room" : Str) = "known" by decide +kernel),if_neg (show ¬ ("wishes" : Str) = "held" by decide +kernel),if_neg (show ¬ ("wishes" : Str) = "known" by decide +kernel),if_neg (show ¬ ("held" : Str) = "known" by decide +kernel)]
def zbD (f:Str)(v:V):∀fs:List (Str×V),(zcu f v fs).length<=fs.length+1
 | []=>ah _
 | (g,x)::r=>by have:=zbD f v r;unfold zcu;split <;> simp <;> omega
structure LdC (K:AH)(C:Addr):Prop where
 cl:Cls K C
 n1:zaN K C "room"
 n2:zaN K C "wishes"
 n3:zaN K C "held"
 n4:zaN K C "known"
section
variable {K:AH}{P:Aa}{w:Ab}{C:Addr}{H:Hp}{Q:VK}{E:XK}{D:Ends}
def znS(c:LdC K C)(h:zfi C vs H Q E)(J:∀ σ H',Q .non H'->D.nx σ H') :
  zrL (zur K (zbL 0) (zbL 1) "room") (zrL (zur K (zbL 0) (zbL 2) "wishes") (zrL (zur K (zbL 0) (zbL 3) "held") (zur K (zbL 0) zo9 "known"))) D (vs.map some) H:=by
 obtain⟨a,dx,O,U,Y,rfl,L,k⟩:=h;show⟨_,rfl,_,rfl,a,C,dx,[],rfl,L,c.cl,c.n1,by ext,?_⟩;show⟨_,rfl,_,rfl,a,C,dx,_,rfl,zh,c.cl,c.n2,aG (zbD _ _ _) (by ext),?_⟩;have I:∀x y:V,(zcu "wishes" x (zcu "room" y [])).length<=2:=λx y=>af (zbD _ _ _) (en (zbD _ _ _));show⟨_,rfl,_,rfl,a,C,dx,_,rfl,zh,c.cl,c.n3,aG (I _ _) (by ext),?_⟩;rw[zfo,zfo];intro d F;have q:a≠d:=λe=>by rw[<- e,zh] at F;cases F
 have B:H d=none:=by rwa[zg q.symm] at F
 show⟨_,rfl,a,C,dx,_,rfl,by rw[zg q,zh],c.cl,c.n4,aG (af (zbD _ _ _) (en (I _ _))) (by change 3<1000;decide),J _ _ ?_⟩;rw[zqc];show k d _ B zh (by rw[zg q.symm,zh]) λb o e n=>?_;rw[zg n,zg (zc e B),zg n];exact e
def znD (ns:AG)(h:∀n∈ns,2<=n/\n<=4):yD ns<=4 ^ ns.length:=by
 have:∀ (ns:AG) (c:Int),0<=c->(∀n∈ns,2<=n/\n<=4)->ns.foldl (· * ·) c<=c * 4 ^ ns.length:=by
  intro ns
  induction ns with
  | nil=>intro c _ _;simp
  | cons n ns F=>
   intro c B h;obtain⟨h1,h2⟩:=h n am;have i:=F (c * n) (e8 B (by omega)) λm I=>h m (aw _ I);have p:(0:Int)<=4 ^ ns.length:=Int.pow_nonneg (by ext);have q:c * n * 4 ^ ns.length<=c * 4 * 4 ^ ns.length:=Int.mul_le_mul_of_nonneg_right (cm h2 B) p;rw[List.foldl_cons,aO,Int.pow_succ];have r:c * (4 ^ ns.length * 4)=c * 4 * 4 ^ ns.length:=by rw[Int.mul_comm (4 ^ ns.length) 4,Int.mul_assoc]
   omega
 have:=this ns 1 (by ext) h;unfold yD
 omega
def LdE.len{ks:List (AG×V)}(B:RoomOk L.rm)(h:∀q∈ks,LdE L G q)(n:(ks.map (·.1)).Nodup):ks.length<=65536:=by
 have h1:=zT (l':=yZ (L.rm.map zp)) n λx F=>by obtain⟨q,I,rfl⟩:=au.mp F;exact zb8 (h q I).1
 have h2:=xw L.rm λn J=>by have:=B.box n J;omega
 have O:=znD L.rm B.box
 have U:(4:Int) ^ L.rm.length<=4 ^ 8:=by
  have:=B.few
  exact_mod_cast cq (by decide:0<4) this
 rw[ab] at h1;have:(4:Int) ^ 8=65536:=by ext
 omega
def DTo.nd{ks:List (AG×V)}(h:DTo P w G d ob (zdC ks)):(ks.map (·.1)).Nodup:=by
 obtain⟨z,lo,xs,r,es,I,_,_,_,n⟩:=h
 have B:∀ {kvs:List (List Key×V)} {xs:List (List Key×Addr×Value)},Paired (λ(p:List Key×V) (q:List Key×Addr×Value)=>p.1=q.1/\G q.2.1=some (.tup (p.1.map kV))/\yB p.2 q.2.2) kvs xs->kvs.map (·.1)=xs.map (·.1):=by
  intro kvs xs h
  induction h with
  | nil=>rfl
  | cons a _ F=>rw[az,az,F,a.1]
 rw[<- B r] at n;unfold zdC at n;rw[aB] at n;have:(ks.map λq=>q.1.map (Sum.inl:Int->Key))=(ks.map (·.1)).map λl=>l.map Sum.inl:=by rw[aB];rfl
 rw[show ((λx:List Key×V=>x.1) ∘ λq:AG×V=>(q.1.map Sum.inl,q.2))=λq:AG×V=>q.1.map (Sum.inl:Int->Key) from rfl,this] at n;exact (bD.mp n).imp λh e=>h (by rw[e])
def zoc{ks:List (AG×V)}{st:AG}(h:um ks st=some v):(st,v)∈ks:=by
 unfold um at h;obtain⟨q,B,rfl⟩:=aD.mp h;have e:q.1=st:=by simpa using List.find?_some B
 subst e;exact List.mem_of_find?_eq_some B
def LdE.st{q:AG×V}(h:LdE L G q)(B:G L.d=some (kO L.d ob))(s:∀b o,G b=some o->b≠L.d->G' b=some o):LdE L G' q:=by obtain⟨F,I,o,xs,h1,h2,J⟩:=h;exact⟨F,I,o,xs,h1,s _ _ h2 (λz=>by rw[z,B] at h2;cases h2),J.stayT (λb ys e=>s b _ e λz=>by rw[z,B] at e;cases e) (xO _)⟩
def LdG.at(h:LdG L G):∃ (B F:Addr) (xs:AT) (I:V) (ob:Obj) (ks:List (AG×V)),G L.a=some (.ins L.C L.dx (ldF (.ref B) (.ref F) I L.d))/\G B=some (.tup (L.rm.map V.int))/\BookAt G L.rm F xs L.bk/\zaX G I L.hs/\
  G L.d=some (kO L.d ob)/\(∃h:Heap,h.get? L.d=some ob)/\DTo L.P L.w G L.d ob (zdC ks)/\∀q∈ks,LdE L G q:=by
 obtain⟨⟨x1,x2,I,ob,ks,h1,h2,⟨B,ys,rfl,U,J⟩,⟨F,xs,rfl,Y,O⟩,Z,h6,h7,h8,h9⟩,hr,hb⟩:=h;obtain rfl:=J.of_ints;exact⟨B,F,xs,I,ob,ks,h1,U,⟨Y,O,hb⟩,Z,h6,h7,h8,h9⟩
def znR(c:LdC K C)(h:zfh P w C vs H Q E)(hD:D.rt=Q) :
  zrL (zw4 (tB (zl2 (zbL 1) (zuI P w (zrJ K (zbL 0) "known")))) (zrx (zrJ K (zbL 0) "known") (zbL 1) (zuy (zdt zlT [] E' (za8 (zrJ K (zbL 0) "room") (za8 (zrJ K (zbL 0) "wishes") (za8 (zbL 1) (za8 (zrJ K (zbL 0) "held") zpb))))))) zrK)
   (zuF (zuz P w (zrG (zrJ K (zbL 0) "known") (zbL 1)))) D (vs.map some) H:=by
 obtain⟨L,st,sa,rfl,rfl,rfl,rfl,G,Z,B,k⟩:=h;subst hD;obtain⟨ra,ba,xs,x3,ob,ks,h1,h2,h3,h4,O,_,h6,h7⟩:=G.at;have ad:L.a≠L.d:=λe=>by rw[e,O] at h1;cases h1
 have al:sa≠L.d:=λe=>by rw[e,O] at B;cases B
 have an:H sa=some (.tup ((st.map Sum.inl).map kV)):=by rw[zbU];exact B
 have U:∀o,upd H L.d o L.a=some (.ins L.C L.dx (ldF (.ref ra) (.ref ba) x3 L.d)):=λo=>by rw[zg ad];exact h1
 have I:zdy H (upd H L.d (.dT (zdC ks))):=λb ys e=>by rw[zg λz=>by rw[z,O] at e;cases e];exact e
 show⟨_,rfl,_,rfl,L.a,L.C,L.dx,_,_,rfl,h1,c.cl,c.n4,zbp _ _ _ _,L.d,ob,_,O,h6,L.d,_,rfl,zbO.t zh (I _ _ an),_,rfl,?_⟩;rw[zeG]
 cases e:um ks st with
 | some v=>
  show zsT ?_;show⟨_,rfl,L.a,L.C,L.dx,_,_,rfl,U _,c.cl,c.n4,zbp _ _ _ _,_,rfl,L.d,v,rfl,by rw[<- e];exact zbO.i (st:=st) zh (I _ _ B),L.d,_,zh,λF D' hh=>?_⟩;rw[zfo];have s:∀b o,H b=some o->b≠L.d->upd H L.d (kO L.d F) b=some o:=λb o e n=>by rw[zg n];exact e
  have G':LdG L (upd H L.d (kO L.d F)):=G.close s zh hh (ks:=ks) (D'.st λb ys e=>by
   have n:b≠L.d:=λz=>by rw[z,zh] at e;cases e
   rw[zg n] at e ⊢;exact e) λq J=>(h7 q J).st O s
  obtain⟨_,va,o,ys,e1,e2,e3⟩:=(h7 _ (zoc e)).st O s;obtain rfl:v = .ref va:=e1;exact k va o ys _ e2 e3 G' s
 | none=>
  show iteT ?_;have hR:=G.room;show⟨_,rfl,L.a,L.C,L.dx,_,_,rfl,U _,c.cl,c.n1,zne _ _ _ _,_,rfl,L.a,L.C,L.dx,_,_,rfl,U _,c.cl,c.n2,zi4 _ _ _ _,_,rfl,_,rfl,L.a,L.C,L.dx,_,_,rfl,U _,c.cl,c.n3,znd _ _ _ _,?_⟩;show⟨.ref ra,x3,ba,sa,L.rm,xs,L.bk,st,L.hs,rfl,hR.pos,hR.few,⟨I _ _ h3.at',h3.is.stayT I (zaE _),h3.ok⟩,hR.box,I _ _ B,Z.len,zaX.stayT h4 I,?_⟩;rintro l H2 nl ⟨ys,hl,ap⟩ S;show⟨l,ys,rfl,hl,λo=>?_⟩;have ag:L.d≠l:=zc zh nl;have as:H l=none:=by rwa[zg ag.symm] at nl
  have Y:yJ (upd H L.d (.dT (zdC ks))) (upd H2 l (.frz o (.lst ys))):=λb u e=>by rw[zg (zc e nl)];exact S b u e
  show⟨_,rfl,L.a,L.C,L.dx,_,_,rfl,Y _ _ (U _),c.cl,c.n4,zbp _ _ _ _,_,rfl,L.d,_,rfl,zdx.i (st:=st) (Y _ _ zh) (Y _ _ (I _ _ B)) (aG (LdE.len hR h7 (DTo.nd h6)) (by ext)),?_⟩;have e':um (zad ks st (.ref l)) st=some (.ref l):=by rw[zod,if_pos rfl]
  show⟨_,rfl,L.a,L.C,L.dx,_,_,rfl,by rw[zg ad];exact Y _ _ (U _),c.cl,c.n4,zbp _ _ _ _,_,rfl,L.d,.ref l,rfl,by rw[<- e'];exact zbO.i (st:=st) zh (by rw[zg al];exact Y _ _ (I _ _ B)),L.d,_,zh,λF D' hh=>?_⟩;rw[zfo];have s:∀b u,H b=some u->b≠L.d->upd (upd H2 l (.frz o (.lst ys))) L.d (kO L.d F) b=some u:=λb u e n=>by rw[zg n];exact Y b u (by rw[zg n];exact e)
  have el:upd (upd H2 l (.frz o (.lst ys))) L.d (kO L.d F) l=some (.frz o (.lst ys)):=by rw[zg ag.symm,zh]
  have ey:IsL (upd (upd H2 l (.frz o (.lst ys))) L.d (kO L.d F)) ((zaZ L.bk st L.hs).map stD) ys:=ap.stayT (λb zs e=>by
   have n1:b≠l:=λz=>by rw[z,hl] at e;cases e
   have n2:b≠L.d:=λz=>by rw[z,S _ _ zh] at e;cases e
   rw[zg n2,zg n1];exact e) (xO _)
  show k l o ys _ el ey (G.close s zh hh (ks:=zad ks st (.ref l)) (D'.st λb zs e=>?_) λq J=>?_) s;have n:b≠L.d:=λz=>by rw[z,zh] at e;cases e
  rw[zg n] at e ⊢;exact e;rw[znG _ e] at J;rcases aI.mp J with J | J;exact (h7 q J).st O s;obtain rfl:=ao.mp J;exact⟨Z,l,o,ys,rfl,el,ey⟩
end
end L3
namespace L2
open PyProof.Rows PySem.SeqAt
def rInF (q:Bool):R2:=λx y H Q=>∃ (d:Dt) (ds:AS) (a:Addr) (ob:Obj) (xs:AT),y = .ref a/\H a=some (.frz ob (.lst xs))/\IsL H ds xs/\Is H d x/\d.eqOk/\(Dt.lst ds).eqOk/\∀b:Bool,(b=true↔d∈ds)->Q (.bl (if q then !b else b)) H
section
variable {X:Cx}
def ztt (F:X.A.units+64<cLine):OpQ X (compareOp .In) (rInF false):=⟨by
 intro pins s σ H x y v u Q I J L h;obtain⟨d,ds,a,ob,xs,rfl,O,U,Y,B,ks,q⟩:=h;cases L;obtain⟨as,Z⟩:=y4 I.hok 8 Y J B;obtain⟨l1,l2,l3⟩:=zfZ B ks F;obtain⟨_,_,its,m,rv,e⟩:=(show yo X.prog X.w H s.heap a (.frz ob (.lst xs)) from I.hok a _ O);obtain⟨bs,r⟩:=xW I.hok 7 U rv (by have k':PySem.W.kqdOk 8 (Dt.lst ds).toW=true:=ks;simpa [Dt.toW,PySem.W.kqdOk] using k');exact in_list_reads (reads_list_at e rfl rfl (by simpa using r)) Z l1 l2 l3 ⟨.bl _,H,I,rfl,q _ (zcJ B ks)⟩⟩
end
end L2
namespace L3
open L2
def Pen.but{ns:AG}(h:Pen H p c ns n)(B:∀kvs,H d≠some (.dK kvs))(F:∀xs,H d≠some (.lst xs))(s:∀b o,H b=some o->b≠d->H' b=some o):Pen H' p c ns n:=by obtain⟨⟨a,l,h1,h2⟩,q,I⟩:=h;exact⟨⟨a,l,s _ _ h1 (λz=>B _ (z ▸ h1)),h2⟩,s _ _ q (λz=>F _ (z ▸ q)),I⟩
mutual
def zkD {H H':Hp}(s:∀b o,H b=some o->(∀kvs,o≠.dT kvs)->H' b=some o):∀ {x:Dt} {v:V},Is H x v->Is H' x v
 | .non,_,h=>h
 | .bl _,_,h=>h
 | .int _,_,h=>h
 | .str _,_,h=>h
 | .tup l,_,h=>by obtain⟨p,xs,e,hp,hl⟩:=h;exact⟨p,xs,e,s _ _ hp (λ_ z=>by cases z),zg7 s hl⟩
 | .lst l,_,h=>by obtain⟨p,xs,e,hp,hl⟩:=h;exact⟨p,xs,e,s _ _ hp (λ_ z=>by cases z),zg7 s hl⟩
 | .dct,_,h=>by obtain⟨p,xs,e,hp,hl⟩:=h;exact⟨p,xs,e,s _ _ hp (λ_ z=>by cases z),hl⟩
def zg7 {H H':Hp}(s:∀b o,H b=some o->(∀kvs,o≠.dT kvs)->H' b=some o):∀ {ds:AS} {xs:AT},IsL H ds xs->IsL H' ds xs
 | [],_,h=>h
 | d::ds,xs,h=>by obtain⟨x,r,e,h1,h2⟩:=h;exact⟨x,r,e,zkD s h1,zg7 s h2⟩
end
abbrev W.isD:W->Bool
 | .d _=>true
 | _=>false
def ziG(s:∀b o,yb A H b=some o->(∀kvs,o≠.dT kvs)->yb A H' b=some o):∀ {q:AU} {vs:AT},(q.all W.isD)=true->zaY A H q vs->zaY A H' q vs
 | [],_,_,h=>h
 | w::q,vs,n,h=>by
  obtain⟨v,r,e,h1,h2⟩:=h;rw[cE,bm] at n;show⟨v,r,e,?_,ziG s n.2 h2⟩
  cases w with
  | d x=>exact Val.of (zkD s (Val.is h1))
  | _=>cases n.1
section
variable {X:Cx}{Pn:PN}{M:AR}{fr:Bool}{e:Expr}{f:AD}
abbrev onFl (w:W) (P:AS->Prop):Prop:=match w with | .fl i=>P i | _=>False
def zqA:onFl w P = ∃i,w = .fl i/\P i:=propext ⟨λh=>by cases w <;> first | exact False.elim h | exact⟨_,rfl,h⟩,by right⟩
abbrev dInF (q:Bool):W->W->Mo W:=λx y n Q=>onD x λd=>onFl y λds=>d.eqOk/\(Dt.lst ds).eqOk/\∀b:Bool,(b=true↔d∈ds)->Q (.d (.bl (xr q b))) n
def zw7:F2 Pn false (rInF q) (dInF q):=⟨by
 rintro A H x y Z wy n Q R al I B P h k;simp only[dInF,xF,zqA] at h;obtain⟨d,rfl,ds,rfl,J,L,h⟩:=h;obtain⟨O,ob,xs,rfl,F,U⟩:=B;exact⟨d,ds,O,ob,xs,rfl,F,U.stay (zB.same zt),I.is,J,L,λb Y=>by rw[zu4];exact k _ n _ H (h b Y) (Val.of rfl) (Go.refl P) λz=>by cases z⟩⟩
def zoC (P:Aa)(w:Ab)(C:Addr)(Pn:PN)(i:Nat)(fs:AC):AD:=λρ n R=>∃L,Pn.J=ldJ L/\L.P=P/\L.w=w/\L.C=C/\ρ[i]?=some (some (.pen L.a))/\fs ρ n λq m=>∃st,q=[.d (stD st)]/\StOk L.rm st/\R (.fl ((zaZ L.bk st L.hs).map stD)) m
def znT(hi:i∉M)(ra:RA Pn M t fs):RE Pn M false (zuC C "after" (zfh P w C) [] E' (zbL i) t) (zoC P w C Pn i fs):=⟨by
 rintro A σ H ρ n Q R E Pp ⟨L,U,rfl,rfl,rfl,Y,hf⟩ k;obtain⟨v,hv,Z,_⟩:=E.val i _ Y;obtain rfl:v = .ref L.a:=Z hi;have G0:LdG L (yb A H):=by have:=Pp.2;rw[U] at this;exact this
 obtain⟨a1,ba,xs,x3,ob,ks,h1,h2,h3,h4,h5,_,h6,h7⟩:=G0.at;show⟨_,hv,L.a,L.dx,_,rfl,zt _ _ h1,zkR _ _ _ _,?_⟩;show ra.run A σ H ρ n _ _ E Pp hf ?_;rintro ws m vs H1 ⟨st,rfl,ad,r⟩ ag g;obtain⟨v1,zQ,rfl,b1,b2⟩:=ag;obtain rfl:zQ=[]:=b2;obtain⟨sa,rfl,an⟩:=zmg b1;have G1:LdG L (yb A H1):=by have:=g.pn.2;rw[U] at this;exact this
 obtain⟨_,_,_,_,ap,_,_,_,_,_,g5,g6,_,_⟩:=G1.at;obtain⟨nd,B⟩:=z7.mp g5;have al:Al A H1:=(E.stay g.st).al;show⟨L,st,sa,rfl,rfl,rfl,rfl,G1.sm λb o e _=>zt _ _ e,ad,an,λva o ys H' e1 e2 G' s=>?_⟩;have F:∀b,A b->∃u,H' b=some u/\NP u/\Mt u:=λb O=>by obtain⟨u,q,J,I⟩:=al b O;exact⟨u,s b u q (λz=>nd (z ▸ O)),J,I⟩
 have as:¬ A va:=λz=>by obtain⟨u,q,J,I⟩:=F va z;rw[e1] at q;cases q;cases I
 have av:∀b xs,A b->H' b≠some (.tup xs):=λb xs O e=>by obtain⟨u,q,J,I⟩:=F b O;rw[e] at q;cases q;cases I
 have np:¬ NP (kO L.d ap):=ztd g6;have a0:zB H1 H':=λb u e n=>s b u e λz=>by subst z;rw[B] at e;cases e;exact np n
 show k _ m _ H' r ⟨va,o,ys,rfl,zE as e1,zbV av (xO _) e2⟩ ⟨g.st.trans a0,?_,?_⟩ λz=>by cases z
 have hp:=g.pn.1;split at hp;trivial;exact⟨Pen.but hp.1 (λ_ z=>by rw[B] at z;cases z) (λ_ z=>by rw[B] at z;cases z) s,hp.2⟩;rw[U];show G'.sm λb u e n=>zE (λz=>?_) e;obtain⟨u',q,J,I⟩:=F b z;rw[e] at q;cases q;rcases n with n | n;rw[show imm u=false from I] at n;cases n;exact n J⟩
def mFnL (k:Nat)(P:Aa)(w:Ab)(C:Addr)(F:PN->AU->Mo W)(Pn:PN)(dv:AU)(I O:AC):AD:=λρ n R=>Pn.J=J0/\I ρ n λws1 U=>∃rm bk hs B,ws1++dv=[.d (stD rm),.d (y8 bk),B]/\(B = .d (stD hs)\/hs=[]/\B = .d .non)/\RoomOk rm/\xu rm bk/\
 O ρ U λq Y=>q.length+1=k/\q.all W.isD=true/\∀L:LdI,L.P=P->L.w=w->L.C=C->L.rm=rm->L.bk=bk->L.hs=hs->F ⟨Pn.pn,ldJ L⟩ (.pen L.a::q) Y R
def zuf(ap:∀A H,zaY A H dv dvs)(r1:RA Pn M t1 f1)(r2:RA Pn M t2 f2) :
  RE Pn M fr (zdt (spV k fr F) [] E0 (zpa P w (za8 (zuB C (zfi C) dvs E' t1) t2))) (mFnL k P w C F Pn dv f1 f2):=⟨by
 rintro A σ H ρ n Q R E Pp ⟨hJ,hf⟩ kk;show r1.run A σ H ρ n _ _ E Pp hf ?_;rintro ws1 m1 J H1 ⟨rm,bk,hs,v3,B,as,hR,hB,L⟩ b1 g1 x dx nx O U;have E1:=E.stay g1.st
 have bb:zaY A H1 (ws1++dv) (J++dvs):=by
  clear B L
  induction ws1 generalizing J with
  | nil=>cases b1;exact ap A H1
  | cons w0 ws1 ih=>obtain⟨v,r,rfl,q1,q2⟩:=b1;exact⟨v,_,rfl,q1,ih _ q2⟩
 rw[B] at bb;obtain⟨y1,y2,y3,ev,q1,q2,q3⟩:=zu1 bb;rw[ev];have s1:yJ H1 (upd (upd H1 dx (.own x)) x (.ins C dx [])):=λb o e=>by rw[zg (zc e nx),zg (zc e O)];exact e
 show⟨x,dx,y1,y2,y3,rfl,zh,λd H2 nd h1 h2 Y=>⟨rfl,?_⟩⟩;have Z:x≠d:=λe=>by rw[<- e,zh] at nd;cases nd
 have s2:yJ H1 H2:=λb o e=>Y b o (s1 b o e) (zc e nx);have av:H2 dx=some (.own x):=Y _ _ (by rw[zg U,zh]) U;have ad:H1 d=none:=s1.free nd;have E2:=E1.stay (zB.same s2);show r2.run A σ H2 ρ m1 _ _ E2 (g1.pn.same s2) L ?_;rintro a0 m2 a1 H3 ⟨hk,a2,hF⟩ b2 g2;have z1:H3 x=some (.ins C dx (ldF y1 y2 y3 d)):=g2.st _ _ h1 λk q=>by cases q
 have z2:H3 d=some (.dT []):=g2.st _ _ h2 λk q=>by cases q
 have z3:H3 dx=some (.own x):=g2.st _ _ av λk q=>by cases q
 show⟨d,[],z2,λob D hh=>?_⟩;have E3:=E2.stay g2.st;have ag:¬ A d:=E1.new ad;have I:∀b o,H3 b=some o->b≠d->upd H3 d (kO d ob) b=some o:=λb o e n=>by rw[zg n];exact e
 have s5:∀b o,yb A H3 b=some o->(∀kvs,o≠.dT kvs)->yb A (upd H3 d (kO d ob)) b=some o:=λb o e n=>by obtain⟨B,e2⟩:=z7.mp e;exact zE B (I b o e2 λz=>by rw[z,z2] at e2;cases e2;exact n _ rfl)
 have an:zB H1 H3:=(zB.same s2).trans g2.st;have sH:zB H (upd H3 d (kO d ob)):=λb o e np=>by have B:=g1.st b o e np;exact I b o (an b o B np) λz=>by rw[z,ad] at B;cases B
 have up:∀ {x:Dt} {v:V},Val A H1 (.d x) v->Is (yb A (upd H3 d (kO d ob))) x v:=λh=>zkD s5 (Val.is (h.stay an))
 have G:LdG ⟨P,w,C,x,dx,d,rm,bk,hs⟩ (yb A (upd H3 d (kO d ob))):=by
  show⟨⟨y1,y2,y3,ob,[],zE (E1.new nx) (I _ _ z1 Z),zE (E1.new O) (I _ _ z3 λz=>?_),up q1,up q2,?_,zE ag zh,hh,?_,λq z=>by cases z⟩,hR,hB⟩;have z:dx=d:=z;rw[z,z2] at z3;cases z3;rcases as with rfl | ⟨rfl,rfl⟩;obtain⟨p,ys,rfl,i1,i2⟩:=up q3;obtain rfl:=i2.of_ints;exact .inr ⟨p,rfl,i1⟩;exact .inl ⟨up q3,rfl⟩;obtain⟨u1,u2,us,u3,u4⟩:=D;cases u3;exact⟨u1,u2,[],.nil,u4⟩
 change spV k fr F ((V.ref x::a1)++[]) _ Q E0;rw[dF];show⟨⟨Pn.pn,ldJ ⟨P,w,C,x,dx,d,rm,bk,hs⟩⟩,A,.pen x::a0,m2,R,λa ha=>?_,⟨_,_,rfl,rfl,ziG s5 a2 b2⟩,hk,⟨?_,G⟩,hF _ rfl rfl rfl rfl rfl rfl,λw' m' v H' h1 h2 Y h4=>kk w' m' v H' h1 h2 ⟨sH.trans Y.st,Y.pn.1,by rw[hJ];trivial⟩ λz=>(h4 z).back sH⟩;obtain⟨o,i1,i2⟩:=E3.al a ha;exact⟨o,I a o i1 (λz=>ag (z ▸ ha)),i2⟩;have hp:=g2.pn.1;change match Pn.pn with | none=>True | some (p,c,ns)=>Pen _ p c ns m2/\¬ A c/\¬ A p
 generalize Pn.pn=o at hp ⊢;rcases o with _ | ⟨p,c,ns⟩;trivial;exact⟨Pen.but hp.1 (λ_ z=>by rw[z2] at z;cases z) (λ_ z=>by rw[z2] at z;cases z) I,hp.2⟩⟩
end
def yC (s:Stmt)(i:Nat):Stmt:=match s with
 | .ClassDef (body:=b) ..=>b.getD i (.Pass ⟨0,0,0,0⟩)
 | _=>.Pass ⟨0,0,0,0⟩
structure LdT (K:AH)(mg:AI)(s:Stmt)(C fI fA:Addr)(dI dA:Ac):Prop where
 c:LdC K C
 mM:Mk K C fI
 me:Meth K C "after" fA
 m:mg "Leads" = some (.ref C)
 FI:FunD K "__init__" "Leads.__init__" (yC s 0) fI dI
 FA:Fun K "after" "Leads.after" (yC s 1) fA dA
 b:zaJ K dI [Ai,Aj,Ak,Am] []
 bd:zaJ K dI [Ai,Aj,Ak,Am] [Value.none]
 bA:zaJ K dA [Ai,An] []
def Cm {K:AH}{h:Heap}{mg:AI}{st:Stmt}{C U Y T:Addr}{as B F I q J av Z ad ag O al ot:Value}{a0 L a3 ap a4:Option Addr}{a5 a7 ba:Array AJ}{n3:Nat}{its:AK}(X:K.In h)(G:h.Ns mainGlobals mg)
  (a:PySem.W.nsIn K mainGlobals "Leads" = some (some (.ref C)))
  (a1:PySem.W.findIn K (.ref C) "__init__" = some (some (.ref U))) (i1:PySem.W.isFn K (.ref U)=true) (l1:K.lookup U=some ⟨as,a0,.func (PySem.W.fnOf "__init__" "Leads.__init__" (yk (yC st 0)) (zJ (yC st 0)) (zd (yC st 0)) (.ref T) B F I L q J),a5⟩) (c1:PySem.W.codeIn K q "Leads.__init__" = true) (k1:PySem.W.keepIn K (.ref U)=true) (t:K.lookup T=some ⟨ot,a4,.seq its n3,ba⟩)
  (a2:PySem.W.findIn K (.ref C) "after" = some (some (.ref Y))) (i2:PySem.W.isFn K (.ref Y)=true) (l2:K.lookup Y=some ⟨av,a3,.func (PySem.W.fnOf "after" "Leads.after" (yk (yC st 1)) (zJ (yC st 1)) (zd (yC st 1)) .none Z ad ag ap O al),a7⟩) (c2:PySem.W.codeIn K O "Leads.after" = true) (k2:PySem.W.keepIn K (.ref Y)=true)
  (pg:PySem.W.plainGet K C Str.empty=true) (hd:PySem.W.hasDictIn K C=true) (po:PySem.W.plainOver K C=true) (sa:PySem.W.findIn K (.ref C) "__setattr__" = some (some (.builtin "object.__setattr__"))) (mk:PySem.W.makesIn K C=true) (kc:PySem.W.keepIn K (.ref C)=true)
  (n1:PySem.W.findIn K (.ref C) "room" = some none) (n2:PySem.W.findIn K (.ref C) "wishes" = some none) (n3:PySem.W.findIn K (.ref C) "held" = some none) (n4:PySem.W.findIn K (.ref C) "known" = some none)
  (b:∀us:AN,(us++[]).length=4->∃k:Option AK->Sem (List (Str×Value)),bindArgs (PySem.W.fnOf "__init__" "Leads.__init__" (yk (yC st 0)) (zJ (yC st 0)) (zd (yC st 0)) (.ref T) B F I L q J) ⟨us,[]⟩=seqItems? (.ref T) >>= k/\k (some its)=pure (([Ai,Aj,Ak,Am]:AM).zip (us++[])))
  (e:∀us:AN,(us++[Value.none]).length=4->∃k:Option AK->Sem (List (Str×Value)),bindArgs (PySem.W.fnOf "__init__" "Leads.__init__" (yk (yC st 0)) (zJ (yC st 0)) (zd (yC st 0)) (.ref T) B F I L q J) ⟨us,[]⟩=seqItems? (.ref T) >>= k/\k (some its)=pure (([Ai,Aj,Ak,Am]:AM).zip (us++[Value.none])))
  (bA:∀ (kV dc pm:Value) (an:Option Addr) (cd ct:Value) (us:AN),us.length=2->bindArgs (PySem.W.fnOf "after" "Leads.after" (yk (yC st 1)) (zJ (yC st 1)) (zd (yC st 1)) .none kV dc pm an cd ct) ⟨us,[]⟩=pure (([Ai,An]:AM).zip us)) :
  LdT K mg st C U Y (PySem.W.fnOf "__init__" "Leads.__init__" (yk (yC st 0)) (zJ (yC st 0)) (zd (yC st 0)) (.ref T) B F I L q J) (PySem.W.fnOf "after" "Leads.after" (yk (yC st 1)) (zJ (yC st 1)) (zd (yC st 1)) .none Z ad ag ap O al):=
 ⟨⟨⟨pg,hd,po,sa⟩,n1,n2,n3,n4⟩,⟨mk,a1,i1,kc⟩,⟨a2,i2,k2⟩,PySem.W.mg_of X G a,zkl l1 c1 k1,zh3 l2 c2 k2,zhS l1 rfl t b,zhS l1 rfl t e,(zh3 l2 c2 k2).binds bA⟩
section
variable {X:Cx}{Pn:PN}{M:AR}{fr:Bool}{s:Stmt}{C fI fA:Addr}{dI dA:Ac}
def zp3 {x:Str}{i j kk:Nat}{p apos pos:Pos}{e:Expr}{fs:AC}{pl:Sem Bool}(P:Aa)(w:Ab)(hP:X.prog=P)(hw:X.w=w)(T:LdT X.K X.mg s C fI fA dI dA)(G:FnOk X.prog X.w X.K X.mg X.base CX0 j fA dA [Ai,An] (zfh P w C))(hr:Room kk X.A)(hv:QE X (.Name x p) (zbL i))(hi:i∉M)(ha:JA X Pn M [e] fs)(hjk:j<=kk:=by ext)
  (hst:starEach [e] X.env=(false,eval e X.env)::starEach [] X.env:=by rfl) (hpl:(backTo pos (starEach [] X.env)).any (·.1)=false:=by rfl)
  (ht:eval (.Call (.Attribute (.Name x p) "after" apos) [e] [] pos) X.env=(do
   let ov <- eval (.Name x p) X.env
   standAt apos.atName
   let (f,first) <- holding [ov] (getMethod ov "after" pl)
   callWith pos f first (backTo pos (starEach [e] X.env)) (backToKw pos (keywordEach [] X.env))):=by rfl) :
  JE X Pn M false (.Call (.Attribute (.Name x p) "after" apos) [e] [] pos) (zoC P w C Pn i fs):=by
 obtain⟨t,q,r⟩:=ha.ex;exact⟨_,⟨zqN hv.run T.c.cl T.me G (hr.mono hjk) T.bA .nil zlp q.run hst hpl ht⟩,znT hi r⟩
def zv8{x:Str}{st:Stmt}{ps:AM}{f:Addr}{fd:Ac}{F:PN->AU->Mo W}{dv:AU}{dvs:AT}{p O pos B:Pos}{q es:AO}{f1 f2:AC}(P:Aa)(w:Ab)(hP:X.prog=P)(hw:X.w=w)(T:LdT X.K X.mg s C fI fA dI dA)(D:Dfn X.K X.mg x st ps f fd)(GI:FnOk X.prog X.w X.K X.mg X.base CX0 jI fI dI [Ai,Aj,Ak,Am] (zfi C))(G:FnOk X.prog X.w X.K X.mg X.base CX0 j f fd ps (spV k fr F))(hr:Room L X.A)(hb:zaJ X.K dI [Ai,Aj,Ak,Am] ds)(hd:zY dvs ds)(U:∀A H,zaY A H dv dvs)(h1:JA X Pn M (I::q) f1)(h2:JA X Pn M es f2)(Y:j<=L:=by ext)(Z:jI+1<=L:=by ext)(hg:Gl X x:=by rfl)(ad:Ah x:=by ext)(ag:Gl X "Leads" := by rfl)(al:starEach (I::q) X.env=(false,eval I X.env)::starEach q X.env:=by rfl)(J:(backTo B (starEach q X.env)).any (·.1)=false:=by rfl)(he:starEach (.Call (.Name "Leads" O) (I::q) [] B::es) X.env=(false,eval (.Call (.Name "Leads" O) (I::q) [] B) X.env)::starEach es X.env:=by rfl)(an:(backTo pos (starEach es X.env)).any (·.1)=false:=by rfl) :
  JE X Pn M fr (.Call (.Name x p) (.Call (.Name "Leads" O) (I::q) [] B::es) [] pos) (mFnL k P w C F Pn dv f1 f2):=by
 subst hP hw;obtain⟨t1,q1,r1⟩:=h1.ex;obtain⟨t2,q2,r2⟩:=h2.ex;exact⟨_,⟨ztB D G hr (zqF (zb4 (zqM T.mM GI (hr.mono Z) ag T.m hb hd zlp q1.run (by ext) al J) q2.run he)) Y hg ad he an⟩,zuf U r1 r2⟩
end
end L3
namespace L2
open PyProof.Rows PySem.SeqAt
def okT:Nat->Dt->Bool
 | _,.non=>true
 | _,.int _=>true
 | _,.bl _=>true
 | _,.str x=>PyData.strOk x
 | n+1,.tup l=>l.all (okT n)
 | n+1,.lst l=>l.all (okT n)
 | _,_=>false
abbrev Dt.py (d:Dt):PyData:=PySem.W.kqdP d.toW
def zgl (l:AS):PySem.W.kqdPs (Dt.toWs l)=l.map Dt.py:=by rw[zbo,uR,aB];rfl
section
variable {P:Aa}{w:Ab}{H:Hp}{h:Heap}
mutual
def zbk (ok:HOk P w H h):∀ (n:Nat) {d:Dt} {v:V} {u:Value},Is H d v->yB v u->okT n d=true->∃as,Reads h u d.py as
 | _,.non,_,_,h1,r,_=>by cases h1;cases r;exact⟨_,Reads.none⟩
 | n,.bl b,_,_,h1,r,_=>by cases h1;cases r;exact⟨_,Reads.bool b⟩
 | _,.int i,_,_,h1,r,_=>by cases h1;obtain⟨t,rfl⟩:=r;exact⟨_,Reads.int i t⟩
 | _,.str x,_,_,h1,r,_=>by cases h1;obtain⟨t,rfl⟩:=r;exact⟨_,Reads.str x t⟩
 | 0,.tup l,_,_,_,_,k=>by simp[okT] at k
 | n+1,.tup l,_,_,h1,r,k=>by obtain⟨a,xs,rfl,ha,hl⟩:=h1;cases r;obtain⟨_,its,rv,o,ho,hc,⟨m,hd⟩,_⟩:=ok a _ ha;obtain⟨as,q⟩:=zan ok n hl rv (by simpa [okT] using k);exact⟨as,reads_tuple_at ho hc hd (by simpa using q)⟩
 | 0,.lst l,_,_,_,_,k=>by simp[okT] at k
 | n+1,.lst l,_,_,h1,r,k=>by obtain⟨a,xs,rfl,ha,hl⟩:=h1;cases r;obtain⟨_,its,m,rv,e⟩:=ok a _ ha;obtain⟨as,q⟩:=zan ok n hl rv (by simpa [okT] using k);exact⟨_,reads_list_at e rfl rfl (by simpa using q)⟩
 | n,.dct,_,_,_,_,k=>by cases n <;> simp[okT] at k
def zan (ok:HOk P w H h):∀ (n:Nat) {ds:AS} {xs:AT} {us:AN},IsL H ds xs->zY xs us->(∀d∈ds,okT n d=true)->∃as,ReadsAll h us (PySem.W.kqdPs (Dt.toWs ds)) as
 | _,[],_,_,h1,r,_=>by cases h1;cases r;exact⟨_,ReadsAll.nil⟩
 | n,d::ds,_,_,h1,r,k=>by
  obtain⟨x,xr,rfl,hd,hr⟩:=h1
  cases r with
  | cons rx rr=>
   obtain⟨as,q⟩:=zbk ok n hd rx (k _ (by simp));obtain⟨bs,q2⟩:=zan ok n hr rr λe he=>k e (by simp[he]);exact⟨_,ReadsAll.cons q q2⟩
end
end
def zoB (n:Nat)(d:PyData):Prop:=d.canLay0=true/\d.depth<=n/\PyData.eqv d d=true
def zhg:∀ {l:AS},(∀d∈l,zoB n d.py)->PyData.canLayAll0 (l.map Dt.py)=true/\PyData.depthAll (l.map Dt.py)<=n/\PyData.eqvAll (l.map Dt.py) (l.map Dt.py)=true
 | [],_=>by simp[PyData.canLayAll0,PyData.depthAll,PyData.eqvAll]
 | d::l,h=>by obtain⟨q,L,B⟩:=h d (.head _);obtain⟨F,O,I⟩:=zhg λe J=>h e (.tail _ J);simp only[az,PyData.canLayAll0,PyData.depthAll,PyData.eqvAll,q,B,F,I,Bool.and_self,true_and,and_true];lia
def zeM:∀ {n:Nat} {d:Dt},okT n d=true->zoB n d.py
 | n,.non,_=>by cases n <;> simp[zoB,Dt.py,Dt.toW,PySem.W.kqdP,PyData.canLay0,PyData.depth,PyData.eqv]
 | n,.int i,_=>by cases n <;> simp[zoB,Dt.py,Dt.toW,PySem.W.kqdP,PyData.canLay0,PyData.depth,PyData.eqv]
 | n,.bl i,_=>by cases n <;> simp[zoB,Dt.py,Dt.toW,PySem.W.kqdP,PyData.canLay0,PyData.depth,PyData.eqv]
 | n,.str i,h=>by
  have h':PyData.strOk i=true:=by cases n <;> exact h
  simp[zoB,Dt.py,Dt.toW,PySem.W.kqdP,PyData.canLay0,PyData.depth,PyData.eqv,h']
 | 0,.tup l,h=>by cases h
 | 0,.lst l,h=>by cases h
 | 0,.dct,h=>by cases h
 | n+1,.dct,h=>by cases h
 | n+1,.tup l,h=>by have q:=zhg (n:=n) λd B=>zeM (bc.mp h d B);simp only[zoB,Dt.py,Dt.toW,PySem.W.kqdP,zgl,PyData.canLay0,PyData.depth,PyData.eqv,q.1,q.2.2,true_and,and_true];have:=q.2.1;lia
 | n+1,.lst l,h=>by have q:=zhg (n:=n) λd B=>zeM (bc.mp h d B);simp only[zoB,Dt.py,Dt.toW,PySem.W.kqdP,zgl,PyData.canLay0,PyData.depth,PyData.eqv,q.1,q.2.2,true_and,and_true];have:=q.2.1;lia
def zh0:∀ {ns:AG} {l:AS},PyData.eqvAll ((ns.map Dt.int).map Dt.py) (l.map Dt.py)=true->(∀d∈l,d.isBl=false)->l=ns.map .int
 | [],[],_,_=>rfl
 | [],_::_,h,_=>by simp[PyData.eqvAll] at h
 | _::_,[],h,_=>by simp[PyData.eqvAll] at h
 | n::ns,d::l,h,q=>by
  simp only[az,PyData.eqvAll,bm] at h;rw[zh0 h.2 λe B=>q e (.tail _ B)];have h1:=h.1
  cases d with
  | bl b=>cases q _ (.head _)
  | int i=>simp[Dt.py,Dt.toW,PySem.W.kqdP,PyData.eqv] at h1;rw[h1];rfl
  | _=>simp[Dt.py,Dt.toW,PySem.W.kqdP,PyData.eqv] at h1
def zll:∀ {n:Nat} {d:Dt},okT n d=true->okT (n+1) d=true
 | n,.non,_=>rfl
 | n,.int i,_=>rfl
 | n,.bl i,_=>rfl
 | n,.str i,h=>by cases n <;> exact h
 | 0,.tup l,h=>by cases h
 | 0,.lst l,h=>by cases h
 | 0,.dct,h=>by cases h
 | n+1,.dct,h=>by cases h
 | n+1,.tup l,h=>bc.mpr λd q=>zll (bc.mp h d q)
 | n+1,.lst l,h=>bc.mpr λd q=>zll (bc.mp h d q)
def zkd{s:AG}(h:PyData.eqv (stD s).py (Dt.tup l).py=true):PyData.eqvAll ((s.map Dt.int).map Dt.py) (l.map Dt.py)=true:=by simp only[Dt.py,Dt.toW,PySem.W.kqdP,PyData.eqv,zgl] at h;exact h
def zpG{s:AG}(h:PyData.eqv (stD s).py (Dt.tup l).py=true)(q:∀d∈l,d.isBl=false):l=s.map .int:=zh0 (zkd h) q
def zdO:∀ {a b:List PyData},PyData.eqvAll a b=true->a.length=b.length
 | [],[],_=>rfl
 | [],_::_,h=>by simp[PyData.eqvAll] at h
 | _::_,[],h=>by simp[PyData.eqvAll] at h
 | _::a,_::b,h=>by simp only[PyData.eqvAll,bm] at h;rw[aO,aO,zdO h.2]
def zpF{s:AG}(h:PyData.eqv (stD s).py (Dt.tup l).py=true):s.length=l.length:=by have:=zdO (zkd h);rwa[ab,ab,ab] at this
section
variable {X:Cx}
def rNeT:R2:=λx y H Q=>∃d,Is H d x/\Is H d y/\okT 8 d=true/\Q (.bl false) H
def ztv (F:X.A.units+64<cLine):OpQ X (compareOp .NotEq) rNeT:=⟨by
 intro pins s σ H x y v u Q I J L h;obtain⟨d,O,U,k,q⟩:=h;obtain⟨as,Y⟩:=zbk I.hok 8 O J k;obtain⟨bs,Z⟩:=zbk I.hok 8 U L k;obtain⟨l1,l2,l3⟩:=zeM k;have B:SeqAt.shaped d.py=true:=by unfold SeqAt.shaped;grind
 exact ne_dataH Y Z B B F ⟨.bl _,H,I,rfl,by rw[l3];exact q⟩⟩
def rNiT:R2:=λx y H Q=>∃d ds,Is H d x/\Is H (.lst ds) y/\okT 8 d=true/\(Dt.lst ds).eqOk/\∀b:Bool,(d∈ds->b=true)->(b=true->∃e∈ds,PyData.eqv e.py d.py=true)->Q (.bl (!b)) H
def ztw (J:X.A.units+64<cLine):OpQ X (compareOp .NotIn) rNiT:=⟨by
 intro pins s σ H x y v u Q I L O h;obtain⟨d,ds,U,B,k,ks,q⟩:=h;obtain⟨as,Y⟩:=zbk I.hok 8 U L k;obtain⟨bs,Z⟩:=y4 I.hok 8 B O ks;obtain⟨l1,l2,l3⟩:=zeM k;obtain⟨m1,_,_⟩:=zfZ (d:=.non) rfl ks J;show notIn_list_reads Z Y m1 l1 ?_ ⟨.bl _,H,I,rfl,q _ (λhm=>?_) λF=>?_⟩;have:min (PyData.depthAll (PySem.W.kqdPs (Dt.toWs ds))) d.py.depth<=8:=af (fM _ _) l2;lia;rw[zgl];exact dn.mpr ⟨_,au.mpr ⟨d,hm,rfl⟩,l3⟩;rw[zgl] at F;obtain⟨y,B,e⟩:=dn.mp F;obtain⟨z,hz,rfl⟩:=au.mp B;exact⟨z,hz,e⟩⟩
def zwS (P:Aa)(w:Ab):AT->Hp->VK->Prop:=λxs H Q=>∃ (a:Addr) (ks:AF),xs=[.ref a]/\zdu P w H a ks/\ks.length<300/\Q (.int (ks.length:Int)) H
def zpu:CallQ X (.builtin "len") (zwS X.prog X.w):=⟨by
 intro pins s σ H xs us Q I r h;obtain⟨a,ks,rfl,⟨xs,h1,h2,rfl,O⟩,U,q⟩:=h;obtain⟨u,rfl,B⟩:=zba r;cases B;obtain⟨⟨o,es,Y,t,F,J,L,T,_⟩,_⟩:=(show yo X.prog X.w H s.heap a (zhG X.prog X.w a (yT xs)) from I.hok a _ h1);have e:es.size=(xs.map (·.1)).length:=by rw[T.size];unfold yT;rw[ab,ab]
 exact call_len_set F J L T.fits (by lia) ⟨.int _,H,I.tok _,⟨_,by rw[e]⟩,q⟩⟩
end
end L2
namespace L3
open L2
section
variable {X:Cx}{Pn:PN}{M:AR}{e:Expr}{f:AD}{pos p:Pos}
abbrev dNeT:W->W->Mo W:=λx y n Q=>onD x λd=>onD y λe=>d=e/\okT 8 d=true/\Q (.d (.bl false)) n
def zxb:F2 Pn false rNeT dNeT:=⟨by
 rintro A H x y F I n Q R J B q P h k;simp only[dNeT,xF] at h;obtain⟨d,rfl,_,rfl,rfl,o,h⟩:=h;exact⟨d,B.is,q.is,o,k _ n _ H h (Val.of rfl) (Go.refl P) λz=>by cases z⟩⟩
abbrev dNiT:W->W->Mo W:=λx y n Q=>onD x λd=>onL y λds=>okT 8 d=true/\(Dt.lst ds).eqOk/\∀b:Bool,(d∈ds->b=true)->(b=true->∃e∈ds,PyData.eqv e.py d.py=true)->Q (.d (.bl (!b))) n
def zxc:F2 Pn false rNiT dNiT:=⟨by
 rintro A H x y J L n Q R O B q P h k;simp only[dNiT,xF,xG] at h;obtain⟨d,rfl,ds,rfl,F,I,h⟩:=h;exact⟨d,ds,B.is,q.is,F,I,λb h1 h2=>k _ n _ H (h b h1 h2) (Val.of rfl) (Go.refl P) λz=>by cases z⟩⟩
abbrev zmG (f:AD):AD:=λρ n Q=>f ρ n λx q=>onL x λl=>∃sts:AF,l=sts.map stD/\(∀ks:AF,ks.Nodup->(∀z∈ks,z∈sts)->ks.length<300)/\∀ks:AF,ks.Nodup->(∀st,st∈ks↔st∈sts)->Q (.d (.int (ks.length:Nat))) q
def zfU {p2 B:Pos}(hu:X.A.units+64<cLine)(hc:X.calm=true)(J:X.mg "len" = none)(L:X.mg "set" = none)(he:JB X Pn M e f)(O:Gl X "len" := by rfl)(U:Gl X "set" := by rfl)
  (h1:starEach [e] X.env=(false,eval e X.env)::starEach [] X.env:=by rfl) (h2:(backTo B (starEach [] X.env)).any (·.1)=false:=by rfl)
  (Y:starEach [.Call (.Name "set" p2) [e] [] B] X.env=(false,eval (.Call (.Name "set" p2) [e] [] B) X.env)::starEach [] X.env:=by rfl) (h4:(backTo pos (starEach [] X.env)).any (·.1)=false:=by rfl) :
  JE X Pn M false (.Call (.Name "len" p) [.Call (.Name "set" p2) [e] [] B] [] pos) (zmG f):=by
 obtain⟨te,qe,re⟩:=he.ex;show⟨_,xp zpu O J aN (zG (zat (zjW hu hc) U L PyProof.Rows.boot_set (zG qe ye h1) (by ext) (by ext) h1 h2) ye Y) (by ext) (by ext) Y h4,⟨λA σ H ρ n Q R E P hf k=>?_⟩⟩;show re.run A σ H ρ n _ _ E P hf λw m v H1 I b1 Z=>?_;rw[xG] at I;obtain⟨l,rfl,sts,rfl,hz,I⟩:=I;obtain⟨ad,xs,rfl,ha,hl⟩:=yM b1;show⟨ad,xs,sts,rfl,ha,hl.stay (zB.same zt),hz,λq H' ks nq SV hm Sm=>?_⟩;have F:ks.Nodup:=let ⟨_,_,_,_,h⟩:=SV;h;exact⟨q,ks,rfl,SV,hz ks F λz h=>(hm z).mp h,k _ m _ H' (I ks F hm) (Val.of rfl) (Z.trans (Go.same Z.pn Sm)) λz=>by cases z⟩
end
end L3
local macro_rules | `(tactic| walk_at "up")=>`(tactic| first | assumption | ((with_reducible refine (?_:L2.yJ _ _));(first | exact L2.zgq _ | (intro _ _ _;((repeat (first | assumption | refine L2.zrU (by assumption) ?_ | refine L2.zmd (by assumption) ?_ | refine L2.zmb (by assumption) ?_ | refine L2.zaa (by assumption) ?_ (by assumption) | refine L2.zaa (by assumption) ?_ L2.zqu | refine L2.zaa (by assumption) ?_ L2.zli | refine L2.zaa (by assumption) ?_ L2.zlj | refine L2.zmc (by assumption) ?_ | refine L2.zjq (by assumption) ?_ | refine L2.zjq (L2.xQ (by assumption)) ?_ | refine L2.zee (by assumption) ?_ | refine L2.zee (L2.xQ (by assumption)) ?_ | refine L2.zcb (by assumption) ?_ | refine L2.zcb (L2.xQ (by assumption)) ?_ | refine L2.zca (by assumption) ?_ | refine L2.zca (L2.xQ (by assumption)) ?_ | refine L2.zed (by assumption) ?_ | refine L2.zed (L2.xQ (by assumption)) ?_ | refine L2.zef (by assumption) ?_ | refine L2.zef (L2.xQ (by assumption)) ?_ | refine L2.zaI (by assumption) ?_ | refine L2.zaI (L2.xQ (by assumption)) ?_ | refine L2.zaH (by assumption) ?_ | refine L2.zaH (L2.xQ (by assumption)) ?_));done)))) | ((with_reducible refine (?_:L2.zB _ _));(first | exact L2.zB.refl _ | (intro _ _ _ _;((repeat (first | assumption | refine L2.zrU (by assumption) ?_ | refine L2.zmd (by assumption) ?_ | refine L2.zmb (by assumption) ?_ | refine L2.zaa (by assumption) ?_ (by assumption) | refine L2.zaa (by assumption) ?_ L2.zqu | refine L2.zaa (by assumption) ?_ L2.zli | refine L2.zaa (by assumption) ?_ L2.zlj | refine L2.zmc (by assumption) ?_ | refine L2.zjq (by assumption) ?_ | refine L2.zjq (L2.xQ (by assumption)) ?_ | refine L2.zee (by assumption) ?_ | refine L2.zee (L2.xQ (by assumption)) ?_ | refine L2.zcb (by assumption) ?_ | refine L2.zcb (L2.xQ (by assumption)) ?_ | refine L2.zca (by assumption) ?_ | refine L2.zca (L2.xQ (by assumption)) ?_ | refine L2.zed (by assumption) ?_ | refine L2.zed (L2.xQ (by assumption)) ?_ | refine L2.zef (by assumption) ?_ | refine L2.zef (L2.xQ (by assumption)) ?_ | refine L2.zaI (by assumption) ?_ | refine L2.zaI (L2.xQ (by assumption)) ?_ | refine L2.zaH (by assumption) ?_ | refine L2.zaH (L2.xQ (by assumption)) ?_));done)))) | ((repeat (first | assumption | refine L2.zrU (by assumption) ?_ | refine L2.zmd (by assumption) ?_ | refine L2.zmb (by assumption) ?_ | refine L2.zaa (by assumption) ?_ (by assumption) | refine L2.zaa (by assumption) ?_ L2.zqu | refine L2.zaa (by assumption) ?_ L2.zli | refine L2.zaa (by assumption) ?_ L2.zlj | refine L2.zmc (by assumption) ?_ | refine L2.zjq (by assumption) ?_ | refine L2.zjq (L2.xQ (by assumption)) ?_ | refine L2.zee (by assumption) ?_ | refine L2.zee (L2.xQ (by assumption)) ?_ | refine L2.zcb (by assumption) ?_ | refine L2.zcb (L2.xQ (by assumption)) ?_ | refine L2.zca (by assumption) ?_ | refine L2.zca (L2.xQ (by assumption)) ?_ | refine L2.zed (by assumption) ?_ | refine L2.zed (L2.xQ (by assumption)) ?_ | refine L2.zef (by assumption) ?_ | refine L2.zef (L2.xQ (by assumption)) ?_ | refine L2.zaI (by assumption) ?_ | refine L2.zaI (L2.xQ (by assumption)) ?_ | refine L2.zaH (by assumption) ?_ | refine L2.zaH (L2.xQ (by assumption)) ?_));done))
local macro_rules | `(tactic| left)=>`(tactic| ((try (with_reducible conv=>whnf));repeat (with_reducible refine L3.zsi ?_;try (with_reducible conv=>whnf)));try dsimp only)
local macro_rules | `(tactic| walk_at "ct")=>`(tactic| (with_reducible refine L3.zqz ?_ ?_;(first | decide | assumption | rfl));left)
local macro_rules | `(tactic| walk_at "cf")=>`(tactic| (with_reducible refine L3.zqy ?_ ?_;(first | decide | assumption | rfl));left)
namespace Law
open L2 L3
abbrev lc:AM:=[Ao,Ap]
abbrev ld:AM:=["given","box","better","worse",An,"left_alone"]
abbrev lh:AM:=[Ao,Aq]
abbrev li:AM:=[Ar,As]
abbrev lj:AM:=[Ao,At,Ap,"_law_ring"]
abbrev ll:AM:=[Ao,Ap,Au]
abbrev lm:AM:=["_law_script"]
abbrev ln:AM:=[Ap,Au,Av]
abbrev lq:AM:=[Ao,Au,Ar]
abbrev lr:AM:=[Aj,Ak,An,Am]
abbrev lu:AM:=[An,"box","worth"]
abbrev lw:AM:=[Ar,As,Au]
abbrev ly:AM:=[Aw,Ax,Ay]
abbrev lz:AM:=[Ao,"_law_some"]
abbrev lA:AM:=[Ai,Aj,Ak,Am]
abbrev lB:AM:=[Ap]
abbrev lC:AM:=[Aj,Ak]
abbrev lD:AM:=[Au,Ay]
abbrev lE:AM:=[Ax,Ar]
abbrev lF:AM:=[Aj,Az]
abbrev lG:AM:=[Ap,A1]
abbrev lH:AM:=[Aj,Ak,Az]
abbrev lI:AM:=[Aj,"box",Az]
abbrev lJ:AM:=[An,"waiting"]
abbrev lK:AM:=[Ao,"_law_most"]
abbrev lL:AM:=[A5,Ao,Ap]
abbrev lM:AM:=[An,"given"]
abbrev lN:AM:=[Ar,"_law_left",Ao]
abbrev lO:AM:=[Ai,An]
abbrev lP:AM:=[Ax,A6,A7]
abbrev lQ:AM:=["row","worth","worths"]
abbrev lR:AM:=["here","there",A8]
abbrev lS:AM:=[A5,Ar,As]
abbrev lT:AM:=[A5,Ar,A7]
abbrev lU:AM:=[A8,"row"]
abbrev lV:AM:=[A8,"left"]
abbrev lW:AM:=[An]
abbrev lY:AM:=["choices"]
def top (i:Nat):Stmt:=PySem.Challenge.pw_allelse_k23_rings_known.main.body.getD i (.Pass ⟨0,0,0,0⟩)
abbrev zd6:Stmt:=top 21
abbrev zdh:Stmt:=top 22
abbrev zdk:Stmt:=top 23
abbrev zdj:Stmt:=top 24
abbrev uZ:Stmt:=top 25
abbrev zd7:Stmt:=top 27
abbrev zdm:Stmt:=top 28
abbrev zaw:Stmt:=top 29
abbrev zav:Stmt:=top 30
abbrev zdi:Stmt:=top 31
abbrev zck:Stmt:=top 32
abbrev zcj:Stmt:=top 33
abbrev zbG:Stmt:=top 34
abbrev zaW:Stmt:=top 35
abbrev zdg:Stmt:=top 36
abbrev zd8:Stmt:=top 5
abbrev zdq:Stmt:=top 6
abbrev zgp:Stmt:=top 7
abbrev zlO:Stmt:=top 9
abbrev zcm:Stmt:=top 11
abbrev u6:Stmt:=top 12
abbrev zdp:Stmt:=top 16
abbrev zcn:Stmt:=top 17
abbrev u7:Stmt:=top 18
abbrev zd9:Stmt:=top 1
abbrev zea:Stmt:=top 2
abbrev zbH:Stmt:=top 3
abbrev zax:Stmt:=top 4
abbrev zdn:Stmt:=top 14
abbrev zdo:Stmt:=top 19
abbrev zcl:Stmt:=top 26
abbrev zd5:Stmt:=top 37
abbrev zdl:Stmt:=top 38
abbrev zdf:Stmt:=top 39
abbrev zut:Stmt:=top 40
def zhD:FnScope lm lm (zd zd6):=by walk_at "f"
def yx:FnScope [Ao,Aq,A9,Aw,"_law_cell","_law_mixed"] lh (zd zdh):=by walk_at "f"
def zco:FnScope [Ao,"_law_some","_law_left"] lz (zd zdk):=by walk_at "f"
def yy:FnScope [Ao,"_law_most",At,"_law_wanted",Ap,"_law_left",Aq] lK (zd zdj):=by walk_at "f"
def z5:FnScope [Ap,A9,Aq,BA,Ar] lB (zd uZ):=by walk_at "f"
def zdr:FnScope [Ao,Aq,Ar] lh (zd zd7):=by walk_at "f"
def yQ:FnScope [Ao,Ap,A7,"_law_share",A6,Aw,BB,BC] lc (zd zdm):=by walk_at "f"
def yf:FnScope [Ap,A1,A9,A7,BA,A6] lG (zd zaw):=by walk_at "f"
def zL:FnScope [Ao,Ap,A1,A9,"_law_place",A7,"_law_looks",A6,"_law_ranks",A5] lc (zd zav):=by walk_at "f"
def zay:FnScope [Ar,As,A7,A6] li (zd zdi):=by walk_at "f"
def zX:FnScope [Ap,A9,Aq,BA,A5,Ar,"_law_worths"] lB (zd zck):=by walk_at "f"
def uP:FnScope [Ao,Ap,At] lc (zd zcj):=by walk_at "f"
def zN:FnScope [Ao,Ap,BD,"_law_rank",A5,Ar,A9,A7,Ax,As] lc (zd zbG):=by walk_at "f"
def z9:FnScope [Ao,Ap,Au,At,Aw,A6,A7,BB,BC] ll (zd zaW):=by walk_at "f"
def yh:FnScope [Ao,Ap,"_law_kind","_law_spoil",Aq,Au] lc (zd zdg):=by walk_at "f"
def uQ:FnScope ["choices","rows","worths"] lY (zd zd8):=by walk_at "f"
def zgt:FnScope [Aj] [Aj] (zd zdq):=by walk_at "f"
def zji:FnScope lu lu (zd zgp):=by walk_at "f"
def zfe:FnScope [An,"given","box","worth"] lM (zd zlO):=by walk_at "f"
def zbI:FnScope [Aj,Ak,An,Am,"left_alone"] lr (zd zcm):=by walk_at "f"
def zb7:FnScope lC lC (zd u6):=by walk_at "f"
def uf:FnScope [A8,"many",An,"there"] [A8] (zd zdp):=by walk_at "f"
def yi:FnScope [A8,"left","among","came_from","here","there","row"] lV (zd zcn):=by walk_at "f"
def zF:FnScope [Aj,Ak,A8,"waiting","longest","row","at","here","there","left"] lC (zd u7):=by walk_at "f"
def zhE:FnScope [Az] [Az] (zd zd9):=by walk_at "f"
def zhF:FnScope lI lI (zd zea):=by walk_at "f"
def uj:FnScope [Aj,Az,"box","worth"] lF (zd zbH):=by walk_at "f"
def u8:FnScope [Aj,Az,An] lF (zd zax):=by walk_at "f"
def zgr:FnScope lU lU (zd zdn):=by walk_at "f"
def zgs:FnScope lH lH (zd zdo):=by walk_at "f"
def yA:FnScope [Au,Ay,A9,A6,A7,BB,BC,"_law_there"] lD (zd zcl):=by walk_at "f"
def za7:FnScope [Ap,Au,Av,BD,Ar] ln (zd zd5):=by walk_at "f"
def xI:FnScope [Ao,Au,Ar,A9,A5,"_law_some","_law_there"] lq (zd zdl):=by walk_at "f"
def xH:FnScope [Ao,At,Ap,"_law_ring",Aw,Ar,A7,As] lj (zd zdf):=by walk_at "f"
def xt:FnScope ["_law_script",Ao,"_law_turn_here",At,"_law_most",Ap,Au,BE,BD,"_law_ring","_law_said",Av,"_law_handed",A9,As] lm (zd zut):=by walk_at "f"
abbrev zhC:Stmt:=top 13
def zfd:FnScope lA lA (zd (yC zhC 0)):=by walk_at "f"
def zdI:FnScope lO lO (zd (yC zhC 1)):=by walk_at "f"
set_option genInjectivity false in
structure Ad where
 C_Leads:Addr
 fI_Leads:Addr
 fA_Leads:Addr
 dI_Leads:Ac
 dA_Leads:Ac
 f0:Addr
 d0:Ac
 f1:Addr
 d1:Ac
 f2:Addr
 d2:Ac
 f3:Addr
 d3:Ac
 f4:Addr
 d4:Ac
 f5:Addr
 d5:Ac
 f6:Addr
 d6:Ac
 f7:Addr
 d7:Ac
 f8:Addr
 d8:Ac
 f9:Addr
 d9:Ac
 f10:Addr
 d10:Ac
 f11:Addr
 d11:Ac
 f12:Addr
 d12:Ac
 f13:Addr
 d13:Ac
 f14:Addr
 d14:Ac
 f15:Addr
 d15:Ac
 f16:Addr
 d16:Ac
 f17:Addr
 d17:Ac
 f18:Addr
 d18:Ac
 f19:Addr
 d19:Ac
 f20:Addr
 d20:Ac
 f21:Addr
 d21:Ac
 f22:Addr
 d22:Ac
 f23:Addr
 d23:Ac
 f24:Addr
 d24:Ac
 f25:Addr
 d25:Ac
 f26:Addr
 d26:Ac
 f27:Addr
 d27:Ac
 f28:Addr
 d28:Ac
 f29:Addr
 d29:Ac
 f30:Addr
 d30:Ac
 f31:Addr
 d31:Ac
 f32:Addr
 d32:Ac
 f33:Addr
 d33:Ac
 f34:Addr
 d34:Ac
structure Txt (K:AH)(mg:AI)(t:Ad):Prop where
 Leads:LdT K mg zhC t.C_Leads t.fI_Leads t.fA_Leads t.dI_Leads t.dA_Leads
 q0:Dfn K mg "_law_pen" zd6 lm t.f0 t.d0
 q1:Dfn K mg "_law_draw" zdh lh t.f1 t.d1
 q2:Dfn K mg "_law_turn" zdk lz t.f2 t.d2
 q3:Dfn K mg "_law_room" zdj lK t.f3 t.d3
 q4:Dfn K mg "_law_standings" uZ lB t.f4 t.d4
 q5:Dfn K mg "_law_two" zd7 lh t.f5 t.d5
 q6:Dfn K mg "_law_wish" zdm lc t.f6 t.d6
 q7:Dfn K mg "_law_contexts" zaw lG t.f7 t.d7
 q8:Dfn K mg "_law_by_order" zav lc t.f8 t.d8
 q9:Dfn K mg "_law_full" zdi li t.f9 t.d9
 q10:Dfn K mg "_law_snake" zck lB t.f10 t.d10
 q11:Dfn K mg "_law_along" zcj lc t.f11 t.d11
 q12:Dfn K mg "_law_rising" zbG lc t.f12 t.d12
 q13:Dfn K mg "_law_spoiled" zaW ll t.f13 t.d13
 q14:Dfn K mg "_law_book" zdg lc t.f14 t.d14
 q15:Dfn K mg "combined" zd8 lY t.f15 t.d15
 q16:Dfn K mg "standings" zdq [Aj] t.f16 t.d16
 q17:Dfn K mg "changed" zgp lu t.f17 t.d17
 q18:Dfn K mg "keeps" zlO lM t.f18 t.d18
 q19:DfnD K mg "betterings" zcm lr [Value.none] t.f19 t.d19
 q20:Dfn K mg "all_betterings" u6 lC t.f20 t.d20
 q21:Dfn K mg "many_into" zdp [A8] t.f21 t.d21
 q22:Dfn K mg "ring_among" zcn lV t.f22 t.d22
 q23:Dfn K mg "ring_or_worths" u7 lC t.f23 t.d23
 q24:Dfn K mg "is_whole" zd9 [Az] t.f24 t.d24
 q25:Dfn K mg "is_worth" zea lI t.f25 t.d25
 q26:Dfn K mg "is_standing" zbH lF t.f26 t.d26
 q27:Dfn K mg "are_standings" zax lF t.f27 t.d27
 q28:Dfn K mg "is_walked" zdn lU t.f28 t.d28
 q29:Dfn K mg "lets_ring" zdo lH t.f29 t.d29
 q30:Dfn K mg "_law_steps" zcl lD t.f30 t.d30
 q31:Dfn K mg "_law_due" zd5 ln t.f31 t.d31
 q32:Dfn K mg "_law_walk" zdl lq t.f32 t.d32
 q33:Dfn K mg "_law_bent" zdf lj t.f33 t.d33
 q34:Dfn K mg "law" zut lm t.f34 t.d34
 b_enumerate:mg "enumerate" = none
 b_sorted:mg "sorted" = none
 b_all:mg "all" = none
 b_set:mg "set" = none
 b_list:mg "list" = none
 b_tuple:mg "tuple" = none
 b_range:mg "range" = none
 b_len:mg "len" = none
 b_isinstance:mg "isinstance" = none
 b_int:mg "int" = none
 b_bool:mg "bool" = none
 b_max:mg "max" = none
 b_abs:mg "abs" = none
 b_zip:mg "zip" = none
section
variable {P:Aa}{w:Ab}{K:AH}{mg:AI}{base:Heap}{t:Ad}
def zhp (T:Txt K mg t):FnOk P w K mg base CX0 1 t.f0 t.d0 lm (zn4 K):=by
 show T.q0.F.okQ zhD (λvs H Q E h=>?_) (λZ A J s H vs Q E hr h=>?_);obtain⟨a,ns,rfl,_⟩:=h;rfl;obtain⟨a,ns,rfl,hS,Y,k⟩:=h;show⟨_,(xq (uY (zra (ze7 x8 (zbE zlX (qv 0) ze5 (ze6 yE)) (ze7 x8 yE (ze7 x8 yE zri))) rfl rfl (by simp) (by ext)))),?_⟩;intro p L;show⟨_,rfl,_,rfl,a,_,rfl,(yJ.upd L).seq hS,λc I=>?_⟩;have q:p≠c:=λe=>by subst e;rw[zh] at I;cases I
 have O:H c=none:=by rw[zg (Ne.symm q)] at I;exact I
 show⟨by rw[zg q,zh],zbN c 0 0,rfl,(by change 3<=15;decide),?_⟩;rw[ztI]
 have B:zdv (ns.map V.int) none (some 63)=ns.map V.int:=by
  unfold zdv;rw[HT.sIx_none];have U:HT.sIx (ns.map V.int).length (ns.map V.int).length (some 63)=(ns.map V.int).length:=by have:=HT.sIx_nat (ns.map V.int).length (ns.map V.int).length 63;rw[ab] at this ⊢;rw[Nat.min_eq_right Y] at this;exact this
  rw[U,fg,fQ,aT]
 show k p c _ ⟨⟨0,0,zh,by lia,by lia,by lia⟩,?_,Y⟩ ?_;rw[zg (Ne.symm q),zh];exact congrArg (λz=>some (HO.lst z)) B;intro b o e;rw[zg (zc e L),zg (zc e O),zg (zc e L)];exact e
def zcg (T:Txt K mg t):FnOk P w K mg base CX0 1 t.f1 t.d1 lh zlU:=by
 show T.q1.F.okQ yx (λvs H Q E h=>?_) (λa2 A as s H vs Q E hr h=>?_);obtain⟨p,c,ns,n,yH,rfl,_⟩:=h;rfl
 ·obtain⟨p,c,ns,n,yH,rfl,hP,hn,h1,h2,k⟩:=h;have L:=xN hr;obtain⟨⟨a,l,U,Y,ad,ag⟩,hc,O⟩:=id hP;have Z:c≠p:=zle hc U (by intro z;cases z)
  show⟨_,(zW (zlD (zau znp (ui L (qv 0) x8 (λ_ _=>rfl)) yE (zw _)) (zW (ua (i:=2) yx.nd rfl (Or.inl rfl) (yX zaV (ui L (qv 0) x8 (λ_ _=>rfl)) (qv 1)))
   (zW (ze8 L (qv 0) x8 (yX zeX (ui L (qv 0) x8 (λ_ _=>rfl)) (qv 1)) rfl)
   (xq (uY (qv 2))))) zdc)
   (zW (ua (i:=3) yx.nd rfl (Or.inl rfl) (ui L (qv 0) x8 (λ_ _=>rfl)))
   (zW (ze8 L (qv 0) x8 (yX yd (qv 3) yE) rfl)
   (zW (ua (i:=4) yx.nd rfl (Or.inl rfl) (yX yd (yX zc8 yE (qv 3)) yE))
   (zW (zlD (zau znp (xp ym (by rfl) T.b_len aN (zG (ui L (qv 0) x8 (λ_ _=>rfl)) ye)) yE (zw _)) (xq (ua (i:=4) yx.nd rfl (Or.inl rfl) (znL yv (ui L (qv 0) x8 (λ_ _=>rfl)) (yX zaV (qv 3) (xp ym (by rfl) T.b_len aN (zG (ui L (qv 0) x8 (λ_ _=>rfl)) ye))) (λ_ _=>rfl)))) zdc)
   (zW (zlD (QW.pt (ziw (zau zht (qv 3) (xp ym (by rfl) T.b_len aN (zG (ui L (qv 0) x8 (λ_ _=>rfl)) ye)) (zw _)) (zhy (zau zwI (xp zjT (by rfl) T.b_abs eh (zG (qv 4) ye)) (yX zlo yE yE) (zw _))))) (zW (ze8 L (qv 0) x8 (yX zeX (xp zjT (by rfl) T.b_abs eh (zG (qv 4) ye)) (qv 1)) rfl)
   (xq (uY (yX zaV (xp zjT (by rfl) T.b_abs eh (zG (qv 4) ye)) (qv 1))))) zdc)
   (zW (ua (i:=5) yx.nd rfl (Or.inl rfl) (yX yd (yX yd (yX zc8 (yX yd (yX zaV (qv 4) yE) yE) (yX yd (yX zc8 yE (qv 3)) yE)) (yX zc8 (yX zc8 yE (qv 3)) (qv 3))) (yX zc8 yE (qv 3))))
   (zW (ua (i:=5) yx.nd rfl (Or.inl rfl) (yX zaV (yX zlo (qv 5) yE) yE))
   (zW (ua (i:=5) yx.nd rfl (Or.inl rfl) (yX zaV (yX zlo (yX yd (yX yd (qv 5) (yX zc8 yE (qv 3))) yE) yE) yE))
   (xq (uY (yX zaV (yX zeX (qv 5) yE) (qv 1))))))))))))),?_⟩
  show⟨_,rfl,p,_,rfl,zlt U,_,_,rfl,rfl,_,rfl,zoy (λhl=>?_) (λhl=>?_)⟩;have a3:0<l:=bP hl;show⟨_,rfl,p,_,rfl,zlt U,_,rfl,_,_,rfl,rfl,(by change (0:Int)<yH;lia),?_⟩;show⟨_,rfl,p,_,rfl,zlt U,_,rfl,_,_,rfl,rfl,⟨by change (0:Int)<yH;lia,h2⟩,_,rfl,p,_,rfl,zoR U _,?_⟩;show⟨_,rfl,k _ _ (cI _ (by lia)) (cb _ (by lia)) ⟨⟨a,_,zh,Y,by lia,Int.ediv_nonneg ag (by lia)⟩,by rw[zg Z];exact hc,O⟩ (zfj U)⟩
  ·show⟨_,rfl,p,_,rfl,ztH U,?_⟩;show⟨_,rfl,_,_,rfl,rfl,_,rfl,p,_,rfl,ztL U _,?_⟩;have I:upd H p (.dK (zbN c (a+1) l)) p=some (.dK (zbN c (a+1) l)):=zh;have J:upd H p (.dK (zbN c (a+1) l)) c=some (.lst (ns.map V.int)):=by rw[zg Z];exact hc
   generalize av:upd H p (.dK (zbN c (a+1) l))=H1 at I J ⊢;have al:zB H H1:=av ▸ zfj U;show⟨_,rfl,_,_,rfl,rfl,.inl ⟨by lia,by lia⟩,_,_,rfl,rfl,?_⟩;refine' meet (α:=Int) _ (λzQ=>?_) ?_;rotate_left
   
   show⟨_,rfl,p,_,rfl,ziq I,_,_,rfl,.inl ⟨_,.of J,rfl⟩,_,_,rfl,rfl,_,rfl,zoy (λhz=>?_) (λhz=>?_)⟩;have an:0<((ns.map V.int).length:Int):=bP hz;obtain⟨B,ap⟩:=zse ns a an;show⟨_,rfl,p,_,rfl,ziq I,_,rfl,_,rfl,p,_,rfl,ziq I,_,_,rfl,.inl ⟨_,.of J,rfl⟩,_,_,rfl,rfl,an,c,_,_,_,rfl,rfl,.of J,ap,?_⟩;exact zQ B;exact zQ (31 * a+7)
   ·intro B;have a4:∀ {q:Addr},H1 q=none->p≠q:=λhq=>zc I hq;refine' zwy _ (λzQ=>?_) ?_;rotate_left
    ·show⟨_,rfl,_,rfl,p,_,rfl,ziq I,_,_,rfl,.inl ⟨_,.of J,rfl⟩,_,_,rfl,rfl,_,rfl,zoy (λh3=>?_) (λh3=>?_)⟩;rotate_left;show zsT ?_;exact zQ;show⟨_,rfl,_,rfl,_,_,rfl,rfl,⟨by ext,by ext,by ext⟩,_,_,rfl,rfl,_,rfl,zoy (λh4=>?_) (λh4=>?_)⟩;rotate_left;exact zQ;have ha:0<=(if B<0 then -B else B):=by split <;> lia
     show⟨_,rfl,_,rfl,_,rfl,_,_,rfl,rfl,⟨by change (0:Int)<yH;lia,h2⟩,_,rfl,p,_,rfl,zoR I _,?_⟩;show⟨_,rfl,_,rfl,_,rfl,_,_,rfl,rfl,(by change (0:Int)<yH;lia),k _ _ (cI _ (by lia)) (cb _ (by lia)) ⟨⟨a+1,_,zh,by lia,by lia,Int.ediv_nonneg ha (by lia)⟩,by rw[zg Z];exact J,O⟩ (al.trans (zfj I))⟩
    obtain⟨a5,a7⟩:=zn5 Y ad hn;have a0:=cI B (show (2147483549:Int)≠0 by ext);have a1:=cb B (show (0:Int)<2147483549 by ext);obtain⟨ba,bb⟩:=zk9 Y ad hn a0 a1;show⟨_,rfl,_,_,rfl,rfl,(by change (0:Int)<2147483549;decide),_,_,rfl,rfl,_,rfl,_,_,rfl,rfl,.inl ⟨by ext,by ext⟩,_,_,rfl,rfl,_,_,rfl,rfl,.inr ⟨by lia,by lia⟩,_,rfl,_,_,rfl,rfl,.inl ⟨by ext,by ext⟩,_,rfl,_,_,rfl,rfl,.inr ⟨by lia,by lia⟩,_,_,rfl,rfl,_,rfl,_,_,rfl,rfl,.inl ⟨by ext,by ext⟩,_,_,rfl,rfl,_,rfl,_,_,rfl,rfl,⟨by ext,by ext,?_⟩,_,_,rfl,rfl,(by change (0:Int)<2147483647;decide),?_⟩;change ((B % 2147483549+70009) * (2 * a+1)+6133 * a * a+577 * a).natAbs<2 ^ 64;lia;generalize bd:(((B % 2147483549+70009) * (2 * a+1)+6133 * a * a+577 * a) ^ (5:Int).toNat:Int)=w1;have w0:=cI w1 (show (2147483647:Int)≠0 by ext);have w2:=cb w1 (show (0:Int)<2147483647 by ext);show⟨_,rfl,_,rfl,_,_,rfl,rfl,.inl ⟨by ext,by ext⟩,_,_,rfl,rfl,_,_,rfl,rfl,_,_,rfl,rfl,⟨by ext,by ext,?_⟩,_,_,rfl,rfl,(by change (0:Int)<2147483587;decide),?_⟩;change (w1 % 2147483647+5 * a+1).natAbs<2 ^ 64;lia;show⟨_,rfl,_,_,rfl,rfl,⟨by ext,by ext⟩,_,rfl,_,_,rfl,rfl,(by change (0:Int)<yH;lia),?_⟩;exact k _ _ (cI _ (by lia)) (cb _ (by lia)) ⟨⟨a+1,l,I,by lia,by lia,ag⟩,J,O⟩ al
def zP (T:Txt K mg t):FnOk P w K mg base CX0 1 t.f1 t.d1 lh (spV 2 false zjw):=FnOk.lift (FnOk.mono (zcg T) (by ext)) zkV
def zf7 (T:Txt K mg t):FnOk P w K mg base CX0 2 t.f2 t.d2 lz zo6:=by
 have G1:FnOk P w K mg base CX0 1 t.f1 t.d1 lh zlU:=zcg T;show T.q2.F.okQ zco (λvs H Q E h=>?_) (λap A ad s H vs Q E hr h=>?_);obtain⟨p,c,a,ns,n,xs,rfl,_⟩:=h;rfl;obtain⟨p,c,a,ns,n,xs,rfl,hP,hn,hx,ha,k⟩:=h
 show⟨_,(zW (ua (i:=2) zco.nd rfl (Or.inr rfl) (zat uD (by rfl) T.b_list bY (zG (qv 1) ye)))
  (xq (uY (ziu (N:=lN) (cix:=[none,some 2,some 0]) rfl (by walk_at "c") (ze4 (qv 1)) (λ_ _ _ _=>(x9 (i:=0) (show (lN:AM).Nodup by decide +kernel) rfl (Or.inl rfl))) (λ_ _ _ _=>zfa) (λ_ _ _ _=>(zrb K rfl (qv 1) (zG (zje T.q1 G1 hr (zG (qv 2) (zG (xp (zpt K rfl) (by rfl) T.b_len aN (zG (qv 1) ye)) ye))) ye))))))),?_⟩
 show⟨_,rfl,a,xs,rfl,.inl (.of ha),λb H1 U Y S1=>?_⟩;show⟨_,rfl,a,rfl,⟨_,.of (S1 _ _ ha)⟩,λacc q=>?_⟩;have P1:=hP.same S1;have ag:c≠acc:=zc P1.ls q;have I:b≠acc:=zc Y q;have al:c≠b:=zc hP.ls U
 show zjQ (xs:=xs) q (λi J H'=>(∃v,J=[v,some (.ref b),some (.ref p)])/\∃ys zs:AT,H' acc=some (.lst ys)/\H' b=some (.lst zs)/\(ys++zs).Perm xs/\ys.length=i/\Pen H' p c ns (n+i)/\zB H H')
  (λH' z1 z2=>⟨⟨_,rfl⟩,[],xs,z1,z2 _ _ Y,.refl _,rfl,P1.same z2,zB.same (S1.trans z2)⟩) (λ_ _ _ _ ⟨_,_,_,_,_,_,_,_,S⟩=>.of (S.lst ha)) ?_ ?_
 rintro i y J H' an ⟨⟨v,rfl⟩,ys,zs,L,hb,O,hi,P',S'⟩;have as:=(ac.mp an).1;have hz:=O.length_eq;rw[ak,hi] at hz;show zom ⟨_,rfl,.inl ⟨rfl,_,SqL.of hb⟩,_,rfl,_,rfl,_,_,rfl,.inl ⟨_,.of hb,rfl⟩,p,c,ns,n+i,(zs.length:Int),rfl,P',by lia,by lia,by lia,λr H2 r0 r1 P2 S2=>?_⟩;have hk:r.toNat<zs.length:=by lia
 have Z:=S2.lst hb;have B:=S2.lst L;show⟨b,zs,r,r.toNat,zs[r.toNat],rfl,rfl,Z,by lia,by lia,L3.zo4 r0 r1,ai hk,ys,by rw[zg (Ne.symm I)];exact B,aG (by lia:ys.length<=100000) (by ext),⟨_,rfl⟩,ys++[zs[r.toNat]],zs.eraseIdx r.toNat,zh,by rw[zg I];exact zh,L3.ziT hk O,by rw[ak,hi];rfl,(P2.app Z al).app (by rw[zg (Ne.symm I)];exact B) ag,?_⟩;have Sa:zB H (upd H2 b (.lst (zs.eraseIdx r.toNat))):=ziE U (S'.trans S2);exact ziE (S1.free q) Sa;rintro J H' ⟨⟨v,rfl⟩,ys,zs,L,hb,O,hi,P',S'⟩;have hz:=O.length_eq;rw[ak,hi] at hz;have:zs=[]:=bn (by lia);subst this;rw[dF] at O;exact k acc ys H' (S1.free q) L O P' S'
def uL (T:Txt K mg t):FnOk P w K mg base CX0 2 t.f2 t.d2 lz (spV 2 true zjy):=FnOk.lift (FnOk.mono (zf7 T) (by ext)) zkW
def zmp  : FV:=λPn B n R=>∃ (p:Addr) (q:Int),B=[.pen p,.d (.int q)]/\(IsP Pn p)/\(n+30<=1000000)/\(4<=q)/\(q<=256)/\(∀rm m,RoomOk rm->yD rm<=q->m<=n+20->R (.d (stD rm)) m)
def zmp.i{q:Int}(B:IsP Pn p)(F:4<=q)(I:q<=256)(h:∀rm m,RoomOk rm->yD rm<=q->m<=n+20->R (.d (stD rm)) m)(J:n+30<=1000000:=by lia):zmp Pn [.pen p,.d (.int q)] n R:=⟨p,q,rfl,B,J,F,I,h⟩
def zeQ (T:Txt K mg t):FnOk P w K mg base CX0 2 t.f3 t.d3 lK (spV 2 false zmp):=by
 have G1:=zP (P:=P) (w:=w) (base:=base) T
 show Fun.okW (k:=1) (fr:=false) [4] 5 T.q3.F yy rfl (by ext) rfl λa5 A ap s H E Pn O=>⟨_,(zb (wS zo <| zD (i:=2) yy.nd (wE zr <| yS T.q1 G1 O (za (kv 0) (za zm zf))))
   (zb (wS zo <| zkO (i:=3) (zcz (ix:=3) yy.nd rfl rfl (N:=[A5,Ao]) (cix:=[none,some 0]) rfl (by walk_at "c") (wI xy <| yp rfl T.b_range (zi (JE.bo (yY yd uk (JE.bo zm) (JE.bo (wE zr <| yS T.q1 G1 O (za (kv 0) (za zm zf)))))) zn)) (λ_ _ _ _=>(wG zK <| zl (i:=0) (show ([A5,Ao]:AM).Nodup by decide +kernel))) (λ_ _ _ _=>yV) (λ_ _ _ _=>(yY yd uk (JE.bo zm) (JE.bo (wE zr <| yS T.q1 G1 O (za (kv 1) (za zm zf))))))))
   (zb (wS zu <| zZ (wT zk <| zx yF zae (kb 2) (JE.bo zm) (zw _)) (ze (wS zo <| zD (i:=3) yy.nd (uA yv uS (JE.bo (yP (za (yP (za zm zf)) (za (yY zoM zpd (JE.bo (yP (za zm zf))) (JE.bo zm)) (za (yY zoM zpd (JE.bo (yP (za zm zf))) (JE.bo zm)) zf))))) (JE.bo (wE zr <| yS T.q1 G1 O (za (kv 0) (za zm zf)))) (λ_ _=>rfl)))) zy)
   (zb (wS yr <| xC (i:=4) yy.nd (yP zf))
   (zb (wS zo <| zD (i:=5) yy.nd (kv 1))
   (zb (yq aH rfl (wI xb <| y9 K rfl (kv 3)) (wG zK <| zl (i:=6) yy.nd) (ze (wS zu <| zZ (wT zk <| zx zqE zw9 (kb 6) (kb 5) (zw _)) (zb (wS uH <| zbn 4 (kv 6))
   (ze (wS zo <| zD (i:=5) yy.nd (yY zeX zuP (kb 5) (kb 6))))) zy)))
   (ze (zI (xm yN za9 (by rfl) T.b_tuple bv (zi (kb 4) zn)))))))))),λU n R hF=>?_⟩
 obtain⟨p,q,rfl,hP,hn,m1,m2,r⟩:=hF;left;show dc hP λas w0 w1=>?_;left;show dc hP λt t0 t1=>?_;left;show⟨⟨by lia,by lia⟩,?_⟩;rw[uO];show zfC (List.range (1+t).toNat) (λk:Nat=>W.d (.int (k:Int))) rfl (by rw[ay];exact af (by lia:_<=100) (by ext)) (λi Z n' acc=>n'=n+2+i/\i<=6/\∃ (v:Option W) (U:AG),Z=[v,some (.pen p)]/\acc=U.map Dt.int/\(∀r∈U,2<=r/\r<=4)/\U.length=i) ⟨by lia,by lia,none,[],rfl,rfl,by simp,rfl⟩ ?_ ?_;rintro i k Z n' acc hk ⟨rfl,hi,v,U,rfl,rfl,hb,hl⟩ C hC;have av:=(ac.mp hk).1;rw[ay] at av;left;show dc hP λx x0 x1=>?_
 exact hC ⟨by lia,by lia,_,U++[2+x],rfl,by rw[aE];rfl,λr O=>by
  rcases aI.mp O with z | z;exact hb r z;rw[ao.mp z];lia,by rw[ak,hl];rfl⟩
 rintro Z n' acc ⟨rfl,hi,v,U,rfl,rfl,hb,hl⟩;rw[ay] at hi hl;rw[ay];left;refine' zk7 (λ(zs:AG) (n1:Nat)=>(∀r∈zs,2<=r/\r<=4)/\zs≠[]/\n1<=n+12) _ (λzQ=>?_) ?_;rotate_left;show yw (λ_=>?_) (λ_=>?_);left;show⟨⟨by ext,by ext,by ext⟩,?_⟩;left;show⟨⟨by ext,by ext,by ext⟩,?_⟩;left;show dc hP λx x0 x1=>?_;left;show zqx x0 x1 λy hy=>?_
 obtain⟨zs,rfl,hz,a0⟩:∃zs:AG,y=lsD zs/\(∀r∈zs,2<=r/\r<=4)/\zs≠[]:=by
  simp only[aF,cQ,or_false] at hy;rcases hy with rfl | rfl | rfl;exact⟨[4],rfl,by ext,by ext⟩;exact⟨[2,2,2,2,2,2,2,2],rfl,by ext,by ext⟩;exact⟨[4,4,4,4],rfl,by ext,by ext⟩
 left;generalize hk:n+2+(1+t).toNat+1=n1;exact zQ zs n1 ⟨hz,a0,by lia⟩;left;generalize hk:n+2+(1+t).toNat=n1;exact zQ U n1 ⟨hb,λz=>by rw[z] at hl;simp at hl;lia,by lia⟩;rintro U n1 ⟨hb,a1,a7⟩;show zR U (λi=>.d (.int i)) (by rw[aB];rfl) (λi ρ m=>m=n1/\∃ (I:AG) (L:Int) (v6:Option W),ρ=[some (.pen p),some (.d (.int q)),some (.d (.int as)),some (.d (lsD U)),some (.d (lsD I)),some (.d (.int L)),v6]/\(∀r∈I,2<=r/\r<=4)/\yD I * L<=q/\1<=L/\L<=q/\(i=0->L=q)/\(1<=i->I≠[])) ⟨rfl,[],q,_,rfl,by simp,by change 1 * q<=q;lia,by lia,by lia,λ_=>rfl,by lia⟩ ?_ ?_;rintro i a ρ m ha ⟨rfl,I,L,v6,rfl,J,hp,Y,ag,al,ad⟩ C B E hC _ _;have an:=hb a (ar ha);have a2:=zbB (ns:=I) λr O=>by have:=J r O;lia
 have h8:I.length<=8:=zci J (by have:yD I * 1<=yD I * L:=cm Y (by lia);lia);left;show yw (λh=>?_) (λh=>?_);obtain⟨q1,q2,q3⟩:=zlM J an hp h;left;show⟨by rw[ab];exact aG h8 (by ext),?_⟩;left;show⟨⟨by lia,by lia⟩,hC ⟨rfl,I++[a],L / a,some (.d (.int a)),?_,?_,q1,q2,by lia,by lia,λ_=>by simp⟩⟩;rw[show lsD (I++[a])=Dt.lst (I.map Dt.int++[Dt.int a]) by unfold lsD;rw[aE];rfl];intro r O;rcases aI.mp O with z | z;exact J r z;rw[ao.mp z];exact an;left
 exact hC ⟨rfl,I,L,_,rfl,J,hp,Y,ag,λz=>by lia,λ_=>by
  by_cases h0:i=0;have:=al h0;lia;exact ad (by lia)⟩
 rintro ρ m ⟨rfl,I,L,v6,rfl,J,hp,Y,ag,al,ad⟩;have a2:=zbB (ns:=I) λr O=>by have:=J r O;lia
 have a3:yD I<=q:=by have:yD I * 1<=yD I * L:=cm Y (by lia);lia
 have a4:0<U.length:=dr.mpr a1;left;exact r I _ ⟨ad (by lia),zci J (by lia),J⟩ a3 (by lia)
def zcG  : FV:=λPn q n R=>∃ (rm:AG),q=[.d (stD rm)]/\(RoomOk rm)/\(R (.d (xj (yZ (rm.map zp)))) n)
def zcG.i{rm:AG}(q:RoomOk rm)(h:R (.d (xj (yZ (rm.map zp)))) n)  : zcG Pn [.d (stD rm)] n R:=⟨rm,rfl,q,h⟩
def yI (T:Txt K mg t):FnOk P w K mg base CX0 1 t.f4 t.d4 lB (spV 1 false zcG):=by
 show Fun.okW (k:=0) (fr:=false) [3] 4 T.q4.F z5 rfl (by ext) rfl λal A U s H E Pn hr=>⟨_,(zb (wS zo <| zD (i:=1) z5.nd (yP (za (xL zf) zf)))
   (zb (yq aH rfl (wI za5 <| zcU K rfl (kv 0)) (wG zK <| zl (i:=2) z5.nd) (zb (wS yr <| xC (i:=3) z5.nd (yP zf))
   (zb (yq aH rfl (wI xb <| y9 K rfl (kv 1)) (wG zK <| zl (i:=4) z5.nd) (ze (wS zhj <| zkN 3 (xY (N:=lE) (cix:=[none,some 4]) rfl (by walk_at "c") (wI xy <| yp rfl T.b_range (zi (kb 2) zn)) (λ_ _ _ _=>(wG zK <| zl (i:=0) (show (lE:AM).Nodup by decide +kernel))) (λ_ _ _ _=>yV) (λ_ _ _ _=>(yY yt xK (kb 1) (JE.bo (xL (za (kv 0) zf)))))))))
   (ze (wS zeK <| zhd (i:=1) 3 z5.nd rfl (Or.inl rfl))))))
   (ze (zI (kv 1))))),λws n R hF=>?_⟩
 obtain⟨rm,rfl,Y,r⟩:=hF;left;have h8:=Y.few;show zR rm (λi=>.d (.int i)) (by rw[aB];rfl) (λi ρ m=>m=n/\∃ (Z v3 L:Option W),ρ=[some (.d (stD rm)),some (.d (xj (yZ ((rm.take i).map zp)))),Z,v3,L]) ⟨rfl,_,_,_,rfl⟩ ?_ ?_;rintro i a ρ m ha ⟨rfl,Z,v3,L,rfl⟩ C B E hC _ _;have hm:=Y.box a (ar ha);have O:=zel h8 Y.box i;have J:∀st∈yZ ((rm.take i).map zp),st.length<=8:=λst ad=>by rw[zek _ _ ad,ab,aV];lia
 have q:xT (yZ ((rm.take i).map zp)) (zp a)=yZ ((rm.take (i+1)).map zp):=by rw[zj ha,aE,az,dZ,xk]
 generalize yZ ((rm.take i).map zp)=rows at O J q;left;show zR rows (λst=>.d (stD st)) (by rw[aB];rfl) (λj ρ m'=>m'=m/\∃L,ρ=[some (.d (stD rm)),some (.d (xj rows)),some (.d (.int a)),some (.d (xj (xT (rows.take j) (zp a)))),L]) ⟨rfl,_,rfl⟩ ?_ ?_;rintro j I ρ m' hj ⟨rfl,L,rfl⟩ C' B' E' ag _ _;have an:=J I (ar hj);have ap:=(ac.mp hj).1;left;show⟨⟨by lia,by lia⟩,?_⟩;rw[uO];show zbd (List.range a.toNat) (λk:Nat=>W.d (.int (k:Int))) rfl (λρ=>∃v,ρ=[v,some (.d (stD I))]) (λk:Nat=>stD (I++[(k:Int)])) (by rw[ay];exact af (by lia:_<=4) (by ext)) ⟨_,rfl⟩ ?_ ?_;rintro k hk as ⟨v,rfl⟩ D hD;left;show⟨len1 (by lia),?_⟩;rw[cat1];exact hD ⟨_,rfl⟩;have e:(List.range a.toNat).map (λk:Nat=>stD (I++[(k:Int)]))=((zp a).map λw=>I++[w]).map stD:=by unfold zp;rw[aB,aB];rfl
 rw[e];have hl:(xT (rows.take j) (zp a)).length=(rows.take j).length * a.toNat:=by rw[ut,yU]
 have av:(rows.take j).length * a.toNat<=65536 * 4:=Nat.mul_le_mul (by rw[aV];lia) (by lia);show⟨?_,?_⟩;rw[ab,ab,ab,yU,hl];exact af (by lia:_<=300000) (by ext);rw[<- aE,<- zcN,<- zj hj];exact ag ⟨rfl,_,rfl⟩;rintro ρ m' ⟨rfl,L,rfl⟩;rw[aT,q];left;exact hC ⟨rfl,_,_,_,rfl⟩;rintro ρ m ⟨rfl,Z,v3,L,rfl⟩;rw[aT];left;exact r
def zms  : FV:=λPn B n R=>∃ (p:Addr) (q:Int),B=[.pen p,.d (.int q)]/\(IsP Pn p)/\(n+10<=1000000)/\(2<=q)/\(q<=4)/\(∀a b,0<=a->a<q->0<=b->b<q->a≠b->R (.d (.tup [.int a,.int b])) (n+2))
def zms.i{q:Int}(B:IsP Pn p)(h2:2<=q)(F:q<=4)(h:∀a b,0<=a->a<q->0<=b->b<q->a≠b->R (.d (.tup [.int a,.int b])) (n+2))(I:n+10<=1000000:=by lia):zms Pn [.pen p,.d (.int q)] n R:=⟨p,q,rfl,B,I,h2,F,h⟩
def zf9 (T:Txt K mg t):FnOk P w K mg base CX0 2 t.f5 t.d5 lh (spV 2 false zms):=by
 have G1:=zP (P:=P) (w:=w) (base:=base) T
 show Fun.okW (k:=1) (fr:=false) [] 1 T.q5.F zdr rfl (by ext) rfl λU A I s H E Pn L=>⟨_,(zb (wS zo <| zD (i:=2) zdr.nd (wE zr <| yS T.q1 G1 L (za (kv 0) (za (kv 1) zf))))
   (ze (zI (xL (za (kv 2) (za (yY zaV zrQ (JE.bo (yY yd uk (JE.bo (yY yd uk (kb 2) (JE.bo zm))) (JE.bo (wE zr <| yS T.q1 G1 L (za (kv 0) (za (yY zoN zuR (kb 1) (JE.bo zm)) zf)))))) (kb 1)) zf)))))),λws n R Y=>?_⟩
 obtain⟨p,q,rfl,O,hn,h2,h4,r⟩:=Y;left;show dc O λB Z w1=>?_;left;show dc O λt t0 t1=>?_;left;show⟨by lia,?_⟩;have c0:=cI (B+1+t) (show q≠0 by lia);have c1:=cb (B+1+t) (show 0<q by lia)
 have J:(B+1+t) % q≠B:=by
  have h3:q=2\/q=3\/q=4:=by lia
  rcases h3 with rfl | rfl | rfl <;> lia
 exact r _ _ Z w1 c0 c1 (Ne.symm J)
def zjx  : FV:=λPn q n R=>∃ (p:Addr) (rm:AG),q=[.pen p,.d (stD rm)]/\(IsP Pn p)/\(n+60<=1000000)/\(RoomOk rm)/\(∀x m,WishOk rm x->m<=n+30->R (.d (zU x)) m)
def zjx.i{rm:AG}(q:IsP Pn p)(B:RoomOk rm)(h:∀x m,WishOk rm x->m<=n+30->R (.d (zU x)) m)(F:n+60<=1000000:=by lia):zjx Pn [.pen p,.d (stD rm)] n R:=⟨p,rm,rfl,q,F,B,h⟩
def zby (T:Txt K mg t):FnOk P w K mg base CX0 3 t.f6 t.d6 lc (spV 2 false zjx):=by
 have G1:=zP (P:=P) (w:=w) (base:=base) T;have G5:=zf9 (P:=P) (w:=w) (base:=base) T
 show Fun.okW (k:=2) (fr:=false) [4] 6 T.q6.F yQ rfl (by ext) rfl λas A ad s H E Pn U=>⟨_,(zb (wS zo <| zD (i:=2) yQ.nd (wE zr <| yS T.q1 G1 U (za (kv 0) (za (zM ym xP (by rfl) T.b_len aN (zi (kb 1) zn)) zf))))
   (zb (wS zo <| zD (i:=3) yQ.nd (yY yd uk (JE.bo zm) (JE.bo (wE zr <| yS T.q1 G1 U (za (kv 0) (za zm zf))))))
   (zb (wS yr <| xC (i:=4) yQ.nd (yP zf))
   (zb (yq aH rfl (wI xy <| yp rfl T.b_range (zi (JE.bo (zM ym xP (by rfl) T.b_len aN (zi (kb 1) zn))) zn)) (wG zK <| zl (i:=5) yQ.nd) (ze (wS zu <| zZ (JW.t (wW zbY <| zdS (wT zk <| zx zeY zpc (kb 5) (kb 2) (zw _)) (zao (.inl rfl) (wT zk <| zx yF zae (JE.bo (wE zr <| yS T.q1 G1 U (za (kv 0) (za (kv 3) zf)))) (JE.bo zm) (zw _))))) (ze (wS uH <| zbn 4 (xL (za (kv 5) (za (wE zr <| yS T.q1 G1 U (za (kv 0) (za (uA yR ul (kb 1) (kb 5) (λ_ _=>rfl)) zf))) zf))))) zy)))
   (zb (zoz (wE zr <| yS T.q5 G5 U (za (kv 0) (za (uA yR ul (kb 1) (kb 2) (λ_ _=>rfl)) zf))) (wG uV <| uW (n:=2) K rfl rfl (wH yn <| zH (wG zK <| zl (i:=6) yQ.nd) (wH yn <| zH (wG zK <| zl (i:=7) yQ.nd) (wH uU xM)))))
   (ze (zI (xL (za (xm yN za9 (by rfl) T.b_tuple bv (zi (kb 4) zn)) (za (kv 2) (za (kv 6) (za (kv 7) zf)))))))))))),λws n R hF=>?_⟩
 obtain⟨p,rm,rfl,Y,hn,hR,r⟩:=hF;left;have h8:=hR.few;have ap:=hR.pos;rw[ab];show dc Y λI b0 b1=>?_;have hm:=uy hR.box b0 b1;left;show dc Y λsh s0 s1=>?_;left;rw[ab];show⟨⟨by lia,by lia⟩,zdP (λi ρ m=>m<=n+2+2 * i/\i<=rm.length/\∃g O,ρ=[some (.pen p),some (.d (stD rm)),some (.d (.int I)),some (.d (.int (2+sh))),some (.d (.lst (g.map ub))),O,none,none]/\Giv rm g/\(∀q∈g,q.1≠I)/\(∀q∈g,q.1<(i:Int))/\g.length<=i) ⟨by lia,aK _,[],_,rfl,⟨by simp,.nil⟩,by simp,by simp,aK _⟩ ?_ ?_⟩;rintro i ρ m hi ⟨ag,al,g,O,rfl,hG,J,L,an⟩ C B E hC _ _;have av:=uy hR.box (b:=(i:Int)) (by lia) (by lia);have Z:∀m',m'<=m+1->∀O,C [some (.pen p),some (.d (stD rm)),some (.d (.int I)),some (.d (.int (2+sh))),some (.d (.lst (g.map ub))),O,none,none] m':=λm' a2 O=>hC ⟨by lia,by lia,g,_,rfl,hG,J,λq hq=>by have:=L q hq;lia,by lia⟩;left;show zgd (λhb=>?_) (λ_=>⟨Z _ (by lia) _⟩);left;show dc Y λt t0 t1=>?_;left;show yw (λ_=>?_) (λ_=>⟨Z _ (by lia) _⟩);left;show onA (by lia) (by lia) ?_;left;show dc Y λu u0 u1=>?_;left;show⟨by rw[ab];exact aG (by lia:_<=8) (by ext),hC ⟨by lia,by lia,g++[((i:Int),u)],_,by rw[aE];rfl,hG.snoc L (by lia) (by lia) u0 u1,λq hq=>?_,λq hq=>?_,by rw[ak];simp;lia⟩⟩;rcases aI.mp hq with z | z;exact J q z;rw[ao.mp z];exact hb;rcases aI.mp hq with z | z;have:=L q z;lia;rw[ao.mp z];change (i:Int)<((i+1:Nat):Int);lia;rintro ρ m ⟨ag,al,g,O,rfl,hG,J,L,an⟩;left;show onA b0 b1 ?_;left;show zms.i Y hm.1 hm.2 λa b a0 a1 c0 c1 ne=>?_;left;exact r ⟨g,I,a,b⟩ _ ⟨hG,b0,b1,J,a0,a1,c0,c1,ne⟩ (by lia)
def zmn  : FV:=λPn F n R=>∃ (rm B:AG),F=[.d (stD rm),.d (lsD B)]/\(RoomOk rm)/\(B.Nodup)/\(∀b∈B,0<=b/\b<rm.length)/\(B.length<=2)/\(∀gs:List (List (Int×Int)),(∀g∈gs,Giv rm g/\∀q∈g,q.1∈B)->gs.length<=16->R (.d (.lst (gs.map zg0))) n)
def zmn.i{rm B:AG}(F:RoomOk rm)(I:B.Nodup)(J:∀b∈B,0<=b/\b<rm.length)(h2:B.length<=2)(h:∀gs:List (List (Int×Int)),(∀g∈gs,Giv rm g/\∀q∈g,q.1∈B)->gs.length<=16->R (.d (.lst (gs.map zg0))) n)  : zmn Pn [.d (stD rm),.d (lsD B)] n R:=⟨rm,B,rfl,F,I,J,h2,h⟩
def zb2 (T:Txt K mg t):FnOk P w K mg base CX0 1 t.f7 t.d7 lG (spV 2 false zmn):=by
 show Fun.okW (k:=0) (fr:=false) [4] 4 T.q7.F yf rfl (by ext) rfl λa2 A al s H E Pn hr=>⟨_,(zb (wS zo <| zD (i:=2) yf.nd (yP (za (xL zf) zf)))
   (zb (yq aH rfl (wI xb <| y9 K rfl (zM zmC zrS (by rfl) T.b_sorted dD (zi (kb 1) zn))) (wG zK <| zl (i:=3) yf.nd) (zb (wS yr <| xC (i:=4) yf.nd (yP zf))
   (zb (yq aH rfl (wI xb <| y9 K rfl (kv 2)) (wG zK <| zl (i:=5) yf.nd) (ze (wS zhj <| zkN 4 (xY (N:=lP) (cix:=[none,some 5,some 3]) rfl (by walk_at "c") (wI xy <| yp rfl T.b_range (zi (JE.bo (uA yR ul (kb 0) (kb 3) (λ_ _=>rfl))) zn)) (λ_ _ _ _=>(wG zK <| zl (i:=0) (show (lP:AM).Nodup by decide +kernel))) (λ_ _ _ _=>yV) (λ_ _ _ _=>(yY yt xK (kb 1) (JE.bo (xL (za (xL (za (kv 2) (za (kv 0) zf))) zf)))))))))
   (ze (wS zeK <| zhd (i:=2) 4 yf.nd rfl (Or.inl rfl))))))
   (ze (zI (kv 2))))),λws n R hF=>?_⟩
 obtain⟨rm,bs,rfl,hR,hN,hb,h2,r⟩:=hF;left;have h8:=hR.few;show⟨bs,rfl,by lia,λcs hp hs=>?_⟩;have an:cs.Nodup:=hp.nodup_iff.mpr hN;have ap:cs.Pairwise (· < ·):=(hs.and an).imp λ{a b} ⟨h1,h2⟩=>by lia
 have ad:∀c∈cs,c∈bs:=λc hc=>hp.mem_iff.mp hc;have a3:=hp.length_eq;left;show zR cs (λi=>.d (.int i)) (by rw[aB];rfl) (λi ρ m=>m=n/\∃ (gs:List (List (Int×Int))) (v3 v4 U:Option W),ρ=[some (.d (stD rm)),some (.d (lsD bs)),some (.d (.lst (gs.map zg0))),v3,v4,U]/\(∀g∈gs,Giv rm g/\∀q∈g,q.1∈cs.take i)/\gs.length<=4 ^ i) ⟨rfl,[[]],_,_,_,rfl,λg Y=>?_,by ext⟩ ?_ ?_;rw[ao.mp Y];exact⟨⟨by simp,.nil⟩,by simp⟩;rintro i c ρ m hc ⟨rfl,gs,v3,v4,U,rfl,J,as⟩ C B E hC _ _;have I:=hb c (ad c (ar hc));have a4:=uy hR.box I.1 I.2;have hi:=(ac.mp hc).1;have av:4 ^ i<=4:=cq (by ext) (by lia:i<=1);have ag:∀x∈cs.take i,x<c:=λx hx=>by obtain⟨j,hj,rfl⟩:=bF.mp hx;rw[aV] at hj;have:=b7.mp ap j i (by lia) hi (by lia);rw[(ac.mp hc).2] at this;rw[fD];exact this
 left;show zR gs (λg=>.d (zg0 g)) (by rw[aB];rfl) (λj ρ m'=>m'=m/\∃ (lg:List (List (Int×Int))) (U:Option W),ρ=[some (.d (stD rm)),some (.d (lsD bs)),some (.d (.lst (gs.map zg0))),some (.d (.int c)),some (.d (.lst (lg.map zg0))),U]/\(∀g∈lg,Giv rm g/\∀q∈g,q.1∈cs.take (i+1))/\lg.length<=j * 4) ⟨rfl,[],_,rfl,by simp,by simp⟩ ?_ ?_;rintro j g ρ m' Y ⟨rfl,lg,U,rfl,Z,a0⟩ C' B' E' a1 _ _;have L:=J g (ar Y);have a5:=zkm L.1 h8;have hj:=(ac.mp Y).1;left;show onA I.1 I.2 ?_;left;show⟨⟨by lia,by lia⟩,?_⟩;rw[uO];show zbd (List.range (yH rm c).toNat) (λk:Nat=>W.d (.int (k:Int))) rfl (λρ=>∃v,ρ=[v,some (.d (zg0 g)),some (.d (.int c))]) (λk:Nat=>zg0 (g++[(c,(k:Int))])) (by rw[ay];exact af (by lia:_<=4) (by ext)) ⟨_,rfl⟩ ?_ ?_;rintro k hk a7 ⟨v,rfl⟩ D hD;left;show⟨by rw[ab];exact af (by simp;lia:_<=101) (by ext),?_⟩;rw[show g.map ub++[Dt.tup [Dt.int c,Dt.int (k:Int)]]=(g++[(c,(k:Int))]).map ub by rw[aE];rfl];exact hD ⟨_,rfl⟩;have e:(List.range (yH rm c).toNat).map (λk:Nat=>zg0 (g++[(c,(k:Int))]))=((List.range (yH rm c).toNat).map λk:Nat=>g++[(c,(k:Int))]).map zg0:=by rw[aB];rfl
 rw[e];show⟨by rw[ab,ab,ab,ay];exact af (by lia:_<=100) (by ext),?_⟩;rw[<- aE];show a1 ⟨rfl,_,_,rfl,λz hz=>?_,by rw[ak,ab,ay];lia⟩;rcases aI.mp hz with hz | hz;exact Z z hz;obtain⟨k,hk,rfl⟩:=au.mp hz;have hk:=aU.mp hk;show⟨L.1.snoc (λq O=>ag _ (L.2 q O)) I.1 I.2 (by lia) (by lia),λq O=>?_⟩;rw[zj hc];rcases aI.mp O with O | O;exact bE _ (L.2 q O);rw[ao.mp O];exact aX _ (by simp);rintro ρ m' ⟨rfl,lg,U,rfl,Z,a0⟩;left;exact hC ⟨rfl,lg,_,_,_,rfl,Z,by rw[Nat.pow_succ];lia⟩;rintro ρ m ⟨rfl,gs,v3,v4,U,rfl,J,as⟩;rw[aT] at J;have av:4 ^ cs.length<=16:=cq (by ext) (by lia:cs.length<=2);left;exact r gs (λg Y=>⟨(J g Y).1,λq O=>ad _ ((J g Y).2 q O)⟩) (by lia)
def zjv  : FV:=λPn q n R=>∃ (p:Addr) (rm:AG),q=[.pen p,.d (stD rm)]/\(IsP Pn p)/\(n+2000<=1000000)/\(RoomOk rm)/\(∀bk m,xu rm bk->bk.length<=400->m<=n+1000->R (.d (.lst (bk.map zU))) m)
def zjv.i{rm:AG}(q:IsP Pn p)(B:RoomOk rm)(h:∀bk m,xu rm bk->bk.length<=400->m<=n+1000->R (.d (.lst (bk.map zU))) m)(F:n+2000<=1000000:=by lia):zjv Pn [.pen p,.d (stD rm)] n R:=⟨p,rm,rfl,q,F,B,h⟩
def zb1 (T:Txt K mg t):FnOk P w K mg base CX0 3 t.f8 t.d8 lc (spV 2 true zjv):=by
 have G1:=zP (P:=P) (w:=w) (base:=base) T;have G2:=uL (P:=P) (w:=w) (base:=base) T;have G7:=zb2 (P:=P) (w:=w) (base:=base) T
 show Fun.okW (k:=2) (fr:=true) [3] 8 T.q8.F zL rfl (by ext) rfl λb4 A a7 s H E Pn hr=>⟨_,(zb (wS zo <| zD (i:=2) zL.nd (wE zr <| yS T.q2 G2 hr (za (kv 0) (za (wE uI <| zbm T.b_list T.b_range (zi (JE.bo (zM ym xP (by rfl) T.b_len aN (zi (kb 1) zn))) zn)) zf))))
   (zb (wS yr <| xC (i:=3) zL.nd (yP zf))
   (zb (yq aH rfl (wI zeI <| zeC rfl T.b_enumerate (za (kv 2) zf)) (wG uV <| uW (n:=2) K rfl rfl (wH yn <| zH (wG zK <| zl (i:=4) zL.nd) (wH yn <| zH (wG zK <| zl (i:=5) zL.nd) (wH uU xM)))) (zb (wS zo <| zD (i:=6) zL.nd (wE zO <| xn (JE.bo (xY (N:=[Ar,Ao]) (cix:=[none,some 0]) rfl (by walk_at "c") (wI xb <| y9 K rfl (wE zO <| xn (kb 2) zz (wO zq <| zA (kb 4)))) (λ_ _ _ _=>(wG zK <| zl (i:=0) (show ([Ar,Ao]:AM).Nodup by decide +kernel))) (λ_ _ _ _=>(zbX (wT zk <| zx yF zae (JE.bo (wE zr <| yS T.q1 G1 hr (za (kv 1) (za zm zf)))) (JE.bo zm) (zw _)))) (λ_ _ _ _=>(kv 0)))) zz (wO zq <| zA (JE.bo zm))))
   (ze (yq aH rfl (wI xb <| y9 K rfl (wE zr <| yS T.q7 G7 hr (za (kv 1) (za (kv 6) zf)))) (wG zK <| zl (i:=7) zL.nd) (zb (wS zo <| zD (i:=8) zL.nd (wE zr <| yS T.q2 G2 hr (za (kv 0) (za (wE uI <| zbm T.b_list T.b_range (zi (JE.bo (uA yR ul (kb 1) (kb 5) (λ_ _=>rfl))) zn)) zf))))
   (ze (yq aH rfl (wI xy <| yp rfl T.b_range (zi (JE.bo (yY zoN zuR (JE.bo (zM ym xP (by rfl) T.b_len aN (zi (kb 8) zn))) (JE.bo zm))) zn)) (wG zK <| zl (i:=9) zL.nd) (ze (wS uH <| zbn 3 (xL (za (kv 7) (za (kv 5) (za (uA yv uS (kb 8) (kb 9) (λ_ _=>rfl)) (za (uA yv uS (kb 8) (JE.bo (yY yd uk (kb 9) (JE.bo zm))) (λ_ _=>rfl)) zf))))))))))))))
   (ze (wS uJ <| za3 3))))),λws n R hF=>?_⟩
 obtain⟨p,rm,rfl,hP,hn,hR,r⟩:=hF;left;have h8:=hR.few;rw[ab];show⟨⟨by lia,by lia⟩,?_⟩;left;show tc hP (λl hl=>?_) (by rw[zaG];lia) (by rw[zaG];lia);rw[zaG];obtain⟨J,rfl,ag⟩:=zir hl;have av:J.Nodup:=ag.nodup_iff.mpr (zgn _);have a0:∀b∈J,0<=b/\b<rm.length:=λb hb=>by have:=zaD.mp (ag.mem_iff.mp hb);lia
 have ba:=ag.length_eq;rw[yU] at ba;left;have b3:J.length<=8:=by lia
 generalize b5:n+(rm.length:Int).toNat=n1;show zR (List.range J.length) (λi=>W.d (.tup [.int (i:Int),.int (J.getD i 0)])) (zpD J) (λi ρ m=>m<=n1+100 * i/\∃ (bk:AW) (v4 v5 v6 v7 v8 Y:Option W),ρ=[some (.pen p),some (.d (stD rm)),some (.d (.lst (J.map Dt.int))),some (.d (.lst (bk.map zU))),v4,v5,v6,v7,v8,Y]/\xu rm bk/\bk.length<=48 * i) ⟨by lia,[],_,_,_,_,_,_,rfl,by intro x hx;simp at hx,by simp⟩ ?_ ?_;rintro i k ρ m bb ⟨hm,bk,v4,v5,v6,v7,v8,Y,rfl,Z,L⟩ C B E hC _ _;obtain⟨O,a1⟩:=ac.mp bb;rw[ay] at O;rw[bB] at a1;subst a1;have I:=a0 _ (zbg O);have ad:=zrN av O;generalize J.getD i 0=box at I ad;have ca:=uy hR.box I.1 I.2;left;rw[xU,L3.zcx];have cc:(J.take i).length<=8:=by rw[aV];lia
 show zfC (J.take i) (λx=>W.d (.int x)) (by rw[aB];rfl) (af (by lia:_<=100) (by ext)) (λj al n' acc=>n'=m+j/\∃ (v:Option W) (ls:AG),al=[v,some (.pen p)]/\acc=ls.map Dt.int/\ls.Sublist ((J.take i).take j)) ⟨by lia,none,[],rfl,rfl,List.nil_sublist _⟩ ?_ ?_;rintro j x al n' acc hx ⟨rfl,v,ls,rfl,rfl,hs⟩ D hD;have cd:=(ac.mp hx).1;left;show dc hP (λt t0 t1=>?_) (by lia);left;show yw (λ_=>?_) (λ_=>?_);show hD ⟨by lia,_,ls++[x],rfl,by rw[aE];rfl,?_⟩;rw[zj hx];exact hs.append (List.Sublist.refl _);show hD ⟨by lia,_,ls,rfl,rfl,?_⟩;rw[zj hx];exact hs.trans (List.sublist_append_left _ _);rintro al n' acc ⟨rfl,v,ls,rfl,rfl,hs⟩;rw[aT] at hs;left;rw[xU,show (2:Int)=((2:Nat):Int) from rfl,L3.zcx];have an:=(dQ 2 ls).trans hs;have ap:∀x∈ls.take 2,x∈J/\x≠box:=λx hx=>⟨bG (an.subset hx),λe=>ad (by rw[<- e];exact an.subset hx)⟩;have a2:(ls.take 2).Nodup:=(av.sublist (dQ _ _)).sublist an;have a3:(ls.take 2).length<=2:=by rw[aV];lia
 generalize ls.take 2=lk at ap a2 a3;generalize ch:m+(J.take i).length=n2;left;show zmn.i hR a2 (λb hb=>a0 b (ap b hb).1) a3 λgs bd ci=>?_;left;show zR gs (λg=>.d (zg0 g)) (by rw[aB];rfl) (λj ρ m'=>m'<=n2+4 * j/\∃ (bk:AW) (v7 v8 Y:Option W),ρ=[some (.pen p),some (.d (stD rm)),some (.d (.lst (J.map Dt.int))),some (.d (.lst (bk.map zU))),some (.d (.int (i:Int))),some (.d (.int box)),some (.d (.lst (lk.map Dt.int))),v7,v8,Y]/\xu rm bk/\bk.length<=48 * i+3 * j) ⟨by lia,bk,_,_,_,rfl,Z,by lia⟩ ?_ ?_;rintro j g ρ m' hg ⟨bl,bk,v7,v8,Y,rfl,Z,L⟩ C' B' E' bx _ _;have a4:=bd g (ar hg);have hj:=(ac.mp hg).1;left;show onA I.1 I.2 ?_;left;show⟨⟨by lia,by lia⟩,?_⟩;left;show tc hP (λl hl=>?_) (by rw[zaG];lia) (by rw[zaG];lia);rw[zaG];obtain⟨U,rfl,as⟩:=zir hl;have b0:U.Nodup:=as.nodup_iff.mpr (zgn _);have b1:=as.length_eq;rw[yU] at b1;have a5:∀x∈U,0<=x/\x<yH rm box:=λx hx=>by have:=zaD.mp (as.mem_iff.mp hx);lia
 left;rw[ab];show⟨⟨by lia,by lia⟩,zdP (λk ρ m2=>m2=m'+(yH rm box).toNat/\∃ (bk:AW) (Y:Option W),ρ=[some (.pen p),some (.d (stD rm)),some (.d (.lst (J.map Dt.int))),some (.d (.lst (bk.map zU))),some (.d (.int (i:Int))),some (.d (.int box)),some (.d (.lst (lk.map Dt.int))),some (.d (zg0 g)),some (.d (.lst (U.map Dt.int))),Y]/\xu rm bk/\bk.length<=48 * i+3 * j+k) ⟨rfl,bk,_,rfl,Z,by lia⟩ ?_ ?_⟩;rintro k ρ m2 hk ⟨rfl,bk,Y,rfl,Z,L⟩ C2 B2 E2 b2 _ _;have O:k+1<U.length:=by lia
 left;show onA (cS k) (by lia) ?_;left;show onA (by lia) (by lia) ?_;rw[show ((k:Int)+1)=((k+1:Nat):Int) from rfl,zS,zS];have q1:=a5 _ (zbg (i:=k) (by lia));have q2:=a5 _ (zbg O)
 have q3:U.getD k 0≠U.getD (k+1) 0:=λe=>by
  have e1:U.getD k 0=U[k]:=by simp[show k<U.length by lia]
  have e2:U.getD (k+1) 0=U[k+1]:=by simp[O]
  rw[e1,e2] at e;have:=(cA b0).mp e;lia
 left;show⟨by rw[ab];exact aG (by lia:_<=1000) (by ext),?_⟩;show b2 ⟨rfl,bk++[⟨g,box,U.getD k 0,U.getD (k+1) 0⟩],_,by rw[aE];rfl,Z.app λy hy=>?_,by rw[ak];simp;lia⟩;rw[ao.mp hy];exact⟨a4.1,I.1,I.2,λq hq=>(ap _ (a4.2 q hq)).2,q1.1,q1.2,q2.1,q2.2,q3⟩;rintro ρ m2 ⟨rfl,bk,Y,rfl,Z,L⟩;left;exact bx ⟨by lia,bk,_,_,_,rfl,Z,by lia⟩;rintro ρ m' ⟨bl,bk,v7,v8,Y,rfl,Z,L⟩;left;exact hC ⟨by lia,bk,_,_,_,_,_,_,rfl,Z,by lia⟩;rintro ρ m ⟨hm,bk,v4,v5,v6,v7,v8,Y,rfl,Z,L⟩;rw[ay] at hm L;left;exact r bk m Z (by lia) (by lia)
def zvT (a b:AG):Nat:=((List.range a.length).filter λk=>!decide (a.getD k 0=b.getD k 0)).headD 0
def zcF  : FV:=λPn q n R=>∃ (rm a b:AG),q=[.d (stD a),.d (stD b)]/\(RoomOk rm)/\(StOk rm a)/\(StOk rm b)/\(a≠b)/\(∀x,WishOk rm x->x=zmQ a b (zvT a b)->R (.d (zU x)) n)
def zcF.i{rm a b:AG}(B:RoomOk rm)(F:StOk rm a)(I:StOk rm b)(q:a≠b)(h:∀x,WishOk rm x->x=zmQ a b (zvT a b)->R (.d (zU x)) n)  : zcF Pn [.d (stD a),.d (stD b)] n R:=⟨rm,a,b,rfl,B,F,I,q,h⟩
def uK (T:Txt K mg t):FnOk P w K mg base CX0 1 t.f9 t.d9 li (spV 2 false zcF):=by
 show Fun.okW (k:=0) (fr:=false) [] 2 T.q9.F zay rfl (by ext) rfl λag A B s H E Pn hr=>⟨_,(zb (wS zo <| zD (i:=2) zay.nd (uA yv uS (JE.bo (xY (N:=lS) (cix:=[none,some 0,some 1]) rfl (by walk_at "c") (wI xy <| yp rfl T.b_range (zi (JE.bo (zM ym xP (by rfl) T.b_len aN (zi (kb 0) zn))) zn)) (λ_ _ _ _=>(wG zK <| zl (i:=0) (show (lS:AM).Nodup by decide +kernel))) (λ_ _ _ _=>(zbX (wT zk <| zx zeY zpc (JE.bo (uA yR ul (kb 1) (kb 0) (λ_ _=>rfl))) (JE.bo (uA yR ul (kb 2) (kb 0) (λ_ _=>rfl))) (zw _)))) (λ_ _ _ _=>(kv 0)))) (JE.bo zm) (λ_ _=>rfl)))
   (zb (wS zo <| zD (i:=3) zay.nd (xm yN za9 (by rfl) T.b_tuple bv (zi (JE.bo (xY (N:=lT) (cix:=[none,some 0,some 2]) rfl (by walk_at "c") (wI xy <| yp rfl T.b_range (zi (JE.bo (zM ym xP (by rfl) T.b_len aN (zi (kb 0) zn))) zn)) (λ_ _ _ _=>(wG zK <| zl (i:=0) (show (lT:AM).Nodup by decide +kernel))) (λ_ _ _ _=>(zbX (wT zk <| zx zeY zpc (kb 0) (kb 2) (zw _)))) (λ_ _ _ _=>(xL (za (kv 0) (za (uA yR ul (kb 1) (kb 0) (λ_ _=>rfl)) zf)))))) zn)))
   (ze (zI (xL (za (kv 3) (za (kv 2) (za (uA yR ul (kb 1) (kb 2) (λ_ _=>rfl)) (za (uA yR ul (kb 0) (kb 2) (λ_ _=>rfl)) zf))))))))),λws n R hF=>?_⟩
 obtain⟨rm,a,b,rfl,hR,ha,hb,I,r⟩:=hF;left;have J:=ha.len;have L:=hb.len;have h8:=hR.few;rw[ab];show⟨⟨by lia,by lia⟩,?_⟩;rw[aP,uO];show zcM (List.range a.length) (λk:Nat=>W.d (.int (k:Int))) rfl (λρ=>∃v,ρ=[v,some (.d (stD a)),some (.d (stD b))]) (λk=>!decide (a.getD k 0=b.getD k 0)) (λk=>.int (k:Int)) (by rw[ay];exact af (by lia:a.length<=8) (by ext)) ⟨_,rfl⟩ ?_ ?_;rintro k q O ⟨v,rfl⟩ C U Y;have al:=aU.mp q;left;show onA (by lia) (by lia) ?_;left;show onA (by lia) (by lia) ?_;left;rw[zS,zS];show zgd (λh=>?_) (λh=>?_);exact U (by rw[bg h];rfl) ⟨_,rfl⟩;exact Y (by rw[a6 h];rfl) ⟨_,rfl⟩;obtain⟨k,zQ,q,Z,ad⟩:=zj7 (J.trans L.symm) I;rw[q];left;show xc (zbb (i:=0) rfl) ?_;left;rw[ab];show⟨⟨by lia,by lia⟩,?_⟩;rw[aP,uO];show zcM (List.range a.length) (λk:Nat=>W.d (.int (k:Int))) rfl (λρ=>∃v,ρ=[v,some (.d (stD a)),some (.d (.int (k:Int)))]) (λi=>!decide (i=k)) (λi=>ub ((i:Int),a.getD i 0)) (by rw[ay];exact af (by lia:a.length<=8) (by ext)) ⟨_,rfl⟩ ?_ ?_;rintro i hi O ⟨v,rfl⟩ C U Y;have an:=aU.mp hi;left;show zgd (λh=>?_) (λh=>?_);left;show onA (by lia) (by lia) ?_;left;rw[zS];exact U (by rw[bg (by lia)];rfl) ⟨_,rfl⟩;exact Y (by rw[a6 (by lia)];rfl) ⟨_,rfl⟩;left;show onA (by lia) (by lia) ?_;left;show onA (by lia) (by lia) ?_;left;have:=r _ (zmR ha hb Z ad) (by unfold zvT;rw[q];rfl);unfold zmQ zU at this;rw[aB] at this;rw[zS,zS];exact this
def zfs  : FV:=λPn q n R=>∃ (rm:AG),q=[.d (stD rm)]/\(RoomOk rm)/\(∀sts:AF,sts.Nodup->(∀st∈sts,StOk rm st)->(sts.length:Int)=yD rm->R (.d (xj sts)) n)
def zfs.i{rm:AG}(q:RoomOk rm)(h:∀sts:AF,sts.Nodup->(∀st∈sts,StOk rm st)->(sts.length:Int)=yD rm->R (.d (xj sts)) n)  : zfs Pn [.d (stD rm)] n R:=⟨rm,rfl,q,h⟩
def zaR (T:Txt K mg t):FnOk P w K mg base CX0 1 t.f10 t.d10 lB (spV 1 false zfs):=by
 show Fun.okW (k:=0) (fr:=false) [3] 6 T.q10.F zX rfl (by ext) rfl λa4 A a0 s H E Pn hr=>⟨_,(zb (wS zo <| zD (i:=1) zX.nd (yP (za (xL zf) zf)))
   (zb (yq aH rfl (wI za5 <| zcU K rfl (kv 0)) (wG zK <| zl (i:=2) zX.nd) (zb (wS yr <| xC (i:=3) zX.nd (yP zf))
   (zb (yq aH rfl (wI zeI <| zeC rfl T.b_enumerate (za (kv 1) zf)) (wG uV <| uW (n:=2) K rfl rfl (wH yn <| zH (wG zK <| zl (i:=4) zX.nd) (wH yn <| zH (wG zK <| zl (i:=5) zX.nd) (wH uU xM)))) (zb (wS zo <| zD (i:=6) zX.nd (wE uI <| zbm T.b_list T.b_range (zi (kb 2) zn)))
   (zb (wS zu <| zZ (wT zk <| zx yF zae (JE.bo (yY zaV zrQ (kb 4) (JE.bo zm))) (JE.bo zm) (zw _)) (ze (wS zo <| zD (i:=6) zX.nd (wE zeL <| zkK (kb 6)))) zy)
   (ze (wS zhj <| zkN 3 (xY (N:=lE) (cix:=[none,some 5]) rfl (by walk_at "c") (wI xb <| y9 K rfl (kv 6)) (λ_ _ _ _=>(wG zK <| zl (i:=0) (show (lE:AM).Nodup by decide +kernel))) (λ_ _ _ _=>yV) (λ_ _ _ _=>(yY yt xK (kb 1) (JE.bo (xL (za (kv 0) zf)))))))))))
   (ze (wS zeK <| zhd (i:=1) 3 zX.nd rfl (Or.inl rfl))))))
   (ze (zI (kv 1))))),λJ n R hF=>?_⟩
 obtain⟨rm,rfl,hR,r⟩:=hF;left;have h8:=hR.few;have ad:∀i,yD (rm.take i)<=65536:=λi=>by rw[<- xw _ λn hn=>by have:=hR.box n (bG hn);lia];have:=zel h8 hR.box i;lia
 show zR rm (λi=>.d (.int i)) (by rw[aB];rfl) (λi ρ m=>m=n/\∃ (sts:AF) (v2 v3 L O v6:Option W),ρ=[some (.d (stD rm)),some (.d (xj sts)),v2,v3,L,O,v6]/\sts.Nodup/\(∀st∈sts,StOk (rm.take i) st)/\(sts.length:Int)=yD (rm.take i)) ⟨rfl,[[]],_,_,_,_,_,rfl,by ext,λst ag=>?_,rfl⟩ ?_ ?_;rw[ao.mp ag];exact⟨rfl,λb b0 b1=>absurd b1 (by simp;lia)⟩;rintro i a ρ m ha ⟨rfl,sts,v2,v3,L,O,v6,rfl,hN,I,q⟩ C B E hC _ _;have hm:=hR.box a (ar ha);have hf:=ad i;have a5:=ad (i+1);have an:yD (rm.take (i+1))=yD (rm.take i) * a:=by rw[zj ha,ux]
 obtain⟨w,rfl⟩:∃w:Nat,a=(w:Int):=⟨a.toNat,by lia⟩
 have a7:sts.length * w<=65536:=by
  have:((sts.length * w:Nat):Int)=yD (rm.take (i+1)):=by rw[an,<- q,Int.natCast_mul]
  lia
 left;show zR (List.range sts.length) (λk:Nat=>W.d (.tup [.int (k:Int),stD (sts.getD k [])])) (zka sts) (λk ρ m'=>m'=m/\∃ (U:AF) (L O v6:Option W),ρ=[some (.d (stD rm)),some (.d (xj sts)),some (.d (.int (w:Int))),some (.d (.lst (U.map stD))),L,O,v6]/\U.Nodup/\(∀x∈U,∃b∈sts.take k,∃v:Int,0<=v/\v<w/\x=b++[v])/\U.length=k * w) ⟨rfl,[],_,_,_,rfl,.nil,by simp,by simp⟩ ?_ ?_;rintro j k ρ m' a1 ⟨rfl,U,L,O,v6,rfl,al,Y,Z⟩ C' B' E' a2 _ _;obtain⟨ap,as⟩:=ac.mp a1;rw[ay] at ap;rw[bB] at as;subst as;have hk:=ap;have a3:=(I _ (zah hk)).len;rw[aV] at a3;have ba:(j+1) * w<=sts.length * w:=Nat.mul_le_mul_right _ hk;left;show⟨⟨by lia,by lia⟩,?_⟩;rw[aP];have av:zgJ w=(zp (w:Int)).map Dt.int:=by unfold zgJ zp;rw[aB,aP];rfl
 rw[av]
 have fin:∀J:AG,J.Perm (zp (w:Int))->∀L O,zfD (eN 0) zvk (zr3 zmF (zsz 1) (zta (zqh (zsz 0) zwr))) [none,some (.d (stD (sts.getD j [])))] (λx n2=>onL x λl2=>(U.map stD).length+l2.length<=lim/\C' [some (.d (stD rm)),some (.d (xj sts)),some (.d (.int (w:Int))),some (.d (.lst (U.map stD++l2))),L,O,some (.d (lsD J))] n2) ((J.map Dt.int).map W.d) m':=λJ hp L O=>by
  show zbd J (λv=>W.d (.int v)) (by rw[aB];rfl) (λρ=>∃v,ρ=[v,some (.d (stD (sts.getD j [])))]) (λv=>stD (sts.getD j []++[v])) (by rw[hp.length_eq,yU];exact af (by lia:_<=4) (by ext)) ⟨_,rfl⟩ ?_ ?_;rintro v hv bb ⟨u,rfl⟩ D hD;left;show⟨len1 (by lia),?_⟩;rw[cat1];exact hD ⟨_,rfl⟩
  have hB:(J.map λv=>sts.getD j []++[v]).Perm ((List.range w).map λv:Nat=>sts.getD j []++[(v:Int)]):=by
   have:=hp.map λv=>sts.getD j []++[v];unfold zp at this;rw[aB,aP] at this;exact this
  obtain⟨q1,q2,q3⟩:=zjl hk hN al Y Z hB;rw[show J.map (λv=>stD (sts.getD j []++[v]))=(J.map λv=>sts.getD j []++[v]).map stD by rw[aB];rfl];show⟨?_,a2 ⟨rfl,U++J.map (λv=>sts.getD j []++[v]),_,_,_,by rw[aE],q1,q2,q3⟩⟩;rw[ab,ab,<- ak,q3];exact af (by lia:_<=65536) (by ext)
 show⟨by lia,?_⟩;left;show yw (λ_=>?_) (λ_=>?_);left;rw[<- List.map_reverse];exact fin _ (List.reverse_perm _) _ _;left;exact fin _ (.refl _) _ _;rintro ρ m' ⟨rfl,U,L,O,v6,rfl,al,Y,Z⟩;rw[ay] at Y Z;left;show hC ⟨rfl,U,_,_,_,_,_,rfl,al,λst ag=>?_,?_⟩;obtain⟨b,hb,v,v0,v1,rfl⟩:=Y st ag;rw[aT] at hb;rw[zj ha];exact (I b hb).snoc v0 v1;rw[Z,an,<- q,Int.natCast_mul];rintro ρ m ⟨rfl,sts,v2,v3,L,O,v6,rfl,hN,I,q⟩;rw[aT] at q I;left;exact r sts hN I q
def zeg  : FV:=λPn q n R=>∃ (p:Addr) (rm:AG),q=[.pen p,.d (stD rm)]/\(IsP Pn p)/\(n+10<=1000000)/\(RoomOk rm)/\(yD rm<=256)/\(∀bk m,xu rm bk->bk.length<=400->m<=n+5->R (.d (.lst (bk.map zU))) m)
def zeg.i{rm:AG}(q:IsP Pn p)(B:RoomOk rm)(F:yD rm<=256)(h:∀bk m,xu rm bk->bk.length<=400->m<=n+5->R (.d (.lst (bk.map zU))) m)(I:n+10<=1000000:=by lia):zeg Pn [.pen p,.d (stD rm)] n R:=⟨p,rm,rfl,q,I,B,F,h⟩
def zdE (T:Txt K mg t):FnOk P w K mg base CX0 2 t.f11 t.d11 lc (spV 2 true zeg):=by
 have G1:=zP (P:=P) (w:=w) (base:=base) T;have G9:=uK (P:=P) (w:=w) (base:=base) T;have G10:=zaR (P:=P) (w:=w) (base:=base) T
 show Fun.okW (k:=1) (fr:=true) [] 1 T.q11.F uP rfl (by ext) rfl λan A ad s H E Pn Z=>⟨_,(zb (wS zo <| zD (i:=2) uP.nd (wE zr <| yS T.q10 G10 Z (za (kv 1) zf)))
   (zb (wS zu <| zZ (wT zk <| zx yF zae (JE.bo (wE zr <| yS T.q1 G1 Z (za (kv 0) (za zm zf)))) (JE.bo zm) (zw _)) (ze (wS zo <| zD (i:=2) uP.nd (wE zO <| xn (kb 2) (wO zq <| zA (JE.bo (wE zr <| yS T.q1 G1 Z (za (kv 0) (za (zM ym xP (by rfl) T.b_len aN (zi (kb 2) zn)) zf))))) zz))) zy)
   (ze (zI (xY (N:=li) (cix:=[none,none]) rfl (by walk_at "c") (wI zcA <| zeD rfl T.b_zip (za (kv 2) (za (wE zO <| xn (kb 2) (wO zq <| zA (JE.bo zm)) zz) zf))) (λ_ _ _ _=>(wG uV <| uW (n:=2) K rfl rfl (wH yn <| zH (wG zK <| zl (i:=0) (show (li:AM).Nodup by decide +kernel)) (wH yn <| zH (wG zK <| zl (i:=1) (show (li:AM).Nodup by decide +kernel)) (wH uU xM))))) (λ_ _ _ _=>yV) (λ_ _ _ _=>(wE zr <| yS T.q9 G9 Z (za (kv 0) (za (kv 1) zf))))))))),λws n R hF=>?_⟩
 obtain⟨p,rm,rfl,hP,hn,hR,hp,r⟩:=hF;left;show zfs.i hR λsts hN B al=>?_;have h2:=zgk hR.ne λn hn=>(hR.box n hn).1;left;show dc hP λa a0 a1=>?_;left;refine' zk7 (λ(I:AF) (J:Nat)=>I.Nodup/\(∀st∈I,StOk rm st)/\I.length<=256/\J<=n+2) _ (λzQ=>?_) ?_;rotate_left;show yw (λ_=>?_) (λ_=>?_);left;rw[ab];show dc hP λb b0 b1=>?_;left;rw[xU];have q:=zj0 sts (some b) none;generalize xA sts (some b) none=I at q;generalize hk:n+1+1=J;exact zQ I J ⟨hN.sublist q,λst ag=>B st (q.subset ag),by have:=q.length_le;lia,by lia⟩;left;generalize hk:n+1=J;exact zQ sts J ⟨hN,B,by lia,by lia⟩;rintro I J ⟨hN,B,hl,ap⟩;rw[zfq];show zfC (List.range (I.length - 1)) (λi:Nat=>W.d (.tup [stD (I.getD i []),stD (I.getD (i+1) [])])) rfl (by rw[ay];exact af (by lia:_<=256) (by ext)) (λi L n' acc=>n'=J/\i<=I.length - 1/\∃ (v0 v1:Option W) (bk:AW),L=[v0,v1]/\acc=bk.map zU/\xu rm bk/\bk.length=i) ⟨rfl,aK _,none,none,[],rfl,rfl,by intro x hx;simp at hx,rfl⟩ ?_ ?_;rintro i k L n' acc hk ⟨rfl,hi,v0,v1,bk,rfl,rfl,hB,O⟩ C hC;obtain⟨U,Y⟩:=ac.mp hk;rw[ay] at U;rw[bB] at Y;subst Y;left;show zcF.i hR (B _ (zah (by lia))) (B _ (zah (by lia))) (zdY hN (by lia)) λx hx _=>?_;exact hC ⟨rfl,U,_,_,bk++[x],rfl,by rw[aE];rfl,hB.app (λy hy=>by rw[ao.mp hy];exact hx),by rw[ak,O];rfl⟩;rintro L n' acc ⟨rfl,hi,v0,v1,bk,rfl,rfl,hB,O⟩;rw[ay] at O;exact r bk _ hB (by lia) (by lia)
def zhN  : FV:=λPn q n R=>∃ (p:Addr) (rm:AG),q=[.pen p,.d (stD rm)]/\(IsP Pn p)/\(n+3000<=1000000)/\(RoomOk rm)/\(yD rm<=16)/\(∀bk m,xu rm bk->bk.length<=1000->m<=n+1000->R (.d (.lst (bk.map zU))) m)
def zhN.i{rm:AG}(q:IsP Pn p)(B:RoomOk rm)(F:yD rm<=16)(h:∀bk m,xu rm bk->bk.length<=1000->m<=n+1000->R (.d (.lst (bk.map zU))) m)(I:n+3000<=1000000:=by lia):zhN Pn [.pen p,.d (stD rm)] n R:=⟨p,rm,rfl,q,I,B,F,h⟩
def zc6 (T:Txt K mg t):FnOk P w K mg base CX0 3 t.f12 t.d12 lc (spV 2 true zhN):=by
 have G1:=zP (P:=P) (w:=w) (base:=base) T;have G2:=uL (P:=P) (w:=w) (base:=base) T;have G4:=yI (P:=P) (w:=w) (base:=base) T;have G9:=uK (P:=P) (w:=w) (base:=base) T
 show Fun.okW (k:=2) (fr:=true) [3,6] 8 T.q12.F zN rfl (by ext) rfl λbs A a2 s H E Pn hr=>⟨_,(zb (wS zo <| zD (i:=2) zN.nd (wE zr <| yS T.q4 G4 hr (za (kv 1) zf)))
   (zb (wS yr <| xC (i:=3) zN.nd zkJ)
   (zb (yq aH rfl (wI zeI <| zeC rfl T.b_enumerate (za (wE zr <| yS T.q2 G2 hr (za (kv 0) (za (kv 2) zf))) zf)) (wG uV <| uW (n:=2) K rfl rfl (wH yn <| zH (wG zK <| zl (i:=4) zN.nd) (wH yn <| zH (wG zK <| zl (i:=5) zN.nd) (wH uU xM)))) (ze (wS zc3 <| zeE 3 (xN hr) (kb 5) (kv 4))))
   (zb (wS yr <| xC (i:=6) zN.nd (yP zf))
   (zb (yq aH rfl (wI xb <| y9 K rfl (kv 2)) (wG zK <| zl (i:=5) zN.nd) (ze (yq aH rfl (wI xy <| yp rfl T.b_range (zi (JE.bo (zM ym xP (by rfl) T.b_len aN (zi (kb 1) zn))) zn)) (wG zK <| zl (i:=7) zN.nd) (ze (yq aH rfl (wI xy <| yp rfl T.b_range (zi (JE.bo (uA yR ul (kb 1) (kb 7) (λ_ _=>rfl))) zn)) (wG zK <| zl (i:=8) zN.nd) (zb (wS zo <| zD (i:=9) zN.nd (yY yt xK (JE.bo (yY yt xK (JE.bo (wE xz <| zbW (kb 5) zz (wO zq <| zA (kb 7)))) (JE.bo (xL (za (kv 8) zf))))) (JE.bo (wE xz <| zbW (kb 5) (wO zq <| zA (JE.bo (yY yd uk (kb 7) (JE.bo zm)))) zz))))
   (ze (wS zu <| zZ (JW.t (wW zbY <| zdS (wT zk <| zx zht zr5 (JE.bo (wE xo <| uF (xN hr) (kb 3) (kb 5) (λ_ _=>rfl))) (JE.bo (wE xo <| uF (xN hr) (kb 3) (kb 9) (λ_ _=>rfl))) (zw _)) (zao (.inl rfl) (wT zk <| zx znp u_gt (JE.bo (wE zr <| yS T.q1 G1 hr (za (kv 0) (za zm zf)))) (JE.bo zm) (zw _))))) (ze (wS uH <| zbn 6 (wE zr <| yS T.q9 G9 hr (za (kv 5) (za (kv 9) zf))))) zy))))))))
   (ze (wS uJ <| za3 6))))))),λws n R hF=>?_⟩
 obtain⟨p,rm,rfl,hP,hn,hR,hp,r⟩:=hF;left;have h8:=hR.few
 have hsz:(yZ (rm.map zp)).length<=16:=by
  have:=xw rm λn hn=>by have:=hR.box n hn;lia
  lia
 have al:∀st∈yZ (rm.map zp),StOk rm st:=λst J=>uC rm st J;have an:∀st,StOk rm st->st∈yZ (rm.map zp):=λst J=>zb8 J;show zcG.i hR ?_;left;generalize yZ (rm.map zp)=ev at hsz al an;show tc hP (λl hl=>?_) (by rw[ab];lia) (by rw[ab];lia);rw[ab];obtain⟨ys,rfl,ap⟩:=ze1 hl;have bx:=ap.length_eq;left;generalize b0:n+ev.length=n1;show zR (List.range ys.length) (λk:Nat=>W.d (.tup [.int (k:Int),stD (ys.getD k [])])) (zka ys) (λi ρ m=>m=n1/\i<=ys.length/\∃ (kvs:List (AG×Dt)) (v4 v5:Option W),ρ=[some (.pen p),some (.d (stD rm)),some (.d (xj ev)),some (.dt kvs),v4,v5,none,none,none,none]/\(∀j,j<i->∃r:Int,yW kvs (ys.getD j [])=some (.int r))/\kvs.length<=i) ⟨rfl,aK _,[],_,_,rfl,λj hj=>by lia,ah _⟩ ?_ ?_;rintro i k ρ m a3 ⟨rfl,as,kvs,v4,v5,rfl,Z,a4⟩ C B E hC _ _;obtain⟨av,a0⟩:=ac.mp a3;rw[ay] at av;rw[bB] at a0;subst a0;left;show⟨ys.getD i [],rfl,aG (by lia:_<=100) (by ext),hC ⟨rfl,av,_,_,_,rfl,λj hj=>?_,by have:=zhv kvs (ys.getD i []) (.int (i:Int));lia⟩⟩;by_cases e:ys.getD j []=ys.getD i [];exact⟨i,by rw[zbs,if_pos e]⟩
 obtain⟨r',a5⟩:=Z j (by
  rcases dC.mp hj with h | h;exact h;subst h;exact absurd rfl e)
 exact⟨r',by rw[zbs,if_neg e];exact a5⟩;rintro ρ n2 ⟨rfl,as,kvs,v4,v5,rfl,Z,a4⟩;rw[ay] at Z;have L:∀st,StOk rm st->∃r:Int,yW kvs st=some (.int r):=λst J=>by have:=ap.mem_iff.mpr (an st J);obtain⟨j,hj,rfl⟩:=bF.mp this;have:=Z j hj;rwa[show ys.getD j []=ys[j] by simp[hj]] at this
 left;show zR ev (λst=>.d (stD st)) (by rw[aB];rfl) (λi ρ m=>m<=n2+32 * i/\∃ (bk:AW) (v5 v7 O U:Option W),ρ=[some (.pen p),some (.d (stD rm)),some (.d (xj ev)),some (.dt kvs),v4,v5,some (.d (.lst (bk.map zU))),v7,O,U]/\xu rm bk/\bk.length<=32 * i) ⟨by lia,[],_,_,_,_,rfl,by intro x hx;simp at hx,by simp⟩ ?_ ?_;rintro i q ρ m ho ⟨hm,bk,v5,v7,O,U,rfl,I,Y⟩ C B E hC _ _;have as:=(ac.mp ho).1;have hO:=al q (ar ho);have b1:=hO.len;obtain⟨ra,a1⟩:=L q hO;left;rw[ab];show⟨⟨by lia,by lia⟩,zdP (λj ρ m'=>m'<=m+4 * j/\∃ (bk:AW) (v7 O U:Option W),ρ=[some (.pen p),some (.d (stD rm)),some (.d (xj ev)),some (.dt kvs),v4,some (.d (stD q)),some (.d (.lst (bk.map zU))),v7,O,U]/\xu rm bk/\bk.length<=32 * i+4 * j) ⟨by lia,bk,_,_,_,rfl,I,by lia⟩ ?_ ?_⟩;rintro j ρ m' hj ⟨a7,bk,v7,O,U,rfl,I,Y⟩ C' B' E' ba _ _;have hj:j<rm.length:=by lia
 have b2:=uy hR.box (cS j) (by lia);left;show onA (cS j) (by lia) ?_;left;show⟨⟨by lia,by lia⟩,zdP (λk ρ m2=>m2<=m'+k/\k<=4/\∃ (bk:AW) (O U:Option W),ρ=[some (.pen p),some (.d (stD rm)),some (.d (xj ev)),some (.dt kvs),v4,some (.d (stD q)),some (.d (.lst (bk.map zU))),some (.d (.int (j:Int))),O,U]/\xu rm bk/\bk.length<=32 * i+4 * j+k) ⟨by lia,by lia,bk,_,_,rfl,I,by lia⟩ ?_ ?_⟩;rintro k ρ m2 hk ⟨bb,bd,bk,O,U,rfl,I,Y⟩ C2 B2 E2 ad _ _;left;show⟨zhU (by lia),?_⟩;left;show⟨zhV (by lia),?_⟩;rw[zjL (cS j) (by lia)];have hT:StOk rm (chg q (j:Int) (k:Int)):=ziD hO (cS j) (by lia) (by lia) (by lia);obtain⟨rb,ag⟩:=L _ hT;left;show⟨q,rfl,xc a1 ?_⟩;left;show⟨chg q (j:Int) (k:Int),rfl,xc ag ?_⟩;left;show yw (λb3=>?_) (λ_=>⟨ad ⟨by lia,by lia,bk,_,_,rfl,I,by lia⟩⟩);have bl:q≠chg q (j:Int) (k:Int):=λe=>by rw[<- e,a1] at ag;cases ag;lia
 left;show dc hP (λd d0 d1=>?_) (by lia);left;show yw (λ_=>?_) (λ_=>⟨ad ⟨by lia,by lia,bk,_,_,rfl,I,by lia⟩⟩);left;show zcF.i hR hO hT bl λx hx _=>?_;left;show⟨by rw[ab];exact aG (by lia:_<=1000) (by ext),ad ⟨by lia,by lia,bk++[x],_,_,by rw[aE];rfl,I.app (λy hy=>by rw[ao.mp hy];exact hx),by rw[ak];simp;lia⟩⟩;rintro ρ m2 ⟨bb,bd,bk,O,U,rfl,I,Y⟩;left;exact ba ⟨by lia,bk,_,_,_,rfl,I,by lia⟩;rintro ρ m' ⟨a7,bk,v7,O,U,rfl,I,Y⟩;left;exact hC ⟨by lia,bk,_,_,_,_,rfl,I,by lia⟩;rintro ρ m ⟨hm,bk,v5,v7,O,U,rfl,I,Y⟩;left;exact r bk m I (by lia) (by lia)
def zeh  : FV:=λPn B n R=>∃ (p:Addr) (rm:AG) (bk:AW),B=[.pen p,.d (stD rm),.d (.lst (bk.map zU))]/\(IsP Pn p)/\(n+100<=1000000)/\(RoomOk rm)/\(xu rm bk)/\(bk.length<=2000)/\(∀q m,xu rm q->q.length<=2001->m<=n+50->R (.d (.lst (q.map zU))) m)
def zeh.i{rm:AG}(B:IsP Pn p)(F:RoomOk rm)(I:xu rm bk)(J:bk.length<=2000)(h:∀q m,xu rm q->q.length<=2001->m<=n+50->R (.d (.lst (q.map zU))) m)(L:n+100<=1000000:=by lia):zeh Pn [.pen p,.d (stD rm),.d (.lst (bk.map zU))] n R:=⟨p,rm,bk,rfl,B,L,F,I,J,h⟩
def zct (T:Txt K mg t):FnOk P w K mg base CX0 4 t.f13 t.d13 ll (spG 3 true zeh):=by
 have G1:=zP (P:=P) (w:=w) (base:=base) T;have G6:=zby (P:=P) (w:=w) (base:=base) T
 show Fun.okG (k:=3) (fr:=true) [2] 6 T.q13.F z9 rfl (by ext) (by ext) rfl λan A ad s H E Pn O=>⟨_,(zb (wS zo <| zD (i:=3) z9.nd (wE zr <| yS T.q1 G1 O (za (kv 0) (za zm zf))))
   (zb (wS zu <| zZ (JW.t (wW zcd <| zfV (wT zk <| zx yF zae (kb 3) (JE.bo zm) (zw _)) (zao (.inr rfl) (wT zk <| zx (zoK O.units) zuO (kb 2) (JE.bo (yP zf)) (zw _))))) (zb (wS zqi <| zs1 2 (wE zr <| yS T.q1 G1 O (za (kv 0) (za (yY yd uk (JE.bo (zM ym xP (by rfl) T.b_len aN (zi (kb 2) zn))) (JE.bo zm)) zf))) (wE zr <| yS T.q6 G6 O (za (kv 0) (za (kv 1) zf))))
   (ze (wS uJ <| za3 2))) zy)
   (zb (wS zo <| zD (i:=4) z9.nd (wE zr <| yS T.q1 G1 O (za (kv 0) (za (zM ym xP (by rfl) T.b_len aN (zi (kb 2) zn)) zf))))
   (zb (zoz (uA yv uS (kb 2) (kb 4) (λ_ _=>rfl)) (wG uV <| uW (n:=4) K rfl rfl (wH yn <| zH (wG zK <| zl (i:=5) z9.nd) (wH yn <| zH (wG zK <| zl (i:=6) z9.nd) (wH yn <| zH (wG zK <| zl (i:=7) z9.nd) (wH yn <| zH (wG zK <| zl (i:=8) z9.nd) (wH uU xM)))))))
   (zb (wS zu <| zZ (wT zk <| zx yF zae (kb 3) (JE.bo zm) (zw _)) (ze (wS zk4 <| zoA 2 (kb 4) (xL (za (kv 5) (za (kv 6) (za (kv 8) (za (kv 7) zf))))))) zy)
   (zb (wS zu <| zZ (wT zk <| zx yF zae (kb 3) (JE.bo zm) (zw _)) (ze (wS znj <| zp7 2 (kb 4))) zy)
   (zb (wS zu <| zZ (wT zk <| zx yF zae (kb 3) (JE.bo zm) (zw _)) (ze (wS uH <| zbn 2 (uA yv uS (kb 2) (kb 4) (λ_ _=>rfl)))) zy)
   (zb (wS zu <| zZ (wT zk <| zx yF zae (kb 3) (JE.bo zm) (zw _)) (ze (wS zk4 <| zoA 2 (kb 4) (xL (za (wE xz <| zbW (kb 5) (wO zq <| zA (JE.bo zm)) zz) (za (kv 6) (za (kv 7) (za (kv 8) zf))))))) zy)
   (ze (wS uJ <| za3 2)))))))))),λws n R hF=>?_⟩
 obtain⟨p,rm,bk,rfl,hP,hn,hR,B,hl,r⟩:=hF;left;have h8:=hR.few;show dc hP λq w0 w1=>?_;left;refine' zwA _ (λkey=>?_) ?_;rotate_left
 ·show yw (λh4=>?_) (λh4=>?_);left;rw[ab];generalize W.d (Dt.int q)=x;exact key x
  ·left;show⟨zsg B,zsg (rm:=rm) (bk:=[]) (by intro x L;simp at L),λb hb=>?_⟩;left;show zjc (λI=>?_) (λI=>?_);left;rw[ab];exact key (.d (.int q))
   ·left;have ag:bk≠[]:=λz=>by have:=hb.mpr (by rw[z];rfl);rw[this] at I;cases I
    have al:0<bk.length:=dr.mpr ag;rw[ab];show dc hP λU a0 a1=>?_;obtain⟨j,rfl⟩:∃j:Nat,U=(j:Int):=⟨U.toNat,by lia⟩;have hj:j<bk.length:=by lia
    have L:=B _ (bL hj);have J:atI (bk.map zU) (j:Int)=some (zU bk[j]):=zbb (by rw[aq,ai hj];rfl);generalize bk[j]=x at L J;left;show xc J ?_;left;have Y:q=0\/q=1\/q=2\/q=3:=by lia
    rcases Y with rfl | rfl | rfl | rfl;walk_at "ct";show⟨⟨by lia,by rw[ab];lia⟩,?_⟩;rw[aP,show (bk.map zU).set j (Dt.tup [Dt.tup (x.g.map ub),.int x.b,.int x.w,.int x.r])=(bk.set j (zuM x)).map zU by rw[List.map_set];rfl];left;walk_at "cf";walk_at "cf";walk_at "cf";exact r _ _ (B.set (zrO L) j) (by rw[bh];lia) (by lia);walk_at "cf";walk_at "ct";show⟨⟨by lia,by rw[ab];lia,by rw[ab];exact af hl (by ext)⟩,?_⟩;rw[aP,<- zfL];left;walk_at "cf";walk_at "cf";exact r _ _ (λy Z=>B y (List.mem_of_mem_eraseIdx Z)) (by have:=List.length_eraseIdx_le bk j;lia) (by lia);walk_at "cf";walk_at "cf";walk_at "ct";show xc J ?_;left;show⟨by rw[ab];exact aG hl (by ext),?_⟩;rw[show bk.map zU++[zU x]=(bk++[x]).map zU by rw[aE];rfl];left;walk_at "cf";exact r _ _ (B.app λy Z=>by rw[ao.mp Z];exact L) (by rw[ak];simp;lia) (by lia)
    ·walk_at "cf";walk_at "cf";walk_at "cf";walk_at "ct";show⟨⟨by lia,by rw[ab];lia⟩,?_⟩;rw[aP,xU,show (bk.map zU).set j (Dt.tup [Dt.tup ((xA x.g (some 1) none).map ub),.int x.b,.int x.r,.int x.w])=(bk.set j { x with g:=xA x.g (some 1) none }).map zU by rw[List.map_set] <;> rfl];left;exact r _ _ (B.set (zpx L) j) (by rw[bh];lia) (by lia)
 intro x;show dc hP λk k0 k1=>?_;obtain⟨j,rfl⟩:∃j:Nat,k=(j:Int):=⟨k.toNat,by lia⟩;left;show zjx.i hP hR λy m Z hm=>?_;left;show⟨⟨by lia,by lia,aG hl (by ext)⟩,?_⟩;rw[aP,zpZ];left;exact r _ _ (B.ins Z j) (by rw[zpY];lia) (by lia)
def zhM  : FV:=λPn q n R=>∃ (p:Addr) (rm:AG),q=[.pen p,.d (stD rm)]/\(IsP Pn p)/\(n+4000<=1000000)/\(RoomOk rm)/\(yD rm<=256)/\(∀bk m,xu rm bk->bk.length<=80->m<=n+2000->R (.d (y8 bk)) m)
def zhM.i{rm:AG}(q:IsP Pn p)(B:RoomOk rm)(F:yD rm<=256)(h:∀bk m,xu rm bk->bk.length<=80->m<=n+2000->R (.d (y8 bk)) m)(I:n+4000<=1000000:=by lia):zhM Pn [.pen p,.d (stD rm)] n R:=⟨p,rm,rfl,q,I,B,F,h⟩
def zeP (T:Txt K mg t):FnOk P w K mg base CX0 5 t.f14 t.d14 lc (spV 2 false zhM):=by
 have G1:=zP (P:=P) (w:=w) (base:=base) T;have G2:=uL (P:=P) (w:=w) (base:=base) T;have G4:=yI (P:=P) (w:=w) (base:=base) T;have G6:=zby (P:=P) (w:=w) (base:=base) T;have G8:=zb1 (P:=P) (w:=w) (base:=base) T;have G11:=zdE (P:=P) (w:=w) (base:=base) T;have G12:=zc6 (P:=P) (w:=w) (base:=base) T;have G13:=zct (P:=P) (w:=w) (base:=base) T
 show Fun.okW (k:=4) (fr:=false) [5] 4 T.q14.F yh rfl (by ext) rfl λa5 A as s H E Pn B=>⟨_,(zb (wS zo <| zD (i:=2) yh.nd (wE zr <| yS T.q1 G1 B (za (kv 0) (za zm zf))))
   (zb (wS zo <| zD (i:=3) yh.nd (wE zr <| yS T.q1 G1 B (za (kv 0) (za zm zf))))
   (zb (wS zo <| zD (i:=4) yh.nd (zM ym xP (by rfl) T.b_len aN (zi (JE.bo (wE zr <| yS T.q4 G4 B (za (kv 1) zf))) zn)))
   (zb (wS zu <| zZ (wT zk <| zx yF zae (kb 2) (JE.bo zm) (zw _)) (ze (wS yr <| xC (i:=5) yh.nd (wE zr <| yS T.q11 G11 B (za (kv 0) (za (kv 1) zf))))) (ze (wS zu <| zZ (JW.t (wW zbY <| zdS (wT zk <| zx yF zae (kb 2) (JE.bo zm) (zw _)) (zao (.inl rfl) (wT zk <| zx zqE zw9 (kb 4) (JE.bo zm) (zw _))))) (ze (wS yr <| xC (i:=5) yh.nd (wE zr <| yS T.q12 G12 B (za (kv 0) (za (kv 1) zf))))) (ze (wS zu <| zZ (wT zk <| zx zht zr5 (kb 2) (JE.bo zm) (zw _)) (ze (wS yr <| xC (i:=5) yh.nd (wE zr <| yS T.q8 G8 B (za (kv 0) (za (kv 1) zf))))) (ze (wS yr <| zhe (i:=5) (zcz (ix:=5) yh.nd rfl rfl (N:=lL) (cix:=[none,some 0,some 1]) rfl (by walk_at "c") (wI xy <| yp rfl T.b_range (zi (JE.bo (wE zr <| yS T.q1 G1 B (za (kv 0) (za zm zf)))) zn)) (λ_ _ _ _=>(wG zK <| zl (i:=0) (show (lL:AM).Nodup by decide +kernel))) (λ_ _ _ _=>yV) (λ_ _ _ _=>(wE zr <| yS T.q6 G6 B (za (kv 1) (za (kv 2) zf))))))))))))
   (zb (wS zu <| zZ (wT zk <| zx yF zae (kb 3) (JE.bo zm) (zw _)) (ze (zs0 (i:=5) T.q13 G13 B (kv 0) (kv 1) yh.nd rfl (Or.inl rfl))) zy)
   (ze (zI (xm yN za9 (by rfl) T.b_tuple bv (zi (JE.bo (wE zr <| yS T.q2 G2 B (za (kv 0) (za (wE zO <| xn (kb 5) zz (wO zq <| zA (JE.bo zm))) zf)))) zn))))))))),λws n R hF=>?_⟩
 obtain⟨p,rm,rfl,I,hn,J,hp,r⟩:=hF;left;show dc I λkind k0 k1=>?_;left;show dc I λsp s0 s1=>?_;left;show zcG.i J ?_;left;have hsz:=xw rm λn hn=>by have:=J.box n hn;lia
 rw[ab,hsz];refine' zk7 (λ(bk:AW) (Y:Nat)=>xu rm bk/\bk.length<=1000/\Y<=n+1100) _ (λzQ=>?_) ?_;rotate_left;show yw (λh0=>?_) (λh0=>?_);left;show zeg.i I J hp λbk m q Z hm=>?_;left;exact zQ bk m ⟨q,by lia,by lia⟩;left;show yw (λh1=>?_) (λh1=>?_);left;show yw (λad=>?_) (λad=>?_);left;show zhN.i I J ad λbk m q Z hm=>?_;left;exact zQ bk m ⟨q,by lia,by lia⟩;left;show yw (λh4=>?_) (λh4=>absurd (by lia) h4);left;show zjv.i I J λbk m q Z hm=>?_;left;exact zQ bk m ⟨q,by lia,by lia⟩;left;show yw (λh4=>?_) (λh4=>?_);left;show zjv.i I J λbk m q Z hm=>?_;left;exact zQ bk m ⟨q,by lia,by lia⟩;left;show dc I λt t0 t1=>?_;left;show⟨⟨by lia,by lia⟩,?_⟩;rw[uO];show zfC (List.range t.toNat) (λk:Nat=>W.d (.int (k:Int))) rfl (by rw[ay];exact af (by lia:_<=14) (by ext)) (λi L n' acc=>n'<=n+3+30 * i/\i<=t.toNat/\∃ (v:Option W) (bk:AW),L=[v,some (.pen p),some (.d (stD rm))]/\acc=bk.map zU/\xu rm bk/\bk.length=i) ⟨by lia,aK _,none,[],rfl,rfl,by intro x O;simp at O,rfl⟩ ?_ ?_;rintro i k L n' acc hk ⟨ag,hi,v,bk,rfl,rfl,q,U⟩ C hC;have al:=(ac.mp hk).1;rw[ay] at al;left;show zjx.i I J λx m O hm=>?_;exact hC ⟨by lia,al,_,bk++[x],rfl,by rw[aE];rfl,q.app (λy hy=>by rw[ao.mp hy];exact O),by rw[ak,U];rfl⟩;rintro L n' acc ⟨ag,hi,v,bk,rfl,rfl,q,U⟩;rw[ay] at U ag;left;exact zQ bk n' ⟨q,by lia,by lia⟩;rintro bk Y ⟨q,Z,av⟩;refine' zk7 (λ(bk:AW) (Y:Nat)=>xu rm bk/\bk.length<=2001/\Y<=n+1150) _ (λzQ=>?_) ?_;rotate_left;left;show yw (λh0=>?_) (λh0=>?_);left;show zeh.i I J q (by lia) λa0 m a1 a2 hm=>?_;left;exact zQ a0 m ⟨a1,a2,by lia⟩;left;exact zQ bk Y ⟨q,by lia,by lia⟩;rintro bk Y ⟨q,Z,av⟩;left;rw[xU,show (80:Int)=((80:Nat):Int) from rfl,L3.zcx];have an:xu rm (bk.take 80):=λx O=>q x (bG O);have a3:(bk.take 80).length<=80:=by rw[aV];lia
 generalize bk.take 80=b2 at an a3;left;show tc I (λl a4=>?_) (by rw[ab];lia) (by rw[ab];lia);rw[ab];obtain⟨b3,rfl,ap⟩:=ze1 a4;have a7:=ap.length_eq;left;exact r b3 _ (λx O=>an x (ap.mem_iff.mp O)) (by lia) (by lia)
def zhq (T:Txt K mg t):FnOk P w K mg base CX0 1 t.f15 t.d15 lY (zec K):=by
 show T.q15.F.okQ uQ (λvs H Q E h=>?_) (λb3 A bd s H vs Q E hr h=>?_);obtain⟨ca,xs,cs,rfl,_⟩:=h;rfl;obtain⟨ca,xs,cs,rfl,a2,hL,bk,a3,k⟩:=h;have ad:=zhP bk a3
 show⟨_,(zW (ua (i:=1) uQ.nd rfl (Or.inl rfl) (zly (zG (zdb ye) ye)))
  (zW (zlC aH rfl (ze4 (qv 0)) (x9 (i:=2) uQ.nd rfl (Or.inr rfl)) (xq (znN (ix:=1) uQ.nd rfl rfl (N:=lQ) (cix:=[none,none,some 2]) rfl (by walk_at "c") (ze4 (qv 1)) (λ_ _ _ _=>(x9 (i:=0) (show (lQ:AM).Nodup by decide +kernel) rfl (Or.inl rfl))) (λ_ _ _ _=>zfa) (λ_ _ _ _=>(ziv K rfl (qv 2))) (λ_ _ _ _=>(x9 (i:=1) (show (lQ:AM).Nodup by decide +kernel) rfl (Or.inl rfl))) (λ_ _ _ _=>zfa) (λ_ _ _ _=>(yX (zno K rfl) (qv 0) (zdb (zG (qv 1) ye)))))))
  (xq (uY (qv 1))))),?_⟩
 show⟨(by change 0<=sizeLine;decide),λe0 H1 _ g1 S1=>⟨(by change 1<=sizeLine;decide),λr0 H2 n2 g2 S2=>?_⟩⟩;have S02:yJ H H2:=λb o e=>S2 _ _ (S1 _ _ e)
 have bl:H r0=none:=by
  cases e:H r0 with
  | none=>rfl
  | some o=>rw[S1 _ _ e] at n2;cases n2
 show⟨_,rfl,ca,rfl,⟨xs,.of (S02 _ _ a2)⟩,zmO (K:=K) (xs:=xs) (λi σ H3=>∃ (ra:Addr) (ys:AT) (v2:Option V),σ=[some (.ref ca),some (.ref ra),v2]/\H ra=none/\H3 ra=some (.lst ys)/\IsL H3 ((yZ (cs.take i)).map stD) ys/\yJ H H3)
  ⟨r0,_,none,rfl,bl,g2,⟨_,_,rfl,⟨e0,_,rfl,S2 _ _ g1,rfl⟩,rfl⟩,S02⟩ (λi σ H3 _ ⟨_,_,_,_,_,_,_,S⟩=>.of (S _ _ a2)) ?_ ?_⟩
 rintro i x σ H3 hi ⟨ra,ys,v2,rfl,a4,Z,U,S3⟩;have bo:=(ac.mp hi).1;have Y:i<cs.length:=by rw[<- hL.1];exact bo
 obtain⟨wa,a5,a7⟩:=hL.2 i cs[i] (ai Y);rw[hi] at a5;cases a5;have ag:=a3 cs[i] (bL Y);have ap:cs.take (i+1)=cs.take i++[cs[i]]:=zj (ai Y);have bs:=ad i;have as:=ad (i+1);rw[ap,xk] at as;have av:=U.length;rw[ab] at av;have al:∀I∈yZ (cs.take i),I.length<=8:=λI hr=>by rw[zek _ _ hr,aV];lia
 generalize cs[i]=ws at a7 ag ap as;generalize a0:yZ (cs.take i)=rows at U bs as av al;have an:=S3 _ _ a7;show⟨_,rfl,ra,rfl,⟨_,.of Z⟩,λacc L=>?_⟩;show ziP (xs:=ys) L (λj J H'=>(∃v0 v1,J=[v0,v1,some (.ref wa)])/\(∃zs,H' acc=some (.lst zs)/\IsL H' ((xT (rows.take j) ws).map stD) zs)/\yJ H3 H') (λH' z1 z2=>⟨⟨_,_,rfl⟩,⟨[],z1,rfl⟩,z2⟩) (λ_ _ _ _ ⟨_,_,S⟩=>.of (S _ _ Z)) ?_ ?_;rintro j y J H4 hy ⟨⟨v0,v1,rfl⟩,⟨zs,B,q⟩,S4⟩;obtain⟨d,hd,bx⟩:=(U.stay (zB.same S4)).get hy;rw[aq] at hd;obtain⟨I,a1,rfl⟩:=aD.mp hd;obtain⟨rwa,rv,rfl,ba,b0⟩:=bx;obtain rfl:=b0.of_ints;have b4:=(ac.mp a1).1;have b5:=al I (ar a1);change zjP _ zb9 _ _ _ _ _ _ _ _ _;show zoE ?_;show⟨_,rfl,wa,rfl,⟨_,.of (S4 _ _ an)⟩,?_⟩;show ziY (xs:=ws.map V.int) (λm J H'=>(∃v1,J=[some (.ref rwa),v1,some (.ref wa)])/\(∃zs,H' acc=some (.lst zs)/\IsL H' ((xT (rows.take j) ws++(ws.take m).map λw=>I++[w]).map stD) zs)/\yJ H3 H'/\H' rwa=some (.tup (I.map V.int))) ⟨⟨_,rfl⟩,⟨zs,B,by simpa using q⟩,S4,ba⟩ (λ_ _ _ _ ⟨_,_,S,_⟩=>.of (S _ _ an)) ?_ ?_;rintro m u J H5 hu ⟨⟨v1,rfl⟩,⟨zs,B,q⟩,S5,O⟩;rw[aq] at hu;obtain⟨wv,bb,rfl⟩:=aD.mp hu;have cc:=(ac.mp bb).1;show zom ⟨_,rfl,_,rfl,(by change 1<=sizeLine;decide),λt1 H6 _ g6 S6=>?_⟩;show⟨rwa,t1,_,_,rfl,rfl,S6 _ _ O,g6,bW (zaA (by rw[ab];change I.length+1<=1000;lia)),λt2 H7 g7 S7=>?_⟩;have S57:yJ H5 H7:=λb o e=>S7 _ _ (S6 _ _ e);have b1:=q.length;rw[ab,ak,ut,ab,aV,aV] at b1;have cd:=ut rows ws;have b2:(min j rows.length) * ws.length<=65536 * 4:=Nat.mul_le_mul (by lia) ag;show⟨zs,S57 _ _ B,aG (show zs.length<=500000 by lia) (by ext),⟨_,rfl⟩,⟨_,zh,?_⟩,ziz L λb o e=>S57 _ _ (S5 _ _ e),?_⟩;show IsL.stayT (zdy.app (S57 _ _ B)) (xO _) ?_;rw[zj bb,aE (l₁:=ws.take m),<- b6,aE];show (q.stay (zB.same S57)).append (IsL.one ⟨t2,_,rfl,g7,?_⟩);rw[aE];exact IsL.ints.append (IsL.ints (ns:=[wv]));rw[zg (zle (S57 _ _ O) (S57 _ _ B) (by intro z;cases z))];exact S57 _ _ O;rintro J H5 ⟨⟨v1,rfl⟩,⟨zs,B,q⟩,S5,O⟩;rw[ab,aT] at q;show⟨⟨_,_,rfl⟩,⟨zs,B,?_⟩,S5⟩;rw[zj a1,zcN];exact q;rintro J H4 ⟨⟨v0,v1,rfl⟩,⟨zs,B,q⟩,S4⟩;rw[av,aT] at q;show⟨acc,zs,_,rfl,?_,B,?_,λb o e=>S4 _ _ (S3 _ _ e)⟩
 cases e:H acc with
 | none=>rfl
 | some o=>rw[S3 _ _ e] at L;cases L
 rw[ap,xk,a0];exact q;rintro σ H3 ⟨ra,ys,v2,rfl,a4,Z,U,S3⟩;rw[hL.1,aT] at U;exact⟨_,rfl,k ra ys H3 a4 Z U S3⟩
def zga (T:Txt K mg t):FnOk P w K mg base CX0 1 t.f15 t.d15 lY (spV 1 true zdJ):=FnOk.lift (FnOk.mono (zhq T) (by ext)) zeH
def zmr  : FV:=λPn q n R=>∃ (rm:AG),q=[.d (stD rm)]/\(RoomOk rm)/\(R (.d (xj (yZ (rm.map zp)))) n)
def zmr.i{rm:AG}(q:RoomOk rm)(h:R (.d (xj (yZ (rm.map zp)))) n)  : zmr Pn [.d (stD rm)] n R:=⟨rm,rfl,q,h⟩
def zeV (T:Txt K mg t):FnOk P w K mg base CX0 2 t.f16 t.d16 [Aj] (spV 1 true zmr):=by
 have G15:=zga (P:=P) (w:=w) (base:=base) T;show Fun.okW (k:=1) (fr:=true) [] 0 T.q16.F zgt rfl (by ext) rfl λJ A B s H E Pn L=>⟨_,(ze (zI (wE zr <| yS T.q15 G15 L (za (xY (N:=["worths"]) (cix:=[none]) rfl (by walk_at "c") (wI za5 <| zcU K rfl (kv 0)) (λ_ _ _ _=>(wG zK <| zl (i:=0) (show (["worths"]:AM).Nodup by decide +kernel))) (λ_ _ _ _=>yV) (λ_ _ _ _=>(wE uI <| zbm T.b_list T.b_range (zi (kb 0) zn)))) zf)))),λws n R O=>?_⟩;obtain⟨rm,rfl,q,r⟩:=O;left;show zbd rm (λi=>W.d (.int i)) (by rw[aB];rfl) (λρ=>∃a,ρ=[a]) (λm=>lsD (zp m)) (af q.few (by ext)) ⟨_,rfl⟩ ?_ ?_;rintro m I U ⟨a,rfl⟩ C Y;have hb:=q.box m I;left;show⟨⟨by lia,by lia⟩,?_⟩;have Z:lsD (zp m)=Dt.lst (zgJ m.toNat):=by unfold lsD zp zgJ;rw[aB];rfl
 rw[<- Z];exact Y ⟨_,rfl⟩;left;show⟨rm.map zp,by rw[aB];rfl,by rw[ab];exact q.few,λc hc=>?_,r⟩;obtain⟨m,I,rfl⟩:=au.mp hc;have:=q.box m I;rw[yU];lia
def zjb (T:Txt K mg t):FnOk P w K mg base CX0 1 t.f17 t.d17 lu zgx:=by
 show T.q17.F.okQ zji (λvs H Q E h=>?_) (λL A q s H vs Q E hr h=>?_);obtain⟨a,st,b,O,rfl,_⟩:=h;rfl;obtain⟨a,st,b,O,rfl,I,U,Y,k⟩:=h;show⟨_,(xq (uY (yX yt (yX yt (zbE zhJ (qv 0) ze5 (ze6 (qv 1))) (zdb (zG (qv 2) ye))) (zbE zhJ (qv 0) (ze6 (yX yd (qv 1) yE)) ze5)))),?_⟩;have B:∀lo hi,(zdv (st.map V.int) lo hi).length<=400:=λlo hi=>af (za1 _ _ _) (by rw[ab];exact U);show⟨_,rfl,_,rfl,_,rfl,a,_,rfl,I,λZ H1 g1 S1=>?_⟩;show⟨_,rfl,(by change 1<=sizeLine;decide),λt2 H2 _ g2 S2=>?_⟩;show⟨Z,t2,_,_,rfl,rfl,S2 _ _ g1,g2,bW (zaA (by have:=B none (some b);change _+1<=1000;lia)),λt3 H3 g3 S3=>?_⟩;have S03:yJ H H3:=λb o e=>S3 _ _ (S2 _ _ (S1 _ _ e));show⟨_,rfl,_,rfl,_,_,rfl,rfl,_,rfl,a,_,rfl,S03 _ _ I,λt4 H4 g4 S4=>?_⟩;show⟨t3,t4,_,_,rfl,rfl,S4 _ _ g3,g4,?_,λt5 H5 J S5=>?_⟩;have e1:=B none (some b);have e2:=B (some (b+1)) none;show bW (zaA ?_);rw[ak];change _+1+_<=1000;lia;rw[zjM st Y] at J;exact k t5 H5 J λb o e=>S5 _ _ (S4 _ _ (S03 _ _ e))
def znn (T:Txt K mg t):FnOk P w K mg base CX0 1 t.f18 t.d18 lM zlV:=by
 show T.q18.F.okQ zfe (λvs H Q E h=>?_) (λas A U s H vs Q E hr h=>?_);obtain⟨a,Y,st,gs,g,rfl,_⟩:=h;rfl;obtain⟨a,Y,st,gs,g,rfl,ha,B,I,hg,k⟩:=h;have J:gs.length=g.length:=by have:=I.length;rwa[ab] at this
 show⟨_,(zW (zlC aH rfl (zlB (qv 1)) (zoU rfl (uN (x9 (i:=2) zfe.nd rfl (Or.inl rfl)) (uN (x9 (i:=3) zfe.nd rfl (Or.inl rfl)) zhx))) (xq (zlD (zau zeY (znL yR (qv 0) (qv 2) (λ_ _=>rfl)) (qv 3) (zw _)) (xq (uY zq6)) zdc)))
  (xq (uY zq6))),?_⟩
 show⟨_,rfl,Y,rfl,⟨gs,.of B⟩,zpS (K:=K) (xs:=gs) (λi σ H2=>H2=H/\(∃Z v2,σ=[some (.ref a),some (.ref Y),Z,v2])/\zap st (g.take i)=true) ⟨rfl,⟨none,none,rfl⟩,rfl⟩ (λi σ H2 _ ⟨e,_⟩=>e ▸ .of B) ?_ ?_⟩;rintro i y σ H2 hi ⟨rfl,⟨Z,v2,rfl⟩,L⟩;obtain⟨d,hd,ad⟩:=I.get hi;rw[aq] at hd;obtain⟨q,hq,rfl⟩:=aD.mp hd;obtain⟨ca,ys,rfl,ag,y0,z0,rfl,al,y1,z1,rfl,an,ap⟩:=ad;cases al;cases an;cases ap;have O:=hg q (ar hq);show⟨ca,_,rfl,.of ag,rfl,_,_,rfl,_,_,rfl,rfl,?_⟩;show⟨_,rfl,_,rfl,a,_,_,_,rfl,rfl,.of ha,zif O.1 O.2,_,rfl,rfl,_,rfl,zoy (λh1=>?_) (λh1=>?_)⟩
 have e:zap st g=false:=by
  unfold zap;show List.all_eq_false.mpr ⟨q,ar hq,?_⟩;intro z;have z':=bP z;rw[z'] at h1;simp at h1
 rw[e] at k;exact k;show⟨rfl,⟨_,_,rfl⟩,?_⟩
 have e:yH st q.1=q.2:=by
  by_cases e:yH st q.1=q.2;exact e;exact absurd (by simp[e]) h1
 unfold zap at L ⊢;rw[zj hq,List.all_append,L];simp[e];rintro σ H2 ⟨rfl,⟨Z,v2,rfl⟩,L⟩;rw[J,aT] at L;rw[L] at k;exact k
def zbx (T:Txt K mg t):FnOk P w K mg base CX0 2 t.f19 t.d19 lr zlT:=by
 have G17:FnOk P w K mg base CX0 1 t.f17 t.d17 lu zgx:=zjb T;have G18:FnOk P w K mg base CX0 1 t.f18 t.d18 lM zlV:=znn T;show T.q19.F.okQ zbI (λvs H Q E h=>?_) (λb2 A a5 s H vs Q E hr h=>?_);obtain⟨v0,vh,ba,a,rm,xs,bk,st,hs,rfl,_⟩:=h;rfl
 ·obtain⟨v0,vh,ba,a,rm,xs,bk,st,hs,rfl,h1,h8,hB,as,ha,hl,hh,k⟩:=h
  show⟨_,(zW (ua (i:=4) zbI.nd rfl (Or.inr rfl) (znK (zt7 (ztY (qv 3))) (zdb ye) (qv 3)))
   (xq (uY (xp (zmD rfl) (by rfl) T.b_sorted dD (zG (zjf (xN hr) (N:=ld) (cix:=[none,none,none,none,some 2,some 4]) rfl (by walk_at "c") (zlB (qv 1)) (λ_ _ _ _=>(zlz K rfl (n:=4) rfl (uN (x9 (i:=0) (show (ld:AM).Nodup by decide +kernel) rfl (Or.inl rfl)) (uN (x9 (i:=1) (show (ld:AM).Nodup by decide +kernel) rfl (Or.inl rfl)) (uN (x9 (i:=2) (show (ld:AM).Nodup by decide +kernel) rfl (Or.inl rfl)) (uN (x9 (i:=3) (show (ld:AM).Nodup by decide +kernel) rfl (Or.inl rfl)) zhx)))))) (λ_ _ _ _=>(zlE (QW.pt (ziw (zau yF (znL (zr0 K rfl) (qv 4) (qv 1) (λ_ _=>rfl)) (qv 3) (zw _)) (ziw (zau (zeZ K rfl) (qv 1) (qv 5) (by with_unfolding_all rfl)) (zhy (zoW (zje T.q18 G18 hr (zG (qv 4) (zG (qv 0) ye)))))))))) (λ_ _ _ _=>(zje T.q17 G17 hr (zG (qv 4) (zG (qv 1) (zG (qv 2) ye)))))) ye))))),?_⟩
  refine' zwz _ (λ(lv:V) (H1:Hp)=>∃Y,lv = .ref Y/\H1 Y=some (.tup (hs.map V.int))/\yJ H H1) (λzQ=>?_) ?_;rotate_left;show⟨_,rfl,_,rfl,zoy (λh2=>?_) (λh2=>?_)⟩;show⟨(by change 0<=sizeLine;decide),λe H1 _ g1 S1=>?_⟩;generalize a7:V.ref e=lv;show zQ lv H1 ⟨e,a7.symm,?_,S1⟩;rcases hh with ⟨_,I⟩ | ⟨p,I,_⟩;rw[I];exact g1;rw[I] at h2;cases bP h2;show⟨_,rfl,?_⟩;show zQ _ H ?_;rcases hh with ⟨I,_⟩ | ⟨p,I,hp⟩;exact absurd (a6 I) h2;exact⟨p,I,hp,λ_ _ z=>z⟩;rintro _ H1 ⟨Y,rfl,b3,S1⟩;have ag:BookAt H1 rm ba xs bk:=by walk_at "up"
  have av:=hB.len;show⟨_,rfl,ba,rfl,⟨_,.of ag.at'⟩,λacc Z S0=>?_⟩;show zn3 (xs:=xs) Z S0 (λi al H'=>(∃v1 v2 v3 v4,al=[v1,v2,v3,v4,some (.ref a),some (.ref Y)])/\(∃ks,zdu P w H' acc ks/\∀z,z∈ks↔z∈zai (bk.take i) st hs)/\yJ H1 H') (λH' z1 z2=>⟨⟨_,_,_,_,rfl⟩,⟨[],z1,λz=>by change z∈[]↔z∈[];exact Iff.rfl⟩,z2⟩) (λ_ _ _ _ ⟨_,_,S⟩=>.of (S _ _ ag.at')) ?_ ?_;rintro i y al H' B ⟨⟨v1,v2,v3,v4,rfl⟩,⟨ks,J,hm⟩,S'⟩;obtain⟨x,hx,bb,L⟩:=(ag.stay (zB.same S')).get B;obtain⟨wa,ga,gs,rfl,bd,bl,O⟩:=zjs bb;have b1:=L.b1;have an:H' a=some (.tup (st.map V.int)):=by walk_at "up"
  have a0:H' Y=some (.tup (hs.map V.int)):=by walk_at "up"
  have bo:bk.take (i+1)=bk.take i++[x]:=zj hx
  have a1:∀z,z∈zai (bk.take (i+1)) st hs↔(zbh st x=true/\x.b∉hs/\z=chg st x.b x.r)\/z∈zai (bk.take i) st hs:=λz=>by
   rw[bo,zal,zal];constructor;rintro⟨y,B,h2⟩;rcases aI.mp B with B | B;exact .inr ⟨y,B,h2⟩;rw[ao] at B;subst B;exact .inl h2;rintro (h2 | ⟨y,B,h2⟩);exact⟨x,aX _ (by simp),h2⟩;exact⟨y,bE _ B,h2⟩
  have no:¬ (zbh st x=true/\x.b∉hs)->(∃w1 w2 w3 w4,[some (V.ref ga),some (.int x.b),some (.int x.r),some (.int x.w),some (V.ref a),some (.ref Y)]=[w1,w2,w3,w4,some (.ref a),some (.ref Y)])/\(∃ks,zdu P w H' acc ks/\∀z,z∈ks↔z∈zai (bk.take (i+1)) st hs)/\yJ H1 H':=λhn=>⟨⟨_,_,_,_,rfl⟩,⟨ks,J,λz=>by rw[hm,a1];exact⟨.inr,λz=>z.elim (λq=>absurd ⟨q.1,q.2.1⟩ hn) id⟩⟩,S'⟩;show⟨wa,_,rfl,.of bd,rfl,_,_,rfl,_,_,rfl,_,_,rfl,_,_,rfl,rfl,?_⟩;show⟨_,rfl,_,rfl,a,_,_,_,rfl,rfl,.of an,zif L.b0 (by lia),_,rfl,rfl,_,rfl,zoy (λh2=>?_) (λh2=>?_)⟩;have I:yH st x.b=x.w:=by simpa using h2
  show⟨_,rfl,_,rfl,Y,_,rfl,.inr (.of a0),rfl,zkj hs,_,rfl,?_⟩;rw[zmW];by_cases U:x.b∈hs;rw[cY.mpr U];exact zsT (zsT (no λq=>q.2 U))
  have hc:hs.contains x.b=false:=by
   cases e:hs.contains x.b with
   | false=>rfl
   | true=>exact absurd (cY.mp e) U
  rw[hc];show iteT ⟨_,rfl,_,rfl,a,ga,st,gs,x.g,rfl,an,bl,O,λq hq=>?_,_,rfl,?_⟩;have:=L.giv.ok q hq;exact⟨this.1,by lia⟩;have hg:zbh st x=zap st x.g:=by unfold zbh;rw[I];simp
  show zoy (λh3=>?_) (λh3=>?_);show⟨_,rfl,_,rfl,_,rfl,a,st,x.b,x.r,rfl,an,by lia,L.b0,λp H5 hp S5=>?_⟩;have ad:zdu P w H5 acc ks:=by walk_at "up"
  show⟨p,_,ks,rfl,hp,ad,?_,λo bs a2 bx b4=>⟨⟨_,_,_,_,rfl⟩,⟨bs,a2,λz=>?_⟩,ziz Z (by walk_at "up")⟩⟩;obtain⟨_,_,_,_,ap⟩:=ad;have:=zaj (hs:=hs) (bk:=bk.take i) (λy B=>hB.ok y (bG B)) h8 as ap λz hz=>(hm z).mp hz;lia;rw[bx,a1,hm];constructor;rintro (h4 | h4);exact .inl ⟨by rw[hg];exact h3,U,h4⟩;exact .inr h4;rintro (h4 | h4);exact .inl h4.2.2;exact .inr h4;exact no λq=>h3 (by rw[<- hg];exact q.1);show zsT (no λq=>h2 ?_);have:=q.1;unfold zbh at this;rw[bm] at this;simpa using this.1;rintro al H2 ⟨_,⟨ks,J,hm⟩,S2⟩;rw[av,aT] at hm;have O:=zak (hs:=hs) hB.ok hl;show⟨acc,ks,rm.length,rfl,J,?_,h1,λz hz=>O z ((hm z).mp hz),λys a3 b5 hp hu=>?_⟩;obtain⟨_,_,_,_,ap⟩:=J;have:=zaj hB.ok h8 as ap λz hz=>(hm z).mp hz;lia;have e:a3=zaZ bk st hs:=ziB O hu λz=>(hp.mem_iff).trans (hm z);subst e;intro l H3 a4 g3 S3;have S23:yJ H H2:=by walk_at "up"
  show k l H3 ?_ ⟨ys,g3,by walk_at "up"⟩ (by walk_at "up")
  cases e:H l with
  | none=>rfl
  | some o=>rw[S23 _ _ e] at a4;cases a4
def zeN (T:Txt K mg t):FnOk P w K mg base CX0 1 t.fI_Leads t.dI_Leads lA (zfi t.C_Leads):=by
 show T.Leads.FI.okQ zfd (λvs H Q E h=>?_) (λF A B s H vs Q E O h=>?_);obtain⟨a,dx,I,J,L,rfl,_⟩:=h;rfl;show⟨_,⟨zbC (zit (pv 0) (pv 1) rfl) (zbC (zit (pv 0) (pv 2) rfl) (zbC (zit (pv 0) (pv 3) rfl) (ze3 (zit (pv 0) zio rfl))))⟩,?_⟩;have e:xi lA vs=vs.map some:=by obtain⟨a,dx,I,J,L,rfl,_⟩:=h;rfl
 rw[e];exact znS T.Leads.c h λ_ _ q=>q
def zdD (T:Txt K mg t):FnOk P w K mg base CX0 4 t.fA_Leads t.dA_Leads lO (zfh P w t.C_Leads):=by
 show T.Leads.FA.okQ zdI (λvs H Q E h=>?_) (λI A q s H vs Q E F h=>?_);obtain⟨L,st,J,rfl,_⟩:=h;rfl;have B:=xN F
 show⟨_,⟨zbC (ztS (zoT (zlq B (pv 1) (zqP (zd3 (pv 0) rfl)))) (ze3 (zlw B (zd3 (pv 0) rfl) (pv 1) (zqJ (zt2 T.q19 (zbx (P:=P) (w:=w) (base:=base) T) F ⟨zb4 (zd3 (pv 0) rfl) (zb4 (zd3 (pv 0) rfl) (zb4 (pv 1) (zb4 (zd3 (pv 0) rfl) zoO)))⟩).run) rfl)) zlx)
  (ze3 (zoS (zqK (zls B (zd3 (pv 0) rfl) (pv 1) (λ_ _=>rfl)))))⟩,?_⟩
 have e:xi lO vs=vs.map some:=by obtain⟨L,st,J,rfl,_⟩:=h;rfl
 rw[e];exact znR T.Leads.c h rfl
def zju  : FV:=λPn q n R=>∃ (rm:AG) (bk:AW) (st hs:AG) (v:W),q=[.d (stD rm),.d (y8 bk),.d (stD st),v]/\(v = .d (stD hs)\/(hs=[]/\v = .d .non))/\(RoomOk rm)/\(xu rm bk)/\(st.length=rm.length)/\(R (.d (xj (zaZ bk st hs))) n)
def zju.i{rm:AG}{st hs:AG}(B:v = .d (stD hs)\/(hs=[]/\v = .d .non))(F:RoomOk rm)(I:xu rm bk)(q:st.length=rm.length)(h:R (.d (xj (zaZ bk st hs))) n)  : zju Pn [.d (stD rm),.d (y8 bk),.d (stD st),v] n R:=⟨rm,bk,st,hs,v,rfl,B,F,I,q,h⟩
def znf:zr9 4 true zju zlT:=by
 rintro vs H Q E ⟨Pn,A,ws,n,R,al,hv,Z,hp,h,q⟩;obtain⟨rm,bk,st,hs,v,rfl,B,F,hB,I,h4⟩:=h;obtain⟨a,b,c,d,rfl,b1,b2,b3,b4⟩:=zxo hv;obtain⟨ba,xs,rfl,J,L⟩:=b2.bor.is;obtain⟨sa,rfl,O⟩:=zmg b3
 have hh:zaX H d hs:=by
  rcases B with rfl | ⟨rfl,rfl⟩;obtain⟨ha,rfl,U⟩:=zmg b4;exact .inr ⟨ha,rfl,U⟩;obtain rfl:=Val.is b4;exact .inl ⟨rfl,rfl⟩
 show⟨a,d,ba,sa,rm,xs,bk,st,hs,rfl,F.pos,F.few,⟨J,L,hB⟩,F.box,O,I,hh,?_⟩;rintro l H' nl ⟨ys,Z,Y⟩ S;obtain⟨z1,z2⟩:=zlZ al S nl Z Y;exact q _ n _ H' h4 z1 (Go.same hp S) λ_=>z2
def zdF (T:Txt K mg t):FnOk P w K mg base CX0 2 t.f19 t.d19 lr (spV 4 true zju):=FnOk.lift (FnOk.mono (zbx T) (by ext)) znf
structure Gr (V:AF)(g:AG->AF):Prop where
 nd:V.Nodup
 few:V.length<=256
 sub:∀s∈V,∀t∈g s,t∈V
 snd:∀s∈V,(g s).Nodup
 gl:∀s∈V,(g s).length<=32
def ldD (V:AF)(g:AG->AF):List (AG×Dt):=V.map λs=>(s,xj (g s))
def mkD (V:AF)(c:AG->Int):List (AG×Dt):=V.map λs=>(s,.int (c s))
def y6 {f:AG->Dt}{s:AG}:∀ {V:AF},s∈V->yW (V.map λs=>(s,f s)) s=some (f s)
 | v::V,h=>by
  by_cases e:v=s;simp[yW,e];have:=y6 (f:=f) ((aF.mp h).resolve_left λz=>e z.symm);simpa [yW,e] using this
def zho {V:AF}{c:AG->Int}{t:AG}{x:Int}(h:t∈V):zfr (mkD V c) t (.int x)=mkD V λs=>if s=t then x else c s:=by
 unfold zfr mkD;rw[if_pos (dn.mpr ⟨(t,.int (c t)),au.mpr ⟨t,h,rfl⟩,a6 rfl⟩),aB];show eL λs _=>?_;by_cases e:s=t;simp[e];simp[e]
def zaC {V:AF}{g:AG->AF}:((ldD V g).map λq=>W.d (stD q.1))=V.map λs=>W.d (stD s):=by unfold ldD;rw[aB];rfl
def zok{rm:AG}{s t:AG}(B:xu rm bk)(hs:StOk rm s)(F:t∈zaZ bk s []):StOk rm t:=by obtain⟨x,I,_,_,rfl⟩:=zal.mp (zaB.mp F);have q:=B x I;exact ziD hs q.b0 q.b1 q.r0 q.r1
def zsf{rm:AG}(B:RoomOk rm)(q:xu rm bk)(F:(yZ (rm.map zp)).length<=256):Gr (yZ (rm.map zp)) λs=>zaZ bk s [] where
 nd:=zoj rm
 few:=F
 sub:=λs hs t I=>zb8 (zok q (uC _ _ hs) I)
 snd:=λs hs=>zuU (zpo q (uC _ _ hs).len)
 gl:=λs hs=>zjH q B.few B.box (uC _ _ hs).len
def zu6  : FV:=λPn q n R=>∃ (rm:AG) (bk:AW),q=[.d (stD rm),.d (y8 bk)]/\(RoomOk rm)/\(xu rm bk)/\(R (.df (ldD (yZ (rm.map zp)) λs=>zaZ bk s [])) n)
def zu6.i{rm:AG}(q:RoomOk rm)(B:xu rm bk)(h:R (.df (ldD (yZ (rm.map zp)) λs=>zaZ bk s [])) n)  : zu6 Pn [.d (stD rm),.d (y8 bk)] n R:=⟨rm,bk,rfl,q,B,h⟩
def zbz (T:Txt K mg t):FnOk P w K mg base CX0 3 t.f20 t.d20 lC (spV 2 false zu6):=by
 have G16:=zeV (P:=P) (w:=w) (base:=base) T;have G19:=zdF (P:=P) (w:=w) (base:=base) T;show Fun.okW (k:=2) (fr:=false) [] 0 T.q20.F zb7 rfl (by ext) rfl λJ A q s H E Pn B=>⟨_,(ze (zI (zv9 (zh9 (xN B) (N:=[An,Aj,Ak]) (cix:=[none,some 0,some 1]) rfl (by walk_at "c") (wI xb <| y9 K rfl (wE zr <| yS T.q16 G16 B (za (kv 0) zf))) (λ_ _ _ _=>(wG zK <| zl (i:=0) (show ([An,Aj,Ak]:AM).Nodup by decide +kernel))) (λ_ _ _ _=>yV) (λ_ _ _ _=>(kb 0)) (λ_ _ _ _=>(zv7 T.q19 G19 B (za (kv 1) (za (kv 2) (za (kv 0) zf))))))))),λws n R L=>?_⟩;obtain⟨rm,bk,rfl,I,O,r⟩:=L;left;show zmr.i I ?_;left;show zeu (yZ (rm.map zp)) (by rw[aB];rfl) (λρ=>∃a,ρ=[a,some (.d (stD rm)),some (.d (y8 bk))]) (λ_=>true) (λs=>xj (zaZ bk s [])) (zoj rm) (af (zpl I) (by ext)) ⟨_,rfl⟩ ?_ ?_;rintro s hs U ⟨a,rfl⟩ C Y Z;left;show zju.i (.inr ⟨rfl,rfl⟩) I O (uC _ _ hs).len ?_;left;exact⟨_,rfl,Y rfl ⟨_,rfl⟩⟩;rw[du.mpr λ_ _=>rfl];exact r
def zu8  : FV:=λPn q n R=>∃ (V:AF) (g:AG->AF),q=[.df (ldD V g)]/\(Gr V g)/\(∀c:AG->Int,(∀t∈V,c t=((V.flatMap g).count t:Nat))->R (.dt (mkD V c)) n)
def zu8.i{V:AF}{g:AG->AF}(q:Gr V g)(h:∀c:AG->Int,(∀t∈V,c t=((V.flatMap g).count t:Nat))->R (.dt (mkD V c)) n)  : zu8 Pn [.df (ldD V g)] n R:=⟨V,g,rfl,q,h⟩
def zeU (T:Txt K mg t):FnOk P w K mg base CX0 1 t.f21 t.d21 [A8] (spV 1 true zu8):=by
 show Fun.okW (k:=0) (fr:=true) [1] 3 T.q21.F uf rfl (by ext) rfl λag A Y s H E Pn Z=>⟨_,(zb (wS yr <| zhe (i:=1) (zi2 (ix:=1) (xN Z) uf.nd rfl rfl (N:=lW) (cix:=[none]) rfl (by walk_at "c") (zi1 (kv 0)) (λ_ _ _ _=>(wG zK <| zl (i:=0) (show (lW:AM).Nodup by decide +kernel))) (λ_ _ _ _=>yV) (λ_ _ _ _=>(kb 0)) (λ_ _ _ _=>zm)))
   (zb (yq aH rfl (zi1 (kv 0)) (wG zK <| zl (i:=2) uf.nd) (ze (yq aH rfl (wI xb <| y9 K rfl (zhc (xN Z) (kb 0) (kb 2) (λ_ _=>rfl))) (wG zK <| zl (i:=3) uf.nd) (ze (zkM (F:=λi j=>i+j) 1 (xN Z) (kb 3) zsO (JE.bo zm))))))
   (ze (wS uJ <| za3 1)))),λws n R hF=>?_⟩
 obtain⟨V,g,rfl,hG,r⟩:=hF;left;have hV:=hG.few;intro _;rw[zaC];show zeu V rfl (λρ=>∃a,ρ=[a]) (λ_=>true) (λ_=>.int 0) hG.nd (af hV (by ext)) ⟨_,rfl⟩ ?_ ?_;rintro s hs al ⟨a,rfl⟩ C hY an;left;exact⟨_,rfl,hY rfl ⟨_,rfl⟩⟩;rw[du.mpr λ_ _=>rfl];left;intro _;rw[zaC];show zR V (λs=>W.d (stD s)) rfl (λi ρ m=>m=n/\∃ (c:AG->Int) (v2 J:Option W),ρ=[some (.df (ldD V g)),some (.dt (mkD V c)),v2,J]/\∀t∈V,c t=(((V.take i).flatMap g).count t:Nat)) ⟨rfl,λ_=>0,_,_,rfl,by simp⟩ ?_ ?_;rintro i s ρ m hs ⟨rfl,c,v2,J,rfl,I⟩ C B E hC _ _;have L:=ar hs;left;show⟨s,rfl,xc (y6 L) ?_⟩;left;show zR (g s) (λs=>W.d (stD s)) (by rw[aB];rfl) (λj ρ m'=>m'=m/\∃ (c:AG->Int) (J:Option W),ρ=[some (.df (ldD V g)),some (.dt (mkD V c)),some (.d (stD s)),J]/\∀t∈V,c t=(((V.take i).flatMap g++(g s).take j).count t:Nat)) ⟨rfl,c,_,rfl,by simpa using I⟩ ?_ ?_;rintro j t ρ m' U ⟨rfl,c,J,rfl,I⟩ C' B' E' ad _ _;have O:=hG.sub s L t (ar U);left;show⟨t,rfl,_,y6 O,?_⟩;left;show⟨aG (by unfold mkD;rw[ab];exact hV) (by ext),?_⟩;rw[zho O];show ad ⟨rfl,_,_,rfl,λz hz=>?_⟩;have:=I z hz;rw[zj U,<- b6,c7];by_cases e:z=t;subst e;simp only[if_pos,List.count_singleton_self];rw[this];lia;rw[if_neg e,this,List.count_singleton,if_neg (by simpa using λq=>e q.symm),Nat.add_zero];rintro ρ m' ⟨rfl,c,J,rfl,I⟩;rw[aT] at I;show hC ⟨rfl,c,_,_,rfl,λt U=>?_⟩;rw[I t U,zj hs,List.flatMap_append];simp;rintro ρ m ⟨rfl,c,v2,J,rfl,I⟩;rw[aT] at I;left;exact r c I
def zva  : FV:=λPn B n R=>∃ (V lf:AF) (g:AG->AF),B=[.df (ldD V g),.d (xj lf)]/\(Gr V g)/\(∀s∈lf,s∈V)/\(lf.Nodup)/\(lf≠[])/\(∀t∈lf,∃s∈lf,t∈g s)/\(∀q:AF,q≠[]->(∀s∈q,s∈V)->q.length<=256->R (.d (xj q)) n)
def zva.i{V lf:AF}{g:AG->AF}(B:Gr V g)(hs:∀s∈lf,s∈V)(F:lf.Nodup)(I:lf≠[])(J:∀t∈lf,∃s∈lf,t∈g s)(h:∀q:AF,q≠[]->(∀s∈q,s∈V)->q.length<=256->R (.d (xj q)) n)  : zva Pn [.df (ldD V g),.d (xj lf)] n R:=⟨V,lf,g,rfl,B,hs,F,I,J,h⟩
def zdG (T:Txt K mg t):FnOk P w K mg base CX0 1 t.f22 t.d22 lV (spV 2 true zva):=by
 show Fun.okW (k:=0) (fr:=true) [3,6] 5 T.q22.F yi rfl (by ext) rfl λbd A a1 s H E Pn hr=>⟨_,(zb (wS zo <| zD (i:=2) yi.nd (xm (zjW hr.units rfl) zuQ (by rfl) T.b_set PyProof.Rows.boot_set (zi (kb 1) zn)))
   (zb (wS yr <| xC (i:=3) yi.nd zkJ)
   (zb (yq aH rfl (wI xb <| y9 K rfl (kv 1)) (wG zK <| zl (i:=4) yi.nd) (ze (yq aH rfl (wI xb <| y9 K rfl (zhc (xN hr) (kb 0) (kb 4) (λ_ _=>rfl))) (wG zK <| zl (i:=5) yi.nd) (ze (wS zu <| zZ (wT zk <| zx (ztu (xN hr)) zw8 (kb 5) (kb 2) (by with_unfolding_all rfl)) (ze (wS zc3 <| zeE 3 (xN hr) (kb 5) (kv 4))) zy)))))
   (zb (wS yr <| xC (i:=6) yi.nd (yP zf))
   (zb (wS zo <| zD (i:=4) yi.nd (uA yv uS (kb 1) (JE.bo zm) (λ_ _=>rfl)))
   (zb (zib aH (wT zk <| zx (zgf hr.units) zn7 (kb 4) (kb 6) (by with_unfolding_all rfl)) (zb (wS uH <| zbn 6 (kv 4))
   (ze (wS zo <| zD (i:=4) yi.nd (wE xo <| uF (xN hr) (kb 3) (kb 4) (λ_ _=>rfl))))))
   (ze (zI (wE zeL <| zkK (JE.bo (wE zO <| xn (kb 6) (wO zq <| zA (JE.bo (zia K rfl hr.units (kb 6) (kb 4)))) zz))))))))))),λws n R hF=>?_⟩
 obtain⟨V,lf,g,rfl,hG,hs,hN,h0,hp,r⟩:=hF;left;have hV:=hG.few;have hl:=zT hN hs;show⟨lf,rfl,λks h1 h2=>by have:=zT h1 h2;lia,λks bk a2=>?_⟩;left;show zR lf (λs=>W.d (stD s)) (by rw[aB];rfl) (λi ρ m=>m=n/\i<=lf.length/\∃ (kvs:List (AG×Dt)) (v4 v5:Option W),ρ=[some (.df (ldD V g)),some (.d (xj lf)),some (.ss P w ks),some (.dt kvs),v4,v5,none]/\kvs.length<=32 * i/\(∀t d,yW kvs t=some d->∃s∈lf,t∈g s/\d=stD s)/\∀s∈lf.take i,∀t∈g s,t∈lf->yW kvs t≠none) ⟨rfl,aK _,[],_,_,rfl,ah _,λt d h=>by simp[yW] at h,by simp⟩ ?_ ?_
 ·rintro i s ρ m ag ⟨rfl,bl,kvs,v4,v5,rfl,ad,O,L⟩ C B E hC _ _;have al:=ar ag;have hi:=(ac.mp ag).1;have bs:=hG.gl s (hs s al);left;show⟨s,rfl,xc (y6 (hs s al)) ?_⟩;left;show zR (g s) (λs=>W.d (stD s)) (by rw[aB];rfl) (λj ρ m'=>m'=m/\∃ (kvs:List (AG×Dt)) (v5:Option W),ρ=[some (.df (ldD V g)),some (.d (xj lf)),some (.ss P w ks),some (.dt kvs),some (.d (stD s)),v5,none]/\kvs.length<=32 * i+j/\(∀t d,yW kvs t=some d->∃s∈lf,t∈g s/\d=stD s)/\(∀s∈lf.take i,∀t∈g s,t∈lf->yW kvs t≠none)/\∀t∈(g s).take j,t∈lf->yW kvs t≠none) ⟨rfl,kvs,_,rfl,ad,O,L,by simp⟩ ?_ ?_
  ·rintro j t ρ m' ht ⟨rfl,kvs,v5,rfl,ad,O,L,Y⟩ C' B' E' as _ _;have hj:=(ac.mp ht).1;left;show⟨t,ks,rfl,rfl,λc hc=>?_⟩;left;show zjc (λh=>?_) (λh=>?_)
   ·left;show⟨t,rfl,aG (by lia:_<=10000) (by ext),as ⟨rfl,_,_,rfl,by have:=zhv kvs t (stD s);lia,λz d U=>?_,λz U y Z J=>?_,λy Z J=>?_⟩⟩;rw[zbs] at U;by_cases e:z=t;rw[if_pos e] at U;exact⟨s,al,e ▸ ar ht,(bz U).symm⟩;rw[if_neg e] at U;exact O z d U;rw[zbs];split;exact Option.some_ne_none _;exact L z U y Z J
    ·rw[zbs];split;exact Option.some_ne_none _
     ·rename_i e;rw[zj ht] at Z;exact Y y ((aI.mp Z).resolve_right λz=>e (ao.mp z)) J
   left;show as ⟨rfl,kvs,_,rfl,by lia,O,L,λy Z J=>?_⟩;rw[zj ht] at Z;rcases aI.mp Z with z | z;exact Y y z J;rw[ao.mp z] at J;rw[hc.mpr ((a2 t).mpr J)] at h;cases h
  rintro ρ m' ⟨rfl,kvs,v5,rfl,ad,O,L,Y⟩;rw[aT] at Y;show hC ⟨rfl,hi,kvs,_,_,rfl,by lia,O,λz U y Z J=>?_⟩;rw[zj ag] at U;rcases aI.mp U with q | q;exact L z q y Z J;rw[ao.mp q] at Z;exact Y y Z J
 rintro ρ m ⟨rfl,_,kvs,v4,v5,rfl,ad,O,L⟩;rw[aT] at L
 have a3:∀t∈lf,∃s∈lf,t∈g s/\yW kvs t=some (stD s):=λt ht=>by
  obtain⟨s,h1,h2⟩:=hp t ht
  cases e:yW kvs t with
  | none=>exact absurd e (L s h1 t h2 ht)
  | some d=>
   obtain⟨s',h3,h4,rfl⟩:=O t d e;exact⟨s',h3,h4,rfl⟩
 left;obtain⟨x0,l0,rfl⟩:=cz h0;have e0:atI ((x0::l0).map stD) 0=some (stD x0):=zbb (i:=0) rfl;show xc e0 ?_;left;show zpf (λk ρ n'=>n'=m/\∃ (I:AF) (h:AG),k=(x0::l0).length - I.length/\ρ=[some (.df (ldD V g)),some (.d (xj (x0::l0))),some (.ss P w ks),some (.dt kvs),some (.d (stD h)),v5,some (.d (xj I))]/\I.Nodup/\(∀z∈I,z∈x0::l0)/\h∈x0::l0) (x0::l0).length ⟨rfl,[],x0,rfl,rfl,.nil,by simp,am⟩ ?_;rintro k ρ n' ⟨rfl,I,h,rfl,rfl,av,an,hh⟩ C B X hC hB hX;have bx:=zT av an;left;show⟨xV,uh I,λb hb=>?_⟩;left;show zoG (λhn=>?_) (λhn=>?_)
 have a4:h∉I:=λz=>by
  rw[hb.mpr (zhl.mpr z)] at hn;cases hn
 obtain⟨s,a5,ap,a7⟩:=a3 h hh;left;show⟨aG (by rw[ab];lia:_<=1000) (by ext),?_⟩;have e2:I.map stD++[stD h]=(I++[h]).map stD:=by rw[aE];rfl
 rw[e2];show⟨h,rfl,xc a7 ?_⟩;have a0:(I++[h]).Nodup:=by rw[cv];exact⟨av,by simp,λa ha c hc e=>a4 (by rw[<- ao.mp hc,<- e];exact ha)⟩
 have ap:∀z∈I++[h],z∈x0::l0:=λz U=>by
  rcases aI.mp U with q | q;exact an z q;rw[ao.mp q];exact hh
 have:=zT a0 ap;rw[ak,bO] at this;show hC ((x0::l0).length - (I++[h]).length) (by rw[ak,bO];lia) ⟨rfl,I++[h],s,rfl,rfl,a0,ap,a5⟩;have ba:stD h∈I.map stD:=hb.mp hn;show hB ?_;left;show⟨xV,uh I,ba,λj bb b0=>?_⟩;left;rw[zfF,<- List.map_drop,<- List.map_reverse];have hj:=(ac.mp bb).1;rw[ab] at hj;show r _ (λz=>?_) (λz U=>hs z (an z (c9 (List.mem_reverse.mp U)))) (by rw[eQ,cg];lia);have:=congrArg List.length z;rw[eQ,cg,eF] at this;lia
def rsV (V P:AF):AF:=V.filter λs=>decide (s∉P)
def cnt (V:AF)(g:AG->AF)(P:AF)(t:AG):Nat:=((rsV V P).flatMap g).count t
def zeq {g:AG->AF}{P:AF}{h t:AG}(I:h∉P):∀ {V:AF},V.Nodup->h∈V->cnt V g P t=cnt V g (P++[h]) t+(g h).count t
 | v::V,J,L=>by
  have q:=bS.mp J;unfold cnt rsV;by_cases e:v=h;subst e;have O:(V.filter λs=>decide (s∉P++[v]))=V.filter λs=>decide (s∉P):=List.filter_congr λs hs=>by have:s≠v:=λz=>q.1 (z ▸ hs);simp[this]
  rw[dN (by simpa using I),dO (by simp),O,fE,c7];lia;have F:=zeq (g:=g) (t:=t) I q.2 ((aF.mp L).resolve_left λz=>e z.symm);unfold cnt rsV at F;by_cases B:v∈P;rw[dO (by simpa using B),dO (by simp[B])];exact F;rw[dN (by simpa using B),dN (by simp[B,e]),fE,fE,c7,c7,F];lia
structure Kn (V:AF)(g:AG->AF)(P row:AF)(d:AF)(c:AG->Int):Prop where
 nd:row.Nodup
 sub:∀z∈row,z∈V
 zero:∀t∈V,t∈row↔c t=0
 c:∀t∈V,c t=(cnt V g P t:Int) - (d.count t:Nat)
def zmq  : FV:=λPn B n R=>∃ (rm:AG) (bk:AW),B=[.d (stD rm),.d (y8 bk)]/\(RoomOk rm)/\(xu rm bk)/\((yZ (rm.map zp)).length<=256)/\((∀q:AF,q≠[]->(∀s∈q,s∈yZ (rm.map zp))->q.length<=256->R (.d (.tup [.str "ring",xj q])) n)/\∀L:AG,L.length=(yZ (rm.map zp)).length->(∀x∈L,0<=x/\x<=256)->R (.d (.tup [.str "worths",stD L])) n)
def zmq.i{rm:AG}(B:RoomOk rm)(F:xu rm bk)(I:(yZ (rm.map zp)).length<=256)(h:(∀q:AF,q≠[]->(∀s∈q,s∈yZ (rm.map zp))->q.length<=256->R (.d (.tup [.str "ring",xj q])) n)/\∀L:AG,L.length=(yZ (rm.map zp)).length->(∀x∈L,0<=x/\x<=256)->R (.d (.tup [.str "worths",stD L])) n)  : zmq Pn [.d (stD rm),.d (y8 bk)] n R:=⟨rm,bk,rfl,B,F,I,h⟩
def zbA (T:Txt K mg t):FnOk P w K mg base CX0 4 t.f23 t.d23 lC (spV 2 false zmq):=by
 have G20:=zbz (P:=P) (w:=w) (base:=base) T;have G21:=zeU (P:=P) (w:=w) (base:=base) T;have G22:=zdG (P:=P) (w:=w) (base:=base) T
 show Fun.okW (k:=3) (fr:=false) [3,4,5] 8 T.q23.F zF rfl (by ext) rfl λbl A a7 s H E Pn hr=>⟨_,(zb (wS zo <| zD (i:=2) zF.nd (wE zr <| yS T.q20 G20 hr (za (kv 0) (za (kv 1) zf))))
   (zb (wS yr <| xC (i:=3) zF.nd (wE zr <| yS T.q21 G21 hr (za (kv 2) zf)))
   (zb (wS yr <| xC (i:=4) zF.nd (zh9 (xN hr) (N:=lW) (cix:=[none]) rfl (by walk_at "c") (zi1 (kv 2)) (λ_ _ _ _=>(wG zK <| zl (i:=0) (show (lW:AM).Nodup by decide +kernel))) (λ_ _ _ _=>yV) (λ_ _ _ _=>(kb 0)) (λ_ _ _ _=>zm)))
   (zb (wS yr <| zhe (i:=5) (zcz (ix:=5) zF.nd rfl rfl (N:=lJ) (cix:=[none,some 3]) rfl (by walk_at "c") (zi1 (kv 2)) (λ_ _ _ _=>(wG zK <| zl (i:=0) (show (lJ:AM).Nodup by decide +kernel))) (λ_ _ _ _=>(zbX (wT zk <| zx yF zae (JE.bo (wE xo <| uF (xN hr) (kb 1) (kb 0) (λ_ _=>rfl))) (JE.bo zm) (zw _)))) (λ_ _ _ _=>(kv 0))))
   (zb (wS zo <| zD (i:=6) zF.nd zm)
   (zb (zib aH (wT zk <| zx zht zr5 (kb 6) (JE.bo (zM ym xP (by rfl) T.b_len aN (zi (kb 5) zn))) (zw _)) (zb (wS zo <| zD (i:=7) zF.nd (uA yv uS (kb 5) (kb 6) (λ_ _=>rfl)))
   (zb (yq aH rfl (wI xb <| y9 K rfl (zhc (xN hr) (kb 2) (kb 7) (λ_ _=>rfl))) (wG zK <| zl (i:=8) zF.nd) (zb (wS zc3 <| zeE 4 (xN hr) (kb 8) (zM (zpv rfl) zxa (by rfl) T.b_max PyProof.Rows.boot_max (zi (JE.bo (wE xo <| uF (xN hr) (kb 4) (kb 8) (λ_ _=>rfl))) (zi (JE.bo (yY yd uk (JE.bo (wE xo <| uF (xN hr) (kb 4) (kb 7) (λ_ _=>rfl))) (JE.bo zm))) zn))))
   (zb (zkM (F:=λi j=>i - j) 3 (xN hr) (kb 8) zsP (JE.bo zm))
   (ze (wS zu <| zZ (wT zk <| zx yF zae (JE.bo (wE xo <| uF (xN hr) (kb 3) (kb 8) (λ_ _=>rfl))) (JE.bo zm) (zw _)) (ze (wS uH <| zbn 5 (kv 8))) zy)))))
   (ze (zsZ (F:=λi j=>i+j) (i:=6) zF.nd zsQ (JE.bo zm))))))
   (zb (wS zo <| zkO (i:=9) (zcz (ix:=9) zF.nd rfl rfl (N:=lJ) (cix:=[none,some 3]) rfl (by walk_at "c") (zi1 (kv 2)) (λ_ _ _ _=>(wG zK <| zl (i:=0) (show (lJ:AM).Nodup by decide +kernel))) (λ_ _ _ _=>(zbX (wT zk <| zx znp u_gt (JE.bo (wE xo <| uF (xN hr) (kb 1) (kb 0) (λ_ _=>rfl))) (JE.bo zm) (zw _)))) (λ_ _ _ _=>(kv 0))))
   (zb (wS zu <| zZ (wT zqt <| zm6 (kb 9)) (ze (zI (xL (za zkL (za (wE zr <| yS T.q22 G22 hr (za (kv 2) (za (kv 9) zf))) zf))))) zy)
   (ze (zI (xL (za zkL (za (xm yN za9 (by rfl) T.b_tuple bv (zi (JE.bo (xY (N:=[An,"longest"]) (cix:=[none,some 4]) rfl (by walk_at "c") (zi1 (kv 2)) (λ_ _ _ _=>(wG zK <| zl (i:=0) (show ([An,"longest"]:AM).Nodup by decide +kernel))) (λ_ _ _ _=>yV) (λ_ _ _ _=>(wE xo <| uF (xN hr) (kb 1) (kb 0) (λ_ _=>rfl))))) zn)) zf))))))))))))),λws n R hF=>?_⟩
 obtain⟨rm,bk,rfl,hR,hB,hq,r⟩:=hF;left;obtain⟨rR,rW⟩:=r;have hG:=zsf hR hB hq;show zu6.i hR hB ?_;left;generalize yZ (rm.map zp)=V at *;generalize (λs=>zaZ bk s [])=g at *;have hV:=hG.few;show zu8.i hG λc0 ba=>?_;left;intro _;rw[zaC];show zeu V rfl (λρ=>∃a,ρ=[a]) (λ_=>true) (λ_=>.int 0) hG.nd (af hV (by ext)) ⟨_,rfl⟩ ?_ ?_;rintro s hs as ⟨a,rfl⟩ C hY ag;left;exact⟨_,rfl,hY rfl ⟨_,rfl⟩⟩;rw[du.mpr λ_ _=>rfl];left;intro _;rw[zaC];show zcM V (λs=>W.d (stD s)) rfl (λρ=>∃a,ρ=[a,some (.dt (mkD V c0))]) (λs=>decide (c0 s=0)) (λs=>stD s) (af hV (by ext)) ⟨_,rfl⟩ ?_ ?_;rintro s hs as ⟨a,rfl⟩ C hY ag;left;show⟨s,rfl,xc (y6 hs) ?_⟩;left;exact yw (λz=>hY (a6 z) ⟨_,rfl⟩) (λz=>ag (bg z) ⟨_,rfl⟩);left;have k0:Kn V g [] (V.filter λs=>decide (c0 s=0)) [] c0:=⟨hG.nd.filter _,λz hz=>(bw.mp hz).1,λt ht=>by simp[bw,ht],λt ht=>by rw[ba t ht];unfold cnt rsV;rw[du.mpr λ_ _=>by simp];simp⟩;show zpf (λk ρ n'=>n'=n/\∃ (I:AF) (a:Nat) (c L:AG->Int) (v7 v8:Option W),k=V.length - a/\ρ=[some (.d (stD rm)),some (.d (y8 bk)),some (.df (ldD V g)),some (.dt (mkD V c)),some (.dt (mkD V L)),some (.d (xj I)),some (.d (.int (a:Int))),v7,v8,none]/\a<=I.length/\Kn V g (I.take a) I [] c/\∀t∈V,0<=L t/\L t<=a) V.length ⟨rfl,_,0,c0,λ_=>0,_,_,rfl,rfl,aK _,k0,λ_ _=>⟨Int.le_refl _,Int.le_refl _⟩⟩ ?_;rintro k ρ n' ⟨rfl,I,a,c,L,v7,v8,rfl,rfl,al,J,hL⟩ C B X hC bb hX;have a1:=zT J.nd J.sub;left;rw[ab];show yw (λbs=>?_) (λbx=>?_)
 ·have ha:a<I.length:=by lia
  obtain⟨h,hh⟩:∃h,I[a]?=some h:=⟨_,ai ha⟩;have bd:=ar hh;have Z:=J.sub h bd
  have a2:h∉I.take a:=λz=>by
   have:=J.nd;rw[<- ee a I,cv] at this;show this.2.2 h z h ?_ rfl;rw[di ha];have e:I[a]=h:=by rw[ai ha] at hh;exact bz hh
   rw[e];exact am
  generalize hP:I.take a=P at *;left;show xc (show atI (I.map stD) (a:Int)=some (stD h) from zbb (by rw[aq,hh];rfl)) ?_;left;show⟨h,rfl,xc (y6 Z) ?_⟩;left;show zR (g h) (λs=>W.d (stD s)) (by rw[aB];rfl) (λj ρ m'=>m'=n'/\∃ (I:AF) (c L:AG->Int) (v8:Option W),ρ=[some (.d (stD rm)),some (.d (y8 bk)),some (.df (ldD V g)),some (.dt (mkD V c)),some (.dt (mkD V L)),some (.d (xj I)),some (.d (.int (a:Int))),some (.d (stD h)),v8,none]/\I[a]?=some h/\I.take a=P/\Kn V g P I ((g h).take j) c/\L h<=a/\∀t∈V,0<=L t/\L t<=a+1) ⟨rfl,I,c,L,_,rfl,hh,hP,by simpa using J,(hL h Z).2,λt ht=>by have:=hL t ht;lia⟩ ?_ ?_
  ·rintro j t ρ m' ht ⟨rfl,I,c,L,v8,rfl,O,an,J,av,hL⟩ C' B' E' ap _ _;have a3:=ar ht;have U:=hG.sub h Z t a3;have a1:=zT J.nd J.sub;have al:=(ac.mp O).1
   have c1:((g h).take j).count t=0:=by
    have:=hG.snd h Z;rw[<- ee j (g h),cv] at this;show List.count_eq_zero.mpr λz=>this.2.2 t z t ?_ rfl;have hj:=(ac.mp ht).1;rw[di hj];have e:(g h)[j]=t:=by rw[ai hj] at ht;exact bz ht
    rw[e];exact am
   have c2:=zeq (g:=g) (t:=t) a2 hG.nd Z;have c3:0<(g h).count t:=List.count_pos_iff.mpr a3;have c4:=J.c t U;have a0:t∉I:=λz=>by have:=(J.zero t U).mp z;lia
   have a4:h≠t:=λz=>a0 (z ▸ ar O)
   have a5:∀z∈V,0<=(if z=t then if L h+1 > L t then L h+1 else L t else L z)/\(if z=t then if L h+1 > L t then L h+1 else L t else L z)<=a+1:=λz hz=>by
    have l1:=hL z hz;have l2:=hL h Z;have l3:=hL t U;split
    ·split <;> lia
    lia
   have ct:∀z,((g h).take (j+1)).count z=((g h).take j).count z+if t=z then 1 else 0:=λz=>by
    rw[zj ht,c7,List.count_singleton];by_cases e:t=z;simp[e];simp[e]
   left;show⟨t,rfl,xc (y6 U) ?_⟩;left;show⟨h,rfl,xc (y6 Z) ?_⟩;left;show⟨t,rfl,aG (by unfold mkD;rw[ab];exact hV) (by ext),?_⟩;rw[zho U];show⟨t,rfl,_,y6 U,?_⟩;left;show⟨aG (by unfold mkD;rw[ab];exact hV) (by ext),?_⟩;rw[zho U];left;show⟨t,rfl,xc (y6 U) ?_⟩;left;show yw (λhz=>?_) (λhz=>?_);rw[if_pos rfl] at hz;left;show⟨aG (by rw[ab];lia:_<=1000) (by ext),?_⟩;have e2:I.map stD++[stD t]=(I++[t]).map stD:=by rw[aE];rfl
   rw[e2];show ap ⟨rfl,I++[t],_,_,_,rfl,by rw[bf al];exact O,by rw[List.take_append_of_le_length (by lia)];exact an,⟨?_,λz Y=>?_,λz Y=>?_,λz Y=>?_⟩,by rw[if_neg a4];exact av,a5⟩;rw[cv];exact⟨J.nd,by simp,λa ha c hc e=>a0 (by rw[<- ao.mp hc,<- e];exact ha)⟩;rcases aI.mp Y with q | q;exact J.sub z q;rw[ao.mp q];exact U;rw[aI,ao];by_cases e:z=t;subst e;rw[if_pos rfl];exact⟨λ_=>by lia,λ_=>.inr rfl⟩;rw[if_neg e,<- J.zero z Y];exact⟨λq=>q.resolve_right e,.inl⟩;have:=J.c z Y;rw[ct z];by_cases e:z=t;subst e;rw[if_pos rfl,if_pos rfl];lia;rw[if_neg e,if_neg λq=>e q.symm];lia;rw[if_pos rfl] at hz;left;show ap ⟨rfl,I,_,_,_,rfl,O,an,⟨J.nd,J.sub,λz Y=>?_,λz Y=>?_⟩,by rw[if_neg a4];exact av,a5⟩;by_cases e:z=t;subst e;rw[if_pos rfl];exact⟨λq=>absurd q a0,λq=>absurd (by lia) hz⟩;rw[if_neg e];exact J.zero z Y;have:=J.c z Y;rw[ct z];by_cases e:z=t;subst e;rw[if_pos rfl,if_pos rfl];lia;rw[if_neg e,if_neg λq=>e q.symm];lia
  rintro ρ m' ⟨rfl,I,c,L,v8,rfl,O,an,J,av,hL⟩;rw[aT] at J;have al:=(ac.mp O).1;have a1:=zT J.nd J.sub;left;show hC (V.length - (a+1)) (by lia) ⟨rfl,I,a+1,c,L,_,_,rfl,rfl,al,⟨J.nd,J.sub,J.zero,λz hz=>?_⟩,λz hz=>by have:=hL z hz;lia⟩;have:=J.c z hz;have c2:=zeq (g:=g) (t:=z) a2 hG.nd Z;rw[zj O,an];simp only[List.count_nil];lia
 have O:I.take a=I:=bX (by lia);rw[O] at J;show bb ?_;left;intro _;rw[zaC];show zcM V (λs=>W.d (stD s)) rfl (λρ=>∃a,ρ=[a,some (.dt (mkD V c))]) (λs=>decide (0<c s)) (λs=>stD s) (af hV (by ext)) ⟨_,rfl⟩ ?_ ?_;rintro s hs as ⟨a,rfl⟩ C hY ag;left;show⟨s,rfl,xc (y6 hs) ?_⟩;left;exact yw (λz=>hY (a6 z) ⟨_,rfl⟩) (λz=>ag (bg z) ⟨_,rfl⟩);left;have ad:∀t,t∈(V.filter λs=>decide (0<c s))↔t∈V/\0<c t:=λt=>by simp[bw]
 cases ef:V.filter λs=>decide (0<c s) with
 | nil=>
  with_reducible show zqy ?_ ?_
  rfl;left;intro _;rw[zaC];show zbd V (λs=>W.d (stD s)) rfl (λρ=>∃a,ρ=[a,some (.dt (mkD V L))]) (λs=>.int (L s)) (af hV (by ext)) ⟨_,rfl⟩ ?_ ?_;rintro s hs as ⟨a,rfl⟩ C ap;left;show⟨s,rfl,xc (y6 hs) ?_⟩;left;exact ap ⟨_,rfl⟩;left;have:=rW (V.map L) (by rw[ab]) λx hx=>by obtain⟨s,hs,rfl⟩:=au.mp hx;have:=hL s hs;lia
  unfold stD at this;rwa[aB] at this
 | cons x l=>
  rw[ef] at ad;have hs:=λs hs=>(ad s).mp hs;with_reducible show zqz ?_ ?_
  rfl;left;show zva.i (lf:=x::l) hG (λs h=>(hs s h).1) (ef ▸ hG.nd.filter _) (by simp) (λt ht=>?_) λrd g1 g2 g3=>?_;obtain⟨h1,h2⟩:=hs t ht;have:=J.c t h1;simp only[List.count_nil] at this;have hc:0<cnt V g I t:=by lia
  obtain⟨s,h3,h4⟩:=fP.mp (List.count_pos_iff.mp hc);obtain⟨h5,h6⟩:=bw.mp h3;have h7:s∉I:=bP h6;have h8:=J.c s h5;simp only[List.count_nil] at h8;have h9:c s≠0:=λz=>h7 ((J.zero s h5).mpr z);exact⟨s,(ad s).mpr ⟨h5,by lia⟩,h4⟩;left;exact rR rd g1 g2 g3
def zpg:Dt->Bool
 | .int _=>true
 | _=>false
def WOk (rm:AG)(i:Int)(d:Dt):Prop:=∃x,d = .int x/\0<=x/\x<yH rm i
def zph (rm:AG)(d:Dt):Prop:=∃s,d=stD s/\StOk rm s
def zvs (rm:AG)(d:Dt):Prop:=∃sts,d=xj sts/\∀s∈sts,StOk rm s
def zu3{rm:AG}(B:l.length=rm.length)(h:∀ (j:Nat) (d:Dt),l[j]?=some d->WOk rm j d):zph rm (.tup l):=by
 have g:∀ {l:AS},(∀d∈l,∃x,d=Dt.int x)->∃s:AG,l=s.map .int:=λ{l}=>by
  induction l with
  | nil=>exact λ_=>⟨[],rfl⟩
  | cons d l F=>
   intro h;obtain⟨x,rfl⟩:=h d (.head _);obtain⟨s,rfl⟩:=F λe I=>h e (.tail _ I);exact⟨x::s,rfl⟩
 obtain⟨s,rfl⟩:=g λd J=>by obtain⟨j,q⟩:=List.mem_iff_getElem?.mp J;obtain⟨x,e,_⟩:=h j d q;exact⟨x,e⟩
 rw[ab] at B;show⟨s,rfl,B,λb L O=>?_⟩;obtain⟨j,rfl⟩:=cP L;have q:j<s.length:=by lia
 obtain⟨x,e,h2⟩:=h j (.int s[j]) (by rw[aq,ai q];rfl);cases e;rw[zS,aS,ai q];exact h2
def zgM {rm:AG}:∀ {l:AS},(∀d∈l,zph rm d)->zvs rm (.lst l)
 | [],_=>⟨[],rfl,by simp⟩
 | d::l,h=>by obtain⟨s,rfl,hs⟩:=h d (.head _);obtain⟨sts,e,h2⟩:=zgM λe q=>h e (.tail _ q);cases e;exact⟨s::sts,rfl,by simpa using ⟨hs,h2⟩⟩
def zvc  : FV:=λPn q n R=>∃ (d:Dt),q=[.d d]/\(R (.d (.bl (zpg d))) n)
def zvc.i(h:R (.d (.bl (zpg d))) n)  : zvc Pn [.d d] n R:=⟨d,rfl,h⟩
def zgb (T:Txt K mg t):FnOk P w K mg base CX0 1 t.f24 t.d24 [Az] (spV 1 false zvc):=by show Fun.okW (k:=0) (fr:=false) [] 0 T.q24.F zhE rfl (by ext) rfl λB A q s H E Pn J=>⟨_,(ze (zI (wE zid <| zsW (JE.bo (wE za4 <| zfT (by rfl) T.b_isinstance T.b_int (kb 0))) (zsY (wE zni <| zwa (JE.bo (wE za4 <| uG (by rfl) T.b_isinstance T.b_bool (kb 0)))))))),λL n R I=>?_⟩;obtain⟨d,rfl,r⟩:=I;left;cases d <;> exact r
def zvd  : FV:=λPn q n R=>∃ (rm:AG) (i:Int) (d:Dt),q=[.d (stD rm),.d (.int i),.d d]/\(0<=i)/\(i<rm.length)/\(∀b:Bool,(b=true↔WOk rm i d)->R (.d (.bl b)) n)
def zvd.i{rm:AG}{i:Int}(q:0<=i)(h1:i<rm.length)(h:∀b:Bool,(b=true↔WOk rm i d)->R (.d (.bl b)) n)  : zvd Pn [.d (stD rm),.d (.int i),.d d] n R:=⟨rm,i,d,rfl,q,h1,h⟩
def zgc (T:Txt K mg t):FnOk P w K mg base CX0 2 t.f25 t.d25 lI (spV 3 false zvd):=by
 have G24:=zgb (P:=P) (w:=w) (base:=base) T;show Fun.okW (k:=1) (fr:=false) [] 0 T.q25.F zhF rfl (by ext) rfl λB A q s H E Pn I=>⟨_,(ze (zI (wE zid <| zsW (JE.bo (wE zr <| yS T.q24 G24 I (za (kv 2) zf))) (zsY (wE zk1 <| zp4 zqE zht zw9 zr5 (JE.bo zm) (kb 2) (JE.bo (uA yR ul (kb 0) (kb 1) (λ_ _=>rfl)))))))),λO n R J=>?_⟩;obtain⟨rm,i,d,rfl,L,h1,r⟩:=J;left;show zvc.i ?_
 cases d with
 | int x=>
  left;show yw (λh2=>?_) (λh2=>?_);left;show onA L h1 ?_;left;exact r _ ⟨λh=>⟨x,rfl,h2,bP h⟩,λ⟨y,e,_,h⟩=>by cases e;exact a6 h⟩;left;exact r _ ⟨λh=>(by cases h),λ⟨y,e,h,_⟩=>by cases e;exact absurd h h2⟩
 | _=>
  left;exact r _ ⟨λh=>(by cases h),λ⟨y,e,_⟩=>by cases e⟩
def zvb  : FV:=λPn q n R=>∃ (rm:AG) (d:Dt),q=[.d (stD rm),.d d]/\(RoomOk rm)/\(∀b:Bool,(b=true↔zph rm d)->R (.d (.bl b)) n)
def zvb.i{rm:AG}(q:RoomOk rm)(h:∀b:Bool,(b=true↔zph rm d)->R (.d (.bl b)) n)  : zvb Pn [.d (stD rm),.d d] n R:=⟨rm,d,rfl,q,h⟩
def zc7 (T:Txt K mg t):FnOk P w K mg base CX0 3 t.f26 t.d26 lF (spV 2 false zvb):=by
 have G25:=zgc (P:=P) (w:=w) (base:=base) T
 show Fun.okW (k:=2) (fr:=false) [] 2 T.q26.F uj rfl (by ext) rfl λad A O s H E Pn hr=>⟨_,(zb (wS zu <| zZ (JW.t (wW zcd <| zfV (wT za6 <| zcV (wT zk <| zcc (JE.bo (wE za4 <| zaO (by rfl) T.b_isinstance T.b_tuple (kb 1))))) (zao (.inr rfl) (wT zk <| zx zeY zpc (JE.bo (zM ym xP (by rfl) T.b_len aN (zi (kb 1) zn))) (JE.bo (zM ym xP (by rfl) T.b_len aN (zi (kb 0) zn))) (zw _))))) (ze (zI zgI)) zy)
   (zb (yq aH rfl (wI zqk <| zp6 rfl T.b_enumerate (za (kv 1) zf)) (wG uV <| uW (n:=2) K rfl rfl (wH yn <| zH (wG zK <| zl (i:=2) uj.nd) (wH yn <| zH (wG zK <| zl (i:=3) uj.nd) (wH uU xM)))) (ze (wS zu <| zZ (wT za6 <| zcV (wT zk <| zcc (JE.bo (wE zr <| yS T.q25 G25 hr (za (kv 0) (za (kv 2) (za (kv 3) zf))))))) (ze (zI zgI)) zy)))
   (ze (zI zgI)))),λws n R hF=>?_⟩
 obtain⟨rm,d,rfl,hR,r⟩:=hF;left;have no:(∀l,d≠.tup l)->R (.d (.bl false)) n:=λh=>r false ⟨λz=>(by cases z),λ⟨s,e,_⟩=>absurd e (h _)⟩
 cases d with
 | tup l=>
  left;rw[ab];show zgd (λh=>?_) (λh=>?_);left;show r false ⟨λz=>(by cases z),?_⟩;rintro⟨s,e,hs⟩;cases e;rw[ab,hs.len] at h;exact absurd rfl h;have hl:l.length=rm.length:=by lia
  left;show zR (List.range l.length) (λk:Nat=>W.d (.tup [.int (k:Int),l.getD k .non])) (by have:=zj9 id Dt.non l;rwa[List.map_id] at this) (λi ρ m=>m=n/\∃U Y,ρ=[some (.d (stD rm)),some (.d (.tup l)),U,Y]/\∀j:Nat,j<i->WOk rm j (l.getD j .non)) ⟨rfl,_,_,rfl,λj h=>by lia⟩ ?_ ?_;rintro i k ρ m hk ⟨rfl,U,Y,rfl,L⟩ C B E hC _ hE;obtain⟨I,J⟩:=ac.mp hk;rw[ay] at I;rw[bB] at J;subst J;left;show zvd.i (by lia) (by lia) λb Z=>?_;cases b;left;show hE (r false ⟨λz=>(by cases z),?_⟩);rintro⟨s,e,hs⟩;cases e;rw[ab] at I;have ag:=hs.len;have hx:=hs.box i (by lia) (by lia);rw[zS] at hx;cases Z.mpr ⟨s.getD i 0,by rw[aS,aS,aq,ai I];rfl,hx⟩;left;show hC ⟨rfl,_,_,rfl,λj hj=>?_⟩;rcases dC.mp hj with q | q;exact L j q;subst q;exact Z.mp rfl;rintro ρ m ⟨rfl,U,Y,rfl,L⟩;rw[ay] at L;left;show r true ⟨λ_=>zu3 hl λj d hd=>?_,λ_=>rfl⟩;have:=L j (ac.mp hd).1;rwa[aS,hd] at this
 | _=>
  left;exact no λ_ e=>by cases e
def zmm  : FV:=λPn q n R=>∃ (rm:AG) (d:Dt),q=[.d (stD rm),.d d]/\(RoomOk rm)/\(∀b:Bool,(b=true↔zvs rm d)->R (.d (.bl b)) n)
def zmm.i{rm:AG}(q:RoomOk rm)(h:∀b:Bool,(b=true↔zvs rm d)->R (.d (.bl b)) n)  : zmm Pn [.d (stD rm),.d d] n R:=⟨rm,d,rfl,q,h⟩
def zb3 (T:Txt K mg t):FnOk P w K mg base CX0 4 t.f27 t.d27 lF (spV 2 false zmm):=by
 have G26:=zc7 (P:=P) (w:=w) (base:=base) T
 show Fun.okW (k:=3) (fr:=false) [] 1 T.q27.F u8 rfl (by ext) rfl λZ A J s H E Pn hr=>⟨_,(zb (wS zu <| zZ (wT za6 <| zcV (wT zk <| zcc (JE.bo (wE za4 <| zeB (by rfl) T.b_isinstance T.b_list (kb 1))))) (ze (zI zgI)) zy)
   (zb (yq aH rfl (wI xb <| y9 K rfl (kv 1)) (wG zK <| zl (i:=2) u8.nd) (ze (wS zu <| zZ (wT za6 <| zcV (wT zk <| zcc (JE.bo (wE zr <| yS T.q26 G26 hr (za (kv 0) (za (kv 2) zf)))))) (ze (zI zgI)) zy)))
   (ze (zI zgI)))),λws n R hF=>?_⟩
 obtain⟨rm,d,rfl,hR,r⟩:=hF;left;have no:(∀l,d≠.lst l)->R (.d (.bl false)) n:=λh=>r false ⟨λz=>(by cases z),λ⟨s,e,_⟩=>absurd e (h _)⟩
 cases d with
 | lst l=>
  left;show zR l (λd=>W.d d) rfl (λi ρ m=>m=n/\∃L,ρ=[some (.d (stD rm)),some (.d (.lst l)),L]/\∀d∈l.take i,zph rm d) ⟨rfl,_,rfl,by simp⟩ ?_ ?_;rintro i d ρ m O ⟨rfl,L,rfl,I⟩ C B E hC _ hE;left;show zvb.i hR λb U=>?_;cases b;left;show hE (r false ⟨λz=>(by cases z),?_⟩);rintro⟨sts,e,hs⟩;cases e;obtain⟨s,h1,h2⟩:=au.mp (ar O);cases U.mpr ⟨s,h2.symm,hs s h1⟩;left;show hC ⟨rfl,_,rfl,λe Y=>?_⟩;rw[zj O] at Y;rcases aI.mp Y with q | q;exact I e q;rw[ao.mp q];exact U.mp rfl;rintro ρ m ⟨rfl,L,rfl,I⟩;rw[aT] at I;left;exact r true ⟨λ_=>zgM I,λ_=>rfl⟩
 | _=>
  left;exact no λ_ e=>by cases e
def zbT{l:AF}(h:i<l.length):l.getD i []∈l:=by rw[aS,ai h];exact bL _
def zmi (bk:AW)(hs:AG)(sts:AF):Bool:=(List.range (sts.length - 1)).all λi=>decide (sts.getD (i+1) []∈zaZ bk (sts.getD i []) hs)
def zei (P:Aa)(w:Ab)(C:Addr):FV:=λPn q n R=>∃ (L:LdI) (sts:AF),q=[.pen L.a,.d (.lst (sts.map stD))]/\(Pn.J=ldJ L)/\(L.P=P)/\(L.w=w)/\(L.C=C)/\(∀st∈sts,StOk L.rm st)/\(sts.length<=1000)/\(R (.d (.bl (zmi L.bk L.hs sts))) n)
def zei.i{sts:AF}(q:Pn.J=ldJ L)(B:L.P=P)(F:L.w=w)(I:L.C=C)(hs:∀st∈sts,StOk L.rm st)(O:sts.length<=1000)(h:R (.d (.bl (zmi L.bk L.hs sts))) n)  : zei P w C Pn [.pen L.a,.d (.lst (sts.map stD))] n R:=⟨L,sts,rfl,q,B,F,I,hs,O,h⟩
def zeS (T:Txt K mg t):FnOk P w K mg base CX0 5 t.f28 t.d28 lU (spV 2 false (zei P w t.C_Leads)):=by
 have G_Leads_after:=zdD (P:=P) (w:=w) (base:=base) T;show Fun.okW (k:=4) (fr:=false) [] 0 T.q28.F zgr rfl (by ext) rfl λJ A q s H E Pn I=>⟨_,(ze (zI (zM (zjU rfl) zrP (by rfl) T.b_all ei (zi (JE.bo (xY (N:=lR) (cix:=[none,none,some 0]) rfl (by walk_at "c") (wI zcA <| zeD rfl T.b_zip (za (kv 1) (za (wE zO <| xn (kb 1) (wO zq <| zA (JE.bo zm)) zz) zf))) (λ_ _ _ _=>(wG uV <| uW (n:=2) K rfl rfl (wH yn <| zH (wG zK <| zl (i:=0) (show (lR:AM).Nodup by decide +kernel)) (wH yn <| zH (wG zK <| zl (i:=1) (show (lR:AM).Nodup by decide +kernel)) (wH uU xM))))) (λ_ _ _ _=>yV) (λ_ _ _ _=>(zm4 (ztt I.units) zw7 (kb 1) (JE.bo (zp3 (i:=2) P w rfl rfl T.Leads G_Leads_after I (qv 2) (by ext) (za (kv 0) zf))) (by with_unfolding_all rfl))))) zn)))),λws n R O=>?_⟩;obtain⟨L,sts,rfl,U,Y,Z,hC,hs,hl,r⟩:=O;left;rw[zfq];show zbd (List.range (sts.length - 1)) (λi:Nat=>W.d (.tup [stD (sts.getD i []),stD (sts.getD (i+1) [])])) rfl (λρ=>∃u v,ρ=[u,v,some (.pen L.a)]) (λi=>.bl (decide (sts.getD (i+1) []∈zaZ L.bk (sts.getD i []) L.hs))) (by rw[ay];exact af (by lia:_<=1000) (by ext)) ⟨_,_,rfl⟩ ?_ ?_;rintro i hi ad ⟨u,v,rfl⟩ C hY;have B:i+1<sts.length:=by have:=aU.mp hi;lia
 have h1:sts.getD i []∈sts:=zbT (by lia);have h2:sts.getD (i+1) []∈sts:=zbT B;left;show⟨L,U,Y,Z,hC,rfl,?_⟩;left;show⟨_,rfl,hs _ h1,?_⟩;left;show⟨xV,uh _,λb hb=>?_⟩;have e:b=decide (sts.getD (i+1) []∈zaZ L.bk (sts.getD i []) L.hs):=by rw[b8,hb,decide_eq_true_iff];exact zk8
 rw[e];exact hY ⟨_,_,rfl⟩;left;show⟨_,(aB (f:=λi=>decide (sts.getD (i+1) []∈zaZ L.bk (sts.getD i []) L.hs)) (g:=Dt.bl)).symm,?_⟩;rw[List.all_map];exact r
def zvf (rm:AG)(bk:AW)(d:Dt):Prop:=∃sts:AF,d=xj sts/\2<=sts.length/\(∀s∈sts,StOk rm s)/\sts.Nodup/\zmi bk [] (sts++[sts.getD 0 []])=true
def zaF {α:Type}[DecidableEq α]:∀ {l:List α},¬ l.Nodup->∀ {ks:List α},ks.Nodup->(∀z∈ks,z∈l)->ks.length<l.length
 | [],h,_,_,_=>absurd .nil h
 | a::l,h,ks,q,hs=>by
  by_cases F:a∈l;have:=zT q λz B=>(aF.mp (hs z B)).elim (λe=>e ▸ F) id;exact dX this
  ·have h2:¬ l.Nodup:=λz=>h (bS.mpr ⟨F,z⟩);have:=zaF h2 (q.erase a) λz B=>by obtain⟨I,J⟩:=(q.mem_erase_iff).mp B;exact (aF.mp (hs z J)).resolve_left I
   have:=List.length_erase (a:=a) (l:=ks);rw[aO];split at this <;> lia
def zf6 {α:Type}[DecidableEq α]{l ks:List α}(B:ks.Nodup)(hs:∀z,z∈ks↔z∈l):ks.length=l.length↔l.Nodup:=by
 show⟨λh=>?_,λh=>Nat.le_antisymm (zT B λz q=>(hs z).mp q) (zT h λz q=>(hs z).mpr q)⟩;by_cases F:l.Nodup;exact F;have:=zaF F B λz q=>(hs z).mp q;lia
def zbK {a b:AF}(e:xj a=xj b):a=b:=(eZ λx y=>zlY).mp (Dt.lst.inj e)
def zr6  : FV:=λPn q n R=>∃ (rm:AG) (bk:AW) (d:Dt),q=[.d (stD rm),.d (y8 bk),.d d]/\(Pn.J=J0)/\(RoomOk rm)/\(xu rm bk)/\((yZ (rm.map zp)).length<=256)/\(∀l,d = .lst l->l.length<=600)/\(∀b:Bool,(b=true↔zvf rm bk d)->R (.d (.bl b)) n)
def zr6.i{rm:AG}(q:Pn.J=J0)(B:RoomOk rm)(F:xu rm bk)(I:(yZ (rm.map zp)).length<=256)(L:∀l,d = .lst l->l.length<=600)(h:∀b:Bool,(b=true↔zvf rm bk d)->R (.d (.bl b)) n)  : zr6 Pn [.d (stD rm),.d (y8 bk),.d d] n R:=⟨rm,bk,d,rfl,q,B,F,I,L,h⟩
def zeT (T:Txt K mg t):FnOk P w K mg base CX0 6 t.f29 t.d29 lH (spV 3 false zr6):=by
 have G27:=zb3 (P:=P) (w:=w) (base:=base) T;have G28:=zeS (P:=P) (w:=w) (base:=base) T;have G_Leads_init:=zeN (P:=P) (w:=w) (base:=base) T
 show Fun.okW (k:=5) (fr:=false) [] 0 T.q29.F zgs rfl (by ext) rfl λad A J s H E Pn O=>⟨_,(zb (wS zu <| zZ (JW.t (wW zcd <| zfV (wT za6 <| zcV (wT zk <| zcc (JE.bo (wE zr <| yS T.q27 G27 O (za (kv 0) (za (kv 2) zf)))))) (wW zcd <| zfV (wT zk <| zx zht zr5 (JE.bo (zM ym xP (by rfl) T.b_len aN (zi (kb 2) zn))) (JE.bo zm) (zw _)) (zao (.inr rfl) (wT zk <| zx zeY zpc (JE.bo (zfU O.units rfl T.b_len T.b_set (kb 2))) (JE.bo (zM ym xP (by rfl) T.b_len aN (zi (kb 2) zn))) (zw _)))))) (ze (zI zgI)) zy)
   (ze (zI (zv8 P w rfl rfl T.Leads T.q28 G_Leads_init G28 O T.Leads.bd (dvs:=[.non]) (.cons rfl .nil) (dv:=[.d .non]) (λ_ _=>⟨_,_,rfl,rfl,rfl⟩) (za (kv 0) (za (kv 1) zf)) (za (yY yu xh (kb 2) (JE.bo (yP (za (uA yv uS (kb 2) (JE.bo zm) (λ_ _=>rfl)) zf)))) zf) )))),λws n R hF=>?_⟩
 obtain⟨rm,bk,d,rfl,hJ,hR,hB,hq,U,r⟩:=hF;left;show zmm.i hR λb hb=>?_;cases b;left;show r false ⟨λz=>(by cases z),?_⟩;rintro⟨sts,e,_,h2,_⟩;cases hb.mpr ⟨sts,e,h2⟩;obtain⟨sts,rfl,hs⟩:=hb.mp rfl;have U:=U _ rfl;rw[ab] at U;left;rw[ab];show yw (λh2=>?_) (λh2=>?_);left;show r false ⟨λz=>(by cases z),?_⟩;rintro⟨B,e,I,_⟩;have:=zbK e;subst this;lia;left;show⟨sts,rfl,λks h1 h2=>?_,λks Y Z=>?_⟩;have:=zT h1 λz hz=>zb8 (hs z (h2 z hz));lia;left;rw[ab];have hn:=zf6 Y Z;show zgd (λI=>?_) (λI=>?_);left;show r false ⟨λz=>(by cases z),?_⟩;rintro⟨B,e,_,_,h4,_⟩;have:=zbK e;subst this;have:=hn.mpr h4;lia;have hN:sts.Nodup:=hn.mp (by lia);obtain⟨x,tl,rfl⟩:∃x tl,sts=x::tl:=cz λe=>by rw[e] at h2;exact h2 (by ext)
 left;show⟨hJ,?_⟩;left;show⟨rm,bk,[],.d .non,rfl,.inr ⟨rfl,rfl⟩,hR,hB,?_⟩;left;show xc (zbb (i:=0) rfl) ?_;left;show⟨af (show _<=601 by rw[ab,bO];lia) (by ext),?_⟩;left;rw[show (x::tl).map stD++[stD x]=((x::tl)++[x]).map stD by rw[aE];rfl];show⟨rfl,rfl,λL h1 h2 I h4 h5 h6=>?_⟩;show⟨L,(x::tl)++[x],rfl,rfl,h1,h2,I,λs h=>h4 ▸ ?_,by rw[ak,bO];lia,?_⟩;rcases aI.mp h with q | q;exact hs s q;rw[ao.mp q];exact hs x (.head _);rw[h5,h6];exact r _ ⟨λh=>⟨x::tl,rfl,by lia,hs,hN,h⟩,λ⟨B,e,_,_,_,h⟩=>by have:=zbK e;subst this;exact h⟩
def zft  : FV:=λPn q n R=>∃ (rm:AG) (bk:AW) (st:AG),q=[.d (y8 bk),.d (stD st)]/\(RoomOk rm)/\(xu rm bk)/\(st.length=rm.length)/\(R (.d (xj (zaZ bk st []))) n)
def zft.i{rm:AG}{st:AG}(B:RoomOk rm)(F:xu rm bk)(q:st.length=rm.length)(h:R (.d (xj (zaZ bk st []))) n)  : zft Pn [.d (y8 bk),.d (stD st)] n R:=⟨rm,bk,st,rfl,B,F,q,h⟩
def zaS (T:Txt K mg t):FnOk P w K mg base CX0 1 t.f30 t.d30 lD (spV 2 true zft):=by
 show Fun.okW (k:=0) (fr:=true) [2] 6 T.q30.F yA rfl (by ext) rfl λa0 A ap s H E Pn hr=>⟨_,(zb (wS yr <| xC (i:=2) yA.nd (yP zf))
   (zb (yq aH rfl (wI za5 <| zcU K rfl (kv 0)) (wG uV <| uW (n:=4) K rfl rfl (wH yn <| zH (wG zK <| zl (i:=3) yA.nd) (wH yn <| zH (wG zK <| zl (i:=4) yA.nd) (wH yn <| zH (wG zK <| zl (i:=5) yA.nd) (wH yn <| zH (wG zK <| zl (i:=6) yA.nd) (wH uU xM)))))) (ze (wS zu <| zZ (JW.t (wW zbY <| zdS (wT zk <| zx yF zae (JE.bo (uA yR ul (kb 1) (kb 4) (λ_ _=>rfl))) (kb 6) (zw _)) (zao (.inl rfl) (wT zk <| zcc (JE.bo (zM (zjU rfl) zrP (by rfl) T.b_all ei (zi (JE.bo (xY (N:=ly) (cix:=[none,none,some 1]) rfl (by walk_at "c") (wI za5 <| zcU K rfl (kv 3)) (λ_ _ _ _=>(wG uV <| uW (n:=2) K rfl rfl (wH yn <| zH (wG zK <| zl (i:=0) (show (ly:AM).Nodup by decide +kernel)) (wH yn <| zH (wG zK <| zl (i:=1) (show (ly:AM).Nodup by decide +kernel)) (wH uU xM))))) (λ_ _ _ _=>yV) (λ_ _ _ _=>(zm4 yF zae (JE.bo (uA yR ul (kb 2) (kb 0) (λ_ _=>rfl))) (kb 1) (zw _))))) zn))))))) (zb (wS zo <| zD (i:=7) yA.nd (yY yt xK (JE.bo (yY yt xK (JE.bo (wE xz <| zbW (kb 1) zz (wO zq <| zA (kb 4)))) (JE.bo (xL (za (kv 5) zf))))) (JE.bo (wE xz <| zbW (kb 1) (wO zq <| zA (JE.bo (yY yd uk (kb 4) (JE.bo zm)))) zz))))
   (ze (wS zu <| zZ (wT zk <| zx (zgf hr.units) zn7 (kb 7) (kb 2) (by with_unfolding_all rfl)) (ze (wS uH <| zbn 2 (kv 7))) zy))) zy)))
   (ze (zI (zM zpw zrT (by rfl) T.b_sorted dD (zi (kb 2) zn)))))),λws n R hF=>?_⟩
 obtain⟨rm,bk,st,rfl,hR,hB,J,r⟩:=hF;left;have h8:=hR.few;show zR bk (λx=>W.d (zU x)) (by rw[aB];rfl) (λi ρ m=>m=n/\∃ (l:AF) (O U Y Z v7:Option W),ρ=[some (.d (y8 bk)),some (.d (stD st)),some (.d (.lst (l.map stD))),O,U,Y,Z,v7]/\l.Nodup/\(∀z,z∈l↔z∈zai (bk.take i) st [])) ⟨rfl,[],_,_,_,_,_,rfl,.nil,by simp[zai]⟩ ?_ ?_;rintro i x ρ m hx ⟨rfl,l,O,U,Y,Z,v7,rfl,L,I⟩ C B E hC _ _;have hW:=hB x (ar hx);have b0:=hW.b0;have b1:=hW.b1;have as:∀q∈x.g,0<=q.1/\q.1<st.length:=λq hq=>by have:=hW.giv.ok q hq;rw[J];exact⟨this.1,this.2.1⟩
 have ad:zbh st x=false->∀O U Y Z v7,C [some (.d (y8 bk)),some (.d (stD st)),some (.d (.lst (l.map stD))),O,U,Y,Z,v7] m:=λhg O U Y Z v7=>by show hC ⟨rfl,l,_,_,_,_,_,rfl,L,λz=>?_⟩;rw[I z,zj hx,zdQ,hg];simp
 left;show onA b0 (by lia) ?_;left;show yw (λhw=>?_) (λhw=>⟨ad (by unfold zbh;rw[bg hw];rfl) _ _ _ _ _⟩);left;show zbd x.g (λq=>.d (ub q)) (by rw[aB];rfl) (λρ=>∃a b,ρ=[a,b,some (.d (stD st))]) (λq=>.bl (decide (yH st q.1=q.2))) (af (zkm hW.giv h8) (by ext)) ⟨_,_,rfl⟩ ?_ ?_;rintro q hq a1 ⟨a,b,rfl⟩ D hD;have hb:=as q hq;left;show onA hb.1 hb.2 ?_;left;exact hD ⟨_,_,rfl⟩;left;show⟨x.g.map λq=>decide (yH st q.1=q.2),by rw[aB];rfl,?_⟩;rw[show (x.g.map λq=>decide (yH st q.1=q.2)).all id=zap st x.g by unfold zap;rw[List.all_map];rfl];left;show zjc (λhk=>?_) (λhk=>⟨ad (by unfold zbh;rw[hk,Bool.and_false]) _ _ _ _ _⟩);have hg:zbh st x=true:=by unfold zbh;rw[a6 hw,hk];rfl
 left;show⟨zhU (by lia),?_⟩;left;show⟨zhV (by lia),?_⟩;rw[zjL b0 (by lia)];left;show⟨xV,uh l,λb hb=>?_⟩;left;have ag:∀z,z∈zai (bk.take (i+1)) st []↔z∈zai (bk.take i) st []\/z=chg st x.b x.r:=λz=>by rw[zj hx,zdQ,hg];simp
 have al:l.length<=32:=zaj (λy hy=>hB y (bG hy)) h8 hR.box L λz hz=>(I z).mp hz
 cases b with
 | true=>
  have av:=zhl.mp (hb.mp rfl);walk_at "cf";show hC ⟨rfl,l,_,_,_,_,_,rfl,L,λz=>?_⟩;rw[ag z,I z];constructor;exact .inl;rintro (z1 | rfl);exact z1;exact (I _).mp av
 | false=>
  have an:chg st x.b x.r∉l:=λz=>by have:=hb.mpr (zhl.mpr z);cases this
  walk_at "ct";show⟨by rw[ab];exact aG al (by ext),hC ⟨rfl,l++[chg st x.b x.r],_,_,_,_,_,by rw[aE];rfl,?_,λz=>?_⟩⟩;rw[cv];exact⟨L,by simp,λa ha c hc e=>an (by rw[<- ao.mp hc,<- e];exact ha)⟩;rw[aI,ao,ag z,I z]
 rintro ρ m ⟨rfl,l,O,U,Y,Z,v7,rfl,L,I⟩;rw[aT] at I;left;show⟨l,rm.length,rfl,?_,hR.pos,λz hz=>zak hB J z ((I z).mp hz),L,λl' hp hu=>?_⟩;have:=zaj hB h8 hR.box L λz hz=>(I z).mp hz;lia;rw[show l'=zaZ bk st [] from ziB (zak hB J) hu λz=>hp.mem_iff.trans (I z)];exact r
def zml (y:AG):∀ (l:AF) (x:AG),ziW ((x::l).map stD) ((l++[y]).map stD)=(List.range (l.length+1)).map λi:Nat=>W.d (.tup [stD ((x::l++[y]).getD i []),stD ((x::l++[y]).getD (i+1) [])])
 | [],x=>by simp[ziW]
 | a::l,x=>by have e:List.range ((a::l).length+1)=0::(List.range (l.length+1)).map Nat.succ:=List.range_succ_eq_map;change _::ziW ((a::l).map stD) ((l++[y]).map stD)=_;rw[zml y l a,e];simp only[az,aB];rfl
def zmo  : FV:=λPn q n R=>∃ (rm:AG) (bk:AW) (l:AS),q=[.d (stD rm),.d (y8 bk),.d (.lst l)]/\(RoomOk rm)/\(xu rm bk)/\((yZ (rm.map zp)).length<=256)/\(okT 8 (.lst l)=true)/\(l.length<=600)/\(∀b:Bool,(b=true↔zvf rm bk (.lst l))->R (.d (.bl b)) n)
def zmo.i{rm:AG}(q:RoomOk rm)(B:xu rm bk)(F:(yZ (rm.map zp)).length<=256)(I:okT 8 (.lst l)=true)(J:l.length<=600)(h:∀b:Bool,(b=true↔zvf rm bk (.lst l))->R (.d (.bl b)) n)  : zmo Pn [.d (stD rm),.d (y8 bk),.d (.lst l)] n R:=⟨rm,bk,l,rfl,q,B,F,I,J,h⟩
def zf8 (T:Txt K mg t):FnOk P w K mg base CX0 2 t.f31 t.d31 ln (spV 3 false zmo):=by
 have G4:=yI (P:=P) (w:=w) (base:=base) T;have G30:=zaS (P:=P) (w:=w) (base:=base) T
 show Fun.okW (k:=1) (fr:=false) [] 2 T.q31.F za7 rfl (by ext) rfl λcdv A outer s H E Pn hr=>⟨_,(zb (wS zo <| zD (i:=3) za7.nd (wE zr <| yS T.q4 G4 hr (za (kv 0) zf)))
   (zb (wS zu <| zZ (wT zk <| zx zht zr5 (JE.bo (zM ym xP (by rfl) T.b_len aN (zi (kb 2) zn))) (JE.bo zm) (zw _)) (ze (zI zgI)) zy)
   (zb (yq aH rfl (wI xb <| y9 K rfl (kv 2)) (wG zK <| zl (i:=4) za7.nd) (ze (wS zu <| zZ (JW.t (wW zcd <| zfV (wT za6 <| zcV (wT zk <| zcc (JE.bo (wE za4 <| zaO (by rfl) T.b_isinstance T.b_tuple (kb 4))))) (wW zcd <| zfV (wT zk <| zx (ztw hr.units) zxc (kb 4) (kb 3) (by with_unfolding_all rfl)) (zao (.inr rfl) (wT zk <| zx zln zw6 (JE.bo zgI) (JE.bo (xY (N:=[Ax]) (cix:=[none]) rfl (by walk_at "c") (wI za5 <| zcU K rfl (kv 4)) (λ_ _ _ _=>(wG zK <| zl (i:=0) (show ([Ax]:AM).Nodup by decide +kernel))) (λ_ _ _ _=>yV) (λ_ _ _ _=>(wE za4 <| uG (by rfl) T.b_isinstance T.b_bool (kb 0))))) (by with_unfolding_all rfl)))))) (ze (zI zgI)) zy)))
   (zb (wS zu <| zZ (wT zk <| zx zeY zpc (JE.bo (zfU hr.units rfl T.b_len T.b_set (kb 2))) (JE.bo (zM ym xP (by rfl) T.b_len aN (zi (kb 2) zn))) (zw _)) (ze (zI zgI)) zy)
   (ze (zI (zM (zjU rfl) zrP (by rfl) T.b_all ei (zi (JE.bo (xY (N:=lw) (cix:=[none,none,some 1]) rfl (by walk_at "c") (wI zcA <| zeD rfl T.b_zip (za (kv 2) (za (yY yu xh (JE.bo (wE zO <| xn (kb 2) (wO zq <| zA (JE.bo zm)) zz)) (JE.bo (wE zO <| xn (kb 2) zz (wO zq <| zA (JE.bo zm))))) zf))) (λ_ _ _ _=>(wG uV <| uW (n:=2) K rfl rfl (wH yn <| zH (wG zK <| zl (i:=0) (show (lw:AM).Nodup by decide +kernel)) (wH yn <| zH (wG zK <| zl (i:=1) (show (lw:AM).Nodup by decide +kernel)) (wH uU xM))))) (λ_ _ _ _=>yV) (λ_ _ _ _=>(zm4 (zoL hr.units) zn7 (kb 1) (JE.bo (wE zr <| yS T.q30 G30 hr (za (kv 2) (za (kv 0) zf)))) (by with_unfolding_all rfl))))) zn)))))))),λws n R hF=>?_⟩
 obtain⟨rm,bk,l,rfl,hR,hB,hq,hT,hl,r⟩:=hF;left;show zcG.i hR ?_;left;show yw (λh=>?_) (λh=>?_);left;show r false ⟨λz=>(by cases z),?_⟩;rintro⟨sts,e,h2,_⟩;cases e;rw[ab] at h;lia;have hT1:∀d∈l,okT 7 d=true:=bc.mp hT;have no:∀d∈l,¬ zph rm d->R (.d (.bl false)) n:=λd hd hn=>r false ⟨λz=>(by cases z),λ⟨sts,e,_,h2,_⟩=>by cases e;obtain⟨s,h3,rfl⟩:=au.mp hd;exact (hn ⟨s,rfl,h2 s h3⟩).elim⟩;left;show zR l (λd=>W.d d) rfl (λi ρ m=>m=n/\∃v4,ρ=[some (.d (stD rm)),some (.d (y8 bk)),some (.d (.lst l)),some (.d (xj (yZ (rm.map zp)))),v4]/\∀d∈l.take i,zph rm d) ⟨rfl,_,rfl,by simp⟩ ?_ ?_;rintro i d ρ m hd ⟨rfl,v4,rfl,hI⟩ C B E hC _ hE;have hdl:=ar hd;left
 cases d with
 | tup q=>
  left;have hTd:okT 8 (.tup q)=true:=zll (hT1 _ hdl);show⟨hTd,uh _,λb hb1 hb2=>?_⟩;left;show zoG (λhb=>?_) (λhb=>?_);left;show hE (no _ hdl λ⟨s,e,hs⟩=>?_);rw[hb1 (au.mpr ⟨s,zb8 hs,e.symm⟩)] at hb;cases hb;left;have hql:q.length<=16:=by obtain⟨e,he,hev⟩:=hb2 hb;obtain⟨s,hs,rfl⟩:=au.mp he;have h9:=hR.few;have:=zpF hev;rw[(uC _ _ hs).len] at this;lia
  show zbd q (λd=>W.d d) rfl (λρ=>∃a,ρ=[a]) (λd=>.bl d.isBl) (af hql (by ext)) ⟨_,rfl⟩ ?_ ?_;rintro d hd ρ' ⟨a,rfl⟩ C hC;left;exact hC ⟨_,rfl⟩;left;show⟨q.map λd=>d.isBl,by rw[aB];rfl,?_⟩;left;show zjc (λh=>?_) (λh=>?_);left;show hE (no _ hdl λ⟨s,e,hs⟩=>?_);cases e;rw[aB] at h;obtain⟨x,_,hx⟩:=au.mp (cY.mp h);cases hx;left;show hC ⟨rfl,_,rfl,λe he=>?_⟩;rw[zj hd] at he;rcases aI.mp he with z | z;exact hI e z;rw[ao.mp z];obtain⟨e,he,hev⟩:=hb2 hb;obtain⟨s,hs,rfl⟩:=au.mp he
  have:q=s.map .int:=zpG hev λd hd=>by
   cases hx:d.isBl;rfl;rw[cY.mpr (au.mpr ⟨d,hd,hx⟩)] at h;cases h
  exact⟨s,by rw[this],uC _ _ hs⟩
 | _=>
  left;exact hE (no _ hdl λ⟨s,e,hs⟩=>by cases e)
 rintro ρ m ⟨rfl,v4,rfl,hI⟩;rw[aT] at hI;obtain⟨sts,e,hs⟩:=zgM hI;cases e;rw[ab] at hl h;left;show⟨sts,rfl,λks h1 h2=>?_,λks hk1 hk2=>?_⟩;have:=zT h1 λz hz=>zb8 (hs z (h2 z hz));lia;left;rw[ab];have hn:=zf6 hk1 hk2;show zgd (λh3=>?_) (λh3=>?_);left;show r false ⟨λz=>(by cases z),?_⟩;rintro⟨sts',e,_,_,h4,_⟩;have:=zbK e;subst this;have:=hn.mpr h4;lia;have hN:sts.Nodup:=hn.mp (by lia);obtain⟨x,tl,rfl⟩:∃x tl,sts=x::tl:=cz λe=>by rw[e] at h;exact h (by ext)
 left;rw[xU,xU,zfG,show (1:Int)=((1:Nat):Int) from rfl,L3.zcx,ab,ab,<- aE,show (x::tl).drop 1++(x::tl).take 1=tl++[x] from rfl];show⟨af (show _<=1000 by rw[cg,aV];lia) (by ext),?_⟩;left;rw[zml]
 have hs2:∀s∈x::tl++[x],StOk rm s:=λs h=>by
  rcases aI.mp h with q | q;exact hs s q;rw[ao.mp q];exact hs x (.head _)
 have hl2:(x::tl++[x]).length=tl.length+2:=by simp
 generalize hr:x::tl++[x]=rg at *;show zbd (List.range (tl.length+1)) (λi:Nat=>W.d (.tup [stD (rg.getD i []),stD (rg.getD (i+1) [])])) rfl (λρ=>∃u v,ρ=[u,v,some (.d (y8 bk))]) (λi=>.bl (decide (rg.getD (i+1) []∈zaZ bk (rg.getD i []) []))) (by rw[ay];exact af (show _<=1000 by rw[aO] at hl;lia) (by ext)) ⟨_,_,rfl⟩ ?_ ?_;rintro i hi ρ' ⟨u,v,rfl⟩ C hY;have hi':=aU.mp hi;left;show zft.i hR hB (hs2 _ (zbT (by lia))).len ?_;left;show⟨xV,uh _,λb hb=>?_⟩;have e:b=decide (rg.getD (i+1) []∈zaZ bk (rg.getD i []) []):=by rw[b8,hb,decide_eq_true_iff];exact zk8
 rw[e];exact hY ⟨_,_,rfl⟩;left;show⟨_,(aB (f:=λi=>decide (rg.getD (i+1) []∈zaZ bk (rg.getD i []) [])) (g:=Dt.bl)).symm,?_⟩;rw[List.all_map];have ew:zmi bk [] rg=(List.range (tl.length+1)).all (id ∘ λi=>decide (rg.getD (i+1) []∈zaZ bk (rg.getD i []) [])):=by unfold zmi;rw[hl2];rfl
 rw[<- ew];exact r _ ⟨λh=>⟨x::tl,rfl,by lia,hs,hN,hr ▸ h⟩,λ⟨sts',e,_,_,_,h⟩=>by have:=zbK e;subst this;exact hr ▸ h⟩
def zmt  : FV:=λPn q n R=>∃ (p:Addr) (rm:AG) (bk:AW) (st:AG),q=[.pen p,.d (y8 bk),.d (stD st)]/\(IsP Pn p)/\(n+100<=1000000)/\(RoomOk rm)/\(xu rm bk)/\(StOk rm st)/\(∀ (sts:AF) m,sts≠[]->(∀s∈sts,StOk rm s)->sts.length<=71->m<=n+70->R (.d (xj sts)) m)
def zmt.i{rm:AG}{st:AG}(B:IsP Pn p)(F:RoomOk rm)(I:xu rm bk)(q:StOk rm st)(h:∀ (sts:AF) m,sts≠[]->(∀s∈sts,StOk rm s)->sts.length<=71->m<=n+70->R (.d (xj sts)) m)(J:n+100<=1000000:=by lia):zmt Pn [.pen p,.d (y8 bk),.d (stD st)] n R:=⟨p,rm,bk,st,rfl,B,J,F,I,q,h⟩
def zeR (T:Txt K mg t):FnOk P w K mg base CX0 2 t.f32 t.d32 lq (spV 3 false zmt):=by
 have G1:=zP (P:=P) (w:=w) (base:=base) T;have G30:=zaS (P:=P) (w:=w) (base:=base) T
 show Fun.okW (k:=1) (fr:=false) [3] 4 T.q32.F xI rfl (by ext) rfl λa2 A U s H E Pn J=>⟨_,(zb (wS yr <| xC (i:=3) xI.nd (yP (za (kv 2) zf)))
   (zb (yq aH rfl (wI xy <| yp rfl T.b_range (zi (JE.bo zm) zn)) (wG zK <| zl (i:=4) xI.nd) (zb (wS zo <| zD (i:=5) xI.nd (wE zr <| yS T.q30 G30 J (za (kv 1) (za (uA yv uS (kb 3) (JE.bo (zwb zmf zrR (JE.bo zm))) (λ_ _=>rfl)) zf))))
   (zb (wS zu <| zZ (wT zk <| zx (zoK J.units) zuO (kb 5) (JE.bo (yP zf)) (zw _)) (ze (wS uJ <| za3 3)) zy)
   (zb (wS zo <| zD (i:=6) xI.nd (uA yv uS (kb 5) (JE.bo (wE zr <| yS T.q1 G1 J (za (kv 0) (za (zM ym xP (by rfl) T.b_len aN (zi (kb 5) zn)) zf)))) (λ_ _=>rfl)))
   (zb (wS zu <| zZ (wT zk <| zx (zoL J.units) zn7 (kb 6) (kb 3) (by with_unfolding_all rfl)) (ze (zI (ud (wE zO <| xn (kb 3) (wO zq <| zA (JE.bo (zia K rfl J.units (kb 3) (kb 6)))) zz)))) zy)
   (ze (wS uH <| zbn 3 (kv 6))))))))
   (ze (wS uJ <| za3 3)))),λws n R hF=>?_⟩
 obtain⟨p,rm,bk,st,rfl,hP,hn,Y,Z,ad,r⟩:=hF;left;show⟨⟨by ext,by ext⟩,zdP (λi ρ m=>m<=n+i/\∃ (sts:AF) (v4 v5 v6:Option W),ρ=[some (.pen p),some (.d (y8 bk)),some (.d (stD st)),some (.d (xj sts)),v4,v5,v6]/\sts≠[]/\(∀s∈sts,StOk rm s)/\sts.length<=i+1) ⟨ah _,[st],_,_,_,rfl,by simp,by simpa using ad,ah _⟩ ?_ ?_⟩;rintro i ρ m hi ⟨hm,sts,v4,v5,v6,rfl,O,hs,hl⟩ C B E hC _ hE;have hi:i<70:=hi;obtain⟨d,ag,al⟩:=zjE (l:=sts.map stD) (by simpa using O);obtain⟨y,hy,rfl⟩:=au.mp al;left;show xc ag ?_;left;show zft.i Y Z (hs y hy).len ?_;have an:∀z∈zaZ bk y [],StOk rm z:=λz hz=>zok Z (hs y hy) hz;have a3:(zaZ bk y []).length<=32:=zjH Z Y.few Y.box (hs y hy).len;generalize zaZ bk y []=zs at *;left;show⟨uh _,uh [],λb hb=>?_⟩;left;show zjc (λI=>?_) (λI=>?_);left;exact hE (r sts m O hs (by lia) (by lia));have hz:zs.length≠0:=λz=>by rw[hb.mpr (by rw[List.length_eq_zero_iff.mp z];rfl)] at I;cases I
 left;rw[ab];show dc hP λa a0 a1=>?_;obtain⟨k,rfl⟩:=cP a0;have hk:k<zs.length:=by lia
 have ap:=an _ (zbT hk);left;show xc (zjF hk) ?_;generalize zs.getD k []=z at *;left;show⟨xV,uh _,λb hb=>?_⟩;left;show zjc (λL=>?_) (λL=>?_);left;show⟨xV,uh _,hb.mp L,λj as a4=>?_⟩;have hj:=(ac.mp as).1;rw[ab] at hj;left;rw[zfF,<- List.map_drop];show hE (r (sts.drop j) _ (λe=>?_) (λs av=>hs s (c9 av)) (by rw[cg];lia) (by lia));have:=congrArg List.length e;rw[cg,eF] at this;lia;left;show⟨aG (show _<=1000 by rw[ab];lia) (by ext),?_⟩;rw[show sts.map stD++[stD z]=(sts++[z]).map stD by rw[aE];rfl];show hC ⟨by lia,sts++[z],_,_,_,rfl,by simp,λs h=>?_,by rw[ak,bO];lia⟩;rcases aI.mp h with q | q;exact hs s q;rw[ao.mp q];exact ap;rintro ρ m ⟨hm,sts,v4,v5,v6,rfl,O,hs,hl⟩;left;exact r sts m O hs hl hm
def xg {n:Nat}{a b:AS}(h1:∀d∈a,okT n d=true)(h2:∀d∈b,okT n d=true):∀d∈a++b,okT n d=true:=λd h=>(aI.mp h).elim (h1 d) (h2 d)
def zaQ(h:okT n x=true):∀d∈[x],okT n d=true:=λd q=>by rw[ao.mp q];exact h
def zbw{s:AG}:okT (n+1) (stD s)=true:=bc.mpr λd q=>by obtain⟨x,_,rfl⟩:=au.mp q;cases n <;> rfl
def ztg{s:AG}:okT (n+1) (.lst (s.map .int))=true:=zbw (s:=s)
def zhL  : FV:=λPn B n R=>∃ (p:Addr) (q:Int) (rm:AG) (sts:AF),B=[.pen p,.d (.int q),.d (stD rm),.d (xj sts)]/\(IsP Pn p)/\(n+100<=1000000)/\(RoomOk rm)/\(sts≠[])/\(∀s∈sts,StOk rm s)/\(sts.length<=256)/\(∀ (l:AS) m,okT 8 (.lst l)=true->l.length<=600->m<=n+2->R (.d (.lst l)) m)
def zhL.i{q:Int}{rm:AG}{sts:AF}(B:IsP Pn p)(F:RoomOk rm)(I:sts≠[])(hs:∀s∈sts,StOk rm s)(J:sts.length<=256)(h:∀ (l:AS) m,okT 8 (.lst l)=true->l.length<=600->m<=n+2->R (.d (.lst l)) m)(L:n+100<=1000000:=by lia):zhL Pn [.pen p,.d (.int q),.d (stD rm),.d (xj sts)] n R:=⟨p,q,rm,sts,rfl,B,L,F,I,hs,J,h⟩
def zeO (T:Txt K mg t):FnOk P w K mg base CX0 2 t.f33 t.d33 lj (spV 4 false zhL):=by
 have G1:=zP (P:=P) (w:=w) (base:=base) T
 show Fun.okW (k:=1) (fr:=false) [] 4 T.q33.F xH rfl (by ext) rfl λag A U s H E Pn hr=>⟨_,(zb (wS zo <| zD (i:=4) xH.nd (wE zr <| yS T.q1 G1 hr (za (kv 0) (za (zM ym xP (by rfl) T.b_len aN (zi (kb 3) zn)) zf))))
   (zb (wS zo <| zD (i:=5) xH.nd (uA yv uS (kb 3) (kb 4) (λ_ _=>rfl)))
   (zb (wS zo <| zD (i:=6) xH.nd (wE zr <| yS T.q1 G1 hr (za (kv 0) (za (zM ym xP (by rfl) T.b_len aN (zi (kb 2) zn)) zf))))
   (zb (wS zo <| zD (i:=7) xH.nd (yY yt xK (JE.bo (yY yt xK (JE.bo (wE xz <| zbW (kb 5) zz (wO zq <| zA (kb 6)))) (JE.bo (xL (za (yY zaV zrQ (JE.bo (yY yd uk (JE.bo (uA yR ul (kb 5) (kb 6) (λ_ _=>rfl))) (JE.bo zm))) (JE.bo (uA yR ul (kb 2) (kb 6) (λ_ _=>rfl)))) zf))))) (JE.bo (wE xz <| zbW (kb 5) (wO zq <| zA (JE.bo (yY yd uk (kb 6) (JE.bo zm)))) zz))))
   (zb (wS zu <| zZ (wT zk <| zx yF zae (kb 1) (JE.bo zm) (zw _)) (ze (zI (ud (yY yu xh (JE.bo (wE zO <| xn (kb 3) (wO zq <| zA (kb 4)) zz)) (JE.bo (wE zO <| xn (kb 3) zz (wO zq <| zA (kb 4)))))))) zy)
   (zb (wS zu <| zZ (wT zk <| zx yF zae (kb 1) (JE.bo zm) (zw _)) (ze (zI (ud (wE zeL <| zkK (kb 3))))) zy)
   (zb (wS zu <| zZ (wT zk <| zx yF zae (kb 1) (JE.bo zm) (zw _)) (ze (zI (ud (yY yu xh (JE.bo (wE zO <| xn (kb 3) zz (wO zq <| zA (kb 4)))) (JE.bo (wE zO <| xn (kb 3) (wO zq <| zA (JE.bo (yY yd uk (kb 4) (JE.bo zm)))) zz)))))) zy)
   (zb (wS zu <| zZ (wT zk <| zx yF zae (kb 1) (JE.bo zm) (zw _)) (ze (zI (ud (yY yu xh (JE.bo (yY yu xh (JE.bo (wE zO <| xn (kb 3) zz (wO zq <| zA (kb 4)))) (JE.bo (yP (za (kv 5) zf))))) (JE.bo (wE zO <| xn (kb 3) (wO zq <| zA (kb 4)) zz)))))) zy)
   (zb (wS zu <| zZ (wT zk <| zx yF zae (kb 1) (JE.bo zm) (zw _)) (ze (zI (ud (yY yu xh (JE.bo (yY yu xh (JE.bo (wE zO <| xn (kb 3) zz (wO zq <| zA (kb 4)))) (JE.bo (yP (za (kv 7) zf))))) (JE.bo (wE zO <| xn (kb 3) (wO zq <| zA (JE.bo (yY yd uk (kb 4) (JE.bo zm)))) zz)))))) zy)
   (zb (wS zu <| zZ (wT zk <| zx yF zae (kb 1) (JE.bo zm) (zw _)) (ze (zI (ud (yY yu xh (kb 3) (JE.bo (yP (za (kv 7) zf))))))) zy)
   (zb (wS zu <| zZ (wT zk <| zx yF zae (kb 1) (JE.bo zm) (zw _)) (ze (zI (ud (yY yu xh (JE.bo (yY yu xh (JE.bo (wE zO <| xn (kb 3) zz (wO zq <| zA (kb 4)))) (JE.bo (yP (za (yY yt xK (JE.bo (yY yt xK (JE.bo (wE xz <| zbW (kb 5) zz (wO zq <| zA (kb 6)))) (JE.bo (xL (za (uA yR ul (kb 2) (kb 6) (λ_ _=>rfl)) zf))))) (JE.bo (wE xz <| zbW (kb 5) (wO zq <| zA (JE.bo (yY yd uk (kb 6) (JE.bo zm)))) zz))) zf))))) (JE.bo (wE zO <| xn (kb 3) (wO zq <| zA (JE.bo (yY yd uk (kb 4) (JE.bo zm)))) zz)))))) zy)
   (zb (wS zu <| zZ (wT zk <| zx yF zae (kb 1) (JE.bo zm) (zw _)) (ze (zI (ud (yY yu xh (JE.bo (yY yu xh (JE.bo (wE zO <| xn (kb 3) zz (wO zq <| zA (kb 4)))) (JE.bo (yP (za (yY yt xK (JE.bo (yY yt xK (JE.bo (wE xz <| zbW (kb 5) zz (wO zq <| zA (kb 6)))) (JE.bo (xL (za (zm4 yF zae (JE.bo (uA yR ul (kb 5) (kb 6) (λ_ _=>rfl))) (JE.bo zm) (zw _)) zf))))) (JE.bo (wE xz <| zbW (kb 5) (wO zq <| zA (JE.bo (yY yd uk (kb 6) (JE.bo zm)))) zz))) zf))))) (JE.bo (wE zO <| xn (kb 3) (wO zq <| zA (JE.bo (yY yd uk (kb 4) (JE.bo zm)))) zz)))))) zy)
   (zb (wS zu <| zZ (wT zk <| zx yF zae (kb 1) (JE.bo zm) (zw _)) (ze (zI (ud (yY yu xh (JE.bo (yY yu xh (JE.bo (wE zO <| xn (kb 3) zz (wO zq <| zA (kb 4)))) (JE.bo (yP (za (xm uD zma (by rfl) T.b_list bY (zi (kb 5) zn)) zf))))) (JE.bo (wE zO <| xn (kb 3) (wO zq <| zA (JE.bo (yY yd uk (kb 4) (JE.bo zm)))) zz)))))) zy)
   (zb (wS zu <| zZ (wT zk <| zx yF zae (kb 1) (JE.bo zm) (zw _)) (ze (zI (ud (yP (za (kv 5) zf))))) zy)
   (zb (wS zu <| zZ (wT zk <| zx yF zae (kb 1) (JE.bo zm) (zw _)) (ze (zI (ud (yY yu xh (JE.bo (yY yu xh (JE.bo (wE zO <| xn (kb 3) zz (wO zq <| zA (kb 4)))) (JE.bo (yP (za zp5 zf))))) (JE.bo (wE zO <| xn (kb 3) (wO zq <| zA (kb 4)) zz)))))) zy)
   (zb (wS zu <| zZ (wT zk <| zx yF zae (kb 1) (JE.bo zm) (zw _)) (ze (zI (ud (yY yu xh (JE.bo (yY yu xh (JE.bo (wE zO <| xn (kb 3) zz (wO zq <| zA (kb 4)))) (JE.bo (yP (za (yY yt xK (JE.bo (yY yt xK (JE.bo (wE xz <| zbW (kb 5) zz (wO zq <| zA (kb 6)))) (JE.bo (xL (za zkL zf))))) (JE.bo (wE xz <| zbW (kb 5) (wO zq <| zA (JE.bo (yY yd uk (kb 6) (JE.bo zm)))) zz))) zf))))) (JE.bo (wE zO <| xn (kb 3) (wO zq <| zA (JE.bo (yY yd uk (kb 4) (JE.bo zm)))) zz)))))) zy)
   (ze (zI (ud (yY yu xh (kb 3) (kb 3))))))))))))))))))))),λws n R hF=>?_⟩
 obtain⟨p,al,rm,sts,rfl,hP,hn,Y,h0,hs,Z,r⟩:=hF;left;rw[ab];have ad:=dr.mpr h0;show dc hP λa a0 a1=>?_;obtain⟨k,rfl⟩:=cP a0;have hk:k<sts.length:=by lia
 left;show xc (zjF hk) ?_;have I:=hs _ (zbT hk);generalize sts.getD k []=one at I;left;rw[ab];have an:=Y.pos;have h8:=Y.few;have ap:=I.len;show dc hP λb L b1=>?_;left;show onA L (by lia) ?_;left;show onA L (by lia) ?_;have as:=Y.box (yH rm b) (zbg (by lia));left;show⟨by lia,?_⟩;generalize (yH one b+1) % yH rm b=ob;have L1:∀lo hi,(xA (sts.map stD) lo hi).length<=256:=λlo hi=>af (za2 _ _ _) (by rw[ab];exact Z);have L2:∀lo hi,(xA (one.map Dt.int) lo hi).length<=8:=λlo hi=>af (za2 _ _ _) (by rw[ab];lia);have LA:∀lo hi (x:Dt),(xA (sts.map stD) lo hi++[x]).length<=257:=λlo hi x=>by rw[ak];exact aW (L1 _ _) 1
 have LB:∀lo hi (x:Dt),(xA (one.map Dt.int) lo hi++[x]).length<=9:=λlo hi x=>by rw[ak];exact aW (L2 _ _) 1
 have ci:∀lo hi,∀d∈xA (one.map Dt.int) lo hi,okT 6 d=true:=λlo hi d B=>by obtain⟨x,_,rfl⟩:=au.mp (zjZ B);rfl
 have O:∀ (x:Dt) lo1 hi1 lo2 hi2,okT 6 x=true->okT 7 (.tup (xA (one.map .int) lo1 hi1++[x]++xA (one.map .int) lo2 hi2))=true:=λx _ _ _ _ h=>bc.mpr (xg (xg (ci _ _) (zaQ h)) (ci _ _));have q:∀lo hi,∀d∈xA (sts.map stD) lo hi,okT 7 d=true:=λlo hi d B=>by obtain⟨x,_,rfl⟩:=au.mp (zjZ B);exact zbw
 have fin:∀l:AS,(∀d∈l,okT 7 d=true)->l.length<=600->R (.d (.lst l)) (n+1+1):=λl h1 h2=>r l _ (bc.mpr h1) h2 (ah _);show⟨af (aW (L2 _ _) 1) (by ext),?_⟩;left;show⟨af (a8 (LB _ _ _) (L2 _ _)) (by ext),?_⟩;left;have J:=O (.int ob) none (some b) (some (b+1)) none rfl;generalize Dt.tup (xA (one.map .int) none (some b)++[.int ob]++xA (one.map .int) (some (b+1)) none)=ot at J;left;show yw (λ_=>?_) (λ_=>?_);left;show⟨af (a8 (L1 _ _) (L1 _ _)) (by ext),?_⟩;left;exact fin _ (xg (q _ _) (q _ _)) (af (by rw[ak];exact a8 (L1 _ _) (L1 _ _)) (by ext));left;show yw (λ_=>?_) (λ_=>?_);left;exact fin _ (λd B=>by obtain⟨x,_,rfl⟩:=au.mp (List.mem_reverse.mp B);exact zbw) (by rw[eQ,ab];lia);left;show yw (λ_=>?_) (λ_=>?_);left;show⟨af (a8 (L1 _ _) (L1 _ _)) (by ext),?_⟩;left;exact fin _ (xg (q _ _) (q _ _)) (af (by rw[ak];exact a8 (L1 _ _) (L1 _ _)) (by ext));left;show yw (λ_=>?_) (λ_=>?_);left;show⟨af (aW (L1 _ _) 1) (by ext),?_⟩;left;show⟨af (a8 (LA _ _ _) (L1 _ _)) (by ext),?_⟩;left;exact fin _ (xg (xg (q _ _) (zaQ (zbw))) (q _ _)) (af (by rw[ak];exact a8 (LA _ _ _) (L1 _ _)) (by ext));left;show yw (λ_=>?_) (λ_=>?_);left;show⟨af (aW (L1 _ _) 1) (by ext),?_⟩;left;show⟨af (a8 (LA _ _ _) (L1 _ _)) (by ext),?_⟩;left;exact fin _ (xg (xg (q _ _) (zaQ (J))) (q _ _)) (af (by rw[ak];exact a8 (LA _ _ _) (L1 _ _)) (by ext));left;show yw (λ_=>?_) (λ_=>?_);left;show⟨af (show _<=257 by rw[ab];exact aW Z 1) (by ext),?_⟩;left;exact fin _ (xg (λd B=>by obtain⟨x,_,rfl⟩:=au.mp B;exact zbw) (zaQ J)) (by rw[ak,ab];exact af (aW Z 1) (by ext));left;show yw (λ_=>?_) (λ_=>?_);left;show onA L (by lia) ?_;left;show⟨af (aW (L2 _ _) 1) (by ext),?_⟩;left;show⟨af (a8 (LB _ _ _) (L2 _ _)) (by ext),?_⟩;left;show⟨af (aW (L1 _ _) 1) (by ext),?_⟩;left;show⟨af (a8 (LA _ _ _) (L1 _ _)) (by ext),?_⟩;left;exact fin _ (xg (xg (q _ _) (zaQ (O _ _ _ _ _ rfl))) (q _ _)) (af (by rw[ak];exact a8 (LA _ _ _) (L1 _ _)) (by ext));left;show yw (λ_=>?_) (λ_=>?_);left;show onA L (by lia) ?_;left;show⟨af (aW (L2 _ _) 1) (by ext),?_⟩;left;show⟨af (a8 (LB _ _ _) (L2 _ _)) (by ext),?_⟩;left;show⟨af (aW (L1 _ _) 1) (by ext),?_⟩;left;show⟨af (a8 (LA _ _ _) (L1 _ _)) (by ext),?_⟩;left;exact fin _ (xg (xg (q _ _) (zaQ (O _ _ _ _ _ rfl))) (q _ _)) (af (by rw[ak];exact a8 (LA _ _ _) (L1 _ _)) (by ext));left;show yw (λ_=>?_) (λ_=>?_);left;show⟨af (aW (L1 _ _) 1) (by ext),?_⟩;left;show⟨af (a8 (LA _ _ _) (L1 _ _)) (by ext),?_⟩;left;exact fin _ (xg (xg (q _ _) (zaQ (ztg))) (q _ _)) (af (by rw[ak];exact a8 (LA _ _ _) (L1 _ _)) (by ext));left;show yw (λ_=>?_) (λ_=>?_);left;exact fin _ (zaQ zbw) (show 1<=600 by ext);left;show yw (λ_=>?_) (λ_=>?_);left;show⟨af (aW (L1 _ _) 1) (by ext),?_⟩;left;show⟨af (a8 (LA _ _ _) (L1 _ _)) (by ext),?_⟩;left;exact fin _ (xg (xg (q _ _) (zaQ (rfl))) (q _ _)) (af (by rw[ak];exact a8 (LA _ _ _) (L1 _ _)) (by ext));left;show yw (λ_=>?_) (λ_=>?_);left;show⟨af (aW (L2 _ _) 1) (by ext),?_⟩;left;show⟨af (a8 (LB _ _ _) (L2 _ _)) (by ext),?_⟩;left;show⟨af (aW (L1 _ _) 1) (by ext),?_⟩;left;show⟨af (a8 (LA _ _ _) (L1 _ _)) (by ext),?_⟩;left;exact fin _ (xg (xg (q _ _) (zaQ (O _ _ _ _ _ (by decide +kernel)))) (q _ _)) (af (by rw[ak];exact a8 (LA _ _ _) (L1 _ _)) (by ext));left;show⟨af (show _<=512 by rw[ab];lia) (by ext),?_⟩;left;exact fin _ (xg (λd B=>by obtain⟨x,_,rfl⟩:=au.mp B;exact zbw) (λd B=>by obtain⟨x,_,rfl⟩:=au.mp B;exact zbw)) (by rw[ak,ab];lia)
def ztj (T:Txt K mg t):FnOk P w K mg base CX0 7 t.f34 t.d34 lm (zlW K):=by
 have G23:=zbA (P:=P) (w:=w) (base:=base) T;have G29:=zeT (P:=P) (w:=w) (base:=base) T;have G0:FnOk P w K mg base CX0 1 t.f0 t.d0 lm (zn4 K):=zhp T;have G1:=zP (P:=P) (w:=w) (base:=base) T;have G3:=zeQ (P:=P) (w:=w) (base:=base) T;have G4:=yI (P:=P) (w:=w) (base:=base) T;have G9:=uK (P:=P) (w:=w) (base:=base) T;have G10:=zaR (P:=P) (w:=w) (base:=base) T;have G14:=zeP (P:=P) (w:=w) (base:=base) T;have G31:=zf8 (P:=P) (w:=w) (base:=base) T;have G32:=zeR (P:=P) (w:=w) (base:=base) T;have G33:=zeO (P:=P) (w:=w) (base:=base) T
 show zwB (k:=6) (r:=13) [] T.q34.F xt rfl rfl (by ext) λcl A bx s H E Pn I=>⟨_,_,_,rfl,(ua (i:=1) xt.nd rfl (Or.inl rfl) (zje T.q0 G0 I (zG (qv 0) ye))),(zb (yq aH rfl (wI xy <| yp rfl T.b_range (zi (JE.bo zm) zn)) (wG zK <| zl (i:=2) xt.nd) (zb (wS zo <| zD (i:=3) xt.nd (wE zr <| yS T.q1 G1 I (za (kv 1) (za zm zf))))
   (zb (wS zo <| zD (i:=4) xt.nd (uA yv uS (JE.bo (yP (za zm (za zm (za zm (za zm zf)))))) (JE.bo (wE zr <| yS T.q1 G1 I (za (kv 1) (za zm zf)))) (λ_ _=>rfl)))
   (zb (wS zu <| zZ (JW.t (wW zbY <| zdS (wT zk <| zx yF zae (kb 2) (JE.bo zm) (zw _)) (zao (.inl rfl) (wT zk <| zx yF zae (JE.bo (wE zr <| yS T.q1 G1 I (za (kv 1) (za zm zf)))) (JE.bo zm) (zw _))))) (ze (wS zo <| zD (i:=4) xt.nd zm)) zy)
   (zb (wS zo <| zD (i:=5) xt.nd (wE zr <| yS T.q3 G3 I (za (kv 1) (za (kv 4) zf))))
   (zb (wS zo <| zD (i:=6) xt.nd (wE zr <| yS T.q14 G14 I (za (kv 1) (za (kv 5) zf))))
   (zb (wS zu <| zZ (wT zk <| zx yF zae (JE.bo (wE zr <| yS T.q1 G1 I (za (kv 1) (za zm zf)))) (JE.bo zm) (zw _)) (zb (wS zo <| zD (i:=7) xt.nd (wE zr <| yS T.q10 G10 I (za (kv 5) zf)))
   (zb (wS zo <| zD (i:=6) xt.nd (yY yt xK (kb 6) (JE.bo (xm yN za9 (by rfl) T.b_tuple bv (zi (JE.bo (xY (N:=li) (cix:=[none,none]) rfl (by walk_at "c") (wI zcA <| zeD rfl T.b_zip (za (kv 7) (za (wE zO <| xn (kb 7) (wO zq <| zA (JE.bo zm)) zz) zf))) (λ_ _ _ _=>(wG uV <| uW (n:=2) K rfl rfl (wH yn <| zH (wG zK <| zl (i:=0) (show (li:AM).Nodup by decide +kernel)) (wH yn <| zH (wG zK <| zl (i:=1) (show (li:AM).Nodup by decide +kernel)) (wH uU xM))))) (λ_ _ _ _=>yV) (λ_ _ _ _=>(wE zr <| yS T.q9 G9 I (za (kv 0) (za (kv 1) zf)))))) zn)))))
   (ze (wS zu <| zZ (wT zk <| zx yF zae (JE.bo (zM ym xP (by rfl) T.b_len aN (zi (JE.bo (xY (N:=[A5,BE]) (cix:=[none,some 7]) rfl (by walk_at "c") (wI xy <| yp rfl T.b_range (zi (JE.bo (zM ym xP (by rfl) T.b_len aN (zi (kb 5) zn))) zn)) (λ_ _ _ _=>(wG zK <| zl (i:=0) (show ([A5,BE]:AM).Nodup by decide +kernel))) (λ_ _ _ _=>(zbX (wT zk <| zx zeY zpc (JE.bo (uA yR ul (JE.bo (uA yv uS (kb 1) (JE.bo zm) (λ_ _=>rfl))) (kb 0) (λ_ _=>rfl))) (JE.bo (uA yR ul (JE.bo (uA yv uS (kb 1) (JE.bo (zwb zmf zrR (JE.bo zm))) (λ_ _=>rfl))) (kb 0) (λ_ _=>rfl))) (zw _)))) (λ_ _ _ _=>(kv 0)))) zn))) (JE.bo zm) (zw _)) (ze (wS zo <| zD (i:=6) xt.nd (yY yt xK (kb 6) (JE.bo (xL (za (wE zr <| yS T.q9 G9 I (za (uA yv uS (kb 7) (JE.bo (zwb zmf zrR (JE.bo zm))) (λ_ _=>rfl)) (za (uA yv uS (kb 7) (JE.bo zm) (λ_ _=>rfl)) zf))) zf)))))) zy)))) zy)
   (zb (wS zo <| zD (i:=8) xt.nd (wE zr <| yS T.q4 G4 I (za (kv 5) zf)))
   (zb (wS zo <| zD (i:=9) xt.nd (wE zr <| yS T.q32 G32 I (za (kv 1) (za (kv 6) (za (uA yv uS (kb 8) (JE.bo (wE zr <| yS T.q1 G1 I (za (kv 1) (za (zM ym xP (by rfl) T.b_len aN (zi (kb 8) zn)) zf)))) (λ_ _=>rfl)) zf)))))
   (zb (wS zo <| zD (i:=10) xt.nd (wE zr <| yS T.q23 G23 I (za (kv 5) (za (kv 6) zf))))
   (zb (wS zu <| zZ (JW.t (wW zbY <| zdS (wT zk <| zx yF zae (JE.bo (uA yR ul (kb 10) (JE.bo zm) (λ_ _=>rfl))) (JE.bo zkL) (zw _)) (zao (.inl rfl) (wT zk <| zx yF zae (JE.bo (wE zr <| yS T.q1 G1 I (za (kv 1) (za zm zf)))) (JE.bo zm) (zw _))))) (ze (wS zo <| zD (i:=9) xt.nd (xm uD zma (by rfl) T.b_list bY (zi (JE.bo (uA yR ul (kb 10) (JE.bo zm) (λ_ _=>rfl))) zn)))) zy)
   (zb (yq aH rfl (wI za5 <| zcU K rfl (xL (za (kv 9) (za (wE zr <| yS T.q33 G33 I (za (kv 1) (za (kv 3) (za (kv 5) (za (kv 9) zf))))) (za (yP zf) zf))))) (wG zK <| zl (i:=11) xt.nd) (zb (wS zo <| zD (i:=12) xt.nd (xm uD zma (by rfl) T.b_list bY (zi (kb 11) zn)))
   (zb (wS zo <| zD (i:=13) xt.nd (wE zr <| yS T.q29 G29 I (za (kv 5) (za (kv 6) (za (kv 12) zf)))))
   (ze (wS zu <| zZ (JW.t (wW zcd <| zfV (wT za6 <| zcV (wT zk <| zcc (JE.bo (wE za4 <| uG (by rfl) T.b_isinstance T.b_bool (kb 13))))) (wW zcd <| zfV (wT zk <| zx zeY zpc (kb 13) (JE.bo (wE zr <| yS T.q31 G31 I (za (kv 5) (za (kv 6) (za (kv 11) zf))))) (zw _)) (zao (.inr rfl) (wT zk <| zx (ztv I.units) zxb (kb 12) (kb 11) (zw _)))))) (ze (zI zgI)) zy)))))
   (zb (wS zo <| zD (i:=14) xt.nd (uA yv uS (JE.bo (yP (za zp5 (za zkL (za zm (za (xm yN za9 (by rfl) T.b_tuple bv (zi (kb 9) zn)) (za zsX (za zgI (za (yP (za zp5 zf)) (za (yP (za (yP zf) zf)) zf)))))))))) (JE.bo (wE zr <| yS T.q1 G1 I (za (kv 1) (za zm zf)))) (λ_ _=>rfl)))
   (ze (wS zu <| zZ (wT zk <| zx zhs zjp (JE.bo (wE zr <| yS T.q29 G29 I (za (kv 5) (za (kv 6) (za (kv 14) zf))))) (JE.bo zgI) (zw _)) (ze (zI zgI)) zy)))))))))))))))
   (ze (zI zgI))),λp c ns b0=>?_⟩
 subst b0;have hP:IsP ⟨some (p,c,ns),J0⟩ p:=⟨c,ns,rfl⟩;show zuh ?_;left;show⟨⟨by ext,by ext⟩,zdP (λi ρ n=>n<=10000 * i/\∃ (v2 v3 v4 v5 v6 v7 v8 v9 ag U Y Z al:Option W),ρ=[none,some (.pen p),v2,v3,v4,v5,v6,v7,v8,v9,ag,U,Y,Z,al]) ⟨ah _,_,_,_,_,_,_,_,_,_,_,_,_,_,rfl⟩ ?_ ?_⟩;rotate_left;rintro ρ n ⟨hn,v2,v3,v4,v5,v6,v7,v8,v9,ag,U,Y,Z,al,rfl⟩;left;rintro i ρ n hi ⟨hn,v2,v3,v4,v5,v6,v7,v8,v9,ag,U,Y,Z,al,rfl⟩ C B E hC _ _;have hi:i<2:=hi;left;show dc hP λb1 w0 w1=>?_;left;show dc hP λmo m0 m1=>?_;left;show zqx m0 m1 λx hx=>?_
 obtain⟨q,rfl,q1,q2⟩:∃q,x = .int q/\4<=q/\q<=256:=by
  simp at hx;rcases hx with rfl | rfl | rfl | rfl
  all_goals exact⟨_,rfl,by lia,by lia⟩
 left;refine' zk7 (λ(q:Int) (n1:Nat)=>4<=q/\q<=256/\n1<=n+3) _ (λzQ=>?_) ?_;rotate_left
 ·show yw (λh0=>?_) (λh0=>?_);rotate_left;left;generalize hk:n+1+1=n1;generalize cn:q=m9;exact zQ m9 n1 ⟨by lia,by lia,by lia⟩;left;show dc hP λd d0 d1=>?_;left;show yw (λh5=>?_) (λh5=>?_);left;exact zQ 256 (n+1+1+1) ⟨by ext,by ext,by lia⟩;left;exact zQ q (n+1+1+1) ⟨q1,q2,by lia⟩
 rintro q n1 ⟨q1,q2,co⟩;show zmp.i hP q1 q2 λrm m O hp hm=>?_;have h8:=O.few;have ck:=O.pos;have hN:=xw rm λn hn=>by have:=O.box n hn;lia
 have hq:(yZ (rm.map zp)).length<=256:=by lia
 have h2:=zgk O.ne λn hn=>(O.box n hn).1;left;show zhM.i hP O (by lia) λbk m2 hB hl cp=>?_;left;show dc hP λd d0 d1=>?_;left;refine' ztc (λ(bk:AW) (n1:Nat) (_:Option W)=>xu rm bk/\n1=m2+1) _ (λzQ=>?_) ?_;rotate_left
 ·show yw (λh0=>?_) (λh0=>?_);rotate_left;left;generalize hk:m2+1=n1;generalize hv:v7=v7';generalize b2:bk=bk0;exact zQ bk0 n1 v7' ⟨b2 ▸ hB,hk.symm⟩;left;show zfs.i O λsts b3 an a2=>?_;left;rw[zfq];show zfC (List.range (sts.length - 1)) (λi:Nat=>W.d (.tup [stD (sts.getD i []),stD (sts.getD (i+1) [])])) rfl (by rw[ay];exact af (by lia:_<=256) (by ext)) (λi ap n' acc=>n'=m2+1/\i<=sts.length - 1/\∃ (v0 v1:Option W) (bk:AW),ap=[v0,v1]/\acc=bk.map zU/\xu rm bk/\bk.length=i) ⟨rfl,aK _,none,none,[],rfl,rfl,by intro x hx;simp at hx,rfl⟩ ?_ ?_;rintro i k ap n' acc hk ⟨rfl,hi,v0,v1,bk,rfl,rfl,hB,as⟩ C hC;obtain⟨a3,a4⟩:=ac.mp hk;rw[ay] at a3;rw[bB] at a4;subst a4;left;show zcF.i O (an _ (zah (by lia))) (an _ (zah (by lia))) (zdY b3 (by lia)) λx hx _=>?_;exact hC ⟨rfl,a3,_,_,bk++[x],rfl,by rw[aE];rfl,hB.app (λy hy=>by rw[ao.mp hy];exact hx),by rw[ak,as];rfl⟩;rintro ap n' acc ⟨rfl,hi,v0,v1,av,rfl,rfl,b4,as⟩;rw[ay] at as;left;show⟨af (show _<=1000 by rw[ab,ab];lia) (by ext),?_⟩;rw[<- aE];have J:xu rm (bk++av):=hB.app b4;have a5:(bk++av).length<=400:=by rw[ak];lia
  generalize bk++av=ad at J a5;obtain⟨x,tl,rfl⟩:∃x tl,sts=x::tl:=cz λe=>by rw[e,eF] at a2;lia
  obtain⟨y,a7,b5⟩:=zjE (l:=(x::tl).map stD) (by simp);obtain⟨y,hy,rfl⟩:=au.mp b5;have ba:=an x (.head _);have bb:=an y hy;have e0:atI ((x::tl).map stD) 0=some (stD x):=zbb (i:=0) rfl;have cs:=ba.len;have c0:=bb.len;generalize x::tl=sts at *;left;rw[ab];show⟨⟨by lia,by lia⟩,?_⟩;rw[aP,uO];show zcM (List.range rm.length) (λk:Nat=>W.d (.int (k:Int))) rfl (λρ=>∃v,ρ=[v,some (.d (xj sts))]) (λk=>!decide (x.getD k 0=y.getD k 0)) (λk=>.int (k:Int)) (by rw[ay];exact af h8 (by ext)) ⟨_,rfl⟩ ?_ ?_;rintro k hk ap ⟨v,rfl⟩ C hY hN;have c1:=aU.mp hk;left;show xc e0 ?_;left;show onA (by lia) (by lia) ?_;left;show xc a7 ?_;left;show onA (by lia) (by lia) ?_;left;rw[zS,zS];show zgd (λh=>?_) (λh=>?_);exact hY (by rw[bg h];rfl) ⟨_,rfl⟩;exact hN (by rw[a6 h];rfl) ⟨_,rfl⟩;left;rw[ab];show yw (λh1=>?_) (λh1=>?_)
  have ca:y≠x:=λe=>by
   rw[e,List.filter_eq_nil_iff.mpr λ_ _=>by simp] at h1;exact absurd h1 (by ext)
  left;show xc a7 ?_;left;show xc e0 ?_;left;show zcF.i O bb ba ca λz hz _=>?_;left;show⟨af (show _<=1000 by rw[ab,bO];lia) (by ext),?_⟩;left;rw[show ad.map zU++[zU z]=(ad++[z]).map zU by rw[aE];rfl];exact zQ (ad++[z]) _ _ ⟨J.app (λy hy=>by rw[ao.mp hy];exact hz),rfl⟩;left;exact zQ ad _ _ ⟨J,rfl⟩
 rintro ad n2 v7 ⟨J,rfl⟩;show zcG.i O ?_;left;rw[ab];show dc hP λa a0 a1=>?_;obtain⟨k,rfl⟩:=cP a0;have cc:=uC _ _ (zbT (show k<(yZ (rm.map zp)).length by lia));left;show xc (zjF (by lia)) ?_;left;show zmt.i hP O J cc λsts m3 h0 hs hl c2=>?_;left;refine' ztc (λ(sts:AF) (n1:Nat) (_:Option W)=>sts≠[]/\(∀s∈sts,StOk rm s)/\sts.length<=256/\n1<=m3+1) _ (λzQ=>?_) ?_;rotate_left;show zmq.i O J hq ⟨λrd g1 g2 g3=>?_,λL _ _=>?_⟩
 left;show xc rfl ?_;left;with_reducible show zqz ?_ ?_
 decide;left;show dc hP λd d0 d1=>?_;left;show yw (λh=>?_) (λh=>?_);left;show xc rfl ?_;left;generalize some (W.d (Dt.tup [Dt.str (Str.ofString "ring"),xj rd]))=sd;generalize hk:m3+1=n4;exact zQ rd n4 sd ⟨g1,λs hs=>uC _ _ (g2 s hs),g3,by lia⟩;left;exact zQ sts _ _ ⟨h0,hs,by lia,ah _⟩
 left;show xc rfl ?_;left;with_reducible show zqy ?_ ?_
 decide;left;exact zQ sts _ _ ⟨h0,hs,by lia,by lia⟩;rintro sts n4 ag ⟨h0,hs,hl,c3⟩;show zhL.i hP O h0 hs hl λlb n5 hT cd c4=>?_;left;show zR [xj sts,.lst lb,.lst []] (λd=>W.d d) rfl (λ_ ρ m=>m=n5/\∃U Y Z,ρ=[none,some (.pen p),some (.d (.int (i:Int))),some (.d (.int b1)),some (.d (.int q)),some (.d (stD rm)),some (.d (y8 ad)),v7,some (.d (xj (yZ (rm.map zp)))),some (.d (xj sts)),ag,U,Y,Z,al]) ⟨rfl,_,_,_,rfl⟩ ?_ ?_;rintro j x ρ m' hx ⟨rfl,U,Y,Z,rfl⟩ C' B' E' ch _ _
 obtain⟨lx,rfl,bd,bl⟩:∃lx,x = .lst lx/\okT 8 (.lst lx)=true/\lx.length<=600:=by
  have:=ar hx;simp at this;rcases this with rfl | rfl | rfl;show⟨_,rfl,bc.mpr λd hd=>?_,by rw[ab];lia⟩;obtain⟨x,_,rfl⟩:=au.mp hd;exact zbw;exact⟨_,rfl,hT,cd⟩;exact⟨_,rfl,rfl,by ext⟩
 left;show zr6.i rfl O J hq (λl e=>by cases e;exact bl) λb hb=>?_;left;show zmo.i O J hq bd bl λb' ci=>?_;obtain rfl:b=b':=by rw[b8];exact hb.trans ci.symm
 left;show zgd (λh=>absurd rfl h) λ_=>?_;left;show⟨rfl,bd,?_⟩;left;exact ch ⟨rfl,_,_,_,rfl⟩;rintro ρ m' ⟨rfl,U,Y,Z,rfl⟩;left;show dc hP λo o0 o1=>?_;left;show zqx o0 (show o<8 from o1) λx hx=>?_
 have bs:(∀sts,x≠xj sts)/\∀l,x = .lst l->l.length<=600:=by
  simp only[aF,cQ,or_false] at hx;rcases hx with rfl | rfl | rfl | rfl | rfl | rfl | rfl | rfl
  all_goals show⟨λzs e=>?_,λl e=>by cases e <;> decide⟩
  all_goals rcases zs with _ | ⟨_,_⟩ <;> cases e
 left;show zr6.i rfl O J hq bs.2 λb hb=>?_
 obtain rfl:b=false:=by
  cases b;rfl;obtain⟨zs,e,_⟩:=hb.mp rfl;exact absurd e (bs.1 zs)
 left;walk_at "cf";exact hC ⟨by lia,_,_,_,_,_,_,_,_,_,_,_,_,_,rfl⟩
end
def Dm {K:AH}{h:Heap}{mg:AI}{x:Str}{st:Stmt}{ps:AM}{f:Addr}{I kV dc B q ct:Value}{J F:Option Addr}{L:Array AJ}(X:K.In h)(G:h.Ns mainGlobals mg)(a:PySem.W.nsIn K mainGlobals x=some (some (.ref f)))(l:K.lookup f=some ⟨I,J,.func (PySem.W.fnOf x x (yk st) (zJ st) (zd st) .none kV dc B F q ct),L⟩)(c:PySem.W.codeIn K q x=true)(k:PySem.W.keepIn K (.ref f)=true)(b:∀ (kV dc B:Value) (F:Option Addr) (q ct:Value) (us:AN),us.length=ps.length->bindArgs (PySem.W.fnOf x x (yk st) (zJ st) (zd st) .none kV dc B F q ct) ⟨us,[]⟩=pure (ps.zip us)):Dfn K mg x st ps f (PySem.W.fnOf x x (yk st) (zJ st) (zd st) .none kV dc B F q ct):=⟨zh3 l c k,(zh3 l c k).binds b,PySem.W.mg_of X G a⟩
def DmD{K:AH}{h:Heap}{mg:AI}{x:Str}{st:Stmt}{ps:AM}{ds:AN}{f T:Addr}{L kV dc B q ct O:Value}{U F I:Option Addr}{its:AK}(X:K.In h)(G:h.Ns mainGlobals mg)(a:PySem.W.nsIn K mainGlobals x=some (some (.ref f)))(l:K.lookup f=some ⟨L,U,.func (PySem.W.fnOf x x (yk st) (zJ st) (zd st) (.ref T) kV dc B F q ct),Y⟩)(c:PySem.W.codeIn K q x=true)(k:PySem.W.keepIn K (.ref f)=true)(t:K.lookup T=some ⟨O,I,.seq its Z,J⟩)(b:∀us:AN,(us++[]).length=ps.length->∃k:Option AK->Sem (List (Str×Value)),bindArgs (PySem.W.fnOf x x (yk st) (zJ st) (zd st) (.ref T) kV dc B F q ct) ⟨us,[]⟩=seqItems? (.ref T) >>= k/\k (some its)=pure (ps.zip (us++[])))(e:∀us:AN,(us++ds).length=ps.length->∃k:Option AK->Sem (List (Str×Value)),bindArgs (PySem.W.fnOf x x (yk st) (zJ st) (zd st) (.ref T) kV dc B F q ct) ⟨us,[]⟩=seqItems? (.ref T) >>= k/\k (some its)=pure (ps.zip (us++ds))):DfnD K mg x st ps ds f (PySem.W.fnOf x x (yk st) (zJ st) (zd st) (.ref T) kV dc B F q ct):=⟨zkl l c k,zhS l rfl t b,zhS l rfl t e,PySem.W.mg_of X G a⟩
def fin {l:PySem.W.OpenLaw}{w:Ab}{K:AH}{mg:AI}{fa:Addr}{t:Ad}(q:mg "law" = some (.ref fa))(T:Txt K mg t)(b:∀ (s:AZ) (v:Value),BindsTo s t.d34 ⟨[v],[]⟩ [("_law_script",v)]):∃fd:Ac,(∀ (s:AZ) (v:Value),BindsTo s fd ⟨[v],[]⟩ [("_law_script",v)])/\∀base:Heap,K.In base->base.Ns mainGlobals mg->FnOk l.prog w K mg base CX0 7 fa fd lm (zlW K):=by have e:=q.symm.trans T.q34.m;cases e;exact⟨_,b,λbase _ _=>ztj T⟩
def walk {l:PySem.W.OpenLaw}{q:Aa}{B:AM}{XP:(AI)->Heap->Prop}{YP:Ab->Heap->Prop}{d:DefRec}{K:Params->AH}(J:l.most=some 63)(I:d.params.defaults=[])
  (L:∀ (w:Ab) (h:Heap),YP w h->(K w.params).In h)
  (F:∀ (w:Ab) (mg:AI) (fa:Addr) (h:Heap),(K w.params).In h->h.Ns mainGlobals mg->mg d.name=some (.ref fa)->
   ∃fd:Ac,(∀ (s:AZ) (u:Value),BindsTo s fd ⟨[u],[]⟩ [("_law_script",u)])/\∀base:Heap,(K w.params).In base->base.Ns mainGlobals mg->FnOk l.prog w (K w.params) mg base CX0 7 fa fd lm (zlW (K w.params))) :
  PySem.W.WalkO q B XP YP l.row.toRowW d [] (λf vs=>PySem.call f vs):=
 L2.zrZ (n:=63) (k:=7) (x := "_law_script") (CX:=λ_=>CX0) (sp:=λw=>zlW (K w.params)) J (by ext) I ⟨rfl,by ext,by ext⟩ L F (λ_ _ a ns O _ U=>⟨a,ns,rfl,U,O,λ_=>rfl⟩) λ_ _ _ _ _ z=>z
end Law
end
open PySem PySem.W PyProof.Rows
local macro_rules | `(tactic| walk_at "D")=>`(tactic| (dsimp only;refine' Law.Dm (by assumption) (by assumption) ?a ?l ?c ?k ?b;(case a=>k_is);(case l=>k_is);(case c=>k_is);(case k=>k_is);(case b=>(intro _ _ _ _ _ _ us hl;first | (obtain⟨_,e⟩:=L2.us_1 hl;subst e;rfl) | (obtain⟨_,_,e⟩:=L2.us_2 hl;subst e;rfl) | (obtain⟨_,_,_,e⟩:=L2.us_3 hl;subst e;rfl) | (obtain⟨_,_,_,_,e⟩:=L2.us_4 hl;subst e;rfl)))))
local macro_rules | `(tactic| walk_at "Z")=>`(tactic| (refine' PySem.W.mg_none_of (by assumption) (by assumption) ?z;(case z=>k_is)))
local macro_rules | `(tactic| walk_at "E")=>`(tactic| (dsimp only;refine' Law.DmD (by assumption) (by assumption) ?a ?l ?c ?k ?t ?b ?e;(case a=>k_is);(case l=>k_is);(case c=>k_is);(case k=>k_is);(case t=>k_is);(case b=>(intro us hl;first | (exact match us,hl with | [_,_,_,_],_=>⟨_,rfl,rfl⟩)));(case e=>(intro us hl;first | (exact match us,(show us.length=3 by rw[List.length_append] at hl;exact Nat.succ.inj hl) with | [_,_,_],_=>⟨_,rfl,rfl⟩)))))
theorem PySem.W.Fast.te17754522251234083885:True:=.intro
set_option maxRecDepth 100000 in
set_option maxHeartbeats 0 in
theorem PySem.Challenge.cw_allelse_k23_rings_known_holds : PySem.Challenge.rw_allelse_k23_rings_known.Holds := by
 w_on;refine holds_law (by decide +kernel) λ_=>?_;k_head;(case hw=>w_witness2)
 k_fill
 refine Law.walk (l:=PySem.Challenge.rw_allelse_k23_rings_known) rfl rfl (λw h Y=>PySem.W.kIn_of Y) ?F
 case F=>
  intro w mg fa h KX G I;refine' Law.fin (t:=⟨_,_,_,_,_,_,_,_,_,_,_,_,_,_,_,_,_,_,_,_,_,_,_,_,_,_,_,_,_,_,_,_,_,_,_,_,_,_,_,_,_,_,_,_,_,_,_,_,_,_,_,_,_,_,_,_,_,_,_,_,_,_,_,_,_,_,_,_,_,_,_,_,_,_,_⟩) I ⟨?CL,?D0,?D1,?D2,?D3,?D4,?D5,?D6,?D7,?D8,?D9,?D10,?D11,?D12,?D13,?D14,?D15,?D16,?D17,?D18,?D19,?D20,?D21,?D22,?D23,?D24,?D25,?D26,?D27,?D28,?D29,?D30,?D31,?D32,?D33,?D34,?z_enumerate,?z_sorted,?z_all,?z_set,?z_list,?z_tuple,?z_range,?z_len,?z_isinstance,?z_int,?z_bool,?z_max,?z_abs,?q⟩ λs v=>?b
  (case D0 | D1 | D2 | D3 | D4 | D5 | D6 | D7 | D8 | D9 | D10 | D11 | D12 | D13 | D14 | D15 | D16 | D17 | D18 | D20 | D21 | D22 | D23 | D24 | D25 | D26 | D27 | D28 | D29 | D30 | D31 | D32 | D33 | D34=>walk_at "D")
  (case D19=>walk_at "E")
  (case z_enumerate | z_sorted | z_all | z_set | z_list | z_tuple | z_range | z_len | z_isinstance | z_int | z_bool | z_max | z_abs | q=>walk_at "Z")
  (case CL=>(dsimp only;refine' L3.Cm (by assumption) (by assumption) ?qa ?qa1 ?qi1 ?ql1 ?qc1 ?qk1 ?qt ?qa2 ?qi2 ?ql2 ?qc2 ?qk2 ?qpg ?qhd ?qpo ?qsa ?qmk ?qkc ?qn1 ?qn2 ?qn3 ?qn4 ?qb ?qe ?qbA;(case qa=>k_is);(case qa1=>k_is);(case qi1=>k_is);(case ql1=>k_is);(case qc1=>k_is);(case qk1=>k_is);(case qt=>k_is);(case qa2=>k_is);(case qi2=>k_is);(case ql2=>k_is);(case qc2=>k_is);(case qk2=>k_is);(case qpg=>k_is);(case qhd=>k_is);(case qpo=>k_is);(case qsa=>k_is);(case qmk=>k_is);(case qkc=>k_is);(case qn1=>k_is);(case qn2=>k_is);(case qn3=>k_is);(case qn4=>k_is);(case qb=>intro us B;exact match us,B with | [_,_,_,_],_=>⟨_,rfl,rfl⟩);(case qe=>intro us B;exact match us,(show us.length=3 by rw[List.length_append] at B;exact Nat.succ.inj B) with | [_,_,_],_=>⟨_,rfl,rfl⟩);(case qbA=>intro _ _ _ _ _ _ us B;exact match us,B with | [_,_],_=>rfl)))
  (case b=>exact .of_eq rfl)


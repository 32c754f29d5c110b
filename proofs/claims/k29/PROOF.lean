import PyProof.Rows.All
import Wide.All
import OpenK.AllK
import Wide.FinOn
import Lean
import PyProof.EqAt
import PyProof.EqKinds
import PyProof.TupleCall
import PySem.Challenge.RW_allelse_k29_orders_of_boxes
set_option Elab.async false
set_option linter.all false
set_option maxRecDepth 100000
set_option maxHeartbeats 4000000
section
local macro_rules | `(tactic| show $e)=>`(tactic|refine $e)
local macro_rules | `(tactic| ext)=>`(tactic|decide)
local macro_rules | `(tactic| right)=>`(tactic|simp_all)
local macro_rules | `(tactic| walk_at "v") => `(tactic| (first | exact Or.inl rfl | exact Or.inr (Or.inl rfl) | exact Or.inr (Or.inr rfl)))
local macro_rules | `(tactic| walk_at "l") => `(tactic| (first | exact Or.inl rfl | exact Or.inr rfl | assumption))
local macro_rules | `(tactic| walk_at "f") => `(tactic| (exact ⟨rfl, rfl, rfl, by decide +kernel, rfl, by decide +kernel, by decide +kernel⟩))
local macro_rules | `(tactic| walk_at "c") => `(tactic| (exact ⟨rfl, by decide +kernel, rfl⟩))
open PySem PySem.Spec
abbrev AA:=Value->Shared->Prop
abbrev AB:=List (Addr×Obj)
abbrev AE:=List (List Int×Addr)
abbrev AF:=List (List Int)
abbrev AG:=List Int
abbrev AH:=PySem.W.Frag
abbrev AI:=Str->Option Value
abbrev AJ:=Option Value
abbrev AK:=Array Value
abbrev AL:=Addr->Prop
abbrev AM:=List Str
abbrev AN:=List Value
abbrev AO:=List Expr
abbrev AQ:=Option Int
abbrev AR:=List Nat
abbrev AY:=List Addr
abbrev AZ:=Shared
abbrev Aa:=Program
abbrev Ab:=World
abbrev Ac:=FuncData
abbrev Ae:=Around
abbrev Ag(p:Program)(w:World)(A:Around){α:Type}:=@wpAny α (model p w) A
abbrev Ah(x:Str):Prop:=(x==("__debug__":Str))=false
abbrev Ai:Str:="_law_pen_here"
abbrev Aj:Str:="_law_room_here"
abbrev Ak:Str:="box"
abbrev Am:Str:="standing"
abbrev An:Str:="_law_many"
abbrev Ao:Str:="_law_book_here"
abbrev Ap:Str:="_law_box"
abbrev Aq:Str:="_law_standing"
abbrev Ar:Str:="room"
abbrev As:Str:="_law_one"
abbrev At:Str:="_law_other"
abbrev Au:Str:="_law_left"
abbrev Av:Str:="_law_pairs"
abbrev Aw:Str:="_law_at"
abbrev Ax:Str:="_law_worth"
abbrev Ay:Str:="_law_some"
abbrev Az:Str:="_law_boxes"
abbrev A1:Str:="_law_k"
abbrev A5:Str:="_law_given"
abbrev A6:Str:="leads"
abbrev A7:Str:="left"
abbrev A8:Str:="_law_found"
abbrev A9:Str:="_law_way"
abbrev BA:Str:="_law_longer"
abbrev BB:Str:="_law_better"
abbrev BC:Str:="_law_worse"
abbrev BD:Str:="here"
namespace L2
open PyProof.Rows
abbrev aa:=@wpAny_bind
abbrev ab:=@List.length_map
abbrev ac:=@List.getElem?_eq_some_iff
abbrev ae:=@wpAny_pure
abbrev af:=@Nat.le_refl
abbrev ah:=@List.getElem?_eq_getElem
abbrev ai:=@Heap.get?_push_of_some
abbrev aj:=@List.length_append
abbrev ak:=@List.mem_cons_self
abbrev am:=@List.mem_cons_of_mem
abbrev ao:=@List.map_map
abbrev aq:=@List.getElem?_map
abbrev ar:=@Nat.le_trans
abbrev au:=@List.getElem?_set_ne
abbrev aw:=@List.length_range
abbrev ax:=@List.map_cons
abbrev ay:=@Heap.lt_size
abbrev az:=@List.map_append
abbrev aA:=@List.mem_of_getElem?
abbrev aB:=@Heap.get?_push_size
abbrev aC:=@Option.map_eq_some_iff
abbrev aD:=@List.mem_singleton
abbrev aE:=@PassesOwn.never
abbrev aF:=@List.mem_map
abbrev aG:=@Nat.zero_le
abbrev aH:=@PySem.boot_len
abbrev aI:=@Nat.lt_of_lt_of_le
abbrev aJ:=@List.mem_cons
abbrev aK:=@Bool.false_ne_true
abbrev aL:=@List.getElem?_set_self
abbrev aM:=@List.length_take
abbrev aN:=@List.mem_filter
abbrev aO:=@Nat.lt_of_le_of_lt
abbrev aP:=@Bool.false_eq_true
abbrev aQ:=@Bool.and_eq_true
abbrev aR:=@Nat.ne_of_lt
abbrev aS:=@List.size_toArray
abbrev aT:=@Int.toNat_natCast
abbrev aU:=@decide_eq_false
abbrev aV:=@List.length_cons
abbrev aW:=@wpAny_mono
abbrev aX:=@List.mem_range
abbrev aY:=@Array.length_toList
abbrev aZ:=@List.mem_append_right
abbrev a6:=@decide_eq_true
abbrev a9:=@List.mem_append
abbrev ba:=@List.mem_iff_getElem
abbrev bc:=@List.length_set
abbrev be:=@List.getElem?_append_left
abbrev bf:=@wpAny_call_entry
abbrev bg:=@List.take_length
abbrev bh:=@List.getElem?_append_right
abbrev bi:=@List.eq_nil_of_length_eq_zero
abbrev bj:=@List.dropLast_concat_getLast
abbrev bm:=@List.all_eq_true
abbrev bn:=@wpAny_askSetting
abbrev bp:=@List.getD_eq_getElem?_getD
abbrev bq:=@wpAny_holding
abbrev br:=@sizeLine_eq
abbrev bt:=@List.find?_cons
abbrev bu:=@wpAny_newObj_type
abbrev bv:=@Classical.byContradiction
abbrev bw:=@wpAny_setState_of
abbrev bz:=@Option.some.inj
abbrev bA:=@List.contains_iff_mem
abbrev bB:=@PySem.F.plainAttrs_list
abbrev bC:=@List.getElem?_cons_succ
abbrev bD:=@List.pairwise_map
abbrev bE:=@PyProof.Rows.boot_tuple
abbrev bF:=@List.getElem_range
abbrev bG:=@PySem.W.kia_one
abbrev bH:=@Array.getElem?_eq_getElem
abbrev bI:=@List.getElem_inj
abbrev bJ:=@wpAny_standAt
abbrev bK:=@Heap.SameBut.update
abbrev bL:=@List.append_assoc
abbrev bM:=@decide_eq_true_eq
abbrev bN:=@PySem.F.slot_dict_keyiterator_next
abbrev bO:=@Nat.lt_irrefl
abbrev bP:=@Bool.eq_iff_iff
abbrev bQ:=@Array.getD_eq_getD_getElem?
abbrev bR:=@List.filter_append
abbrev bS:=@List.mem_append_left
abbrev bT:=@List.mem_of_mem_take
abbrev bU:=@List.filterMap_cons
abbrev bW:=@of_decide_eq_true
abbrev bX:=@Int.toNat_of_nonneg
abbrev bY:=@List.pairwise_iff_getElem
abbrev bZ:=@Int.emod_lt_of_pos
abbrev b5:=@List.pairwise_cons
abbrev b6:=@List.getElem_mem
abbrev b7:=@wpAny_typeNameOfWhole_keyiter
abbrev b8:=@List.not_mem_nil
abbrev b9:=@List.all_cons
abbrev cb:=@Nat.le_of_lt
abbrev ce:=@wpAny_truthy_bool
abbrev cg:=@Nat.lt_trichotomy
abbrev ci:=@PyProof.Rows.callWith_type1
abbrev cj:=@List.nodup_cons
abbrev ck:=@List.take_of_length_le
abbrev cm:=@PyProof.Rows.boot_list
abbrev cq:=@Array.getElem?_eq_some_iff
abbrev cr:=@List.any_cons
abbrev cu:=@Heap.get?_update_self
abbrev cv:=@Bool.and_true
abbrev cw:=@Obj.data_mapFields
abbrev cx:=@Nat.pow_le_pow_right
abbrev cy:=@wpAny_passesOwn
abbrev cz:=@Int.emod_nonneg
abbrev cA:=@Nat.not_lt_zero
abbrev cB:=@Nat.le_of_lt_succ
abbrev cC:=@List.getElem_take
abbrev cD:=@PyProof.Rows.boot_sorted
abbrev cE:=@wpAny_typeOf
abbrev cF:=@PySem.mem_of_lookup
abbrev cG:=@List.replicate_succ
abbrev cH:=@List.length_drop
abbrev cI:=@List.lookup_cons
abbrev cJ:=@List.getElem_map
abbrev cK:=@wpAny_isInstance
abbrev cL:=@Int.mul_le_mul_of_nonneg_left
abbrev cN:=@Bool.and_false
abbrev cO:=@List.mem_filterMap
abbrev cP:=@Int.natCast_nonneg
abbrev cQ:=@List.reverse_cons
abbrev cR:=@wpAny_attempt
abbrev cS:=@List.nodup_append
abbrev cT:=@Array.getElem_toList
abbrev cU:=@Int.mul_le_mul
abbrev cV:=@wpAny_setField
abbrev cW:=@PySem.F.args_dict_keyiterator_next_1
abbrev cY:=@List.ext_getElem
abbrev cZ:=@List.any_eq_true
abbrev c3:=@PySem.F.entry_dict_keyiterator_next
abbrev c4:=@List.map_congr_left
abbrev c5:=@List.filter_sublist
abbrev c6:=@List.filter_eq_self
abbrev c7:=@List.getElem?_take_of_lt
abbrev c8:=@PySem.F.args_tuple_add_2
abbrev c9:=@call_meets
abbrev da:=@List.idxOf_lt_length_iff
abbrev db:=@wpAny_Call_Name_kw
abbrev de:=@PySem.F.entry_tuple_add
abbrev dg:=@List.pairwise_singleton
abbrev dh:=@codeAny_of_tree
abbrev di:=@List.eraseIdx_cons_succ
abbrev dj:=@Calls.callWith_builtin
abbrev dl:=@PySem.F.slot_tuple_add
abbrev dn:=@List.take_sublist
abbrev dq:=@List.flatten_cons
abbrev dr:=@List.ext_getElem?
abbrev du:=@Nat.mul_le_mul
abbrev dv:=@isSubtype_stop
abbrev dw:=@Nat.ne_of_gt
abbrev dy:=@codeAny_mono
abbrev dz:=@List.map_nil
abbrev dB:=@PySem.F.slot_dict_get
abbrev dC:=@List.length_singleton
abbrev dD:=@builtinLookup_eq_fast
abbrev dE:=@Obj.isFreed_of_fields
abbrev dF:=@List.length_filter_le
abbrev dG:=@PyProof.Rows.boot_abs
abbrev dH:=@PyProof.Rows.boot_all
abbrev dJ:=@List.nodup_range
abbrev dL:=@Array.mem_toList_iff
abbrev dM:=@Calls.evalArgs_plain
abbrev dO:=@wpAny_pyIter_keyiter
abbrev dP:=@Around.under_plainId
abbrev dQ:=@Paired.length
abbrev dR:=@List.Sublist.eq_of_length_le
abbrev dS:=@wpAny_execs_nil
abbrev dU:=@List.append_nil
abbrev dW:=@beq_eq_false_iff_ne
abbrev dX:=@Nat.le_succ
abbrev dZ:=@eq_of_beq
abbrev ee:=@Heap.get?_update_ne
abbrev eh:=@wpAny_setEntries_of
abbrev ei:=@F.slot_zip_next
abbrev el:=@codeAny_builtin
abbrev en:=@List.length_pos_iff
abbrev eo:=@Calls.spliced_cons
abbrev eA:=@tupleKind_room_in1
abbrev eB:=@List.filterMap_map
abbrev eC:=@codeAny_loop
abbrev eD:=@Nat.sub_self
abbrev eE:=@Nat.add_sub_cancel
abbrev eF:=@Array.append_empty
abbrev eG:=@Nat.succ_pos
abbrev eI:=@List.find?_eq_none
abbrev eJ:=@List.filter_filter
abbrev eK:=@List.nodup_nil
abbrev eL:=@List.drop_zero
abbrev eM:=@wpAny_fieldsOf
abbrev eO:=@wpAny_pyIter_list
abbrev eP:=@List.any_eq_false
abbrev eQ:=@Nat.mod_lt
abbrev eR:=@Nat.lt_succ_of_le
abbrev eS:=@Obj.cls_mapFields
abbrev eU:=@wpAny_pyIter_slot
abbrev eV:=@wpAny_dictEntries
abbrev eW:=@wpAny_noted
abbrev eX:=@Int.lt_irrefl
abbrev eY:=@Bool.not_true
abbrev eZ:=@wpAny_alloc
abbrev e7:=@List.cons.inj
abbrev e8:=@noFill_tuple_add
abbrev ff:=@wpAny_forIn_list
abbrev fg:=@Nat.sub_zero
abbrev fj:=@Nat.succ_mul
abbrev fm:=@typeIs_int
abbrev fq:=@wpAny_rule
abbrev Key:=Sum Int Str
def zfO:Key->Value->Bool
 | .inl k,v=>Value.isInt k v
 | .inr x,v=>Value.isStrOf x v
def keyH (w:Ab):Key->Int
 | .inl k=>hashInt k
 | .inr x=>hashStr w x
def z6:∀ {k:Key} {v:Value},zfO k v=true->(∃i t,k=Sum.inl i/\v=Value.int i t)\/(∃x t,k=Sum.inr x/\v=Value.str x t)
 | .inl i,v,h=>by obtain⟨t,e⟩:=Value.isInt_shape (k:=i) (v:=v) h;exact .inl ⟨i,t,rfl,e⟩
 | .inr x,v,h=>by obtain⟨t,e⟩:=Value.isStrOf_shape (x:=x) (v:=v) h;exact .inr ⟨x,t,rfl,e⟩
def zfP (i:Int)(t:Tok):zfO (.inl i) (.int i t)=true:=by simp[zfO,Value.isInt]
def zkG (x:Str)(t:Tok):zfO (.inr x) (.str x t)=true:=by simp[zfO,Value.isStrOf]
def ztj (a b:Int):decide ((Sum.inl a:Key)=Sum.inl b)=(a==b):=by grind
def ztm (a b:Str):decide ((Sum.inr a:Key)=Sum.inr b)=decide (a=b):=by grind
def ztk (a:Int)(b:Str):decide ((Sum.inl a:Key)=Sum.inr b)=false:=rfl
def ztl (a:Str)(b:Int):decide ((Sum.inr a:Key)=Sum.inl b)=false:=rfl
def zR (prog:Aa)(w:Ab):PySem.KeyKind prog w Key where
 is:=zfO
 hash:=keyH w
 inj:=λv a b I F=>by
  rcases z6 I with ⟨i,t,rfl,rfl⟩ | ⟨x,t,rfl,rfl⟩;rcases z6 F with ⟨j,u,rfl,e⟩ | ⟨y,u,rfl,e⟩;injection e with q _;rw[q];exact nomatch e;rcases z6 F with ⟨j,u,rfl,e⟩ | ⟨y,u,rfl,e⟩;exact nomatch e;injection e with q _;rw[q]
 byValue:=λk v h=>by rcases z6 h with ⟨i,t,rfl,rfl⟩ | ⟨x,t,rfl,rfl⟩ <;> rfl
 pyHash:=λB h=>by
  rcases z6 B with ⟨i,t,rfl,rfl⟩ | ⟨x,t,rfl,rfl⟩;exact wpAny_pyHash_int h;exact wpAny_pyHash_str h
 eqBool:=λJ B h=>by
  rcases z6 J with ⟨i,t,rfl,rfl⟩ | ⟨x,t,rfl,rfl⟩;rcases z6 B with ⟨j,u,rfl,rfl⟩ | ⟨y,u,rfl,rfl⟩;rw[ztj] at h;exact wpAny_eqBool_int h;rw[ztk] at h;exact SeqAt.EqAt.int_str i t y u _ _ _ _ h;rcases z6 B with ⟨j,u,rfl,rfl⟩ | ⟨y,u,rfl,rfl⟩;rw[ztl] at h;exact SeqAt.EqAt.str_int x t j u _ _ _ _ h;rw[ztm] at h;exact wpAny_eqBool_str h
 «strs»:=λk x t v h=>by
  rcases z6 h with ⟨i,u,rfl,e⟩ | ⟨y,u,rfl,e⟩;exact nomatch e
  ·injection e with q _;subst q;cases v <;> rfl
def ziS (prog:Aa)(w:Ab)(k:Key)(v:Value):(zR prog w).is k v=zfO k v:=rfl
def zhb (prog:Aa)(w:Ab)(i:Int)(t:Tok):(zR prog w).is (.inl i) (.int i t)=true:=zfP i t
def zhc (prog:Aa)(w:Ab)(x:Str)(t:Tok):(zR prog w).is (.inr x) (.str x t)=true:=zkG x t
inductive V where
 | non | bl (b:Bool) | int (i:Int) | str (x:Str) | byt (b:Array UInt8) | flt (b:UInt64) | ref (a:Addr) | ty (n:String)
 deriving DecidableEq
abbrev AT:=List V
def yG:V->Value->Prop
 | .non,u=>u=Value.none
 | .bl b,u=>u=Value.bool b
 | .int i,u=>∃t,u=Value.int i t
 | .str x,u=>∃t,u=Value.str x t
 | .byt b,u=>∃t,u=Value.bytes b t
 | .flt b,u=>∃t,u=Value.float b t
 | .ref a,u=>u=Value.ref a
 | .ty n,u=>u=Value.type n
abbrev z9:AT->AN->Prop:=Paired yG
def z9.length(r:z9 xs q):xs.length=q.length:=dQ r
def z9.get:∀ {xs:AT} {q:AN} {i:Nat} {x:V},z9 xs q->xs[i]?=some x->∃u,q[i]?=some u/\yG x u
 | _,_,_,_,.nil,e=>by simp at e
 | _,_,0,_,.cons r _,e=>by right
 | _,_,i+1,x,.cons _ t,e=>by
  obtain⟨u,h1,h2⟩:=z9.get (i:=i) (x:=x) t (by simpa using e);right
def z9.set(r:yG x u):∀ {xs:AT} {B:AN} (i:Nat),z9 xs B->z9 (xs.set i x) (B.set i u)
 | _,_,_,.nil=>.nil
 | _,_,0,.cons _ t=>.cons r t
 | _,_,i+1,.cons q t=>.cons q (z9.set r i t)
def z9.append:∀ {xs ys:AT} {q B:AN},z9 xs q->z9 ys B->z9 (xs++ys) (q++B)
 | _,_,_,_,.nil,s=>s
 | _,_,_,_,.cons r t,s=>.cons r (z9.append t s)
def z9.take:∀ {xs:AT} {q:AN} (n:Nat),z9 xs q->z9 (xs.take n) (q.take n)
 | _,_,0,_=>.nil
 | _,_,_+1,.nil=>.nil
 | _,_,n+1,.cons r t=>.cons r (z9.take n t)
def z9.drop:∀ {xs:AT} {q:AN} (n:Nat),z9 xs q->z9 (xs.drop n) (q.drop n)
 | _,_,0,r=>r
 | _,_,_+1,.nil=>.nil
 | _,_,n+1,.cons _ t=>z9.drop n t
def ziz:Option V->AJ->Prop
 | some v,some u=>yG v u
 | none,none=>True
 | _,_=>False
def KV {κ:Type}:List (κ×V)->List (κ×Value)->Prop:=Paired λ(p:κ×V) (q:κ×Value)=>p.1=q.1/\yG p.2 q.2
def kV:Key->V
 | .inl i=>.int i
 | .inr x=>.str x
inductive HO where
  | lst (xs:AT)
  | tup (xs:AT)
  | dK (kvs:List (Key×V)) | dT (kvs:List (List Key×V))
  | set (S:Int->Bool) (n:Nat)
  | ins (C dx:Addr) (fs:List (Str×V))
  | own (x:Addr)
  | xd (fs:List (Str×V))
  | met (f x:Addr)
  | rng (lo hi:Int)
  | frz (o:Obj) (u:HO)
  | tbl (ps:AK)
  | ext (φ:Heap->Prop)
abbrev Hp:=Addr->Option HO
def upd (H:Hp)(a:Addr)(o:HO):Hp:=λb=>if b=a then some o else H b
def zj:upd H a o a=some o:=by unfold upd;rw[if_pos rfl]
def zf(h:b≠a):upd H a o b=H b:=by unfold upd;rw[if_neg h]
def zr7:upd (upd H a o) a u=upd H a u:=by funext b;unfold upd;split <;> rfl
def zlb {H:Hp}{a b:Addr}{o u:HO}(h:H a=some o)(h':H b=some u)(d:o≠u):a≠b:=by grind
def zc {H:Hp}{a b:Addr}{o:HO}(h:H a=some o)(h':H b=none):a≠b:=by grind
def zaJ (h:Heap)(a:Addr)(items:AK):Prop:=∃o,h.get? a=some o/\o.cls = .type "tuple" /\ (∃n,o.data = .seq items n)/\o.dict=none
def zaJ.tup(x:zaJ h a items):IsTup h a items:=let ⟨o,h1,h2,h3,_⟩:=x;⟨o,h1,h2,h3⟩
def zaJ.lt(x:zaJ h a items):a<h.objs.size:=x.tup.lt
def zaJ.new (h:Heap)(items:AK):zaJ (h.push { cls:=.type "tuple",data:=.seq items }) h.objs.size items:=⟨_,aB _ rfl,rfl,⟨_,rfl⟩,rfl⟩
section
variable (P:Aa)(w:Ab)
def yn (H:Hp)(h:Heap)(a:Addr):HO->Prop
 | .lst xs=>xs.length<=sizeLine/\∃ (its:AN) (n:Nat),z9 xs its/\h.get? a=some { cls:=.type "list",data:=.seq its.toArray n }
 | .tup xs=>xs.length<=sizeLine/\∃its:AN,z9 xs its/\zaJ h a its.toArray
 | .dK kvs=>kvs.length<=sizeLine/\(a==sysModules)=false/\∃vs,KV kvs vs/\h.DictOf (zR P w) a vs
 | .dT kvs=>kvs.length<=sizeLine/\(a==sysModules)=false/\∃xs:List (List Key×Addr×Value),
   Paired (λ(p:List Key×V) (q:List Key×Addr×Value)=>p.1=q.1/\H q.2.1=some (.tup (p.1.map kV))/\yG p.2 q.2.2) kvs xs/\
   ∃o es F,h.get? a=some o/\o.ExactDict/\o.data = .dict es F/\es.toList=xs.map (entryOfKey (tupleKind (zR P w)))/\(xs.map (·.1)).Nodup
 | .set S n=>h.SetOf (intKind P w) a S n
 | .ins C dx fs=>H dx=some (.own a)/\fs.length<=1000/\dx≠a/\h.get? a=some (PySem.W.instObj C dx)/\
   ∃mA,h.Ns1 dx mA/\(∀f,ziz (fs.lookup f) (mA f))/\PySem.Within mA (fs.map (·.1))
 | .own _=>∃o,h.get? a=some o
 | .xd fs=>∃mA,h.Ns1 a mA/\∀f,ziz (fs.lookup f) (mA f)
 | .rng lo hi=>∃t u v,h.get? a=some { cls:=.type "range",data:=.fields #[.int lo t,.int hi u,.int 1 v] }
 | .frz o u=>h.get? a=some o/\yn H h a u
 | .tbl ps=>h.get? a=some { cls:=.none,data:=.fields ps }
 | .met f x=>h.get? a=some (PySem.W.methodObj (.ref f) (.ref x))
 | .ext B=>B h/\(∃o,h.get? a=some o)/\∀h1 h2:Heap,B h1->(∀o,h1.get? a=some o->h2.get? a=some o)->B h2
def HOk (H:Hp)(h:Heap):Prop:=∀a o,H a=some o->yn P w H h a o
end
section
variable {P:Aa}{w:Ab}{H H':Hp}{h h':Heap}{a:Addr}{o:HO}
def yn.lt (x:yn P w H h a o):a<h.objs.size:=by
 cases o with
 | lst xs=>obtain⟨_,_,_,_,e⟩:=x;exact ay e
 | tup xs=>obtain⟨_,_,_,p⟩:=x;exact p.lt
 | dK kvs=>obtain⟨_,_,_,_,o,_,_,e,_⟩:=x;exact ay e
 | dT kvs=>obtain⟨_,_,_,_,o,_,_,e,_⟩:=x;exact ay e
 | set S n=>obtain⟨o,_,_,_,e,_⟩:=x;exact ay e
 | ins C dx fs=>obtain⟨_,_,_,e,_⟩:=x;exact ay e
 | own y=>obtain⟨_,e⟩:=x;exact ay e
 | xd fs=>obtain⟨_,⟨_,_,_,e,_⟩,_⟩:=x;exact ay e
 | rng lo hi=>obtain⟨_,_,_,e⟩:=x;exact ay e
 | frz ob u=>obtain⟨e,_⟩:=x;exact ay e
 | tbl ps=>exact ay (show h.get? a=some _ from x)
 | met f y=>exact ay (show h.get? a=some _ from x)
 | ext q=>obtain⟨_,⟨_,e⟩,_⟩:=x;exact ay e
def Paired.mapP {α q:Type}{F G:α->q->Prop}:∀ {l₁:List α} {l₂:List q},Paired F l₁ l₂->(∀a b,F a b->G a b)->Paired G l₁ l₂
 | _,_,.nil,_=>.nil
 | _,_,.cons r t,f=>.cons (f _ _ r) (Paired.mapP t f)
def Paired.imp' {α q:Type}{F G:α->q->Prop}(f:∀a b,F a b->G a b){l₁:List α}{l₂:List q}(r:Paired F l₁ l₂):Paired G l₁ l₂:=Paired.mapP r f
def yn.stay (x:yn P w H h a o)(k:∀b u,(b=a\/H b=some (.own a))->h.get? b=some u->h'.get? b=some u)
  (I:∀b,H b=some (.own a)->H' b=some (.own a)) (J:∀b xs,H b=some (.tup xs)->H' b=some (.tup xs)):yn P w H' h' a o:=by
 induction o with
 | lst xs=>obtain⟨z,its,n,r,e⟩:=x;exact⟨z,its,n,r,k _ _ (.inl rfl) e⟩
 | tup xs=>obtain⟨z,its,r,ob,e,c⟩:=x;exact⟨z,its,r,ob,k _ _ (.inl rfl) e,c⟩
 | dK kvs=>obtain⟨z,y,vs,r,ob,es,B,e,c⟩:=x;exact⟨z,y,vs,r,ob,es,B,k _ _ (.inl rfl) e,c⟩
 | dT kvs=>
  obtain⟨z,y,xs,r,ob,es,B,e,c⟩:=x;exact⟨z,y,xs,Paired.mapP r λp q z=>⟨z.1,J _ _ z.2.1,z.2.2⟩,ob,es,B,k _ _ (.inl rfl) e,c⟩
 | set S n=>obtain⟨ob,es,B,t,e,c⟩:=x;exact⟨ob,es,B,t,k _ _ (.inl rfl) e,c⟩
 | ins C dx fs=>
  obtain⟨d,z,L,e,mA,⟨F,es,B,O,c⟩,r⟩:=x;exact⟨I _ d,z,L,k _ _ (.inl rfl) e,mA,⟨F,es,B,k _ _ (.inr d) O,c⟩,r⟩
 | own y=>obtain⟨ob,e⟩:=x;exact⟨ob,k _ _ (.inl rfl) e⟩
 | xd fs=>obtain⟨mA,⟨F,es,B,e,c⟩,r⟩:=x;exact⟨mA,⟨F,es,B,k _ _ (.inl rfl) e,c⟩,r⟩
 | rng lo hi=>obtain⟨t,u,v,e⟩:=x;exact⟨t,u,v,k _ _ (.inl rfl) e⟩
 | frz ob u U=>obtain⟨e,q⟩:=x;exact⟨k _ _ (.inl rfl) e,U q⟩
 | tbl ps=>
  have e:h.get? a=some { cls:=.none,data:=.fields ps }:=x;change h'.get? a=some { cls:=.none,data:=.fields ps };exact k a _ (.inl rfl) e
 | met f y=>
  have e:h.get? a=some (PySem.W.methodObj (.ref f) (.ref y)):=x;change h'.get? a=some (PySem.W.methodObj (.ref f) (.ref y));exact k a _ (.inl rfl) e
 | ext Y=>obtain⟨p,⟨o,e⟩,st⟩:=x;exact⟨st _ _ p λo q=>k _ _ (.inl rfl) q,⟨o,k _ _ (.inl rfl) e⟩,st⟩
def HOk.lt (x:HOk P w H h)(e:H a=some o):a<h.objs.size:=(x a o e).lt
def HOk.fresh (x:HOk P w H h)(e:h.objs.size<=a):H a=none:=by
 cases q:H a with
 | none=>rfl
 | some u=>exact absurd (aI (x.lt q) e) (bO _)
def HOk.kept (x:HOk P w H h)(k:∀b u,h.get? b=some u->h'.get? b=some u):HOk P w H h':=λa o e=>
 (x a o e).stay (λb u _ q=>k b u q) (λ_ q=>q) λ_ _ q=>q
def HOk.laid (x:HOk P w H h)(k:∀b u,h.get? b=some u->h'.get? b=some u)(J:h.objs.size<=a)(B:yn P w (upd H a o) h' a o):HOk P w (upd H a o) h':=λb u e=>by
 have F:=x.fresh J;by_cases I:b=a;subst I;rw[zj] at e;cases e;exact B;rw[zf I] at e;exact (x b u e).stay (λc v _ q=>k c v q) (λc q=>by rw[zf (zc q F)];exact q) λc xs q=>by rw[zf (zc q F)];exact q
end
def Rd (H:Hp)(a:Addr)(u:HO):Prop:=H a=some u\/∃o,H a=some (.frz o u)
def Rd.ok(r:Rd H a u)(x:HOk P w H h):yn P w H h a u:=by
 rcases r with r | ⟨o,r⟩;exact x a u r;obtain⟨_,q⟩:=x a _ r;exact q
def Mut:Option HO->Prop
 | some (.lst _)=>True
 | some (.dK _)=>True
 | some (.dT _)=>True
 | some (.set _ _)=>True
 | some (.ins _ _ _)=>True
 | some (.ext _)=>True
 | _=>False
section
variable {P:Aa}{w:Ab}{H:Hp}{h h':Heap}{x e:Addr}{o':HO}
def HOk.write (Z:HOk P w H h)(I:Mut (H x))(he:e=x\/H e=some (.own x))(k:∀b u,b≠e->h.get? b=some u->h'.get? b=some u)(J:∃u,h'.get? e=some u)
  (L:yn P w (upd H x o') h' x o'):HOk P w (upd H x o') h':=λb u q=>by
 have B:∀c y,H c=some (.own y)->c≠x:=λc y r z=>by subst z;rw[r] at I;exact I
 have F:∀c xs,H c=some (.tup xs)->c≠x:=λc xs r z=>by subst z;rw[r] at I;exact I
 by_cases U:b=x;subst U;rw[zj] at q;cases q;exact L;rw[zf U] at q;by_cases O:b=e
 have Y:H b=some (.own x):=by
  grind
 rw[q] at Y;cases Y;obtain⟨v,hv⟩:=J;exact⟨v,by rw[O];exact hv⟩;show (Z b u q).stay (λc v hc r=>k c v ?_ r) (λc r=>by rw[zf (B c b r)];exact r) λc xs r=>by rw[zf (F c xs r)];exact r
 grind
end
structure Un (fs ex:AY)(H H':Hp)(h h':Heap):Prop where
 keep:∀b o,h.get? b=some o->H b=none->b∉fs->b∉ex->h'.get? b=some o
 slot:∀b o,h.get? b=some o->H b=none->b∈fs->b∉ex->∃sl,h'.get? b=some { o with slots:=sl }
 free:∀b o,h.get? b=some o->H b=none->b∉ex->H' b=none
 there:∀b o,h.get? b=some o->b∉ex->∃o',h'.get? b=some o'
 tups:∀b xs,H b=some (.tup xs)->H' b=some (.tup xs)
 frzs:∀b o u,H b=some (.frz o u)->H' b=some (.frz o u)
 tbls:∀b ps,H b=some (.tbl ps)->∃more,H' b=some (.tbl (ps++more))
section
variable {fs fs' ex ex':AY}{H H1 H2:Hp}{h h1 h2 h':Heap}{a x e:Addr}{o:HO}
def Un.any(u:Un fs ex H H1 h h1)(q:h.get? b=some ob)(n:H b=none)(B:b∉ex):∃I,h1.get? b=some { ob with slots:=I }:=by
 by_cases F:b∈fs;exact u.slot b ob q n F B;exact⟨ob.slots,u.keep b ob q n F B⟩
def Un.kept (k:∀b u,h.get? b=some u->h'.get? b=some u):Un fs ex H H h h':=
 ⟨λb ob q _ _ _=>k b ob q,λb ob q _ _ _=>⟨ob.slots,k b ob q⟩,λ_ _ _ n _=>n,λb ob q _=>⟨ob,k b ob q⟩,λ_ _ q=>q,λ_ _ _ q=>q,λ_ ps q=>⟨#[],by rw[q];simp⟩⟩
def Un.refl:Un fs ex H H h h:=Un.kept λ_ _ q=>q
def Un.laid (k:∀b u,h.get? b=some u->h'.get? b=some u)(F:h.objs.size<=a)(B:H a=none):Un fs ex H (upd H a o) h h' where
 keep:=λb u q _ _ _=>k b u q
 slot:=λb u q _ _ _=>⟨u.slots,k b u q⟩
 free:=λb u q n _=>by rw[zf (aR (aI (ay q) F))];exact n
 there:=λb u q _=>⟨u,k b u q⟩
 tups:=λb xs q=>by rw[zf (zc q B)];exact q
 frzs:=λb u xs q=>by rw[zf (zc q B)];exact q
 tbls:=λb ps q=>⟨#[],by rw[zf (zc q B),q];simp⟩
def Un.write (B:Mut (H x))(O:e=x\/H e=some (.own x))(k:∀b u,b≠e->h.get? b=some u->h'.get? b=some u)(J:∃u,h'.get? e=some u):Un fs ex H (upd H x o) h h':=by
 have L:∀b,H b=none->b≠x:=λb n z=>by subst z;rw[n] at B;exact B
 have I:∀b,H b=none->b≠e:=λb n z=>by grind
 have F:∀b u,H b=some u->¬ Mut (some u)->b≠x:=λb u q nm z=>by subst z;rw[q] at B;exact nm B
 show⟨λb u q n _ _=>k b u (I b n) q,λb u q n _ _=>⟨u.slots,k b u (I b n) q⟩,λb u q n _=>by rw[zf (L b n)];exact n,λb u q _=>?_,
  λb xs q=>by rw[zf (F b _ q λz=>z)];exact q,λb u xs q=>by rw[zf (F b _ q λz=>z)];exact q,λb ps q=>⟨#[],by rw[zf (F b _ q λz=>z),q];simp⟩⟩
 grind
end
def trk (h:Heap)(H:Hp):AY:=(List.range h.objs.size).filter λa=>(H a).isSome
def zmY (h:Heap)(H:Hp):Heap:=PySem.W.hideAll h (trk h H)
def zke (h:Heap)(H:Hp):(zmY h H).objs.size=h.objs.size:=PySem.W.hideAll_size _ _
def zmZ(e:h.get? b=some o)(n:H b=none):(zmY h H).get? b=some o:=
 PySem.W.hideAll_get _ e λB=>by
  have q:(H b).isSome=true:=(aN.mp B).2;right
def zqw(e:(zmY h H).get? b=some o):h.get? b=some o/\H b=none:=by
 have B:h.get? b=some o:=PySem.W.of_hideAll (trk h H) e;show⟨B,?_⟩
 cases q:H b with
 | none=>rfl
 | some x=>
  have F:b∈trk h H:=aN.mpr ⟨aX.mpr (ay B),by simp[q]⟩;have z:(zmY h H).get? b=none:=PySem.W.hideAll_none (trk h H) F;grind
def zpg (g h:Heap)(L:Addr):AB:=(List.range h.objs.size).filterMap λa=>if a=L\/(g.get? a).isSome=true then none else (h.get? a).map λo=>(a,o)
def z4 (g h:Heap)(L d:Addr):AB:=(zpg g h L).filter λp=>decide (p.1≠d)
structure Mod (K:AH)(mg:AI)(base:Heap):Prop where
 kin:K.In base
 glob:base.Ns mainGlobals mg
 blt:∃mb,base.Ns builtinsNs mb/\∀x:Str,x ≠ "__name__" -> mb x=bootBuiltins x
 nolimit:base.NoLimit
structure Cx where
 prog:Aa
 w:Ab
 K:AH
 mg:AI
 base:Heap
 A:Ae
 N:AM
 s₀:AZ
 H₀:Hp
 env:Env
 outer:List Env
 stack:List Env
 ex:AY
 fn:Str->Bool
 calm:Bool
 pn:AB
 xe:AA
abbrev Af (X:Cx){α:Type}:=@wpAny α (model X.prog X.w) X.A
def frs (l:List Env):AY:=l.filterMap (·.frame)
abbrev Cx.fs (X:Cx):AY:=frs X.outer
def Vis (q:Scope)(x:Str):Prop:=q.names.lookup x=some .local\/q.names.lookup x=some .cell\/q.names.lookup x=some .free
def Loc (q:Scope)(x:Str):Prop:=q.names.lookup x=some .local\/q.names.lookup x=some .cell
def Look (env:Env)(h:Heap)(m:AI)(x:Str)(u:Value):Prop:=
 (env.kindOf x=some .local/\m x=some u)\/((env.kindOf x=some .cell\/env.kindOf x=some .free)/\∃c,env.cells.lookup x=some c/\h.IsCell c (some u))
structure Cx.Ok (X:Cx):Prop where
 mod:Mod X.K X.mg X.base
 kind:X.env.scope.kind = .function
 glob:X.env.globals=mainGlobals
 blt:X.env.builtins=builtinsNs
 above:X.s₀.heap.objs.size<=X.env.locals
 inj:∀x y c,X.env.cells.lookup x=some c->X.env.cells.lookup y=some c->x=y
 has:∀x,(X.env.kindOf x=some .cell\/X.env.kindOf x=some .free)->∃c,X.env.cells.lookup x=some c
 cab:∀x c,X.fn x=true->X.env.cells.lookup x=some c->X.s₀.heap.objs.size<=c
 hd:X.calm=true->X.A.handled=none
 frames:X.A.frames=some X.stack
 stk:X.stack=X.outer\/(X.stack=X.env::X.outer/\X.env.frame=some X.env.locals)
 exf:∀b∈X.ex,b≠X.env.locals/\∀x c,X.env.cells.lookup x=some c->c≠b
 bs:∀b o,X.base.get? b=some o->X.s₀.heap.get? b=some o/\X.H₀ b=none
 bsz:X.base.objs.size<=X.s₀.heap.objs.size
 noex:∀b o,X.base.get? b=some o->b∉X.ex
 exfs:∀b∈X.ex,b∉X.fs
 funs:X.s₀.heap.FunFrames X.base X.outer
 frf:∀b∈X.fs,X.H₀ b=none
structure Inv (X:Cx)(pins:AB)(σ:List (Option V))(H:Hp)(s:AZ):Prop where
 ok:X.Ok
 os:s.os=X.s₀.os
 bare:AllBare s.gens
 base:Un X.fs X.ex X.H₀ H X.s₀.heap s.heap
 loc:∃m,s.heap.Ns X.env.locals m/\∀ (i:Nat) (x:Str) (v:V),X.N[i]?=some x->σ[i]?=some (some v)->Vis X.env.scope x->∃u,yG v u/\Look X.env s.heap m x u
 cell:∀x c,X.env.cells.lookup x=some c->∃v,s.heap.IsCell c v
 free:H X.env.locals=none
 freeC:∀x c,X.env.cells.lookup x=some c->H c=none
 pin:∀p∈X.pn++pins,s.heap.get? p.1=some p.2/\H p.1=none/\p.1≠X.env.locals/\p.1∉X.fs/\∀v,p.2.data≠.cell v
 hok:HOk X.prog X.w H s.heap
 len:σ.length=X.N.length
section
variable {X:Cx}{pins:AB}{σ:List (Option V)}{H H':Hp}{s:AZ}{h':Heap}
def Cx.Ok.nofr(q:X.Ok)(e:X.base.get? b=some o):b∉X.fs:=λB=>by
 have:=(q.funs.mem B).1;grind
def Inv.bs (I:Inv X pins σ H s):∀b o,X.base.get? b=some o->s.heap.get? b=some o/\H b=none:=λb o e=>
 ⟨I.base.keep b o (I.ok.bs b o e).1 (I.ok.bs b o e).2 (I.ok.nofr e) (I.ok.noex b o e),I.base.free b o (I.ok.bs b o e).1 (I.ok.bs b o e).2 (I.ok.noex b o e)⟩
def Inv.bk (I:Inv X pins σ H s):∀b o,X.base.get? b=some o->s.heap.get? b=some o:=λb o e=>(I.bs b o e).1
def Inv.mod (I:Inv X pins σ H s):Mod X.K X.mg X.base:=I.ok.mod
def Inv.kIn (I:Inv X pins σ H s):X.K.In s.heap:=I.ok.mod.kin.keeps I.bk
def Inv.lt (I:Inv X pins σ H s):X.env.locals<s.heap.objs.size:=let ⟨_,hn,_⟩:=I.loc;hn.lt
def Inv.sz (I:Inv X pins σ H s):X.s₀.heap.objs.size<=s.heap.objs.size:=ar I.ok.above (cb I.lt)
def Inv.nofs (I:Inv X pins σ H s){a:Addr}(h:s.heap.objs.size<=a):a∉X.fs:=λq=>by obtain⟨_,o,B,_⟩:=I.ok.funs.mem q;exact absurd (aI (ay B) (ar I.sz h)) (bO _)
def Inv.cne (I:Inv X pins σ H s):∀x c,X.env.cells.lookup x=some c->c≠X.env.locals:=λx c e z=>by
 obtain⟨v,o,F,J⟩:=I.cell x c e;obtain⟨m,⟨o',es,L,q,B,_⟩,_⟩:=I.loc;grind
def Inv.funs (I:Inv X pins σ H s):s.heap.FunFrames X.base X.outer:=by
 have all:∀ (l:List Env),(∀b∈frs l,b∈X.fs)->X.s₀.heap.FunFrames X.base l->s.heap.FunFrames X.base l:=by
  intro l
  induction l with
  | nil=>intro _ _;trivial
  | cons env r O=>
   intro J U;obtain⟨Y,⟨L,o,q,Z,ho,hd⟩,hr⟩:=U;have B:L∈X.fs:=J L (by unfold frs;rw[bU,q];exact ak);obtain⟨sl,e⟩:=I.base.slot L o ho (I.ok.frf L B) B λz=>I.ok.exfs L z B;exact⟨Y,⟨L,_,q,Z,e,hd⟩,O (λb F=>J b (by unfold frs;rw[bU,q];exact am _ F)) hr⟩
 exact all X.outer (λ_ F=>F) I.ok.funs
def Inv.stack (I:Inv X pins σ H s):s.heap.FunFrames X.base X.stack:=by
 rcases I.ok.stk with e | ⟨e,hf⟩;rw[e];exact I.funs;rw[e];obtain⟨m,q,_⟩:=I.loc;show .cons (by rw[I.ok.kind];decide) hf q ?_ I.funs;exact Heap.get?_none_of_le (ar I.ok.bsz I.ok.above)
def Inv.stkSub (I:Inv X pins σ H s):∀b∈frs X.stack,b∈X.env.locals::X.fs:=λb q=>by
 rcases I.ok.stk with e | ⟨e,hf⟩;grind;rw[e] at q;unfold frs at q;rw[bU,hf] at q;exact q
def Inv.stkFree (I:Inv X pins σ H s):∀b∈frs X.stack,H b=none:=λb q=>by
 rcases aJ.mp (I.stkSub b q) with e | q;rw[e];exact I.free;obtain⟨_,o,B,_⟩:=I.ok.funs.mem q;exact I.base.free b o B (I.ok.frf b q) λz=>I.ok.exfs b z q
def Inv.step {g':Array GenState}{t':Nat}{d':Drawn}{ch:AY}(I:Inv X pins σ H s)
  (F:∀b∈ch,(b∈X.ex\/X.s₀.heap.objs.size<=b)/\b≠X.env.locals/\(∀x c,X.env.cells.lookup x=some c->c≠b)/\∀p∈X.pn++pins,p.1≠b)
  (O:∀b o,b≠X.env.locals->b∉X.fs->b∉ch->s.heap.get? b=some o->H b=none->h'.get? b=some o)
  (U:∀b o,b≠X.env.locals->b∈X.fs->b∉ch->s.heap.get? b=some o->H b=none->∃sl,h'.get? b=some { o with slots:=sl }) (J:∀b o,b∉ch->s.heap.get? b=some o->H b=none->H' b=none)
  (ap:∀b o,b∉ch->s.heap.get? b=some o->∃o',h'.get? b=some o')
  (ag:∀b xs,H b=some (.tup xs)->H' b=some (.tup xs)) (al:∀b o u,H b=some (.frz o u)->H' b=some (.frz o u)) (a0:∀b ps,H b=some (.tbl ps)->∃more,H' b=some (.tbl (ps++more)))
  (ns:∀m,s.heap.Ns X.env.locals m->h'.Ns X.env.locals m) (as:HOk X.prog X.w H' h') (hg:AllBare g') :
  Inv X pins σ H' { s with heap:=h',gens:=g',drawn:=d',toks:=t' }:=by
 have an:∀b o,X.s₀.heap.get? b=some o->b≠X.env.locals:=λb o e=>aR (aI (ay e) I.ok.above)
 have Y:∀b o,X.s₀.heap.get? b=some o->b∉X.ex->b∉ch:=λb o e B Z=>by
  rcases (F b Z).1 with z | z;exact B z;exact absurd (aI (ay e) z) (bO _)
 have L:∀x c,X.env.cells.lookup x=some c->∀v,s.heap.IsCell c v->h'.IsCell c v:=by
  rintro x c e v ⟨o,ho,hd⟩;have ad:c∉ch:=λz=>(F c z).2.2.1 x c e rfl;by_cases hc:c∈X.fs;obtain⟨sl,q⟩:=U c o (I.cne x c e) hc ad ho (I.freeC x c e);exact⟨_,q,hd⟩;exact⟨o,O c o (I.cne x c e) hc ad ho (I.freeC x c e),hd⟩
 show⟨I.ok,I.os,hg,⟨λb o e n Z B=>?_,λb o e n Z B=>?_,λb o e n B=>?_,λb o e B=>?_,λb xs e=>ag b xs (I.base.tups b xs e),λb o xs e=>al b o xs (I.base.frzs b o xs e),λb ps e=>?_⟩,?_,λx c e=>?_,?_,λx c e=>?_,λp hp=>?_,as,I.len⟩;exact O b o (an b o e) Z (Y b o e B) (I.base.keep b o e n Z B) (I.base.free b o e n B);obtain⟨sl,e1⟩:=I.base.slot b o e n Z B;obtain⟨av,e2⟩:=U b _ (an b o e) Z (Y b o e B) e1 (I.base.free b o e n B);exact⟨av,e2⟩;obtain⟨o',e1⟩:=I.base.there b o e B;exact J b o' (Y b o e B) e1 (I.base.free b o e n B);obtain⟨o',e1⟩:=I.base.there b o e B;right;obtain⟨m1,e1⟩:=I.base.tbls b ps e;grind;obtain⟨m,hn,hl⟩:=I.loc;show⟨m,ns m hn,λi x v e1 e2 e3=>?_⟩;obtain⟨u,r,l⟩:=hl i x v e1 e2 e3;show⟨u,r,?_⟩;rcases l with l | ⟨k,c,e,z⟩;exact .inl l;exact .inr ⟨k,c,e,L x c e _ z⟩;obtain⟨v,z⟩:=I.cell x c e;exact⟨v,L x c e v z⟩;obtain⟨m,⟨o,_,_,ho,_⟩,_⟩:=I.loc;exact J _ o (λz=>(F _ z).2.1 rfl) ho I.free;obtain⟨v,o,ho,hd⟩:=I.cell x c e;exact J c o (λz=>(F c z).2.2.1 x c e rfl) ho (I.freeC x c e);obtain⟨e,n,ne,nf,d⟩:=I.pin p hp;have ad:p.1∉ch:=λz=>(F p.1 z).2.2.2 p hp rfl;right
def Inv.un(I:Inv X pins σ H s)(u:Un X.fs [] H H' s.heap h')(B:HOk X.prog X.w H' h'):Inv X pins σ H' { s with heap:=h',toks:=t' }:=by
 obtain⟨m,⟨o,es,Z,L,r⟩,_⟩:=id I.loc;obtain⟨sl,O⟩:=u.any L I.free (by simp);exact I.step (g':=s.gens) (d':=s.drawn) (ch:=[]) (λ_ z=>nomatch z) (λb o _ F _ e n=>u.keep b o e n F (by simp)) (λb o _ F _ e n=>u.slot b o e n F (by simp)) (λb o _ e n=>u.free b o e n (by simp)) (λb o _ e=>u.there b o e (by simp)) u.tups u.frzs u.tbls (λm' U=>by obtain⟨o',es',J,q,Y⟩:=U;rw[L] at q;cases q;exact⟨_,es',J,O,Y⟩) B I.bare
def Inv.call(I:Inv X pins σ H s)(u:Un (frs X.stack) ch H H' s.heap h')(J:HOk X.prog X.w H' h')(Y:AllBare g')(B:∀b∈ch,(b∈X.ex\/X.s₀.heap.objs.size<=b)/\b≠X.env.locals/\(∀x c,X.env.cells.lookup x=some c->c≠b)/\∀p∈X.pn++pins,p.1≠b) :
  Inv X pins σ H' { s with heap:=h',gens:=g',drawn:=d',toks:=t' }:=by
 obtain⟨m,⟨o,es,ep,U,r⟩,_⟩:=id I.loc;obtain⟨sl,L⟩:=u.any U I.free λz=>(B _ z).2.1 rfl;exact I.step (ch:=ch) B (λb o L Z q e n=>u.keep b o e n (λz=>(aJ.mp (I.stkSub b z)).elim L Z) q) (λb o _ _ q e n=>u.any e n q) (λb o q e n=>u.free b o e n q) (λb o q e=>u.there b o e q) u.tups u.frzs u.tbls (λm' hm=>by obtain⟨o',es',O,F,r'⟩:=hm;rw[U] at F;cases F;exact⟨_,es',O,L,r'⟩) J Y
def Inv.turned(I:Inv X pins σ H s)(k:∀b o,b≠B->s.heap.get? b=some o->h'.get? b=some o)(L:H B=none)(J:B≠X.env.locals)(h1:B∈X.ex\/X.s₀.heap.objs.size<=B)(h2:∀x c,X.env.cells.lookup x=some c->c≠B)(O:∀p∈X.pn++pins,p.1≠B):Inv X pins σ H { s with heap:=h',toks:=t' }:=by
 have U:∀b u,H b=some u->b≠B:=λb u e z=>by rw[z,L] at e;cases e
 show I.step (g':=s.gens) (d':=s.drawn) (ch:=[B]) (λb Y=>?_) (λb o _ _ F e _=>k b o (λz=>F (by simp[z])) e) (λb o _ _ F e _=>⟨o.slots,k b o (λz=>F (by simp[z])) e⟩) (λ_ _ _ _ n=>n)
  (λb o F e=>⟨o,k b o (λz=>F (by simp[z])) e⟩) (λ_ _ e=>e) (λ_ _ _ e=>e) (λb ps e=>⟨#[],by rw[e];simp⟩) (λm Z=>?_) (λb u e=>?_) I.bare
 have e:b=B:=by simpa using Y
 subst e;exact⟨h1,J,h2,O⟩;obtain⟨o,es,ep,ho,r⟩:=Z;exact⟨o,es,ep,k _ o (Ne.symm J) ho,r⟩;show (I.hok b u e).stay (λc v F q=>k c v ?_ q) (λ_ q=>q) λ_ _ q=>q;grind
def Inv.tok (I:Inv X pins σ H s)(t:Nat):Inv X pins σ H { s with toks:=t }:=I.un (h':=s.heap) (t':=t) Un.refl I.hok
def Inv.kept(I:Inv X pins σ H s)(k:∀b u,s.heap.get? b=some u->h'.get? b=some u):Inv X pins σ H { s with heap:=h',toks:=t' }:=I.un (Un.kept k) (I.hok.kept k)
def Inv.laid{a:Addr}(I:Inv X pins σ H s)(k:∀b u,s.heap.get? b=some u->h'.get? b=some u)(q:s.heap.objs.size<=a)(B:yn X.prog X.w (upd H a o) h' a o) :
  Inv X pins σ (upd H a o) { s with heap:=h',toks:=t' }:=I.un (Un.laid k q (I.hok.fresh q)) (I.hok.laid k q B)
def Inv.write(I:Inv X pins σ H s)(F:Mut (H x))(J:e=x\/H e=some (.own x))(k:∀b u,b≠e->s.heap.get? b=some u->h'.get? b=some u)(q:∃u,h'.get? e=some u)(B:yn X.prog X.w (upd H x o) h' x o):Inv X pins σ (upd H x o) { s with heap:=h',toks:=t' }:=I.un (Un.write F J k q) (I.hok.write F J k q B)
def Inv.pins_of(I:Inv X pins σ H s)(h:∀p∈q,s.heap.get? p.1=some p.2/\H p.1=none/\p.1≠X.env.locals/\p.1∉X.fs/\∀v,p.2.data≠.cell v):Inv X q σ H s:=
 ⟨I.ok,I.os,I.bare,I.base,I.loc,I.cell,I.free,I.freeC,λp B=>(a9.mp B).elim (λz=>I.pin p (bS _ z)) (h p),I.hok,I.len⟩
def zh9 {N:AM}(q:N.Nodup){i j:Nat}{x:Str}(a:N[i]?=some x)(b:N[j]?=some x):i=j:=by obtain⟨h1,B⟩:=ac.mp a;obtain⟨h2,F⟩:=ac.mp b;exact (bI q).mp (B.trans F.symm)
def zgn(I:Inv X pins σ H s)(hN:X.N.Nodup)(hi:X.N[i]?=some x)(L:Loc X.env.scope x)(r:yG v u)(h:∀s',Inv X pins (σ.set i (some v)) H s'->(∃a,Heap.SameBut a s.heap s'.heap/\(a=X.env.locals\/X.env.cells.lookup x=some a))->Q () s')(hf:X.fn x=true\/X.env.scope.names.lookup x=some .local:=by walk_at "l"):wpAny M A (storeName X.env x u) Q E s:=by
 obtain⟨m,hn,hl⟩:=id I.loc;have ag:(X.env.scope.kind==.class || (X.env.scope.kind==.module&&X.env.locals != X.env.globals))=false:=by rw[I.ok.kind];rfl
 have Y:i<σ.length:=by rw[I.len];exact (ac.mp hi).1
 have Z:=I.cne
 have F:∀ {a:Addr} {h':Heap},(∃o,s.heap.get? a=some o/\H a=none)->Heap.SameBut a s.heap h'->HOk X.prog X.w H h':=λ{a h'} ha B b ob e=>by
  obtain⟨_,_,ap⟩:=ha;show (I.hok b ob e).stay (λc w' O q=>(B.2 c ?_).trans q) (λ_ q=>q) λ_ _ q=>q;grind
 rcases L with hk | hk;show wpAny_storeName_local hk hn (λh' as B=>?_) ag;obtain⟨oL,_,_,av,_⟩:=id hn;show h _ ⟨I.ok,I.os,I.bare,⟨λb o e n hb L=>?_,λb o e n hb L=>?_,I.base.free,λb o e L=>?_,I.base.tups,I.base.frzs,I.base.tbls⟩,⟨_,as,λj y v' J U e3=>?_⟩,λy c e=>?_,I.free,I.freeC,λp hp=>?_,F ⟨oL,av,I.free⟩ B,by simpa using I.len⟩ ⟨_,B,.inl rfl⟩;exact (B.2 b (aR (aI (ay e) I.ok.above))).trans (I.base.keep b o e n hb L);obtain⟨sl,J⟩:=I.base.slot b o e n hb L;exact⟨sl,(B.2 b (aR (aI (ay e) I.ok.above))).trans J⟩;obtain⟨o',J⟩:=I.base.there b o e L;exact⟨o',(B.2 b (aR (aI (ay e) I.ok.above))).trans J⟩;by_cases hj:j=i;subst hj;rw[hi] at J;cases J;rw[aL Y] at U;cases U;exact⟨u,r,.inl ⟨hk,by simp⟩⟩;rw[au (Ne.symm hj)] at U;obtain⟨u',r',q⟩:=hl j y v' J U e3;show⟨u',r',?_⟩;rcases q with ⟨k,e⟩ | ⟨k,c,e,z⟩;show .inl ⟨k,?_⟩;have:y≠x:=λe=>hj (zh9 hN J (e ▸ hi));simp[this,e];exact .inr ⟨k,c,e,z.sameBut B (Z y c e)⟩;obtain⟨w',z⟩:=I.cell y c e;exact⟨w',z.sameBut B (Z y c e)⟩;obtain⟨e,n,ne,nf,d⟩:=I.pin p hp;exact⟨(B.2 p.1 ne).trans e,n,ne,nf,d⟩
 have ad:X.fn x=true:=by
  grind
 obtain⟨c,O⟩:=I.ok.has x (.inl hk);obtain⟨w',z⟩:=I.cell x c O;show wpAny_storeName_cell I.ok.kind hk O z (λh' al B=>?_);obtain⟨oc,a0,a1⟩:=id z;show h { s with heap:=h' } ⟨I.ok,I.os,I.bare,⟨λb o e n hb L=>?_,λb o e n hb L=>?_,I.base.free,λb o e L=>?_,I.base.tups,I.base.frzs,I.base.tbls⟩,⟨m,hn.sameBut B (Ne.symm (Z x c O)),λj y v' J U e3=>?_⟩,λy c' e=>?_,I.free,I.freeC,λp hp=>?_,F ⟨oc,a0,I.freeC x c O⟩ B,by simpa using I.len⟩ ⟨c,B,.inr O⟩;exact (B.2 b (aR (aI (ay e) (I.ok.cab x c ad O)))).trans (I.base.keep b o e n hb L);obtain⟨sl,J⟩:=I.base.slot b o e n hb L;exact⟨sl,(B.2 b (aR (aI (ay e) (I.ok.cab x c ad O)))).trans J⟩;obtain⟨o',J⟩:=I.base.there b o e L;exact⟨o',(B.2 b (aR (aI (ay e) (I.ok.cab x c ad O)))).trans J⟩;by_cases hj:j=i;subst hj;rw[hi] at J;cases J;rw[aL Y] at U;cases U;exact⟨u,r,.inr ⟨.inl hk,c,O,al⟩⟩;rw[au (Ne.symm hj)] at U;obtain⟨u',r',q⟩:=hl j y v' J U e3;show⟨u',r',?_⟩;rcases q with q | ⟨k,c',e,z'⟩;exact .inl q;show .inr ⟨k,c',e,z'.sameBut B ?_⟩;rintro rfl;exact hj (zh9 hN J (I.ok.inj _ _ _ e O ▸ hi));by_cases an:c'=c;subst an;exact⟨_,al⟩;obtain⟨w2,z2⟩:=I.cell y c' e;exact⟨w2,z2.sameBut B an⟩;obtain⟨e,n,ne,nf,d⟩:=I.pin p hp;show⟨(B.2 p.1 ?_).trans e,n,ne,nf,d⟩;intro q;right
def zim(I:Inv X pins σ H s)(q:X.N.Nodup)(hi:X.N[i]?=some x)(B:Loc X.env.scope x)(r:yG v u)(h:∀s',Inv X pins (σ.set i (some v)) H s'->Q () s')(F:X.fn x=true\/X.env.scope.names.lookup x=some .local:=by walk_at "l"):wpAny M A (storeName X.env x u) Q E s:=
 zgn I q hi B r (λs' I' _=>h s' I') F
def Inv.call'(I:Inv X pins σ H s)(F:s'.os=s.os)(u:Un (frs X.stack) ch H H' s.heap s'.heap)(q:HOk X.prog X.w H' s'.heap)(J:AllBare s'.gens)(B:∀b∈ch,(b∈X.ex\/X.s₀.heap.objs.size<=b)/\b≠X.env.locals/\(∀x c,X.env.cells.lookup x=some c->c≠b)/\∀p∈X.pn++pins,p.1≠b):Inv X pins σ H' s':=by
 obtain⟨h',g',d',t',o'⟩:=s';have e:o'=s.os:=F;subst e;exact I.call (g':=g') (t':=t') (d':=d') u q J B
end
abbrev XK:=Value->Option Addr->Hp->Prop
abbrev St:=List (Option V)
abbrev VK:=V->Hp->Prop
abbrev TE:=St->Hp->VK->Prop
abbrev TT:=St->Hp->(Bool->Hp->Prop)->Prop
abbrev TA:=St->Hp->(AT->Hp->Prop)->Prop
structure Ends where
 nx:St->Hp->Prop
 rt:VK
 bk:St->Hp->Prop:=λ_ _=>False
 ct:St->Hp->Prop:=λ_ _=>False
abbrev TS:=Ends->St->Hp->Prop
def EP (X:Cx)(pins:AB)(σ:St)(Q:VK)(u:Value)(s':AZ):Prop:=∃v H',Inv X pins σ H' s'/\yG v u/\Q v H'
def TP (X:Cx)(pins:AB)(σ:St)(Q:Bool->Hp->Prop)(b:Bool)(s':AZ):Prop:=∃H',Inv X pins σ H' s'/\Q b H'
def AP (X:Cx)(pins:AB)(σ:St)(Q:AT->Hp->Prop)(q:AN)(s':AZ):Prop:=∃vs H',Inv X pins σ H' s'/\z9 vs q/\Q vs H'
def SP (X:Cx)(pins:AB)(D:Ends)(f:Flow)(s':AZ):Prop:=
 match f with
 | .next=>∃ q H',Inv X pins q H' s'/\D.nx q H'
 | .brk=>∃ q H',Inv X pins q H' s'/\D.bk q H'
 | .cont=>∃ q H',Inv X pins q H' s'/\D.ct q H'
 | .ret u=>∃v q H',Inv X pins q H' s'/\yG v u/\D.rt v H'
def PE (X:Cx)(e:Expr)(t:TE):Prop:=
 ∀ (pins:AB) (s:AZ) (σ:St) (H:Hp) (Q:VK),Inv X pins σ H s->t σ H Q->Af X (eval e X.env) (EP X pins σ Q) X.xe s
def PT (X:Cx)(e:Expr)(t:TT):Prop:=
 ∀ (pins:AB) (s:AZ) (σ:St) (H:Hp) (Q:Bool->Hp->Prop),Inv X pins σ H s->t σ H Q->Af X (isTrue e X.env (eval e X.env)) (TP X pins σ Q) X.xe s
def PW (X:Cx)(e:Expr)(t:TT):Prop:=
 ∀ (q:Sem Value) (pins:AB) (s:AZ) (σ:St) (H:Hp) (Q:Bool->Hp->Prop),Inv X pins σ H s->t σ H Q->Af X (isTrue e X.env q) (TP X pins σ Q) X.xe s
def PW.pt(h:PW X e t):PT X e t:=h _
def PA (X:Cx)(es:AO)(t:TA):Prop:=
 ∀ (pos:Pos) (pins:AB) (s:AZ) (σ:St) (H:Hp) (Q:AT->Hp->Prop),Inv X pins σ H s->t σ H Q->Af X (spliced (backTo pos (starEach es X.env))) (AP X pins σ Q) X.xe s
def PS (X:Cx)(st:Stmt)(t:TS):Prop:=
 ∀ (pins:AB) (s:AZ) (σ:St) (H:Hp) (D:Ends),Inv X pins σ H s->t D σ H->Af X (exec st X.env) (SP X pins D) X.xe s
def PSs (X:Cx)(st:List Stmt)(t:TS):Prop:=
 ∀ (pins:AB) (s:AZ) (σ:St) (H:Hp) (D:Ends),Inv X pins σ H s->t D σ H->Af X (execs st X.env) (SP X pins D) X.xe s
def thn{α:Type}{t:Sem α}{Q Q':α->AZ->Prop}(h:wpAny M A t Q E s)(q:∀a s,Q a s->Q' a s):wpAny M A t Q' E s:=aW h q λ_ _ x=>x
section
variable {X:Cx}
def zmd (i:Nat):TE:=λσ H Q=>∃v,σ[i]?=some (some v)/\Q v H
def tC (v:V):TE:=λ_ H Q=>Q v H
def zt1 {i:Nat}{x:Str}{pos:Pos}(J:X.N[i]?=some x)(L:Vis X.env.scope x)(B:Ah x:=by ext)(F:(x==("__classdict__" : Str))=false:=by ext):PE X (.Name x pos) (zmd i):=by
 intro pins s σ H Q I h;obtain⟨v,e,h⟩:=h;obtain⟨m,O,U⟩:=I.loc;obtain⟨u,r,l⟩:=U i x v J e L;have fin:EP X pins σ Q u s:=⟨v,H,I,r,h⟩;rcases l with ⟨q,hm⟩ | ⟨q,c,hc,hcell⟩;exact wpAny_Name (wpAny_loadName_local I.ok.kind q O hm fin) B;rcases q with q | q;exact wpAny_Name (wpAny_loadName_cell I.ok.kind q hc hcell fin) B;exact wpAny_Name (wpAny_loadName_free I.ok.kind q hc hcell fin F) B
def zoW {i j pos}:PE X (.Constant (.int i) j pos) (tC (.int i)):=λ_ _ _ H _ I h=>wpAny_Constant_int ⟨.int i,H,I.tok _,⟨_,rfl⟩,h⟩
def zw6 {b j pos}:PE X (.Constant (.bool b) j pos) (tC (.bl b)):=λ_ _ _ H _ I h=>Constant_bool ⟨.bl b,H,I,rfl,h⟩
def ztZ {j pos}:PE X (.Constant .none j pos) (tC .non):=λ_ _ _ H _ I h=>Constant_none ⟨.non,H,I,rfl,h⟩
def zt0 {x j pos}:PE X (.Constant (.str x) j pos) (tC (.str x)):=λ_ _ _ H _ I h=>Calls.Constant_str ⟨.str x,H,I.tok _,⟨_,rfl⟩,h⟩
def Gl (X:Cx)(x:Str):Prop:=X.env.kindOf x=some .globalImplicit
def zqe{E:AA}{pins:AB}{s:AZ}{σ:St}{H:Hp}{x:Str}{u:Value}{Q:AA}(I:Inv X pins σ H s)(q:Gl X x)(B:X.mg x=some u)(h:Q u s)(F:Ah x:=by ext):Af X (eval (.Name x pos) X.env) Q E s:=
 Calls.Name_function_global I.ok.kind q (Calls.loadGlobal_global (by rw[I.ok.glob];exact I.mod.glob.keeps I.bk) B h) F
def zcS {E:AA}{pins:AB}{s:AZ}{σ:St}{H:Hp}{x:Str}{u:Value}{pos:Pos}{Q:AA}(I:Inv X pins σ H s)(q:Gl X x)(B:X.mg x=none)(F:bootBuiltins x=some u)(h:Q u s)
  (J:x ≠ "__name__" := by ext) (L:Ah x:=by ext):Af X (eval (.Name x pos) X.env) Q E s:=by
 obtain⟨O,h1,h2⟩:=I.mod.blt;exact Calls.Name_function_global I.ok.kind q (Calls.loadGlobal_builtin (by rw[I.ok.glob];exact I.mod.glob.keeps I.bk) B (by rw[I.ok.blt];exact h1.keeps I.bk) ((h2 x J).trans F) h) L
def zqI {x:Str}{v:V}{u:Value}{pos:Pos}(q:Gl X x)(B:X.mg x=none)(F:bootBuiltins x=some u)(r:yG v u)(J:x ≠ "__name__" := by ext)(L:Ah x:=by ext):PE X (.Name x pos) (tC v):=
 λ_ _ _ H _ I h=>zcS I q B F ⟨v,H,I,r,h⟩ J L
variable {a b:Expr}{ta tb:TE}{pos:Pos}
def PC (X:Cx)(F:CmpOp)(a b:Expr)(t:TE):Prop:=
 ∀ (pins:AB) (s:AZ) (σ:St) (H:Hp) (Q:VK),Inv X pins σ H s->t σ H Q->
  Af X (eval a X.env) (λv q=>Af X (eval b X.env) (λu B=>Af X (compareOp F v u) (EP X pins σ Q) X.xe B) X.xe q) X.xe s
def zh8(b:Expr)(h:q≠.In)(h2:q≠.NotIn):behindInMarks q b=false:=by
 have B:(q==CmpOp.In)=false:=by cases q <;> first | rfl | exact absurd rfl h
 have F:(q==CmpOp.NotIn)=false:=by cases q <;> first | rfl | exact absurd rfl h2
 cases b <;> simp[behindInMarks,B,F]
def zxy (ta:TE):TE:=λσ H Q=>ta σ H λx H1=>Q (.bl (decide (x = .non))) H1
def zrT (ta:TE):TE:=λσ H Q=>ta σ H λx H1=>Q (.bl (!decide (x = .non))) H1
def yG.none_iff(r:yG x v):(v==Value.none)=decide (x = .non):=by
 cases x with
 | non=>cases r;rfl
 | bl _=>cases r;rfl
 | int _=>obtain⟨t,rfl⟩:=r;rfl
 | str _=>obtain⟨t,rfl⟩:=r;rfl
 | byt _=>obtain⟨t,rfl⟩:=r;rfl
 | flt _=>obtain⟨t,rfl⟩:=r;rfl
 | ref _=>cases r;rfl
 | ty _=>cases r;rfl
def ztX {j pos'}(q:PE X a ta):PC X .Is a (.Constant .none j pos') (zxy ta):=by intro pins s σ H Q I h;show thn (q pins s σ H _ I h)  ?_;rintro v J ⟨x,H1,I1,B,F⟩;exact Constant_none (is_none_gen ⟨.bl _,H1,I1,by rw[B.none_iff];rfl,F⟩)
def zqH {j pos'}(q:PE X a ta):PC X .IsNot a (.Constant .none j pos') (zrT ta):=by intro pins s σ H Q I h;show thn (q pins s σ H _ I h)  ?_;rintro v J ⟨x,H1,I1,B,F⟩;exact Constant_none (isnot_none_gen ⟨.bl _,H1,I1,by rw[B.none_iff];rfl,F⟩)
def tB (t:TE):TT:=λσ H Q=>t σ H λx H1=>∃c,x = .bl c/\Q c H1
def zue(h:PC X B a b t)(h1:behindInMarks B b=false:=by first | exact zh8 _ (by ext) (by ext) | rfl):PT X (.Compare a [B] [b] pos) (tB t):=by intro pins s σ H Q I F;show wpAny_isTrue_Compare1 (thn (h pins s σ H _ I F) λv O h1=>thn h1 λu U h2=>thn h2 λc Y ⟨x,H1,I1,J,L⟩=>?_) h1;obtain⟨d,rfl,q⟩:=L;cases J;exact ce ⟨H1,I1,q⟩
def zug(h:PE X e t)(he:∀whole,isTrue e X.env whole=(do let v <- whole;standAt e.pos;holding [v] (truthy v)):=by intro _;rfl):PT X e (tB t):=by intro pins s σ H Q I hw;show isTrue_plain (thn (h pins s σ H _ I hw) λv s1 ⟨x,H1,I1,r1,q1⟩=>?_) (he _);obtain⟨d,rfl,q⟩:=q1;cases r1;exact ce ⟨H1,I1,q⟩
variable {tA tB':TT}{z4:AO}
def zxu (t u:TT):TT:=λσ H Q=>t σ H λc H1=>if c=true then u σ H1 Q else Q false H1
def tOr (t u:TT):TT:=λσ H Q=>t σ H λc H1=>if c=true then Q true H1 else u σ H1 Q
def tNot (t:TT):TT:=λσ H Q=>t σ H λc H1=>Q (!c) H1
def zq6 (q:PT X a tA):PW X (.BoolOp .And [a] pos) tA:=by
 intro B pins s σ H Q I h;show isTrue_and (thn (q pins s σ H Q I h) λc F e=>?_)
 cases c with
 | true=>exact isTrue_and_nil e
 | false=>exact e
def zui (q:PT X a tA):PW X (.BoolOp .Or [a] pos) tA:=by
 intro B pins s σ H Q I h;show isTrue_or (thn (q pins s σ H Q I h) λc F e=>?_)
 cases c with
 | false=>exact isTrue_or_nil e
 | true=>exact e
def zuh (B:PT X a tA)(F:PW X (.BoolOp .And (b::z4) pos) tB'):PW X (.BoolOp .And (a::b::z4) pos) (zxu tA tB'):=by
 intro J pins s σ H Q I h;show isTrue_and (thn (B pins s σ H _ I h)  ?_);rintro c L ⟨H1,I1,q⟩
 cases c with
 | true=>exact F J pins L σ H1 Q I1 q
 | false=>exact⟨H1,I1,q⟩
def zxe (B:PT X a tA)(F:PW X (.BoolOp .Or (b::z4) pos) tB'):PW X (.BoolOp .Or (a::b::z4) pos) (tOr tA tB'):=by
 intro J pins s σ H Q I h;show isTrue_or (thn (B pins s σ H _ I h)  ?_);rintro c L ⟨H1,I1,q⟩
 cases c with
 | true=>exact⟨H1,I1,q⟩
 | false=>exact F J pins L σ H1 Q I1 q
def zuf (q:PT X a tA):PT X (.UnaryOp .Not a pos) (tNot tA):=by intro pins s σ H Q I h;exact isTrue_not (q pins s σ H (λc H1=>Q (!c) H1) I h)
end
def SqL (K:AH)(H:Hp)(a:Addr)(xs:AT):Prop:=
 Rd H a (.lst xs)\/
  ∃ (o:Obj) (its:AK) (n:Nat),K.lookup a=some o/\o.cls = .type "list" /\ o.dict=none/\o.data = .seq its n/\its.size<=sizeLine/\z9 xs its.toList
def SqT (K:AH)(H:Hp)(a:Addr)(xs:AT):Prop:=
 Rd H a (.tup xs)\/
  ∃ (o:Obj) (its:AK) (n:Nat),K.lookup a=some o/\o.cls = .type "tuple" /\ o.data = .seq its n/\its.size<=sizeLine/\z9 xs its.toList
def absV:Value->Option V
 | .none=>some .non
 | .bool b=>some (.bl b)
 | .int i _=>some (.int i)
 | .str x _=>some (.str x)
 | .bytes b _=>some (.byt b)
 | .float b _=>some (.flt b)
 | .ref a=>some (.ref a)
 | .type n=>some (.ty n)
 | _=>none
def yG.abs(r:yG x u):absV u=some x:=by
 cases x with
 | non=>cases r;rfl
 | bl _=>cases r;rfl
 | int _=>obtain⟨t,rfl⟩:=r;rfl
 | str _=>obtain⟨t,rfl⟩:=r;rfl
 | byt _=>obtain⟨t,rfl⟩:=r;rfl
 | flt _=>obtain⟨t,rfl⟩:=r;rfl
 | ref _=>cases r;rfl
 | ty _=>cases r;rfl
def yG.inj(r:yG x u)(q:yG y u):x=y:=bz (r.abs.symm.trans q.abs)
def z9.inj:∀ {xs ys:AT} {q:AN},z9 xs q->z9 ys q->xs=ys
 | _,_,_,.nil,.nil=>rfl
 | _,_,_,.cons r t,.cons B t'=>by rw[r.inj B,z9.inj t t']
section
variable {X:Cx}{pins:AB}{σ:St}{H:Hp}{s:AZ}{a:Addr}{xs ys:AT}
def SqL.of {K:AH}(h:H a=some (.lst xs)):SqL K H a xs:=.inl (.inl h)
def SqT.of {K:AH}(h:H a=some (.tup xs)):SqT K H a xs:=.inl (.inl h)
def Inv.list (I:Inv X pins σ H s)(h:SqL X.K H a xs):∃its:AN,z9 xs its/\PlainL s.heap a its.toArray/\xs.length<=sizeLine:=by
 rcases h with h | ⟨o,its,n,hk,hc,hd,hs,hz,r⟩;obtain⟨z,its,n,r,e⟩:=h.ok I.hok;exact⟨its,r,⟨_,n,e,rfl,rfl,rfl⟩,z⟩;show⟨its.toList,r,⟨o,n,I.kIn a o hk,hc,hd,by simpa using hs⟩,?_⟩;have e:=r.length;grind
def Inv.tuple (I:Inv X pins σ H s)(h:SqT X.K H a xs):∃its:AN,z9 xs its/\IsTup s.heap a its.toArray/\xs.length<=sizeLine:=by
 rcases h with h | ⟨o,its,n,hk,hc,hs,hz,r⟩;obtain⟨z,its,r,p⟩:=h.ok I.hok;exact⟨its,r,p.tup,z⟩;show⟨its.toList,r,⟨o,I.kIn a o hk,hc,n,by simpa using hs⟩,?_⟩;have e:=r.length;grind
def Inv.list_inj (I:Inv X pins σ H s)(h:SqL X.K H a xs)(h':SqL X.K H a ys):xs=ys:=by
 obtain⟨its,r,⟨o,n,e,_,_,d⟩,_⟩:=I.list h;obtain⟨its',B,⟨o',J,q,_,_,d'⟩,_⟩:=I.list h';rw[e] at q;cases q;rw[d] at d';injection d' with F _;have:its=its':=by simpa using congrArg Array.toList F
 subst this;exact r.inj B
def Inv.tuple_inj (I:Inv X pins σ H s)(h:SqT X.K H a xs)(h':SqT X.K H a ys):xs=ys:=by
 obtain⟨its,r,⟨o,e,_,n,d⟩,_⟩:=I.tuple h;obtain⟨its',B,⟨o',q,_,J,d'⟩,_⟩:=I.tuple h';rw[e] at q;cases q;rw[d] at d';injection d' with F _;have:its=its':=by simpa using congrArg Array.toList F
 subst this;exact r.inj B
end
abbrev Cx.wish (X:Cx)(E:AA):Cx:={ X with xe:=E }
abbrev Cx.nox (X:Cx):Cx:=X.wish λ_ _=>False
def Cx.Ok.wish {X:Cx}(q:X.Ok)(E:AA):(X.wish E).Ok:=
 ⟨q.mod,q.kind,q.glob,q.blt,q.above,q.inj,q.has,q.cab,q.hd,q.frames,q.stk,q.exf,q.bs,q.bsz,q.noex,q.exfs,q.funs,q.frf⟩
def Cx.Ok.unwish{X:Cx}(q:(X.wish E).Ok):X.Ok:=
 ⟨q.mod,q.kind,q.glob,q.blt,q.above,q.inj,q.has,q.cab,q.hd,q.frames,q.stk,q.exf,q.bs,q.bsz,q.noex,q.exfs,q.funs,q.frf⟩
section
variable {X:Cx}{pins:AB}{σ:St}{H:Hp}{s:AZ}{E:AA}
def Inv.wish (I:Inv X pins σ H s)(E:AA):Inv (X.wish E) pins σ H s:=⟨I.ok.wish E,I.os,I.bare,I.base,I.loc,I.cell,I.free,I.freeC,I.pin,I.hok,I.len⟩
def Inv.unwish (I:Inv (X.wish E) pins σ H s):Inv X pins σ H s:=⟨I.ok.unwish,I.os,I.bare,I.base,I.loc,I.cell,I.free,I.freeC,I.pin,I.hok,I.len⟩
def SP.unwish(h:SP (X.wish E) pins D f s'):SP X pins D f s':=by
 cases f with
 | next=>obtain⟨B,H',I,q⟩:=h;exact⟨B,H',I.unwish,q⟩
 | brk=>obtain⟨B,H',I,q⟩:=h;exact⟨B,H',I.unwish,q⟩
 | cont=>obtain⟨B,H',I,q⟩:=h;exact⟨B,H',I.unwish,q⟩
 | ret u=>obtain⟨v,B,H',I,r,q⟩:=h;exact⟨v,B,H',I.unwish,r,q⟩
def PSs.nox{st:List Stmt}(h:PSs X.nox st t):PSs X st t:=λpins s σ H D I B=>
 aW (h pins s σ H D (I.wish _) B) (λ_ _ q=>q.unwish) λ_ _ z=>False.elim z
end
section
variable {X:Cx}{st:Stmt}{z4:List Stmt}{t u:TS}{e:Expr}{te:TE}{pos:Pos}
def zuY:TS:=λD σ H=>D.nx σ H
def zxz (t u:TS):TS:=λD σ H=>t { D with nx:=u D } σ H
def zq1:PSs X [] zuY:=λ_ _ σ H _ I h=>dS ⟨σ,H,I,h⟩
def znL (h1:PS X st t)(h2:PSs X z4 u):PSs X (st::z4) (zxz t u):=by
 intro pins s σ H D I h;show wpAny_execs_cons (thn (h1 pins s σ H { D with nx:=u D } I h) λf F q=>?_)
 cases f with
 | next=>
  obtain⟨B,H',I',q⟩:=q;exact h2 pins F B H' D I' q
 | ret v=>exact q
 | brk=>exact q
 | cont=>exact q
def zq2 (h1:PS X st t):PSs X [st] t:=by
 intro pins s σ H D I h;show wpAny_execs_cons (thn (h1 pins s σ H D I h) λf B q=>?_)
 cases f with
 | next=>exact dS q
 | ret v=>exact q
 | brk=>exact q
 | cont=>exact q
def Inv.quiet{pins:AB}{σ:St}{H:Hp}(I:Inv X pins σ H s):interactive X.env=false:=by simp[interactive,I.ok.kind]
def zl9 (te:TE):TS:=λD σ H=>te σ H λ_ H1=>D.nx σ H1
def zq0 (q:PE X e te)(B:swapsWith e none pos.line X.env=pure false:=by rfl):PS X (.Expr e pos) (zl9 te):=by intro pins s σ H D I h;exact wpAny_Expr_any (thn (q pins s σ H _ I h) <| by rintro v J ⟨x,H1,I1,L,F⟩;exact⟨σ,H1,I1,F⟩) I.quiet B
def zvQ (te:TE):TS:=λD σ H=>te σ H D.rt
def zuc (q:PE X e te):PS X (.Return (some e) pos) (zvQ te):=by intro pins s σ H D I h;exact wpAny_Return_some (thn (q pins s σ H _ I h) <| by rintro v J ⟨x,H1,I1,B,F⟩;exact⟨x,σ,H1,I1,B,F⟩)
def tIfS (c:TT)(t u:TS):TS:=λD σ H=>c σ H λb H1=>if b=true then t D σ H1 else u D σ H1
def zxd(F:PT X c tc)(J:PSs X a t)(L:PSs X b u):PS X (.If c a b pos) (tIfS tc t u):=by
 intro pins s σ H D I h;show wpAny_If (thn (F pins s σ H _ I h)  ?_);rintro d q ⟨H1,I1,B⟩
 cases d with
 | true=>exact J pins q σ H1 D I1 B
 | false=>exact L pins q σ H1 D I1 B
end
abbrev TG:=V->St->Hp->(St->Hp->Prop)->Prop
abbrev TGs:=AT->St->Hp->(St->Hp->Prop)->Prop
def PG (X:Cx)(q:Expr)(t:TG):Prop:=
 ∀ (pins:AB) (s:AZ) (σ:St) (H:Hp) (v:V) (u:Value) (Q:St->Hp->Prop),Inv X pins σ H s->yG v u->t v σ H Q->
  Af X (assign q X.env u) (λ_ s'=>∃ B H',Inv X pins B H' s'/\Q B H') X.xe s
def PGs (X:Cx)(F:AO)(t:TGs):Prop:=
 ∀ (pins:AB) (s:AZ) (σ:St) (H:Hp) (vs:AT) (B:AN) (Q:St->Hp->Prop),Inv X pins σ H s->z9 vs B->t vs σ H Q->
  Af X (assignInOrder ((assignEach F X.env).map (·.2)) B) (λ_ s'=>∃ q H',Inv X pins q H' s'/\Q q H') X.xe s
abbrev zvY:=V->V->V->Hp->(Hp->Prop)->Prop
def PSet (X:Cx)(t:zvY):Prop:=
 ∀ (pins:AB) (s:AZ) (σ:St) (H:Hp) (o i v:V) (q B u:Value) (Q:Hp->Prop),Inv X pins σ H s->yG o q->yG i B->yG v u->t o i v H Q->
  Af X (setItem q B u) (λ_ s'=>∃H',Inv X pins σ H' s'/\Q H') X.xe s
section
variable {X:Cx}{pos:Pos}
def uA (i:Nat):TG:=λv σ H Q=>Q (σ.set i (some v)) H
def zqR(q:X.N.Nodup)(hi:X.N[i]?=some x)(B:Loc X.env.scope x)(F:X.fn x=true\/X.env.scope.names.lookup x=some .local:=by walk_at "l"):PG X (.Name x pos) (uA i):=by intro pins s σ H v u Q I r h;exact wpAny_assign_Name (zim I q hi B r (λs' I'=>⟨_,H,I',h⟩) F)
def gNil:TGs:=λvs σ H Q=>vs=[]/\Q σ H
def zsU (t:TG)(u:TGs):TGs:=λvs σ H Q=>∃v r,vs=v::r/\t v σ H λq H'=>u r q H' Q
def zqS:PGs X [] gNil:=by intro pins s σ H vs q Q I r h;obtain⟨e,h⟩:=h;subst e;cases r;exact assignInOrder_nil ⟨σ,H,I,h⟩
def znG(h1:PG X e t)(h2:PGs X es u)(B:(assignEach (e::es) X.env).map (·.2)=assign e X.env::(assignEach es X.env).map (·.2):=by rfl):PGs X (e::es) (zsU t u):=by
 intro pins s σ H vs U Q I r h;obtain⟨v,Y,F,h⟩:=h;subst F
 cases r with
 | cons r J=>
  rw[B];show assignInOrder_cons (thn (h1 pins s σ H _ _ _ I r h)  ?_);rintro _ L ⟨q,H1,I1,O⟩;exact h2 pins L q H1 _ _ Q I1 J O
def zwz (K:AH)(n:Nat)(t:TGs):TG:=λv σ H Q=>∃a xs,v = .ref a/\SqT K H a xs/\xs.length=n/\t xs σ H Q
def zt8 {es:AO}{k:Nat}{t:TGs}{n:Nat}(J:X.calm=true)(h:PGs X es t)
  (L:(assignEach es X.env).length=n:=by rfl) (q:(assignEach es X.env).findIdx? (·.1)=none:=by rfl):PG X (.Tuple es k pos) (zwz X.K n t):=by
 intro pins s σ H v u Q I r B;obtain⟨a,xs,O,U,Y,B⟩:=B;subst O;cases r;obtain⟨its,F,Z,hz⟩:=I.tuple U;show assign_Tuple_tuple (I.ok.hd J) Z (by simp[L,<- Y,F.length]) q λh' hx=>?_;have I1:Inv X pins σ H { s with heap:=h' }:=I.kept (t':=s.toks) λb o e=>hx b o (aR (ay e)) e;exact h pins _ σ H xs _ Q I1 (by simpa using F) B
def gSub (to ti:TE)(t:zvY):TG:=λv σ H Q=>to σ H λo H1=>ti σ H1 λi H2=>t o i v H2 λH3=>Q σ H3
def zt7(ho:PE X o to)(hi:PE X i ti)(hs:PSet X t)(ha:∀v,assign (.Subscript o i pos) X.env v=(do
   let ov <- holding [v] (eval o X.env)
   let iv <- holding [v,ov] (eval i X.env)
   standAt pos
   holding [v,ov,iv] (setItem ov iv v)
   release [v,ov,iv] []):=by intro _;rfl):PG X (.Subscript o i pos) (gSub to ti t):=by
 intro pins s σ H v u Q I r h;rw[ha];show aa (bq (thn (ho pins s σ H _ I h)  ?_));rintro ov s1 ⟨x,H1,I1,r1,q1⟩;show aa (bq (thn (hi pins s1 σ H1 _ I1 q1)  ?_));rintro iv s2 ⟨y,H2,I2,r2,q2⟩;show aa (bJ (aa (bq (thn (hs pins s2 σ H2 x y v ov iv u _ I2 r1 r2 r q2)  ?_))));rintro _ s3 ⟨H3,I3,q3⟩;exact wpAny_release ⟨σ,H3,I3,q3⟩
def zfg (te:TE)(g:TG):TS:=λD σ H=>te σ H λx H1=>g x σ H1 D.nx
def zua(B:PE X e te)(F:PG X tg g)(J:swapsWithSole [tg] e pos.line X.env=pure false:=by rfl)(L:swappedStores [tg] e X.env=pure none:=by rfl)(h1:(assignEach [tg] X.env).map (·.2)=[assign tg X.env]:=by rfl):PS X (.Assign [tg] e pos) (zfg te g):=by
 intro pins s σ H D I h;show wpAny_Assign_stores (thn (B pins s σ H _ I h) λv O ⟨x,H1,I1,U,Y⟩=>?_) J L;rw[h1];exact thn (F pins O σ H1 x v _ I1 U Y) λ_ Z q=>q
def zud(q:X.N.Nodup)(hi:X.N[i]?=some x)(B:Loc X.env.scope x)(F:PE X e te)(J:swapsWith e (some (.Name x pos')) pos.line X.env=pure false:=by rfl)(L:X.fn x=true\/X.env.scope.names.lookup x=some .local:=by walk_at "l") :
  PS X (.Assign [.Name x pos'] e pos) (zfg te (uA i)):=by
 intro pins s σ H D I h;show wpAny_Assign_Name (thn (F pins s σ H _ I h) λv Y ⟨y,H1,I1,O,U⟩=>?_) J;exact zim I1 q hi B O (λZ I2=>⟨_,H1,I2,U⟩) L
def zu3 (c:TT)(tb:TS):TS:=λD σ H=>∃W:Nat->St->Hp->Prop,(∃m,W m σ H)/\∀m σ H,W m σ H->
 c σ H λb H1=>if b=true then ∃N:St->Hp->Prop,(∀ q H',N q H'->∃B,B<m/\W B q H')/\tb { D with nx:=N,ct:=N,bk:=D.nx } σ H1 else D.nx σ H1
def znK(hp:PassesOwn (model X.prog X.w) X.A X.env X.xe)(hc:PT X c tc)(hb:PSs X body tb):PS X (.While c body [] pos) (zu3 tc tb):=by
 intro pins s σ H D I h;obtain⟨W,⟨m0,w0⟩,F⟩:=h;show wpAny_While (codeAny_whileLoop (λn s'=>∃ J H',Inv X pins J H' s'/\W n J H') ?_ m0 ⟨σ,H,I,w0⟩);rintro n s1 ⟨B,H1,I1,w1⟩;show cy hp (thn (hc pins s1 B H1 _ I1 (F n B H1 w1))  ?_);rintro b s2 ⟨H2,I2,L⟩
 cases b with
 | true=>
  obtain⟨N,hN,L⟩:=L;rw[if_pos rfl];show cy hp (thn (hb pins s2 B H2 _ I2 L) λf s3 O=>?_)
  cases f with
  | next=>
   obtain⟨q,H3,I3,U⟩:=O;obtain⟨Y,Z,w3⟩:=hN q H3 U;exact⟨Y,Z,q,H3,I3,w3⟩
  | cont=>
   obtain⟨q,H3,I3,U⟩:=O;obtain⟨Y,Z,w3⟩:=hN q H3 U;exact⟨Y,Z,q,H3,I3,w3⟩
  | brk=>exact O
  | ret v=>exact O
 | false=>
  rw[if_neg aK];exact dS ⟨B,H2,I2,L⟩
end
structure It where
 go:Nat->Hp->Prop
 yld:Nat->Hp->V->Hp->Prop
 stop:Nat->Hp->Prop
def zdE (X:Cx)(pins:AB)(H:Hp)(b:Addr):Prop:=
 H b=none/\b≠X.env.locals/\b∉X.fs/\(b∈X.ex\/X.s₀.heap.objs.size<=b)/\(∀x c,X.env.cells.lookup x=some c->c≠b)/\∀p∈X.pn++pins,p.1≠b
def Inv.fpOk {X:Cx}{pins:AB}{σ:St}{H H':Hp}{s:AZ}{b:Addr}(I:Inv X pins σ H s)(B:s.heap.objs.size<=b)(F:H' b=none):zdE X pins H' b:=by
 show⟨F,dw (aI I.lt B),I.nofs B,.inr (ar I.sz B),λx c e z=>?_,λp J z=>?_⟩;obtain⟨v,q⟩:=I.cell x c e;exact absurd (aI q.lt (by rw[z];exact B)) (bO _);exact absurd (aI (ay (I.pin p J).1) (by rw[z];exact B)) (bO _)
structure Turn (P:Aa)(w:Ab)(K:AH)(tg:Expr)(J:It)(fp:AY)(it:Addr)(tn:Nat->Heap->Prop):Prop where
 mem:it∈fp
 obj:∀i h,tn i h->∀b∈fp,∃o,h.get? b=some o/\∀v,o.data≠.cell v
 keep:∀i h h',tn i h->(∀b∈fp,∀o,h.get? b=some o->h'.get? b=some o)->tn i h'
 item:∀ (X:Cx),X.prog=P->X.w=w->X.K=K->X.calm=true->∀ (i:Nat) (pins:AB) (s:AZ) (σ:St) (H:Hp) (E:AA),Inv X pins σ H s->(∀b∈fp,zdE X pins H b)->tn i s.heap->J.go i H->
  wpAny (model P w) X.A (pyNext (.ref it)) (λr s1=>∃u,r=some u/\
   wpAny (model P w) X.A (letOwnedTupleGo tg (.ref it) u) (λ_ s2=>∃x H',Inv X pins σ H' s2/\yG x u/\J.yld i H x H'/\tn (i+1) s2.heap/\∀b∈fp,H' b=none) E s1) E s
 done:∀ (X:Cx),X.prog=P->X.w=w->X.K=K->X.calm=true->∀ (i:Nat) (pins:AB) (s:AZ) (σ:St) (H:Hp) (E:AA),Inv X pins σ H s->(∀b∈fp,zdE X pins H b)->tn i s.heap->J.stop i H->
  wpAny (model P w) X.A (pyNext (.ref it)) (λr s1=>r=none/\Inv X pins σ H s1) E s
 self:∀ (A:Ae) (i:Nat) (s:AZ) (Q:AA) (E:AA),tn i s.heap->Q (.ref it) s->wpAny (model P w) A (pyIter (.ref it)) Q E s
abbrev TI:=St->Hp->(It->Hp->Prop)->Prop
def PIE (X:Cx)(pins:AB)(σ:St)(tg:Expr)(R:It->Hp->Prop)(q:Value)(B:AZ):Prop:=
 ∃ (F:Addr) (fp:AY) (I:Nat->Heap->Prop) (J:It) (H':Hp),q = .ref F/\Inv X pins σ H' B/\Turn X.prog X.w X.K tg J fp F I/\I 0 B.heap/\(∀b∈fp,zdE X pins H' b)/\R J H'
def PI (X:Cx)(tg iter:Expr)(wi:TI):Prop:=
 ∀ (pins:AB) (s:AZ) (σ:St) (H:Hp) (R:It->Hp->Prop),Inv X pins σ H s->wi σ H R->
  Af X (eval iter X.env) (λv q=>Af X (pyIter v) (PIE X pins σ tg R) X.xe q) X.xe s
def zj8(F:s.heap.get? B=some o)(I:o.cls = .type n)(J:o.data = .fields vs)(L:["enumerate","zip","dict_itemiterator","dict_reverseitemiterator","odict_iterator","itertools.zip_longest","itertools.pairwise"].contains n=false)(q:Q () s):wpAny M A (letOwnedTupleGo tg (.ref B) u) Q E s:=by
 unfold letOwnedTupleGo
 cases tg <;> first
  | exact ae q
  | (cases u <;> first
    | exact ae q
    | (show aa (wpAny_load F ?_)
       rw[I,J];change wpAny M A (if (["enumerate","zip","dict_itemiterator","dict_reverseitemiterator","odict_iterator","itertools.zip_longest","itertools.pairwise"].contains n&&vs[0]?==some (rawInt _))=true then _ else _) Q E s;rw[if_neg (by lia)];exact ae q))
def Itl (K:AH)(a:Addr):It:=
 ⟨λi H=>∃xs x,SqL K H a xs/\xs[i]?=some x,λi H x H'=>H'=H/\∀xs,SqL K H a xs->xs[i]?=some x,λi H=>∃xs,SqL K H a xs/\xs.length<=i⟩
def Itt (K:AH)(a:Addr):It:=
 ⟨λi H=>∃xs x,SqT K H a xs/\xs[i]?=some x,λi H x H'=>H'=H/\∀xs,SqT K H a xs->xs[i]?=some x,λi H=>∃xs,SqT K H a xs/\xs.length<=i⟩
def Itr (lo:Int)(n:Nat):It:=⟨λi _=>i<n,λi H x H'=>H'=H/\x = .int (lo+i),λi _=>n<=i⟩
def zmg{P:Aa}{w:Ab}{K:AH}(a q:Addr):Turn P w K tg (Itl K a) [q] q (λi h=>h.IsListIter q a i) where
 mem:=by simp
 obj:=λi h st b B=>by
  have e:b=q:=by simpa using B
  subst e;obtain⟨o,e,c,d⟩:=st;right
 keep:=λi h h' st k=>st.at λo e=>k q (by simp) o e
 item:=by intro X O U Y hc i pins s σ H E I J st Z;subst O U Y;obtain⟨xs,x,L,hx⟩:=Z;obtain⟨its,rv,p,hz⟩:=I.list L;obtain⟨u,hu,ru⟩:=rv.get hx;obtain⟨f0,f1,f2,f3,f4,f5⟩:=J q (by simp);show wpAny_pyNext_list_item st p.isList (x:=u) (by simpa using hu) λh' F sb=>?_;have I1:Inv X pins σ H { s with heap:=h' }:=I.turned (t':=s.toks) (λb o B e=>(sb.2 b B).trans e) f0 f1 f3 f4 f5;obtain⟨o,e,c,d⟩:=id F;exact⟨u,rfl,zj8 (s:={ s with heap:=h' }) e c d (by ext) ⟨x,H,I1,ru,⟨rfl,λys hy=>by rw[I.list_inj hy L];exact hx⟩,F,λb B=>(J b B).1⟩⟩
 done:=by intro X O U Y hc i pins s σ H E I J st Z;subst O U Y;obtain⟨xs,L,hx⟩:=Z;obtain⟨its,rv,p,hz⟩:=I.list L;obtain⟨f0,f1,f2,f3,f4,f5⟩:=J q (by simp);have hl:=rv.length;exact wpAny_pyNext_list_end (I.ok.hd hc) st p.isList (by simp;lia) λh' eb=>⟨rfl,I.turned (t':=s.toks) (λb o B e=>eb b o B e) f0 f1 f3 f4 f5⟩
 self:=λ_ _ _ _ _ st h=>wpAny_pyIter_listiter st h
def zi9{P:Aa}{w:Ab}{K:AH}(a q:Addr):Turn P w K tg (Itt K a) [q] q (λi h=>h.IsTupleIter q a i) where
 mem:=by simp
 obj:=λi h st b B=>by
  have e:b=q:=by simpa using B
  subst e;obtain⟨o,e,c,d⟩:=st;right
 keep:=λi h h' st k=>st.at λo e=>k q (by simp) o e
 item:=by intro X O U Y hc i pins s σ H E I J st Z;subst O U Y;obtain⟨xs,x,L,hx⟩:=Z;obtain⟨its,rv,p,hz⟩:=I.tuple L;obtain⟨u,hu,ru⟩:=rv.get hx;obtain⟨f0,f1,f2,f3,f4,f5⟩:=J q (by simp);show wpAny_pyNext_tuple_item st (show s.heap.IsTuple a its.toArray from p) (x:=u) (by simpa using hu) λh' F sb=>?_;have I1:Inv X pins σ H { s with heap:=h' }:=I.turned (t':=s.toks) (λb o B e=>(sb.2 b B).trans e) f0 f1 f3 f4 f5;obtain⟨o,e,c,d⟩:=id F;exact⟨u,rfl,zj8 (s:={ s with heap:=h' }) e c d (by ext) ⟨x,H,I1,ru,⟨rfl,λys hy=>by rw[I.tuple_inj hy L];exact hx⟩,F,λb B=>(J b B).1⟩⟩
 done:=by intro X O U Y hc i pins s σ H E I J st Z;subst O U Y;obtain⟨xs,L,hx⟩:=Z;obtain⟨its,rv,p,hz⟩:=I.tuple L;obtain⟨f0,f1,f2,f3,f4,f5⟩:=J q (by simp);have hl:=rv.length;exact wpAny_pyNext_tuple_end (I.ok.hd hc) st (show s.heap.IsTuple a its.toArray from p) (by simp;lia) λh' eb=>⟨rfl,I.turned (t':=s.toks) (λb o B e=>eb b o B e) f0 f1 f3 f4 f5⟩
 self:=λ_ _ _ _ _ st h=>wpAny_pyIter_tupleiter st h
def zi8{P:Aa}{w:Ab}{K:AH}(q:Addr)(lo:Int)(n:Nat):Turn P w K tg (Itr lo n) [q] q (λi h=>IsRangeIter h q (lo+(i:Nat) * 1) ((n:Int) - (i:Nat)) 1) where
 mem:=by simp
 obj:=λi h st b B=>by right
 keep:=λi h h' st k=>k q (by simp) _ st
 item:=by intro X L O U Y i pins s σ H E I J st Z;subst L O U;obtain⟨f0,f1,f2,f3,f4,f5⟩:=J q (by simp);have W:=Walks.range (prog:=X.prog) (w:=X.w) (I.ok.hd Y) q lo 1 n;show W.item i s _ _ Z st λv h' tk hv F kk=>?_;obtain⟨t,rfl⟩:=hv;have I1:Inv X pins σ H { s with heap:=h',toks:=tk }:=I.turned (λb o B e=>kk b o (by simpa using B) e) f0 f1 f3 f4 f5;show⟨_,rfl,zj8 (s:={ s with heap:=h',toks:=tk }) (n := "range_iterator") F rfl rfl (by ext) ⟨.int (lo+i),H,I1,⟨t,?_⟩,⟨rfl,rfl⟩,F,λb B=>(J b B).1⟩⟩;rw[Int.mul_one]
 done:=by intro X L O U Y i pins s σ H E I J st Z;subst L O U;obtain⟨f0,f1,f2,f3,f4,f5⟩:=J q (by simp);exact wpAny_pyNext_range_end (I.ok.hd Y) st (by have:n<=i:=Z;lia) λh' eb=>⟨rfl,I.turned (t':=s.toks) (λb o B e=>eb b o B e) f0 f1 f3 f4 f5⟩
 self:=λ_ _ _ _ _ st h=>wpAny_pyIter_rangeiter st h
section
variable {X:Cx}{tg:Expr}
def zpP (K:AH)(tl:TE):TI:=λσ H R=>tl σ H λx H1=>∃a,x = .ref a/\(∃xs,SqL K H1 a xs)/\R (Itl K a) H1
def zwC (K:AH)(tl:TE):TI:=λσ H R=>tl σ H λx H1=>∃a,x = .ref a/\(∃xs,SqT K H1 a xs)/\R (Itt K a) H1
def zqT(F:PE X l tl):PI X tg l (zpP X.K tl):=by
 intro pins s σ H R I h;show thn (F pins s σ H _ I h)  ?_;rintro v B ⟨x,H1,I1,J,L⟩;obtain⟨a,e,⟨xs,O⟩,q⟩:=L;subst e;cases J;obtain⟨its,Y,p,Z⟩:=I1.list O;show eO p.isList ?_;show⟨B.heap.objs.size,[B.heap.objs.size],_,_,H1,rfl,I1.kept (t':=B.toks) λb o e=>ai _ e,zmg a _,⟨_,aB _ rfl,rfl,rfl⟩,λb U=>?_,q⟩;have e:b=B.heap.objs.size:=by simpa using U
 subst e;exact I1.fpOk (af _) (I1.hok.fresh (af _))
def zt9(F:PE X l tl):PI X tg l (zwC X.K tl):=by
 intro pins s σ H R I h;show thn (F pins s σ H _ I h)  ?_;rintro v B ⟨x,H1,I1,J,L⟩;obtain⟨a,e,⟨xs,O⟩,q⟩:=L;subst e;cases J;obtain⟨its,Y,p,Z⟩:=I1.tuple O;show wpAny_pyIter_tuple (show B.heap.IsTuple a its.toArray from p) ?_;show⟨B.heap.objs.size,[B.heap.objs.size],_,_,H1,rfl,I1.kept (t':=B.toks) λb o e=>ai _ e,zi9 a _,⟨_,aB _ rfl,rfl,rfl⟩,λb U=>?_,q⟩;have e:b=B.heap.objs.size:=by simpa using U
 subst e;exact I1.fpOk (af _) (I1.hok.fresh (af _))
def znZ{pins:AB}{σ:St}{H:Hp}{s:AZ}{R:It->Hp->Prop}{E:AA}{lo hi:Int}{t u v:Tok}(I:Inv X pins σ H s)(h1:-(2 ^ 62)<=lo)(h2:lo<2 ^ 62)(B:-(2 ^ 62)<=hi)(F:hi<2 ^ 62)(q:R (Itr lo (hi - lo).toNat) H):Af X (pyIter (.ref s.heap.objs.size)) (PIE X pins σ tg R) E { s with heap:=s.heap.push { cls:=.type "range",data:=.fields #[.int lo t,.int hi u,.int 1 v] },toks:=tk }:=by
 show wpAny_pyIter_range (IsRange.new ..) (small_one h1 h2 B F) ?_;have I1:Inv X pins σ H { s with heap:=s.heap.push { cls:=.type "range",data:=.fields #[.int lo t,.int hi u,.int 1 v] },toks:=tk }:=I.kept λb o e=>ai _ e
 show⟨(s.heap.push { cls:=.type "range",data:=.fields #[.int lo t,.int hi u,.int 1 v] }).objs.size,[(s.heap.push { cls:=.type "range",data:=.fields #[.int lo t,.int hi u,.int 1 v] }).objs.size],_,_,H,rfl,
  I1.kept (t':=tk) λb o e=>ai _ e,zi8 _ lo (hi - lo).toNat,?_,λb J=>?_,q⟩
 ·have L:lo+((0:Nat):Int) * 1=lo:=by simp
  have O:(((hi - lo).toNat:Nat):Int) - ((0:Nat):Int)=Builtin.Range.rangeSize lo hi 1:=by rw[rangeSize_one];split <;> lia
  change IsRangeIter _ _ (lo+((0:Nat):Int) * 1) ((((hi - lo).toNat:Nat):Int) - ((0:Nat):Int)) 1;rw[L,O];exact aB _ rfl
 have e:b=(s.heap.push { cls:=.type "range",data:=.fields #[.int lo t,.int hi u,.int 1 v] }).objs.size:=by simpa using J
 subst e;exact I1.fpOk (af _) (I1.hok.fresh (af _))
def zsW (ta:TA):TI:=λσ H R=>ta σ H λvs H1=>∃j:Int,vs=[.int j]/\-(2 ^ 62)<=j/\j<2 ^ 62/\R (Itr 0 j.toNat) H1
def zlA(F:Gl X "range")(J:X.mg "range" = none)(L:PA X [a] ta)(O:starEach [a] X.env=[(false,eval a X.env)]:=by rfl):PI X tg (.Call (.Name "range" p) [a] [] pos) (zsW ta):=by
 intro pins s σ H R I h;show Call_ (zcS I F J boot_range (ci (thn (L pos pins s σ H _ I h) λus s1 ⟨vs,H1,I1,U,B⟩=>?_) O rfl));obtain⟨j,e,B,Y,q⟩:=B;subst e
 cases U with
 | cons r Z=>
  cases Z;obtain⟨t,rfl⟩:=r;exact call_range_1 (znZ I1 (by lia) (by lia) B Y (by simpa using q))
def zvP (wi:TI)(g:TG)(tb:TS):TS:=λD σ H=>wi σ H λJ H1=>∃W:Nat->Nat->St->Hp->Prop,(∃m,W 0 m σ H1)/\∀i m σ H,W i m σ H->
 (J.stop i H/\D.nx σ H)\/(J.go i H/\∃N:St->Hp->Prop,(∀ q H',N q H'->∃F,F<m/\W (i+1) F q H')/\∀x H',J.yld i H x H'->g x σ H' λB H2=>tb { D with nx:=N,ct:=N,bk:=D.nx } B H2)
def zgd (fp:AY)(h:Heap):AB:=fp.filterMap λb=>(h.get? b).map λo=>(b,o)
def zaF(q:b∈fp)(e:h.get? b=some o):(b,o)∈zgd fp h:=cO.mpr ⟨b,q,by rw[e];rfl⟩
def zlh(B:p∈zgd fp h):p.1∈fp/\h.get? p.1=some p.2:=by
 obtain⟨b,F,e⟩:=cO.mp B
 cases q:h.get? b with
 | none=>rw[q] at e;cases e
 | some o=>
  grind
def Inv.pinned {pins:AB}{σ:St}{H:Hp}{s:AZ}{fp:AY}(I:Inv X pins σ H s)(B:∀b∈fp,zdE X pins H b)(F:∀b∈fp,∃o,s.heap.get? b=some o/\∀v,o.data≠.cell v):Inv X (pins++zgd fp s.heap) σ H s:=
 I.pins_of λp J=>(a9.mp J).elim (λz=>I.pin p (aZ _ z)) λz=>by
  obtain⟨q,e⟩:=zlh z;obtain⟨L,O,U,_⟩:=B p.1 q;obtain⟨o,Y,d⟩:=F p.1 q;right
def Inv.unpinned{pins pl:AB}{σ:St}{H:Hp}(I:Inv X (pins++pl) σ H s):Inv X pins σ H s:=I.pins_of λp q=>I.pin p (aZ _ (bS _ q))
def zub(hp:PassesOwn (model X.prog X.w) X.A X.env X.xe)(hc:X.calm=true)(hi:PI X tg iter wi)(hg:PG X tg g)(B:PSs X body tb)(hs:∀x,foldedSetIterable iter X.env x=pure x:=by intro _;rfl):PS X (.For tg iter body [] pos) (zvP wi g tb):=by
 intro pins s σ H D I h;show wpAny_For (thn (hi pins s σ H _ I h) λv s1 h1=>thn h1 λav s2 h2=>?_) hs;obtain⟨it,fp,tn,J,H2,e,I2,T,an,f2,W,⟨m0,w0⟩,ad⟩:=h2;subst e;have F:∀ {H':Hp},(∀b∈fp,H' b=none)->∀b∈fp,zdE X pins H' b:=λhn b B=>⟨hn b B,(f2 b B).2⟩;show codeAny_forLoop_any (λn s'=>∃i L H',Inv X pins L H' s'/\tn i s'.heap/\(∀b∈fp,H' b=none)/\W i n L H') ?_ m0 ⟨0,σ,H2,I2,an,λb B=>(f2 b B).1,w0⟩;rintro n s3 ⟨i,O,H3,I3,ag,al,w3⟩;rcases ad i n O H3 w3 with ⟨stop,qn⟩ | ⟨go,N,hN,step⟩
 ·show cy hp (thn (T.done X rfl rfl rfl hc i pins s3 O H3 X.xe I3 (F al) ag stop)  ?_);rintro r s4 ⟨hr,I4⟩;subst hr;exact dS ⟨O,H3,I4,qn⟩
 ·show cy hp (thn (T.item X rfl rfl rfl hc i pins s3 O H3 X.xe I3 (F al) ag go)  ?_);rintro r s4 ⟨u,hr,h4⟩;subst hr;show cy hp (thn h4  ?_);rintro _ s5 ⟨x,H5,I5,r5,y5,Z,ap⟩;have I5':=I5.pinned (F ap) (T.obj _ _ Z);show cy hp (thn (hg _ s5 O H5 x u _ I5' r5 (step x H5 y5))  ?_);rintro _ s6 ⟨as,H6,I6,q6⟩;show cy hp (thn (B _ s6 as H6 _ I6 q6) λf s7 Y=>?_);have U:∀ {q:St} {H7:Hp},Inv X (pins++zgd fp s5.heap) q H7 s7->N q H7->∃m,m<n/\∃i L H',Inv X pins L H' s7/\tn i s7.heap/\(∀b∈fp,H' b=none)/\W i m L H':=λ{q H7} I7 n7=>by obtain⟨m',hm,w7⟩:=hN q H7 n7;show⟨m',hm,i+1,q,H7,I7.unpinned,T.keep _ _ _ Z λb B o e=>(I7.pin (b,o) (aZ _ (aZ _ (zaF B e)))).1,λb B=>?_,w7⟩;obtain⟨o,e,d⟩:=T.obj _ _ Z b B;exact (I7.pin (b,o) (aZ _ (aZ _ (zaF B e)))).2.1
  cases f with
  | next=>obtain⟨q,H7,I7,n7⟩:=Y;exact U I7 n7
  | cont=>obtain⟨q,H7,I7,n7⟩:=Y;exact U I7 n7
  | brk=>obtain⟨q,H7,I7,Y⟩:=Y;exact⟨q,H7,I7.unpinned,Y⟩
  | ret v=>obtain⟨x7,q,H7,I7,r7,Y⟩:=Y;exact⟨x7,q,H7,I7.unpinned,r7,Y⟩
end
def zmU {K:AH}{a:Addr}{xs:AT}{g:TG}{tb:TS}{D:Ends}{σ:St}{H:Hp}(Pv:Nat->St->Hp->Prop)(L:Pv 0 σ H)(O:∀i σ H,i<=xs.length->Pv i σ H->SqL K H a xs)
  (U:∀i x σ H,xs[i]?=some x->Pv i σ H->g x σ H λB H2=>tb { D with nx:=Pv (i+1),ct:=Pv (i+1),bk:=D.nx } B H2) (Y:∀ σ H,Pv xs.length σ H->D.nx σ H) :
  ∃W:Nat->Nat->St->Hp->Prop,(∃m,W 0 m σ H)/\∀i m σ H,W i m σ H->
   ((Itl K a).stop i H/\D.nx σ H)\/((Itl K a).go i H/\∃N:St->Hp->Prop,(∀ F H',N F H'->∃J,J<m/\W (i+1) J F H')/\∀x H',(Itl K a).yld i H x H'->g x σ H' λB H2=>tb { D with nx:=N,ct:=N,bk:=D.nx } B H2):=by
 show⟨λi m σ H=>m=xs.length - i/\i<=xs.length/\Pv i σ H,⟨xs.length,by simp,aG _,L⟩,?_⟩;rintro i m σ H ⟨rfl,hi,p⟩;have q:=O i σ H hi p;by_cases I:i<xs.length;show .inr ⟨⟨xs,xs[i],q,by simp[I]⟩,Pv (i+1),λF H' Z=>⟨xs.length - (i+1),by lia,rfl,I,Z⟩,λx H' y=>?_⟩;obtain⟨e,y⟩:=y;subst e;exact U i x σ _ (y xs q) p;have e:i=xs.length:=by lia
 subst e;exact .inl ⟨⟨xs,q,af _⟩,Y σ H p⟩
abbrev R2:=V->V->Hp->VK->Prop
def OpR (X:Cx)(f:Value->Value->Sem Value)(r:R2):Prop:=
 ∀ (pins:AB) (s:AZ) (σ:St) (H:Hp) (x y:V) (v u:Value) (Q:VK),Inv X pins σ H s->yG x v->yG y u->r x y H Q->
  Af X (f v u) (EP X pins σ Q) X.xe s
def UnR (X:Cx)(f:Value->Sem Value)(r:V->Hp->VK->Prop):Prop:=
 ∀ (pins:AB) (s:AZ) (σ:St) (H:Hp) (x:V) (v:Value) (Q:VK),Inv X pins σ H s->yG x v->r x H Q->
  Af X (f v) (EP X pins σ Q) X.xe s
def zct (X:Cx)(f:Value)(r:AT->Hp->VK->Prop):Prop:=
 ∀ (pins:AB) (s:AZ) (σ:St) (H:Hp) (xs:AT) (q:AN) (Q:VK),Inv X pins σ H s->z9 xs q->r xs H Q->
  Af X (call f q) (EP X pins σ Q) X.xe s
def TruR (X:Cx)(r:V->Hp->(Bool->Hp->Prop)->Prop):Prop:=
 ∀ (pins:AB) (s:AZ) (σ:St) (H:Hp) (x:V) (v:Value) (Q:Bool->Hp->Prop),Inv X pins σ H s->yG x v->r x H Q->
  Af X (truthy v) (TP X pins σ Q) X.xe s
def tOp (r:R2)(ta tb:TE):TE:=λσ H Q=>ta σ H λx H1=>tb σ H1 λy H2=>r x y H2 Q
def tUn (r:V->Hp->VK->Prop)(ta:TE):TE:=λσ H Q=>ta σ H λx H1=>r x H1 Q
def rI (C:Int->Int->Prop)(g:Int->Int->V):R2:=λx y H Q=>∃i j,x = .int i/\y = .int j/\C i j/\Q (g i j) H
def rI0 (g:Int->Int->V):R2:=λx y H Q=>∃i j,x = .int i/\y = .int j/\Q (g i j) H
def rU (g:Int->V):V->Hp->VK->Prop:=λx H Q=>∃i,x = .int i/\Q (g i) H
section
variable {X:Cx}{a b c:Expr}{ta tb tc:TE}{pos:Pos}
def zv1(J:PE X a ta)(L:PE X b tb){pins:AB}{σ:St}{H:Hp}{R:V->V->Hp->Prop}(I:Inv X pins σ H s)(h:ta σ H λx H1=>tb σ H1 λy H2=>R x y H2){Q:AA}{f:Value->Value->Sem Value}(O:∀v u F x y H2,Inv X pins σ H2 F->yG x v->yG y u->R x y H2->Af X (f v u) Q X.xe F) :
  Af X (eval a X.env) (λv q=>Af X (eval b X.env) (λu B=>Af X (f v u) Q X.xe B) X.xe q) X.xe s:=by
 show thn (J pins s σ H _ I h)  ?_;rintro v U ⟨x,H1,I1,Y,Z⟩;show thn (L pins U σ H1 _ I1 Z)  ?_;rintro u F ⟨y,H2,I2,r2,q2⟩;exact O v u F x y H2 I2 Y r2 q2
def zw9(F:OpR X (binaryOp B) r)(J:PE X a ta)(L:PE X b tb):PE X (.BinOp a B b pos) (tOp r ta tb):=by intro pins s σ H Q I h;exact wpAny_BinOp (zv1 J L I h λv u O x y H2 I2 U Y q=>F pins O σ H2 x y v u Q I2 U Y q)
def zxa(B:UnR X (unaryOp q) r)(F:PE X a ta):PE X (.UnaryOp q a pos) (tUn r ta):=by intro pins s σ H Q I h;exact UnaryOp_ (thn (F pins s σ H _ I h) <| by rintro v J ⟨x,H1,I1,L,O⟩;exact B pins J σ H1 x v Q I1 L O)
def opI{C:Int->Int->Prop}{g:Int->Int->Int}(B:∀ (i j:Int) (t u:Tok) (s:AZ) (Q:AA) (E:AA),C i j->Q (.int (g i j) s.toks) { s with toks:=s.toks+1 }->Af X (f (.int i t) (.int j u)) Q E s) :
  OpR X f (rI C λi j=>.int (g i j)):=by
 intro pins s σ H x y v u Q I F J h;obtain⟨i,j,rfl,rfl,L,q⟩:=h;obtain⟨t,rfl⟩:=F;obtain⟨t',rfl⟩:=J;exact B i j t t' s _ _ L ⟨.int (g i j),H,I.tok _,⟨_,rfl⟩,q⟩
def opI0{g:Int->Int->Int}(B:∀ (i j:Int) (t u:Tok) (s:AZ) (Q:AA) (E:AA),Q (.int (g i j) s.toks) { s with toks:=s.toks+1 }->Af X (f (.int i t) (.int j u)) Q E s) :
  OpR X f (rI0 λi j=>.int (g i j)):=by
 intro pins s σ H x y v u Q I F J h;obtain⟨i,j,rfl,rfl,q⟩:=h;obtain⟨t,rfl⟩:=F;obtain⟨t',rfl⟩:=J;exact B i j t t' s _ _ ⟨.int (g i j),H,I.tok _,⟨_,rfl⟩,q⟩
def zvG{g:Int->Int->Bool}(B:∀ (i j:Int) (t u:Tok) (s:AZ) (Q:AA) (E:AA),Q (.bool (g i j)) s->Af X (f (.int i t) (.int j u)) Q E s) :
  OpR X f (rI0 λi j=>.bl (g i j)):=by
 intro pins s σ H x y v u Q I F J h;obtain⟨i,j,rfl,rfl,q⟩:=h;obtain⟨t,rfl⟩:=F;obtain⟨t',rfl⟩:=J;exact B i j t t' s _ _ ⟨.bl (g i j),H,I,rfl,q⟩
def zsc (i j:Int):Prop:=0<j/\j<1073741824
def CPow (i j:Int):Prop:=0<=j/\j<=1000000/\i.natAbs<2 ^ 64
def zvl (i j:Int):Prop:=(-(2 ^ 64)<i/\i<2 ^ 64)\/(-(2 ^ 64)<j/\j<2 ^ 64)
def zvl.ok {i j:Int}(h:zvl i j):IntMulOk i j:=by
 rcases h with ⟨h1,h2⟩ | ⟨h1,h2⟩;exact .of_left (intBits_le_64 h1 h2);exact .of_right (intBits_le_64 h1 h2)
def ztK:OpR X (binaryOp .Add) (rI0 λi j=>.int (i+j)):=opI0 λ_ _ _ _ _ _ _ q=>add_int q
def ztS:OpR X (binaryOp .Sub) (rI0 λi j=>.int (i - j)):=opI0 λ_ _ _ _ _ _ _ q=>sub_int q
def ztO:OpR X (binaryOp .Mult) (rI zvl λi j=>.int (i * j)):=opI λ_ _ _ _ _ _ _ B q=>mul_int q B.ok
def zqB:OpR X (binaryOp .FloorDiv) (rI zsc λi j=>.int (i / j)):=opI λi j _ _ _ _ _ B q=>by have h1:(0:Int)<j:=B.1;have h2:j<1073741824:=B.2;exact floordiv_int (by lia) (by rw[Int.fdiv_eq_ediv_of_nonneg i (by lia)];exact q) (.inl (PyProof.noPylong_small (by lia)))
def ztN:OpR X (binaryOp .Mod) (rI (λ_ j=>0<j) λi j=>.int (i % j)):=opI λi j _ _ _ _ _ B q=>by have h1:(0:Int)<j:=B;exact mod_int' (by lia) (by rw[Int.fmod_eq_emod_of_nonneg i (by lia)];exact q)
def ztQ:OpR X (binaryOp .Pow) (rI CPow λi j=>.int (i ^ j.toNat)):=opI λ_ _ _ _ _ _ _ B q=>pow_int_small B.1 B.2.1 B.2.2 q
def unI{g:Int->Int}(B:∀ (i:Int) (t:Tok) (s:AZ) (Q:AA) (E:AA),Q (.int (g i) s.toks) { s with toks:=s.toks+1 }->Af X (f (.int i t)) Q E s) :
  UnR X f (rU λi=>.int (g i)):=by
 intro pins s σ H x v Q I F h;obtain⟨i,rfl,q⟩:=h;obtain⟨t,rfl⟩:=F;exact B i t s _ _ ⟨.int (g i),H,I.tok _,⟨_,rfl⟩,q⟩
def zvc:UnR X (unaryOp .USub) (rU λi=>.int (-i)):=unI λ_ _ _ _ _ q=>neg_int q
end
def zxq:V->V->Bool
 | .non,.non=>true | .non,.int _=>true | .int _,.non=>true | .non,.bl _=>true | .bl _,.non=>true | .non,.str _=>true | .str _,.non=>true
 | .int _,.int _=>true | .bl _,.bl _=>true | .str _,.str _=>true | .byt _,.byt _=>true
 | .int _,.str _=>true | .str _,.int _=>true | .bl _,.str _=>true | .str _,.bl _=>true
 | _,_=>false
def rEq:R2:=λx y H Q=>zxq x y=true/\Q (.bl (decide (x=y))) H
def rNe:R2:=λx y H Q=>zxq x y=true/\Q (.bl (!decide (x=y))) H
def zjN {i j:Int}:decide (V.int i=V.int j)=(i==j):=by rw[bP];simp
def zoC:decide (V.bl i=V.bl j)=(i==j):=by rw[bP];simp
def zjO:decide (V.str i=V.str j)=(i==j):=by rw[bP];simp
def zjM:decide (V.byt i=V.byt j)=(i.toList==j.toList):=by
 rw[bP];right
section
variable {X:Cx}{a b c:Expr}{ta tb tc:TE}{pos:Pos}
def yb{pins:AB}{σ:St}{H:Hp}{Q:VK}(I:Inv X pins σ H s)(q:Q (.bl k) H)(e:k=B):EP X pins σ Q (.bool B) s:=by subst e;exact⟨.bl k,H,I,rfl,q⟩
def zwY:OpR X (compareOp .Eq) rEq:=by
 intro pins s σ H x y v u Q I J B h;obtain⟨F,q⟩:=h
 cases x with
 | non=>
  cases J
  cases y with
  | non=>cases B;exact PySem.EqNone.eq_none_none (yb I q (by simp))
  | bl j=>cases B;exact PySem.EqNone.eq_none_bool (yb I q (by simp))
  | int j=>obtain⟨t',rfl⟩:=B;exact PySem.EqNone.eq_none_int (yb I q (by simp))
  | str j=>obtain⟨t',rfl⟩:=B;exact PySem.EqNone.eq_none_str (yb I q (by simp))
  | _=>exact absurd (show false=true from F) aK
 | bl i=>
  cases J
  cases y with
  | non=>cases B;exact PySem.EqNone.eq_bool_none (yb I q (by simp))
  | bl j=>cases B;exact eq_bool (yb I q zoC)
  | str j=>obtain⟨t',rfl⟩:=B;exact PySem.EqMixed.eq_bool_str (yb I q (by simp))
  | _=>exact absurd (show false=true from F) aK
 | int i=>
  obtain⟨t,rfl⟩:=J
  cases y with
  | non=>cases B;exact PySem.EqNone.eq_int_none (yb I q (by simp))
  | int j=>obtain⟨t',rfl⟩:=B;exact eq_int (yb I q zjN)
  | str j=>obtain⟨t',rfl⟩:=B;exact PySem.EqMixed.eq_int_str (yb I q (by simp))
  | _=>exact absurd (show false=true from F) aK
 | str i=>
  obtain⟨t,rfl⟩:=J
  cases y with
  | non=>cases B;exact PySem.EqNone.eq_str_none (yb I q (by simp))
  | bl j=>cases B;exact PySem.EqMixed.eq_str_bool (yb I q (by simp))
  | int j=>obtain⟨t',rfl⟩:=B;exact PySem.EqMixed.eq_str_int (yb I q (by simp))
  | str j=>obtain⟨t',rfl⟩:=B;exact eq_str (yb I q zjO)
  | _=>exact absurd (show false=true from F) aK
 | byt i=>
  obtain⟨t,rfl⟩:=J
  cases y with
  | byt j=>obtain⟨t',rfl⟩:=B;exact PySem.W.eq_bytes (yb I q zjM)
  | _=>exact absurd (show false=true from F) aK
 | _=>cases y <;> exact absurd (show false=true from F) aK
def zw3:OpR X (compareOp .NotEq) rNe:=by
 intro pins s σ H x y v u Q I J B h;obtain⟨F,q⟩:=h
 cases x with
 | non=>
  cases J
  cases y with
  | non=>cases B;exact PySem.EqNone.ne_none_none (yb I q (by simp))
  | bl j=>cases B;exact PySem.EqNone.ne_none_bool (yb I q (by simp))
  | int j=>obtain⟨t',rfl⟩:=B;exact PySem.EqNone.ne_none_int (yb I q (by simp))
  | str j=>obtain⟨t',rfl⟩:=B;exact PySem.EqNone.ne_none_str (yb I q (by simp))
  | _=>exact absurd (show false=true from F) aK
 | bl i=>
  cases J
  cases y with
  | non=>cases B;exact PySem.EqNone.ne_bool_none (yb I q (by simp))
  | bl j=>cases B;exact ne_bool (yb I q (congrArg not zoC))
  | str j=>obtain⟨t',rfl⟩:=B;exact PySem.EqMixed.ne_bool_str (yb I q (by simp))
  | _=>exact absurd (show false=true from F) aK
 | int i=>
  obtain⟨t,rfl⟩:=J
  cases y with
  | non=>cases B;exact PySem.EqNone.ne_int_none (yb I q (by simp))
  | int j=>obtain⟨t',rfl⟩:=B;exact ne_int (yb I q (congrArg not zjN))
  | str j=>obtain⟨t',rfl⟩:=B;exact PySem.EqMixed.ne_int_str (yb I q (by simp))
  | _=>exact absurd (show false=true from F) aK
 | str i=>
  obtain⟨t,rfl⟩:=J
  cases y with
  | non=>cases B;exact PySem.EqNone.ne_str_none (yb I q (by simp))
  | bl j=>cases B;exact PySem.EqMixed.ne_str_bool (yb I q (by simp))
  | int j=>obtain⟨t',rfl⟩:=B;exact PySem.EqMixed.ne_str_int (yb I q (by simp))
  | str j=>obtain⟨t',rfl⟩:=B;exact ne_str (yb I q (congrArg not zjO))
  | _=>exact absurd (show false=true from F) aK
 | byt i=>
  obtain⟨t,rfl⟩:=J
  cases y with
  | byt j=>obtain⟨t',rfl⟩:=B;exact PySem.W.ne_bytes (yb I q (congrArg not zjM))
  | _=>exact absurd (show false=true from F) aK
 | _=>cases y <;> exact absurd (show false=true from F) aK
def zw2:OpR X (compareOp .Lt) (rI0 λi j=>.bl (decide (i<j))):=zvG λ_ _ _ _ _ _ _ q=>lt_int q
def zw1:OpR X (compareOp .LtE) (rI0 λi j=>.bl (decide (i<=j))):=zvG λ_ _ _ _ _ _ _ q=>le_int q
def zw0:OpR X (compareOp .Gt) (rI0 λi j=>.bl (decide (j<i))):=zvG λ_ _ _ _ _ _ _ q=>gt_int q
def zwZ:OpR X (compareOp .GtE) (rI0 λi j=>.bl (decide (j<=i))):=zvG λ_ _ _ _ _ _ _ q=>ge_int q
def zy(b:Expr)(h:q≠.In:=by ext)(h2:q≠.NotIn:=by ext):behindInMarks q b=false:=by
 have B:(q==CmpOp.In)=false:=by cases q <;> first | rfl | exact absurd rfl h
 have F:(q==CmpOp.NotIn)=false:=by cases q <;> first | rfl | exact absurd rfl h2
 cases b <;> simp[behindInMarks,B,F]
def zqK(F:OpR X (compareOp B) r)(J:PE X a ta)(L:PE X b tb)(O:behindInMarks B b=false):PE X (.Compare a [B] [b] pos) (tOp r ta tb):=by intro pins s σ H Q I h;exact wpAny_Compare1 (zv1 J L I h λv u U x y H2 I2 Y Z q=>F pins U σ H2 x y v u Q I2 Y Z q) O
def zmc (t:TE):TT:=λσ H Q=>t σ H λx H'=>∃k,x = .bl k/\Q k H'
def zq3(B:OpR X (compareOp q) r)(F:PE X a ta)(J:PE X b tb)(L:behindInMarks q b=false):PT X (.Compare a [q] [b] pos) (zmc (tOp r ta tb)):=by
 intro pins s σ H Q I h
 show wpAny_isTrue_Compare1 (thn (F pins s σ H _ I h) λv O ⟨x,H1,I1,U,Y⟩=>thn (J pins O σ H1 _ I1 Y) λu Z ⟨y,H2,I2,r2,q2⟩=>
  thn (B pins Z σ H2 x y v u _ I2 U r2 q2) λc s3 ⟨z,H3,I3,r3,k,e,q3⟩=>?_) L
 subst e;cases r3;exact ce ⟨H3,I3,q3⟩
def zl8 (r q:R2)(ta tb tc:TE):TE:=λσ H Q=>ta σ H λx H1=>tb σ H1 λy H2=>r x y H2 λz H3=>∃k,z = .bl k/\
 (if k=true then tc σ H3 λw' H4=>q y w' H4 Q else Q (.bl false) H3)
def znM(Y:OpR X (compareOp F) r)(J:OpR X (compareOp B) L)(Z:PE X a ta)(hb:PE X b tb)(hc:PE X c tc)(hm:lastMarks [F,B] [b,c]=false:=by with_unfolding_all rfl):PT X (.Compare a [F,B] [b,c] pos) (zmc (zl8 r L ta tb tc)):=by
 intro pins s σ H Q I h
 show isTrue_chain (thn (Z pins s σ H _ I h) λv s1 ⟨x,H1,I1,r1,q1⟩=>test_link (thn (hb pins s1 σ H1 _ I1 q1) λu s2 ⟨y,H2,I2,O,q2⟩=>
  thn (Y pins s2 σ H2 x y v u _ I2 r1 O q2) λd s3 ⟨z,H3,I3,r3,k,e,U⟩=>?_)) hm
 subst e;cases r3;show ce ?_
 cases k with
 | false=>
  obtain⟨k',e',q'⟩:=U;cases e';exact ite_ff ⟨H3,I3,q'⟩
 | true=>
  show ite_tt (test_last (thn (hc pins s3 σ H3 _ I3 U) λw' s4 ⟨z',H4,I4,r4,q4⟩=>thn (J pins s4 σ H4 y z' u w' _ I4 O r4 q4)  ?_));rintro d' s5 ⟨z2,H5,I5,r5,k2,e2,q5⟩;subst e2;cases r5;exact ce ⟨H5,I5,q5⟩
def zvZ (K:AH)(x:V)(H:Hp)(k:Bool):Prop:=
 match x with
 | .non=>k=false
 | .bl b=>k=b
 | .int i=>k=(i != 0)
 | .str y=>y.length<=sizeLine/\k=((y.length:Int) != 0)
 | .byt y=>y.size<=sizeLine/\k=((y.size:Int) != 0)
 | .ref p=>(∃xs,SqL K H p xs/\k = !xs.isEmpty)\/(∃xs,SqT K H p xs/\k = !xs.isEmpty)\/∃kvs,H p=some (.dK kvs)/\k = !kvs.isEmpty
 | _=>False
def ziP {κ:Type}{kvs:List (κ×V)}{vs:List (κ×Value)}(r:KV kvs vs):(!vs.isEmpty) = !kvs.isEmpty:=by cases r <;> rfl
def zdL(r:z9 xs its):(!its.toArray.isEmpty) = !xs.isEmpty:=by cases r <;> simp
def zfV:(sizeLine:Nat)<2 ^ 63:=by rw[br];decide
def zu4:TruR X (λx H Q=>∃k,zvZ X.K x H k/\Q k H):=by
 intro pins s σ H x v Q I J h;obtain⟨k,e,q⟩:=h;have Y:=zfV;have Z:sizeLine=16777216:=br
 cases x with
 | non=>
  cases J;have B:k=false:=e;subst B;exact truthy_none ⟨H,I,q⟩
 | bl b=>
  cases J;have B:k=b:=e;subst B;exact ce ⟨H,I,q⟩
 | int i=>
  obtain⟨t,rfl⟩:=J;have B:k=(i != 0):=e;subst B;exact PySem.P.truthy_int ⟨H,I,q⟩
 | str y=>
  obtain⟨t,rfl⟩:=J;obtain⟨O,B⟩:y.length<=sizeLine/\k=((y.length:Int) != 0):=e;subst B;exact PySem.P.truthy_str (by lia) ⟨H,I.tok _,q⟩
 | byt y=>
  obtain⟨t,rfl⟩:=J;obtain⟨O,B⟩:y.size<=sizeLine/\k=((y.size:Int) != 0):=e;subst B;exact PySem.W.truthy_bytes (by lia) ⟨H,I.tok _,q⟩
 | ref p=>
  cases J;have B:(∃xs,SqL X.K H p xs/\k = !xs.isEmpty)\/(∃xs,SqT X.K H p xs/\k = !xs.isEmpty)\/∃kvs,H p=some (.dK kvs)/\k = !kvs.isEmpty:=e;rcases B with ⟨xs,hx,B⟩ | ⟨xs,hx,B⟩ | ⟨kvs,hx,B⟩;subst B;obtain⟨its,r,pl,L⟩:=I.list hx;have F:=r.length;exact wpAny_truthy_list pl.isList (by simp only[aS];lia) ⟨H,I.tok _,by rw[zdL r];exact q⟩;subst B;obtain⟨its,r,pl,L⟩:=I.tuple hx;have F:=r.length;exact truthy_tuple pl (by simp only[aS];lia) ⟨H,I.tok _,by rw[zdL r];exact q⟩;subst B;obtain⟨L,U,vs,r,m⟩:kvs.length<=sizeLine/\(p==sysModules)=false/\∃vs,KV kvs vs/\s.heap.DictOf (zR X.prog X.w) p vs:=I.hok p _ hx;have F:kvs.length=vs.length:=dQ r;exact wpAny_truthy_dict U m (by lia) ⟨H,I.tok _,by rw[ziP r];exact q⟩
 | _=>exact (show False from e).elim
def znN (ha:PE X a ta)(he:∀whole,isTrue a X.env whole=(do let v <- whole;standAt a.pos;holding [v] (truthy v))) :
  PT X a (λσ H Q=>ta σ H λx H'=>∃k,zvZ X.K x H' k/\Q k H'):=by
 intro pins s σ H Q I h;exact isTrue_plain (thn (ha pins s σ H _ I h) <| by rintro v s1 ⟨x,H1,I1,r1,q1⟩;exact zu4 pins s1 σ H1 x v Q I1 r1 q1) (he _)
def zaf(r:z9 [x] q):∃u,q=[u]/\yG x u:=by
 cases r with
 | cons B F=>cases F;exact⟨_,rfl,B⟩
def zxP(r:z9 [x,y] q):∃u w',q=[u,w']/\yG x u/\yG y w':=by
 cases r with
 | cons B F=>
  cases F with
  | cons I J=>cases J;exact⟨_,_,rfl,B,I⟩
def zmB:zct X (.builtin "abs") (λxs H Q=>∃i,xs=[.int i]/\Q (.int (if i<0 then -i else i)) H):=by intro pins s σ H xs B Q I r h;obtain⟨i,rfl,q⟩:=h;obtain⟨u,rfl,t,rfl⟩:=zaf r;exact call_abs_int λu tk=>⟨.int (if i<0 then -i else i),H,I.tok _,⟨_,rfl⟩,q⟩
def zsk (K:AH)(x:V)(H:Hp)(n:Nat):Prop:=
 match x with
 | .str y=>y.length<=sizeLine/\n=y.length
 | .byt y=>y.size<=sizeLine/\n=y.size
 | .ref p=>(∃xs,SqL K H p xs/\n=xs.length)\/∃xs,SqT K H p xs/\n=xs.length
 | _=>False
def zmD:zct X (.builtin "len") (λxs H Q=>∃x n,xs=[x]/\zsk X.K x H n/\Q (.int n) H):=by
 intro pins s σ H xs us Q I r h;obtain⟨x,n,rfl,e,q⟩:=h;obtain⟨u,rfl,rx⟩:=zaf r;have hl:=zfV;have hs:sizeLine=16777216:=br
 cases x with
 | str y=>
  obtain⟨t,rfl⟩:=rx;obtain⟨hy,e'⟩:y.length<=sizeLine/\n=y.length:=e;subst e';exact len_str (by lia) ⟨.int _,H,I.tok _,⟨_,rfl⟩,q⟩
 | byt y=>
  obtain⟨t,rfl⟩:=rx;obtain⟨hy,e'⟩:y.size<=sizeLine/\n=y.size:=e;subst e';exact PySem.W.len_bytes (by lia) ⟨.int _,H,I.tok _,⟨_,rfl⟩,q⟩
 | ref p=>
  cases rx;have e':(∃xs,SqL X.K H p xs/\n=xs.length)\/∃xs,SqT X.K H p xs/\n=xs.length:=e;rcases e' with ⟨xs,hx,e'⟩ | ⟨xs,hx,e'⟩;subst e';obtain⟨its,r',pl,hz⟩:=I.list hx;have hlen:=r'.length;exact Calls.call_len_list pl.isList (by simp only[aS];lia) ⟨.int xs.length,H,I.tok _,⟨_,by simp only[aS];rw[hlen]⟩,q⟩;subst e';obtain⟨its,r',pl,hz⟩:=I.tuple hx;have hlen:=r'.length;exact len_tuple pl (by simp only[aS];lia) ⟨.int xs.length,H,I.tok _,⟨_,by simp only[aS];rw[hlen]⟩,q⟩
 | _=>exact (show False from e).elim
end
structure ObjM (h:Heap)(x dx C:Addr)(mA:AI):Prop where
 obj:h.get? x=some (PySem.W.instObj C dx)
 ns:h.Ns1 dx mA
 ne:dx≠x
def zkP {h:Heap}{dx:Addr}{mA:AI}(n:h.Ns1 dx mA):∃F,h.get? dx=some F/\∀name,PySem.W.lookIn name F=some (mA name):=by
 obtain⟨o,es,Y,I,J,L,_,O⟩:=n;show⟨o,I,λname=>?_⟩;have e:=O name;unfold nsFind findBy at e;rw[<- Array.find?_toList] at e;unfold PySem.W.lookIn;rw[J];dsimp only;split;right
 ·rename_i q;rw[q] at e
  have a:es.toList.any (·.refKey)=false:=by rw[eP];intro y U;obtain⟨z,t,B⟩:=L y (dL.mp U);simp[DictEntry.refKey,B]
  grind
def ObjM.look(I:ObjM h x dx C mA):∃q,PySem.W.InstAt h x (PySem.W.instObj C dx) C (some q)/\∀name,PySem.W.lookIn name q=some (mA name):=
 let ⟨q,ho,hl⟩:=zkP I.ns
 ⟨q,⟨I.obj,rfl,rfl,ho⟩,hl⟩
section
variable {prog:Aa}{w:Ab}{A:Ae}{E:AA}{s:AZ}{K:AH}{x dx C f:Addr}{mA:AI}{name:Str}{v:Value}
end
def ziz.some_of(r:ziz (some v) o):∃u,o=some u/\yG v u:=by
 cases o with
 | none=>exact (show False from r).elim
 | some u=>exact⟨u,rfl,r⟩
section
variable {P:Aa}{w:Ab}{H H':Hp}{h h':Heap}{a C dx:Addr}{fs fs':List (Str×V)}
def zpR (B:HOk P w H h)(e:H a=some (.ins C dx fs)):∃mA,ObjM h a dx C mA/\(∀f,ziz (fs.lookup f) (mA f))/\PySem.Within mA (fs.map (·.1))/\fs.length<=1000/\H dx=some (.own a):=by obtain⟨d,z,F,ob,mA,n,r,q⟩:=(show yn P w H h a (.ins C dx fs) from B a _ e);exact⟨mA,⟨ob,n,F⟩,r,q,z,d⟩
end
structure Cls (K:AH)(C:Addr):Prop where
 pg:PySem.W.plainGet K C Str.empty=true
 hd:PySem.W.hasDictIn K C=true
 po:PySem.W.plainOver K C=true
 sa:PySem.W.findIn K (.ref C) "__setattr__" = some (some (.builtin "object.__setattr__"))
def Cls.get {K:AH}{C:Addr}(c:Cls K C)(f:Str):PySem.W.plainGet K C f=true:=c.pg
section
variable {X:Cx}{pins:AB}{σ:St}{H:Hp}{s:AZ}{a C dx:Addr}{fs:List (Str×V)}{f:Str}{v:V}{A:Ae}{E:AA}
variable {o e value:Expr}{pos pos' tpos:Pos}{ta tv:TE}
variable {Q:AA}{c:Value}{b:Bool}
inductive TyOf (K:AH) (H:Hp):V->Value->Prop where
 | non:TyOf K H .non (.type "NoneType")
 | bl (x:Bool):TyOf K H (.bl x) (.type "bool")
 | int (i:Int):TyOf K H (.int i) (.type "int")
 | str (x:Str):TyOf K H (.str x) (.type "str")
 | flt (x:UInt64):TyOf K H (.flt x) (.type "float")
 | lst {a:Addr} {xs:AT} (e:H a=some (.lst xs)):TyOf K H (.ref a) (.type "list")
 | frz {a:Addr} {o:Obj} {xs:AT} (e:H a=some (.frz o (.lst xs))):TyOf K H (.ref a) (.type "list")
 | tup {a:Addr} {xs:AT} (e:H a=some (.tup xs)):TyOf K H (.ref a) (.type "tuple")
 | dK {a:Addr} {kvs:List (Key×V)} (e:H a=some (.dK kvs)):TyOf K H (.ref a) (.type "dict")
 | dT {a:Addr} {kvs:List (List Key×V)} (e:H a=some (.dT kvs)):TyOf K H (.ref a) (.type "dict")
 | ins {a C dx:Addr} {fs:List (Str×V)} (e:H a=some (.ins C dx fs)) (cl:Cls K C) (ha:PySem.W.findIn K (.ref C) "__class__" = some (some (.builtin "object.__class__")))
   (hn:PySem.W.specialIn K (.builtin "object.__class__") "__get__" = some (some (.builtin "getset_descriptor.__get__"))) (htk:PySem.W.takesIn K (.builtin "object.__class__")=some true)
   (hm:PySem.W.mroIn K C (.type "object")=some true):TyOf K H (.ref a) (.ref C)
def zkr(I:Inv X pins σ H s)(B:yG x u)(ty:TyOf X.K H x t)(e:PySem.W.kitOne X.K t c=some b)(h:∀tk,Q (.bool b) { s with toks:=tk }) :
  wpAny (model X.prog X.w) A (call (.builtin "isinstance") [u,c]) Q E s:=by
 cases ty with
 | non=>cases (show u=Value.none from B);exact bG PySem.W.kitx_none I.kIn True.intro e (λz=>nomatch z) h
 | bl y=>cases (show u=Value.bool y from B);exact bG PySem.W.kitx_bool I.kIn True.intro e (λz=>nomatch z) h
 | int i=>obtain⟨t,q⟩:=(show ∃t,u=Value.int i t from B);cases q;exact bG PySem.W.kitx_int I.kIn True.intro e (λz=>nomatch z) h
 | str y=>obtain⟨t,q⟩:=(show ∃t,u=Value.str y t from B);cases q;exact bG PySem.W.kitx_str I.kIn True.intro e (λz=>nomatch z) h
 | flt y=>obtain⟨t,q⟩:=(show ∃t,u=Value.float y t from B);cases q;exact bG PySem.W.kitx_float I.kIn True.intro e (λz=>nomatch z) h
 | @lst a xs F=>
  cases (show u=Value.ref a from B);obtain⟨_,_,n,_,h1⟩:=(show yn X.prog X.w H s.heap a (.lst xs) from I.hok a _ F);exact bG PySem.W.kitx_list I.kIn ⟨_,h1,rfl⟩ e (λz=>nomatch z) h
 | @frz a ob xs F=>
  cases (show u=Value.ref a from B);obtain⟨_,_,_,n,_,h1⟩:=(show yn X.prog X.w H s.heap a (.frz ob (.lst xs)) from I.hok a _ F);exact bG PySem.W.kitx_list I.kIn ⟨_,h1,rfl⟩ e (λz=>nomatch z) h
 | @tup a xs F=>
  cases (show u=Value.ref a from B);obtain⟨_,_,_,p⟩:=(show yn X.prog X.w H s.heap a (.tup xs) from I.hok a _ F);obtain⟨o,h1,h2,_⟩:=p;exact bG PySem.W.kitx_tuple I.kIn ⟨o,h1,h2⟩ e (λz=>nomatch z) h
 | @dK a kvs F=>
  cases (show u=Value.ref a from B);obtain⟨_,_,vs,_,p⟩:=(show yn X.prog X.w H s.heap a (.dK kvs) from I.hok a _ F);obtain⟨o,es,Y,h1,h2,_⟩:=p;exact bG PySem.W.kitx_dict I.kIn ⟨o,h1,h2.1⟩ e (λz=>nomatch z) h
 | @dT a kvs F=>
  cases (show u=Value.ref a from B);obtain⟨_,_,xs,_,o,es,Y,h1,h2,_⟩:=(show yn X.prog X.w H s.heap a (.dT kvs) from I.hok a _ F);exact bG PySem.W.kitx_dict I.kIn ⟨o,h1,h2.1⟩ e (λz=>nomatch z) h
 | @ins a C dx fs F U Z hn L hm=>
  cases (show u=Value.ref a from B);obtain⟨mA,O,_⟩:=zpR I.hok F;obtain⟨od,J,_⟩:=O.look;exact bG (PySem.W.kitx_own (U.get _) U.hd Z hn L hm) I.kIn J e (λz=>nomatch z) h
end
structure Room (k:Nat)(A:Ae):Prop where
 hd:A.handled=none
 dp:A.depth+3 * k+5<recursionLimit
 un:A.units+16 * k+200<cLine
def Room.mono {j k:Nat}{A:Ae}(r:Room k A)(h:j<=k):Room j A:=⟨r.hd,by have:=r.dp;lia,by have:=r.un;lia⟩
def Room.deeper(r:Room (k+1) A)(env:Env):Room k (A.deeper env):=
 ⟨r.hd,by have:=r.dp;change A.depth+1+3 * k+5<_;lia,by have:=r.un;change A.units+3+16 * k+200<_;lia⟩
def Room.depth(r:Room k A):A.depth<recursionLimit:=by have:=r.dp;lia
def Room.units(r:Room k A):A.units+64<cLine:=by have:=r.un;lia
def zja:TA:=λ_ H Q=>Q [] H
def zbL (ta:TE)(q:TA):TA:=λσ H Q=>ta σ H λx H1=>q σ H1 λxs H2=>Q (x::xs) H2
section
variable {X:Cx}{e:Expr}{es:AO}{te:TE}{t:TA}{pos:Pos}
def ztW:PA X [] zja:=λ_ _ _ _ H Q I h=>Calls.spliced_nil ⟨[],H,I,.nil,h⟩
def zqG (q:PE X e te)(B:PA X es t)(F:starEach (e::es) X.env=(false,eval e X.env)::starEach es X.env:=by rfl):PA X (e::es) (zbL te t):=by intro pos pins s σ H Q I h;rw[F];change wpAny _ _ (spliced ((false,eval e X.env)::backTo pos (starEach es X.env))) _ _ s;show eo (thn (q pins s σ H _ I h)  ?_);rintro u J ⟨x,H1,I1,L,O⟩;exact thn (B pos pins J σ H1 _ I1 O) <| by rintro Z s2 ⟨xs,H2,I2,U,Y⟩;exact⟨x::xs,H2,I2,.cons L U,Y⟩
end
abbrev Sp:=AT->Hp->VK->XK->Prop
abbrev CXT:=List Env->Hp->AZ->XK->AA
structure Env0 (P:Aa)(w:Ab)(K:AH)(mg:AI)(base:Heap)(A:Ae)(outer:List Env)(s:AZ)(H:Hp):Prop where
 frames:A.frames=some outer
 mod:Mod K mg base
 bs:∀b o,base.get? b=some o->s.heap.get? b=some o/\H b=none
 bsz:base.objs.size<=s.heap.objs.size
 funs:s.heap.FunFrames base outer
 frf:∀b∈frs outer,H b=none
 hok:HOk P w H s.heap
 bare:AllBare s.gens
def CE (q:List Env)(P:Aa)(w:Ab)(H:Hp)(s:AZ)(Q:VK)(u:Value)(s':AZ):Prop:=
 ∃v H',s'.os=s.os/\AllBare s'.gens/\Un (frs q) [] H H' s.heap s'.heap/\HOk P w H' s'.heap/\yG v u/\Q v H'
def CR (CX:CXT)(q:List Env)(P:Aa)(w:Ab)(H:Hp)(s:AZ)(Q:VK)(E:XK)(r:Result)(s':AZ):Prop:=
 match r with
 | .ok (.ret u)=>CE q P w H s Q u s'
 | .ok _=>False
 | .error e=>CX q H s E e s'
structure FnOk (P:Aa)(w:Ab)(K:AH)(mg:AI)(base:Heap)(CX:CXT)(k:Nat)(f:Addr)(fd:Ac)(ps:AM)(sp:Sp):Prop where
 len:∀vs H Q E,sp vs H Q E->vs.length=ps.length
 run:∀ (A:Ae) (outer:List Env) (s:AZ) (H:Hp) (args:Args) (us:AN) (vs:AT) (Q:VK) (E:XK),Room k A->Env0 P w K mg base A outer s H->BindsTo s fd args (ps.zip us)->z9 vs us->sp vs H Q E->
  codeAny (model P w) A (.call (.ref f) args) (CR CX outer P w H s Q E) s
def FnOk.mono{P:Aa}{w:Ab}{K:AH}{mg:AI}{base:Heap}{CX:CXT}{f:Addr}{fd:Ac}{ps:AM}(F:FnOk P w K mg base CX j f fd ps sp)(h:j<=k) :
  FnOk P w K mg base CX k f fd ps sp:=⟨F.len,λA q s H args B vs Q E I=>F.run A q s H args B vs Q E (I.mono h)⟩
def FnOk.imp{P:Aa}{w:Ab}{K:AH}{mg:AI}{base:Heap}{CX:CXT}{f:Addr}{fd:Ac}{ps:AM}{sp I:Sp}(F:FnOk P w K mg base CX k f fd ps sp)(h:∀vs H Q E,I vs H Q E->sp vs H Q E):FnOk P w K mg base CX k f fd ps I:=
 ⟨λvs H Q E q=>F.len vs H Q E (h _ _ _ _ q),λA B s H args J vs Q E L O U Y Z=>F.run A B s H args J vs Q E L O U Y (h _ _ _ _ Z)⟩
section
variable {X:Cx}{pins:AB}{σ:St}{H:Hp}{s s':AZ}
def Inv.env0 (I:Inv X pins σ H s):Env0 X.prog X.w X.K X.mg X.base X.A X.stack s H:=
 ⟨I.ok.frames,I.ok.mod,I.bs,ar I.ok.bsz I.sz,I.stack,I.stkFree,I.hok,I.bare⟩
def Inv.after(I:Inv X pins σ H s)(h:CE X.stack X.prog X.w H s Q u s'):EP X pins σ Q u s':=by obtain⟨v,H',L,B,O,F,r,q⟩:=h;obtain⟨U,g,d,t,J⟩:=s';obtain rfl:J=s.os:=L;exact⟨v,H',I.call (h':=U) (g':=g) (d':=d) (t':=t) (ch:=[]) O F B (λb z=>absurd z (by simp)),r,q⟩
end
def zhr (sp:Sp)(dvs:AT)(E:XK)(t:TA):TE:=λσ H Q=>t σ H λvs H1=>sp (vs++dvs) H1 Q E
def zix (K:AH)(fd:Ac)(ps:AM)(ds:AN):Prop:=
 ∀ (s:AZ) (q:AN),K.In s.heap->(q++ds).length=ps.length->BindsTo s fd ⟨q,[]⟩ (ps.zip (q++ds))
def zix.all {K:AH}{fd:Ac}{ps:AM}(h:∀q:AN,q.length=ps.length->bindArgs fd ⟨q,[]⟩=pure (ps.zip q)):zix K fd ps []:=λs q _ B=>by rw[dU] at B ⊢;exact .of_eq (h q B)
def zjh (CX:CXT)(X:Cx)(E:XK):Prop:=∀ (pins:AB) (σ:St) (H:Hp) (s:AZ) (e:Value) (s':AZ),Inv X pins σ H s->CX X.stack H s E e s'->X.xe e s'
section
variable {X:Cx}{CX:CXT}{k:Nat}{f C:Addr}{fd:Ac}{ps:AM}{sp:Sp}{dvs:AT}{ds:AN}{E:XK}{x m:Str}{p pos apos:Pos}{e o:Expr}{es:AO}{ta:TE}{t:TA}
def zuO{pins:AB}{σ:St}{H:Hp}{s:AZ}{Q:VK}{vs:AT}(F:FnOk X.prog X.w X.K X.mg X.base CX k f fd ps sp)(L:Room k X.A)(O:zix X.K fd ps ds)(U:z9 dvs ds)(Y:zjh CX X E)(I:Inv X pins σ H s)(r:z9 vs q)(h:sp (vs++dvs) H Q E):Af X (call (.ref f) q) (EP X pins σ Q) X.xe s:=by
 have J:z9 (vs++dvs) (q++ds):=r.append U;have Z:(q++ds).length=ps.length:=by rw[<- J.length];exact F.len _ _ _ _ h
 show wpAny_call (dy (F.run X.A X.stack s H ⟨q,[]⟩ (q++ds) (vs++dvs) Q E L I.env0 (O s q I.kIn Z) J h) λr s' B=>?_)
 cases r with
 | error e=>exact Y pins σ H s e s' I B
 | ok fl=>
  cases fl with
  | ret u=>exact I.after B
  | next=>exact False.elim B
  | brk=>exact False.elim B
  | cont=>exact False.elim B
def zqJ (F:FnOk X.prog X.w X.K X.mg X.base CX k f fd ps sp)(L:Room k X.A)(O:Gl X x)(U:X.mg x=some (.ref f))(Y:PySem.W.keepIn X.K (.ref f)=true)(Z:zix X.K fd ps ds)(hd:z9 dvs ds)(hx:zjh CX X E)
  (ha:PA X (e::es) t) (B:Ah x:=by ext) (he:starEach (e::es) X.env=(false,eval e X.env)::starEach es X.env:=by rfl) (J:(backTo pos (starEach es X.env)).any (·.1)=false:=by rfl) :
  PE X (.Call (.Name x p) (e::es) [] pos) (zhr sp dvs E t):=by
 intro pins s σ H Q I h;show db (zqe I O U ?_ B);show PySem.W.callWith_K (h₀:=X.base) I.ok.mod.kin Y (thn (ha pos pins s σ H _ I h) λus s1 ⟨vs,H1,I1,r,q⟩=>⟨I1.kIn,?_⟩) he J;exact zuO F L Z hd hx I1 r q
variable {ks:AM}{kpos:Pos}{kws:List Keyword}{te:TE}{tk:TA}{nm:Option Str}
variable {g:AN->AN->AN}{gV:AT->AT->AT}
end
structure FnScope (N P:AM)(sc:Scope):Prop where
 kind:sc.kind = .function
 co:sc.isCoroutine=false
 gen:sc.isGenerator=false
 nd:N.Nodup
 pre:N.take P.length=P
 par:∀x∈P,sc.names.lookup x=some .local\/sc.names.lookup x=some .cell
 nofree:∀y∈sc.names,y.2≠.free
def zfo {B:Str->Option NameKind}{x:Str}:∀ {q:List (Str×Value)} {m:AI},(∀v,(x,v)∉q)->bindL B q m x=m x
 | [],_,_=>rfl
 | (n,v)::r,m,h=>by
  unfold bindL;rw[zfo λw F=>h w (am _ F)];split
  all_goals grind
def zfm {B:Str->Option NameKind}{x:Str}:∀ {q:List (Str×Value)} {m:AI},(∀v,(x,v)∉q)->bindC B q m x=m x
 | [],_,_=>rfl
 | (n,v)::r,m,h=>by
  unfold bindC;rw[zfm λw F=>h w (am _ F)];split
  all_goals grind
def zfn {q:Str->Option NameKind}{x:Str}{v:Value}:∀ {P:AM} {vs:AN} {i:Nat} {m:AI},P.Nodup->P[i]?=some x->vs[i]?=some v->q x=some .local->
  bindL q (P.zip vs) m x=some v
 | [],_,_,_,_,h,_,_=>by simp at h
 | _::_,[],_,_,_,_,h,_=>by simp at h
 | p::P,w::vs,0,m,B,h1,h2,F=>by simp at h1 h2;subst h1;subst h2;change bindL q ((p,w)::P.zip vs) m p=_;unfold bindL;rw[zfo λv I=>(cj.mp B).1 (List.of_mem_zip I).1,if_pos F];simp
 | p::P,w::vs,i+1,m,B,h1,h2,F=>by change bindL q ((p,w)::P.zip vs) m x=_;unfold bindL;exact zfn (i:=i) (cj.mp B).2 (by simpa using h1) (by simpa using h2) F
def zfl {q:Str->Option NameKind}{x:Str}{v:Value}:∀ {P:AM} {vs:AN} {i:Nat} {m:AI},P.Nodup->P[i]?=some x->vs[i]?=some v->q x≠some .local->
  bindC q (P.zip vs) m x=some v
 | [],_,_,_,_,h,_,_=>by simp at h
 | _::_,[],_,_,_,_,h,_=>by simp at h
 | p::P,w::vs,0,m,B,h1,h2,F=>by simp at h1 h2;subst h1;subst h2;change bindC q ((p,w)::P.zip vs) m p=_;unfold bindC;rw[zfm λv I=>(cj.mp B).1 (List.of_mem_zip I).1,if_neg F];simp
 | p::P,w::vs,i+1,m,B,h1,h2,F=>by change bindC q ((p,w)::P.zip vs) m x=_;unfold bindC;exact zfl (i:=i) (cj.mp B).2 (by simpa using h1) (by simpa using h2) F
def xy (N:AM)(vs:AT):St:=vs.map some++List.replicate (N.length - vs.length) none
def zek (CX:CXT)(P:Aa)(w:Ab)(K:AH)(mg:AI)(base:Heap)(N:AM)(qual:Str)(scope:Scope)(f:Addr)(cd:Value)(A:Ae)(outer:List Env)(s:AZ)(H:Hp)(E:XK):Cx where
 prog:=P
 w:=w
 K:=K
 mg:=mg
 base:=base
 A:=A.deeper (envOfC qual scope s.heap.objs.size f cd)
 N:=N
 s₀:=s
 H₀:=H
 env:=envOfC qual scope s.heap.objs.size f cd
 outer:=outer
 stack:=envOfC qual scope s.heap.objs.size f cd::outer
 ex:=[]
 calm:=true
 fn:=λ_=>true
 pn:=[]
 xe:=λe s'=>wpAny (model P w) (A.deeper (envOfC qual scope s.heap.objs.size f cd)) (leaving (envOfC qual scope s.heap.objs.size f cd) e) (λ_ s''=>CX outer H s E e s'') (λe' s''=>CX outer H s E e' s'') s'
def zhD{B:Scope}(h:B.names.lookup x=some .cell):∃c,(cellsFrom n B.names []).lookup x=some c:=by have q:=PySem.W.cellsFrom_some B.names n [] (.inl h);exact Option.isSome_iff_exists.mp q
def zkl{CX:CXT}{P:Aa}{w:Ab}{K:AH}{mg:AI}{base:Heap}{N ps:AM}{F:Str}{scope:Scope}{f:Addr}{Y:Value}{A:Ae}{B:List Env}{s s1:AZ}{H:Hp}{E:XK}{vs:AT}(S:FnScope N ps scope)(hd:A.handled=none)(I:Env0 P w K mg base A B s H)(hl:vs.length=ps.length)(r:z9 vs Z)(x:InCallC s s.heap.objs.size (bindL (envOfC F scope s.heap.objs.size f Y).kindOf (ps.zip Z) λ_=>none) (cellsFrom (s.heap.objs.size+1) scope.names []) (bindC (envOfC F scope s.heap.objs.size f Y).kindOf (ps.zip Z) λ_=>none) s1) :
  Inv (zek CX P w K mg base N F scope f Y A B s H E) [] (xy N vs) H s1:=by
 have ad:ps.length<=N.length:=by have:=congrArg List.length S.pre;rw[aM] at this;lia
 obtain⟨h1,tk,rfl,hk⟩:=x.done;have J:∀b:Addr,b∉(zek CX P w K mg base N F scope f Y A B s H E).ex:=λb z=>absurd (show b∈([]:AY) from z) (by simp)
 show⟨⟨I.mod,S.kind,rfl,rfl,af _,λy z c h1 h2=>?_,λy L=>?_,λy c _ h=>?_,λ_=>hd,Around.frames_deeper I.frames,.inr ⟨rfl,rfl⟩,λb z=>absurd z (J b),I.bs,I.bsz,λb _ _=>J b,λb z=>absurd z (J b),I.funs,I.frf⟩,
  rfl,I.bare,Un.kept hk,⟨_,x.toInCall.ns,λi y v h1 h2 h3=>?_⟩,λy c h=>⟨_,x.cell y c h⟩,I.hok.fresh (af _),λy c h=>?_,λp O=>absurd (show p∈([]:AB) from O) (by simp),I.hok.kept hk,?_⟩
 exact name_of_addr x.apart (cF h1) (cF h2);have L:scope.names.lookup y=some .cell\/scope.names.lookup y=some .free:=L;rcases L with L | L;exact zhD L;exact absurd rfl (S.nofree _ (cF L));exact cb (x.above y c (cF h))
 have hi:i<vs.length:=by
  unfold xy at h2;by_cases hi:i<vs.length;exact hi;rw[bh (by simpa using hi)] at h2;rw[List.getElem?_replicate] at h2;right
 have ha:vs[i]?=some v:=by
  unfold xy at h2;rw[be (by simpa using hi),aq] at h2;right
 obtain⟨u,hu,rv⟩:=r.get ha;have O:ps[i]?=some y:=by rw[<- S.pre,c7 (by lia)];exact h1
 have U:ps.Nodup:=by rw[<- S.pre];exact S.nd.sublist (dn _ _)
 show⟨u,rv,?_⟩;rcases S.par y (aA O) with k | k;exact .inl ⟨k,zfn U O hu k⟩;obtain⟨c,e⟩:=zhD (n:=s.heap.objs.size+1) k;show .inr ⟨.inl k,c,e,?_⟩;have q:=x.cell y c e;rw[zfl U O hu (by change scope.names.lookup y≠_;rw[k];decide)] at q;exact q;exact I.hok.fresh (cb (x.above y c (cF h)));unfold xy;change _=N.length;grind
def zwx{CX:CXT}{P:Aa}{w:Ab}{K:AH}{mg:AI}{base:Heap}{f:Addr}{name F:Str}{O:Arguments}{body:List Stmt}{scope:Scope}{dV kV ad pm L ct oc:Value}{an od:Option Addr}{N ps:AM}{sp:Sp}(lk:K.lookup f=some ⟨oc,od,.func (PySem.W.fnOf name F O body scope dV kV ad pm an L ct),ap⟩)(as:PySem.W.codeIn K L F=true)(S:FnScope N ps scope)(ag:∀vs H Q E,sp vs H Q E->vs.length=ps.length)(Y:∀ (A:Ae) (B:List Env) (s:AZ) (H:Hp) (vs:AT) (Q:VK) (E:XK),Room k (A.deeper (envOfC F scope s.heap.objs.size f L))->sp vs H Q E->
   ∃t,PSs (zek CX P w K mg base N F scope f L A B s H E) body t/\t { nx:=λ_ H'=>Q .non H',rt:=Q } (xy N vs) H) :
  FnOk P w K mg base CX (k+1) f (PySem.W.fnOf name F O body scope dV kV ad pm an L ct) ps sp:=by
 show⟨ag,λA B s H args us vs Q E hr e0 hb r al=>?_⟩;have hl:=ag _ _ _ _ al;have KX:K.In s.heap:=e0.mod.kin.keeps λb o e=>(e0.bs b o e).1;have lim:s.heap.NoLimit:=e0.mod.nolimit.keeps λb o e=>(e0.bs b o e).1
 have Z:∀y∈ps.zip us,scope.names.lookup y.1=some .local\/(scope.names.lookup y.1=some .cell/\((cellsFrom (s.heap.objs.size+1) scope.names []).lookup y.1).isSome=true):=by
  rintro⟨n,v⟩ hy;rcases S.par n (List.of_mem_zip hy).1 with q | q;exact .inl q;exact .inr ⟨q,PySem.W.cellsFrom_some _ _ _ (.inl q)⟩
 show codeAny_call_function hr.depth (KX _ _ lk) rfl S.co S.gen rfl (PySem.W.codeRec_of KX as) (hb _ _ _ _ ?_);show wpAny_newFunctionEnv_cells S.kind Z λenv he s1 x=>?_;subst he;show⟨lim.keeps x.toInCall.keep,codeAny_func ?_⟩;obtain⟨t,ht,hq⟩:=Y A B s H vs Q E (hr.deeper _) al;have I:Inv (zek CX P w K mg base N F scope f L A B s H E) [] (xy N vs) H s1:=zkl S hr.hd e0 hl r x;show aW (ht [] s1 (xy N vs) H _ I hq) (λfl s' hs=>?_) λe s' hs=>hs
 have fin:∀ {U:St} {H':Hp} {v:V} {u:Value},Inv (zek CX P w K mg base N F scope f L A B s H E) [] U H' s'->yG v u->Q v H'->CE B P w H s Q u s':=
  λ{U H' v u} J rv q=>⟨v,H',J.os,J.bare,J.base,J.hok,rv,q⟩
 cases fl with
 | ret u=>
  obtain⟨v,U,H',J,rv,q⟩:=hs;exact fin J rv q
 | next=>
  obtain⟨U,H',J,q⟩:=hs;exact fin (v:=V.non) (u:=Value.none) J rfl q
 | brk=>
  obtain⟨_,_,_,q⟩:=hs;exact False.elim q
 | cont=>
  obtain⟨_,_,_,q⟩:=hs;exact False.elim q
section
variable {X:Cx}{x:Str}{p pos:Pos}{e:Expr}{es:AO}{t:TA}{id T:String}{r:AT->Hp->VK->Prop}
def tCB (r:AT->Hp->VK->Prop)(t:TA):TE:=λσ H Q=>t σ H λvs H1=>r vs H1 Q
def znA (F:zct X (.builtin id) r)(J:Gl X x)(L:X.mg x=none)(O:bootBuiltins x=some (.builtin id))(U:PA X (e::es) t)(Y:x ≠ "__name__" := by ext)(q:Ah x:=by ext)
  (Z:starEach (e::es) X.env=(false,eval e X.env)::starEach es X.env:=by rfl) (B:(backTo pos (starEach es X.env)).any (·.1)=false:=by rfl):PE X (.Call (.Name x p) (e::es) [] pos) (tCB r t):=by
 intro pins s σ H Q I h;show db (zcS I J L O ?_ Y q);exact PyProof.Rows.callWith_builtin1 (thn (U pos pins s σ H _ I h) <| by rintro us s1 ⟨vs,H1,I1,r1,q1⟩;exact F pins s1 σ H1 vs us Q I1 r1 q1) Z B
def zlx (F:zct X (.type T) r)(J:Gl X x)(L:X.mg x=none)(O:bootBuiltins x=some (.type T))(U:PA X (e::es) t)(Y:x ≠ "__name__" := by ext)(q:Ah x:=by ext)
  (Z:starEach (e::es) X.env=(false,eval e X.env)::starEach es X.env:=by rfl) (B:(backTo pos (starEach es X.env)).any (·.1)=false:=by rfl):PE X (.Call (.Name x p) (e::es) [] pos) (tCB r t):=by
 intro pins s σ H Q I h;show db (zcS I J L O ?_ Y q);exact ci (thn (U pos pins s σ H _ I h) <| by rintro us s1 ⟨vs,H1,I1,r1,q1⟩;exact F pins s1 σ H1 vs us Q I1 r1 q1) Z B
def zi0 (B:zct X (.type T) r)(F:Gl X x)(J:X.mg x=none)(L:bootBuiltins x=some (.type T))(O:x ≠ "__name__" := by ext)(q:Ah x:=by ext) :
  PE X (.Call (.Name x p) [] [] pos) (tCB r zja):=by
 intro pins s σ H Q I h;show db (zcS I F J L ?_ O q);exact PyProof.Rows.callWith_type0 (B pins s σ H [] [] Q I .nil h)
end
section
variable {κ:Type}[DecidableEq κ]
def zaI (kvs:List (κ×V))(k:κ):Option V:=(kvs.find? λkv=>decide (kv.1=k)).map (·.2)
def zae (kvs:List (κ×V))(k:κ)(v:V):List (κ×V):=
 if (kvs.any λkv=>decide (kv.1=k))=true then kvs.map (λkv=>if kv.1=k then (kv.1,v) else kv) else kvs++[(k,v)]
def xA{p:κ×V}(e:p.1=k):zaI (p::r) k=some p.2:=by simp[zaI,bt,e]
def xW{p:κ×V}{r:List (κ×V)}(e:¬ p.1=k):zaI (p::r) k=zaI r k:=by simp[zaI,bt,e]
def zfa (k:κ):∀kvs:List (κ×V),(kvs.any λkv=>decide (kv.1=k))=(zaI kvs k).isSome
 | []=>rfl
 | p::r=>by
  rw[cr];by_cases e:p.1=k;simp only[xA e,a6 e,Bool.true_or,Option.isSome_some];rw[xW e,aU e,Bool.false_or];exact zfa k r
def x9 (kvs:List (κ×V))(k:κ)(v:V):(zae kvs k v).length<=kvs.length+1:=by
 unfold zae;split
 all_goals right
def znO {kvs:List (κ×V)}{k:κ}(v:V)(h:zaI kvs k=none):zae kvs k v=kvs++[(k,v)]:=by
 unfold zae;rw[zfa,h];right
def ziz.isSome_eq(r:ziz o u):o.isSome=u.isSome:=by
 cases o with
 | none=>cases u with
  | none=>rfl
  | some _=>exact (show False from r).elim
 | some _=>cases u with
  | none=>exact (show False from r).elim
  | some _=>rfl
def ziz.getD(r:ziz o u)(q:yG d d'):yG (o.getD d) (u.getD d'):=by
 cases o with
 | none=>cases u with
  | none=>exact q
  | some _=>exact (show False from r).elim
 | some _=>cases u with
  | none=>exact (show False from r).elim
  | some _=>exact r
def KV.val(r:KV kvs vs)(k:κ):ziz (zaI kvs k) (valueAt vs k):=by
 unfold KV at r
 induction r with
 | nil=>exact True.intro
 | @cons p q ps B h t I=>
  obtain⟨h1,h2⟩:=h;by_cases e:p.1=k;have F:q.1=k:=h1.symm.trans e;have b:valueAt (q::B) k=some q.2:=by simp[valueAt,bt,F]
  rw[xA e,b];exact h2;have F:¬ q.1=k:=λz=>e (h1.trans z);have b:valueAt (q::B) k=valueAt B k:=by simp[valueAt,bt,F]
  rw[xW e,b];exact I
def KV.any(r:KV kvs vs)(k:κ):(kvs.any λkv=>decide (kv.1=k))=vs.any λkv=>decide (kv.1=k):=by
 unfold KV at r
 induction r with
 | nil=>rfl
 | cons h t q=>rw[cr,cr,q,h.1]
def KV.repl {kvs:List (κ×V)}{vs:List (κ×Value)}(r:KV kvs vs)(k:κ){y:V}{u:Value}(F:yG y u) :
  KV (kvs.map λkv=>if kv.1=k then (kv.1,y) else kv) (vs.map λkv=>if kv.1=k then (kv.1,u) else kv):=by
 unfold KV at r ⊢
 induction r with
 | nil=>exact .nil
 | @cons p q ps I h t B=>
  rw[ax,ax];show .cons ?_ B;grind
def KV.put(r:KV kvs vs)(k:κ)(q:yG y u):KV (zae kvs k y) (stored vs k u):=by
 unfold zae stored;rw[r.any k];by_cases e:(vs.any λkv=>decide (kv.1=k))=true;rw[if_pos e,if_pos e];exact r.repl k q;rw[if_neg e,if_neg e];exact Paired.snoc r ⟨rfl,q⟩
def KV.length {kvs:List (κ×V)}{vs:List (κ×Value)}(r:KV kvs vs):kvs.length=vs.length:=dQ r
end
def ziQ(r:yG (kV k) u):(zR P w).is k u=true:=by
 cases k with
 | inl i=>obtain⟨t,e⟩:=(show ∃t,u=Value.int i t from r);subst e;exact zhb P w i t
 | inr x=>obtain⟨t,e⟩:=(show ∃t,u=Value.str x t from r);subst e;exact zhc P w x t
def zfK:∀ {ks:List Key} {q:AN},z9 (ks.map kV) q->ItemsAre (zR P w) ks q
 | [],_,r=>by rw[dz] at r;cases r;exact .nil
 | k::ks,_,r=>by
  rw[ax] at r
  cases r with
  | cons h t=>exact .cons (ziQ h) (zfK t)
abbrev KT (H:Hp):List (List Key×V)->List (List Key×Addr×Value)->Prop:=Paired λp q=>p.1=q.1/\H q.2.1=some (.tup (p.1.map kV))/\yG p.2 q.2.2
def KT.val(r:KT H kvs xs)(k:List Key):ziz (zaI kvs k) ((atKey xs k).map (·.2)):=by
 induction r with
 | nil=>exact True.intro
 | @cons p q ps B h t I=>
  obtain⟨h1,_,h2⟩:=h;by_cases e:p.1=k;have F:q.1=k:=h1.symm.trans e;have b:atKey (q::B) k=some q.2:=by simp[atKey,bt,F]
  rw[xA e,b];exact h2;have F:¬ q.1=k:=λz=>e (h1.trans z);have b:atKey (q::B) k=atKey B k:=by simp[atKey,bt,F]
  rw[xW e,b];exact I
def KT.repl(r:KT H kvs xs)(k:List Key)(F:yG y u) :
  KT H (kvs.map λkv=>if kv.1=k then (kv.1,y) else kv) (xs.map (putAt k u)):=by
 induction r with
 | nil=>exact .nil
 | @cons p q ps I h t B=>
  rw[ax,ax];show .cons ?_ B;obtain⟨h1,h2,J⟩:=h;unfold putAt;by_cases e:p.1=k
  all_goals right
def KT.put(r:KT H kvs xs)(k:List Key)(F:H b=some (.tup (k.map kV)))(B:yG y u) :
  KT H (zae kvs k y) (storedH xs k b u):=by
 have e:(kvs.any λkv=>decide (kv.1=k))=(atKey xs k).isSome:=by rw[zfa,(r.val k).isSome_eq,Option.isSome_map]
 unfold zae storedH;rw[e];by_cases q:(atKey xs k).isSome=true;rw[if_pos q,if_pos q];exact r.repl k B;rw[if_neg q,if_neg q];exact Paired.snoc r ⟨rfl,F,B⟩
def KT.keeps(r:KT H kvs xs)(q:∀b ys,H b=some (.tup ys)->H' b=some (.tup ys)):KT H' kvs xs:=
 Paired.mapP r λ_ _ z=>⟨z.1,q _ _ z.2.1,z.2.2⟩
section
variable {P:Aa}{w:Ab}{H:Hp}{h:Heap}{a:Addr}
def zrv(q:HOk P w H h)(e:Rd H a u):yn P w H h a u:=e.ok q
def zgL(q:HOk P w H h)(e:Rd H a (.dK kvs)):kvs.length<=sizeLine/\(a==sysModules)=false/\∃vs,KV kvs vs/\h.DictOf (zR P w) a vs:=
 show yn P w H h a (.dK kvs) from zrv q e
def zpy(q:HOk P w H h)(e:H a=some (.dK kvs)):kvs.length<=sizeLine/\(a==sysModules)=false/\∃vs,KV kvs vs/\h.DictOf (zR P w) a vs:=zgL q (.inl e)
def zfQ(q:HOk P w H h)(e:H a=some (.tup (ks.map kV))):(tupleKind (zR P w)).is h ks a:=by obtain⟨_,its,r,o,h1,h2,⟨n,B⟩,_⟩:=(show yn P w H h a (.tup (ks.map kV)) from q a _ e);exact⟨o,its.toArray,n,h1,h2,B,by simpa using zfK r⟩
def zjS(F:HOk P w H h)(e:Rd H a (.dT kvs)):kvs.length<=sizeLine/\(a==sysModules)=false/\
  ∃xs,KT H kvs xs/\h.DictOfH (tupleKind (zR P w)) a xs:=by
 obtain⟨z,y,xs,r,o,es,I,h1,h2,J,L,O⟩:=(show yn P w H h a (.dT kvs) from zrv F e);show⟨z,y,xs,r,o,es,I,h1,h2,J,L,λx B=>?_,O⟩
 have all:∀ {l:List (List Key×V)} {m:List (List Key×Addr×Value)},KT H l m->∀x∈m,(tupleKind (zR P w)).is h x.1 x.2.1:=by
  intro l m q
  induction q with
  | nil=>intro x B;exact nomatch B
  | @cons p q ps Y Z t U=>
   intro x B;rcases aJ.mp B with e | B;subst e;exact zfQ F (by right);exact U x B
 exact all r x B
def zsM(q:HOk P w H h)(e:H a=some (.dT kvs)):kvs.length<=sizeLine/\(a==sysModules)=false/\
  ∃xs,KT H kvs xs/\h.DictOfH (tupleKind (zR P w)) a xs:=zjS q (.inl e)
end
def zch (H:Hp)(a:Addr)(y:V)(r:Option V):Prop:=
 (∃kvs k,Rd H a (.dK kvs)/\y=kV k/\r=zaI kvs k)\/∃kvs k b,Rd H a (.dT kvs)/\y = .ref b/\H b=some (.tup (k.map kV))/\r=zaI kvs k
def zdB (H:Hp)(a:Addr)(y v:V)(H':Hp):Prop:=
 (∃kvs k,H a=some (.dK kvs)/\y=kV k/\kvs.length<sizeLine/\H'=upd H a (.dK (zae kvs k v)))\/
 ∃kvs k b,H a=some (.dT kvs)/\y = .ref b/\H b=some (.tup (k.map kV))/\kvs.length<sizeLine/\H'=upd H a (.dT (zae kvs k v))
def zch.k {H:Hp}{a:Addr}{kvs:List (Key×V)}{k:Key}(e:H a=some (.dK kvs)):zch H a (kV k) (zaI kvs k):=.inl ⟨kvs,k,.inl e,rfl,rfl⟩
def zch.t {H:Hp}{a b:Addr}{kvs:List (List Key×V)}{k:List Key}(e:H a=some (.dT kvs))(q:H b=some (.tup (k.map kV))):zch H a (.ref b) (zaI kvs k):=.inr ⟨kvs,k,b,.inl e,rfl,q,rfl⟩
def zdB.k {H:Hp}{a:Addr}{kvs:List (Key×V)}{k:Key}{v:V}(e:H a=some (.dK kvs))(q:kvs.length<sizeLine):zdB H a (kV k) v (upd H a (.dK (zae kvs k v))):=.inl ⟨kvs,k,e,rfl,q,rfl⟩
def zdB.t {H:Hp}{a b:Addr}{kvs:List (List Key×V)}{k:List Key}{v:V}(e:H a=some (.dT kvs))(q:H b=some (.tup (k.map kV)))(B:kvs.length<sizeLine) :
  zdB H a (.ref b) v (upd H a (.dT (zae kvs k v))):=.inr ⟨kvs,k,b,e,rfl,q,B,rfl⟩
section
variable {X:Cx}{pins:AB}{σ:St}{H:Hp}{s:AZ}{a:Addr}{y v:V}{u r:Value}{o:Option V}{A:Ae}{E:AA}
def Inv.big (I:Inv X pins σ H s):sysModules<s.heap.objs.size:=by have h:mainGlobals<s.heap.objs.size:=(I.mod.glob.keeps I.bk).lt;exact Nat.lt_trans (by ext) h
def zjK(U:A.units+1<cLine)(I:Inv X pins σ H s)(g:zch H a y (some v))(O:yG y u)(h:∀w' s',Inv X pins σ H s'->yG v w'->Q w' s') :
  wpAny (model X.prog X.w) A (getItem (.ref a) u) Q E s:=by
 rcases g with ⟨kvs,k,e,ey,l⟩ | ⟨kvs,k,b,e,ey,eb,l⟩;subst ey;obtain⟨z,Y,vs,q,F⟩:=zgL I.hok e;obtain⟨w',J,B⟩:=ziz.some_of (v:=v) (o:=valueAt vs k) (by rw[l];exact q.val k);exact wpAny_getItem_of (ziQ O) F.mapOf J (h w' _ (I.tok _) B);subst ey;cases (show u=Value.ref b from O);obtain⟨z,Y,xs,q,F⟩:=zjS I.hok e;obtain⟨w',J,B⟩:=ziz.some_of (v:=v) (o:=(atKey xs k).map (·.2)) (by rw[l];exact q.val k);obtain⟨p,Z,L⟩:=aC.mp J;show wpAny_getItem_heap (eA U) (zfQ I.hok eb) F Z ?_;rw[L];exact h w' _ (I.tok _) B
def zcB(I:Inv X pins σ H s)(F:Mut (H a))(J:Heap.SameBut a s.heap h')(L:∃q,h'.get? a=some q)(B:yn X.prog X.w (upd H a ob) h' a ob) :
  Inv X pins σ (upd H a ob) { s with heap:=h',toks:=t' }:=
 I.write (x:=a) (e:=a) F (.inl rfl) (λb q O z=>(J.2 b O).trans z) L B
def zjR(z:kvs.length<=sizeLine)(B:(a==sysModules)=false)(q:KV kvs vs)(F:h'.DictOf (zR P w) a vs) :
  yn P w H' h' a (.dK kvs):=⟨z,B,vs,q,F⟩
def zjL(hu:A.units+1<cLine)(I:Inv X pins σ H s)(g:zdB H a y v H')(ry:yG y u)(rv:yG v r)(h:∀s',Inv X pins σ H' s'->Q () s') :
  wpAny (model X.prog X.w) A (setItem (.ref a) u r) Q E s:=by
 rcases g with ⟨kvs,k,e,ey,l,eH⟩ | ⟨kvs,k,b,e,ey,eb,l,eH⟩;subst ey eH;obtain⟨z,L,vs,B,O⟩:=zpy I.hok e;have U:vs.length<=sizeLine:=by rw[<- B.length];exact z
 have Y:(zae kvs k v).length<=sizeLine:=by have:=x9 kvs k v;lia
 show wpAny_setItem_pairs (hsz:=U) (ziQ ry) O λh' F Z=>h _ ?_;have he:∃q,h'.get? a=some q:=let ⟨q,_,_,J,_⟩:=F;⟨q,J⟩;exact zcB I (by rw[e];exact True.intro) Z he (zjR Y L (B.put k rv) F);subst ey eH;cases (show u=Value.ref b from ry);obtain⟨z,L,xs,B,O⟩:=zsM I.hok e;have U:xs.length<=sizeLine:=by rw[<- dQ B];exact z
 have Y:(zae kvs k v).length<=sizeLine:=by have:=x9 kvs k v;lia
 show wpAny_setItem_heap (hsz:=U) (eA hu) (zfQ I.hok eb) O λh' F Z=>h _ ?_;obtain⟨q,es,ep,J,h2,h3,h4,_,h5⟩:=F;show zcB I (by rw[e];exact True.intro) Z ⟨q,J⟩ ⟨Y,L,_,(B.put k eb rv).keeps λc ys ec=>?_,q,es,ep,J,h2,h3,h4,h5⟩;rw[zf (by grind)];exact ec
variable {kvs:List (Key×V)}{k:Key}
def zwk(I:Inv X pins σ H s)(e:Rd H a (.dK kvs))(h:∀t s',Inv X pins σ H s'->Q (.int kvs.length t) s'):wpAny (model X.prog X.w) A (call (.builtin "len") [.ref a]) Q E s:=by obtain⟨z,B,vs,q,F⟩:=zgL I.hok e;show call_len_dict B F (by rw[<- q.length];rw[br] at z;lia) ?_;rw[<- q.length];exact h _ _ (I.tok _)
end
def zpd (i:Expr):Prop:=∀q B,subscripted i false q B=operate [q,B] (getItem q B)
def zrR {prog:Aa}{w:Ab}{A:Ae}{E:AA}{s:AZ}{env:Env}{value q:Expr}{pos:Pos}{T id:String}{Q:AA}
  (U:typeLookup (.type T) "__getitem__" = pure (some (.builtin id))) (Y:zpd q)
  (h:Ag prog w A (eval value env) (λo I=>Ag prog w A (eval q env) (λi B=>B.TypeIs o T/\Ag prog w A (getItem o i) Q E B) E I) E s) :
  Ag prog w A (eval (.Subscript value q pos) env) Q E s:=by
 show Subscript_ (aW h (λo I h₁=>aW h₁ (λi B F=>?_) λ_ _ x=>x) λ_ _ x=>x);obtain⟨O,F⟩:=F;unfold subscriptTail;show aa ?_;rw[getitemInPython_of_ne O.not_modules];show aa (wpAny_specialOf O U ?_);have fin:Ag prog w A (subscripted q false o i) (λr J=>Ag prog w A (letTemporaryGo value o r >>= λ_=>pure r) Q E J) E B:=by rw[Y o i];exact wpAny_operating (aW F (λr J L=>aa (wpAny_letTemporaryGo (ae L))) λ_ _ x=>x)
 first
  | exact ae (aa fin)
  | exact aa (by grind)
  | exact aa fin
def zgJ{X:Cx}{pins:AB}{σ:St}{H:Hp}{s:AZ}{a:Addr}{y:V}(I:Inv X pins σ H s)(g:zch H a y o):s.TypeIs (.ref a) "dict" := by
 rcases g with ⟨kvs,k,e,_,_⟩ | ⟨kvs,k,b,e,_,_,_⟩;obtain⟨_,_,vs,_,q⟩:=zgL I.hok e;exact q.typeIs;obtain⟨_,_,xs,_,q⟩:=zjS I.hok e;exact q.typeIs
def zuT (td ty:TE):TE:=λσ H Q=>td σ H λx H1=>ty σ H1 λy H2=>∃a v,x = .ref a/\zch H2 a y (some v)/\Q v H2
def zuP (td ty tv:TE):TS:=λD σ H=>tv σ H λv H1=>td σ H1 λx H2=>ty σ H2 λy H3=>∃a H4,x = .ref a/\zdB H3 a y v H4/\D.nx σ H4
section
variable {X:Cx}{o i e value:Expr}{pos pos' tpos:Pos}{td ty tv:TE}
def zqL (B:X.A.units+1<cLine)(J:PE X o td)(hi:PE X i ty)(L:zpd i):PE X (.Subscript o i pos) (zuT td ty):=by intro pins s σ H Q I h;show zrR PySem.F.slot_dict_getitem.lookup L (thn (J pins s σ H _ I h) λu O ⟨x,H1,I1,U,Y⟩=>thn (hi pins O σ H1 _ I1 Y)  ?_);rintro iv s2 ⟨y,H2,I2,Z,a,v,ex,g,q2⟩;subst ex;obtain rfl:u=Value.ref a:=U;exact⟨zgJ I2 g,zjK B I2 g Z λw' s3 I3 q=>⟨v,H2,I3,q,q2⟩⟩
def zqZ (q:X.A.units+1<cLine)(B:PE X o td)(hi:PE X i ty)(F:PE X value tv)(J:swapsWith value (some (.Subscript o i pos')) pos.line X.env=pure false) :
  PS X (.Assign [.Subscript o i pos'] value pos) (zuP td ty tv):=by
 intro pins s σ H D I h;show wpAny_Assign_Subscript (thn (F pins s σ H _ I h) λr L ⟨v,H1,I1,O,U⟩=>thn (B pins L σ H1 _ I1 U) λu Y ⟨x,H2,I2,Z,q2⟩=>thn (hi pins Y σ H2 _ I2 q2) λiv s3 ⟨y,H3,I3,ry,a,H4,ex,g,q3⟩=>?_) J;subst ex;obtain rfl:u=Value.ref a:=Z;exact zjL q I3 g ry O λs4 I4=>⟨σ,H4,I4,q3⟩
end
def zhK(h:Heap)(q:sysModules<h.objs.size):yn P w H (h.push { cls:=.type "dict",data:=.dict #[] }) h.objs.size (.dK []):=
 ⟨aG _,dW.mpr (Ne.symm (aR q)),[],.nil,Heap.DictOf.new h⟩
def zhL(h:Heap)(q:sysModules<h.objs.size):yn P w H (h.push { cls:=.type "dict",data:=.dict #[] }) h.objs.size (.dT []):=
 ⟨aG _,dW.mpr (Ne.symm (aR q)),[],.nil,_,#[],0,aB _ rfl,⟨rfl,rfl,rfl⟩,rfl,rfl,eK⟩
def zuV:TE:=λ_ H Q=>∀p,H p=none->Q (.ref p) (upd H p (.dT []))
section
variable {X:Cx}{pos:Pos}
def znC:PE X (.Dict [] [] pos) zuV:=λpins s σ H Q I h=>
 wpAny_Dict_empty ⟨.ref s.heap.objs.size,_,I.laid (a:=s.heap.objs.size) (o:=.dT []) (t':=s.toks) (λ_ _ q=>ai _ q) (af _) (zhL s.heap I.big),rfl,h _ (I.hok.fresh (af _))⟩
end
def zmb:List (TE×TE)->St->Hp->(List (V×V)->Hp->Prop)->Prop
 | [],_,H,Q=>Q [] H
 | (tk,tv)::r,σ,H,Q=>tk σ H λx H1=>tv σ H1 λy H2=>zmb r σ H2 λps H3=>Q ((x,y)::ps) H3
abbrev VV:List (V×V)->List (Value×Value)->Prop:=Paired λp q=>yG p.1 q.1/\yG p.2 q.2
def PPs (X:Cx)(pos:Pos)(B:List (Option Expr))(q:AO)(F:List (TE×TE)):Prop:=
 ∀ (pins:AB) (s:AZ) (σ:St) (H:Hp) (Q:List (V×V)->Hp->Prop),Inv X pins σ H s->zmb F σ H Q->
  Af X (evalPairs (pairTrees B q X.env pos)) (λvs s'=>∃ps H',Inv X pins σ H' s'/\VV ps vs/\Q ps H') X.xe s
def zqX:PPs X pos [] [] []:=λpins s σ H Q I h=>pairTrees_nil_walk ⟨[],H,I,.nil,h⟩
def znJ(F:PE X k tk)(J:PE X v tv)(L:PPs X pos ks vs q) :
  PPs X pos (some k::ks) (v::vs) ((tk,tv)::q):=λpins s σ H Q I h=>
 pairTrees_cons_walk (thn (F pins s σ H _ I h) λu O ⟨x,H1,I1,U,Y⟩=>thn (J pins O σ H1 _ I1 Y) λw2 Z ⟨y,H2,I2,ry,q2⟩=>
  thn (L pins Z σ H2 _ I2 q2) <| by rintro ws s3 ⟨ps,H3,I3,B,q3⟩;exact⟨(x,y)::ps,H3,I3,.cons ⟨U,ry⟩ B,q3⟩)
def zcW (kvs more:List (Key×V)):List (Key×V):=more.foldl (λacc kv=>zae acc kv.1 kv.2) kvs
def KV.merge:∀ {more:List (Key×V)} {B:List (Key×Value)} {kvs:List (Key×V)} {vs:List (Key×Value)},KV more B->KV kvs vs->KV (zcW kvs more) (merged vs B):=by
 intro more B kvs vs r;unfold KV at r
 induction r generalizing kvs vs with
 | nil=>intro q;exact q
 | @cons p q ps J h t F=>
  intro I
  have e:KV (zae kvs p.1 p.2) (stored vs q.1 q.2):=by
   have:=I.put p.1 h.2;right
  exact F e
def zbc:∀ (more kvs:List (Key×V)),(zcW kvs more).length<=kvs.length+more.length
 | [],kvs=>by change kvs.length<=kvs.length+0;lia
 | p::r,kvs=>by
  have h1:=zbc r (zae kvs p.1 p.2);have h2:=x9 kvs p.1 p.2;change (zcW (zae kvs p.1 p.2) r).length<=_;grind
def zdI:∀ {kvs:List (Key×V)} {F:List (Value×Value)},VV (kvs.map λkv=>(kV kv.1,kv.2)) F->∃B,Carries (zR P w) F B/\KV kvs B
 | [],_,r=>by rw[dz] at r;cases r;exact⟨[],True.intro,.nil⟩
 | p::kvs,_,r=>by
  rw[ax] at r
  cases r with
  | @cons a b as J h t=>
   obtain⟨B,c,q⟩:=zdI (P:=P) (w:=w) t;obtain⟨L,I⟩:=b;exact⟨(p.1,I)::B,⟨ziQ h.1,rfl,c⟩,.cons ⟨rfl,h.2⟩ q⟩
def zuW (q:List (TE×TE)):TE:=λσ H Q=>∀p,H p=none->zmb q σ (upd H p (.dK [])) λps H2=>H2 p=some (.dK [])/\∃kvs:List (Key×V),ps=kvs.map (λkv=>(kV kv.1,kv.2))/\kvs.length<=15/\Q (.ref p) (upd H2 p (.dK (zcW [] kvs)))
def zqM(h:PPs X pos B F J)(L:B.all (·.isSome)=true)(Z:B.length=F.length)(h0:B≠[])(U:B.length<=15):PE X (.Dict B F pos) (zuW J):=by
 intro pins s σ H Q I q;have hn:=I.hok.fresh (af s.heap.objs.size);have I1:=I.laid (a:=s.heap.objs.size) (o:=.dK []) (h':=s.heap.push { cls:=.type "dict",data:=.dict #[] }) (t':=s.toks) (λ_ _ q=>ai _ q) (af _) (zhK s.heap I.big);show wpAny_Dict_walk (knd:=zR X.prog X.w) L Z h0 U (thn (h pins _ σ _ _ I1 (q _ hn))  ?_);rintro ws s2 ⟨ps,H2,I2,Y,e,kvs,ep,lk,q2⟩;subst ep;obtain⟨rs,c,rk⟩:=zdI (P:=X.prog) (w:=X.w) Y;obtain⟨z,hd,ad,r0,dd⟩:=zpy I2.hok e;cases r0;show⟨rs,c,dd,λh' O hs=>⟨.ref s.heap.objs.size,_,?_,rfl,q2⟩⟩;have hz:(zcW [] kvs).length<=sizeLine:=by have h1:=zbc kvs [];rw[List.length_nil] at h1;rw[br];lia
 have he:∃q,h'.get? s.heap.objs.size=some q:=let ⟨q,_,_,hq,_⟩:=O;⟨q,hq⟩;exact zcB I2 (by rw[e];exact True.intro) hs he (zjR hz hd (rk.merge .nil) O)
structure M2 (X:Cx)(o:Expr)(m:Str)(apos:Pos)(e f:Expr)(cpos:Pos):Prop where
 base:attributeBase o m X.env (eval o X.env)=eval o X.env
 few:((backTo cpos (starEach [e,f] X.env)).all (λx=>!x.1)&&(backToKw cpos (keywordEach [] X.env)).all (λx=>x.1.isSome)
  && decide (([e,f]:AO).length+([]:List Keyword).length+(if ([]:List Keyword).isEmpty then 0 else 1)<30))=true
 line:(apos.endLine==cpos.line)=true
 trees:backTo cpos (starEach [e,f] X.env)=[(false,eval e X.env),(false,eval f X.env)]
def IsD (H:Hp)(a:Addr):Prop:=(∃kvs,Rd H a (.dK kvs))\/∃kvs,Rd H a (.dT kvs)
def zsY{X:Cx}{pins:AB}{σ:St}{H:Hp}{s:AZ}(I:Inv X pins σ H s)(d:IsD H a) :
  s.TypeIs (.ref a) "dict" /\ (∀b,Value.ref a = .ref b->∃ob,s.heap.get? b=some ob/\ob.dict=none)/\(a==sysModules)=false:=by
 rcases d with ⟨kvs,e⟩ | ⟨kvs,e⟩;obtain⟨_,F,vs,_,B⟩:=zgL I.hok e;show⟨B.typeIs,λb q=>?_,F⟩;cases q;obtain⟨ob,_,_,h1,h2,_⟩:=B;exact⟨ob,h1,h2.2.1⟩;obtain⟨_,F,xs,_,B⟩:=zjS I.hok e;show⟨B.typeIs,λb q=>?_,F⟩;cases q;obtain⟨ob,_,_,h1,h2,_⟩:=B;exact⟨ob,h1,h2.2.1⟩
section
variable {X:Cx}{pins:AB}{σ:St}{H:Hp}{s:AZ}{a:Addr}{y d:V}{u r:Value}{o:Option V}{A:Ae}{E:AA}
def zsK(U:A.units+1<cLine)(I:Inv X pins σ H s)(g:zch H a y o)(L:yG y u)(O:yG d r)(h:∀w' s',Inv X pins σ H s'->yG (o.getD d) w'->Q w' s') :
  wpAny (model X.prog X.w) A (call (.builtin "dict.get") [.ref a,u,r]) Q E s:=by
 rcases g with ⟨kvs,k,e,ey,l⟩ | ⟨kvs,k,b,e,ey,eb,l⟩
 ·subst ey;obtain⟨z,J,vs,q,B⟩:=zgL I.hok e;show call_meetsIn dB B.typeIs PySem.F.entry_dict_get (PySem.F.args_dict_get_3 _ _ _) (meets_dict_get_default (zR X.prog X.w) a (ziQ L) J r) ⟨_,B.mapOf,h _ _ (I.tok _) ?_⟩;rw[l];exact (q.val k).getD O
 ·subst ey;cases (show u=Value.ref b from L);obtain⟨z,J,xs,q,B⟩:=zjS I.hok e;show call_meetsIn dB B.typeIs PySem.F.entry_dict_get (PySem.F.args_dict_get_3 _ _ _) (meetsH_dict_get_default (tupleKind (zR X.prog X.w)) a b J r) ⟨eA U,k,xs,zfQ I.hok eb,B,h _ _ (I.tok _) ?_⟩;rw[l];exact (q.val k).getD O
end
def zuU (td ty tx:TE):TE:=λσ H Q=>td σ H λx H1=>∃a,x = .ref a/\IsD H1 a/\ty σ H1 λy H2=>tx σ H2 λz H3=>∃o,zch H3 a y o/\Q (o.getD z) H3
section
variable {X:Cx}{o e f:Expr}{apos cpos:Pos}{td ty tx:TE}
def znB (B:X.A.units+1<cLine)(J:PE X o td)(L:PE X e ty)(O:PE X f tx)(m:M2 X o "get" apos e f cpos):PE X (.Call (.Attribute o "get" apos) [e,f] [] cpos) (zuU td ty tx):=by
 intro pins s σ H Q I h;show wpAny_Call_method m.base m.few m.line PySem.F.plainAttrs_dict dB PySem.F.type_dict_get (thn (J pins s σ H _ I h)  ?_);rintro u U ⟨x,H1,I1,Y,a,ex,d,Z⟩;subst ex;obtain rfl:u=Value.ref a:=Y;obtain⟨t1,t2,_⟩:=zsY I1 d;show⟨t1,t2,?_⟩;rw[m.trees]
 show dj rfl (dM (eo (thn (L pins U σ H1 _ I1 Z) λiv s2 ⟨y,H2,I2,ry,q2⟩=>
  eo (thn (O pins s2 σ H2 _ I2 q2) λfv s3 ⟨z,H3,I3,rz,ov,g,q3⟩=>Calls.spliced_nil ?_))))
 exact zsK B I3 g ry rz λw' s4 I4 q=>⟨_,H3,I4,q,q3⟩
variable {pins:AB}{σ:St}{H:Hp}{s:AZ}{a:Addr}{kvs:List (Key×V)}{A:Ae}{E:AA}
variable {y:V}{u:Value}
end
end L2
namespace HT
open PyProof.Rows
def lexLt:AG->AG->Bool
 | [],[]=>false
 | [],_::_=>true
 | _::_,[]=>false
 | x::xs,y::ys=>if x=y then lexLt xs ys else decide (x<y)
section
open PySem.SeqAt
open PySem.AutoSeq1 (wpAny_loadPart')
open PySem.MeetsSeq PySem.MeetsSeq2 PySem.MeetsSeq3
variable {prog:Aa}{w:Ab}{A:Ae}{E:AA}{s:AZ}
def cat_tup(ht:IsTup s.heap t vs.toArray)(hb:IsTup s.heap b q.toArray)(hv:vs≠[])(h1:q=[]->Q (.ref t) s)(h2:q≠[]->Q (.ref s.heap.objs.size) { s with heap:=s.heap.push { cls:=.type "tuple",data:=.seq (vs++q).toArray } })(hsz:vs.length+q.length<=sizeLine):Ag prog w A (binaryOp .Add (.ref t) (.ref b)) Q E s:=by
 obtain⟨⟨cls,dd,data,sl⟩,U,hc,n,hd⟩:=id ht;obtain⟨⟨ad,I,Z,J⟩,B,L,n2,O⟩:=id hb;simp only at hc hd L O;subst hc hd L O;have e:vs.toArray++q.toArray=(vs++q).toArray:=by simp
 by_cases Y:q=[]
 ·exact concat_meets ⟨_,U,rfl⟩ ⟨_,B,rfl⟩ noFill_tuple_add seq_tuple_add PySem.F.slot_tuple_add PySem.F.entry_tuple_add (PySem.F.args_tuple_add_2 _ _)
   (tuple_addW1 t b vs.toArray q.toArray n n2 dd I sl J (by simpa using hv) (by simp[Y])) ⟨U,B,h1 Y⟩
 ·show concat_meets ⟨_,U,rfl⟩ ⟨_,B,rfl⟩ noFill_tuple_add seq_tuple_add PySem.F.slot_tuple_add PySem.F.entry_tuple_add (PySem.F.args_tuple_add_2 _ _)
   (tuple_addW2 t b vs.toArray q.toArray n n2 dd I sl J (by simpa using hv) (by simpa using Y) (by right)) ⟨U,B,?_⟩
  rw[e];exact h2 Y
def sIx (n d:Nat):AQ->Nat
 | none=>d
 | some v=>if v<0 then (v+(n:Int)).toNat else min v.toNat n
def sIx_none (n d:Nat):sIx n d none=d:=rfl
def sIx_nat (n d k:Nat):sIx n d (some (k:Int))=min k n:=by change (if (k:Int)<0 then ((k:Int)+(n:Int)).toNat else min (k:Int).toNat n)=min k n;rw[if_neg (by lia),Int.toNat_natCast]
def zuQ (n d:Nat)(B:d<=n)(o:AQ):sIx n d o<=n:=by
 cases o with
 | none=>exact B
 | some v=>
  change (if v<0 then (v+(n:Int)).toNat else min v.toNat n)<=n;by_cases q:v<0;rw[if_pos q];lia;rw[if_neg q];exact Nat.min_le_right _ _
def zjv (v:Int)(n d:Nat):(if v<0 then max (v+(n:Int)) 0 else min v (n:Int))=((sIx n d (some v):Nat):Int):=by
 change (if v<0 then max (v+(n:Int)) 0 else min v (n:Int))=(((if v<0 then (v+(n:Int)).toNat else min v.toNat n):Nat):Int);grind
def ziA (lo hi:AQ)(n:Nat):Builtin.Slice.sliceAdjust lo hi 1 (n:Int)=(((sIx n 0 lo:Nat):Int),((sIx n n hi:Nat):Int)):=by
 have h1:¬ ((1:Int)<0):=by lia
 unfold Builtin.Slice.sliceAdjust;simp only[h1,if_false];show Prod.ext ?_ ?_
 cases lo with
 | none=>rfl
 | some v=>exact zjv v n 0
 cases hi with
 | none=>rfl
 | some v=>exact zjv v n n
def zi1 (i j:Nat):Builtin.Slice.slicePlaces (i:Int) (j:Int) 1=j - i:=by
 unfold Builtin.Slice.slicePlaces;have h1:(1:Int) > 0:=by lia
 simp only[h1,if_true,Int.ediv_one];split <;> lia
def zd5{o:AQ}{Q:AQ->AZ->Prop}(p:IsPart v o)(h:Q o s):Ag prog w A (Builtin.Slice.slicePartIndex v) Q E s:=by
 cases p with
 | none=>exact slicePart_none h
 | int i t=>exact slicePart_int h
def u9{lo hi:AQ}{Q:Int×Int×Nat->AZ->Prop}(L:s.heap.IsSliceOf J F I .none)(pl:IsPart F lo)(O:IsPart I hi)(h:Q (((sIx n 0 lo:Nat):Int),1,sIx n n hi - sIx n 0 lo) s):Ag prog w A (Builtin.Slice.sliceApplied (.ref J) (pure (n:Int))) Q E s:=by
 obtain⟨Y,q,U,B⟩:=id L;unfold Builtin.Slice.sliceApplied Builtin.Slice.sliceFields;show wpAny_bind (wpAny_bind (wpAny_field q B (x:=F) rfl (wpAny_bind (wpAny_field q B (x:=I) rfl (wpAny_bind (wpAny_field q B (x:=.none) rfl (wpAny_pure ?_)))))));show wpAny_bind (slicePart_none ?_);change wpAny _ _ (if ((1:Int)==0)=true then _ else _) _ _ s;rw[if_neg (by ext)];show wpAny_bind (zd5 pl (wpAny_bind (zd5 O (wpAny_bind (wpAny_pure ?_)))));change wpAny _ _ (match Builtin.Slice.sliceAdjust lo hi 1 (n:Int) with | (lo,hi)=>pure (lo,(1:Int),Builtin.Slice.slicePlaces lo hi 1)) _ _ s;rw[ziA lo hi n];change wpAny _ _ (pure (((sIx n 0 lo:Nat):Int),(1:Int),Builtin.Slice.slicePlaces ((sIx n 0 lo:Nat):Int) ((sIx n n hi:Nat):Int) 1)) _ _ s;rw[zi1];exact wpAny_pure h
def znI (xs:AK)(i k:Nat):((List.range k).filterMap λ(m:Nat)=>xs[((i:Int)+(m:Int) * 1).toNat]?).toArray=((xs.toList.drop i).take k).toArray:=by
 have e:(λ(m:Nat)=>xs[((i:Int)+(m:Int) * 1).toNat]?)=λm=>xs[i+m]?:=by
  funext m;have:((i:Int)+(m:Int) * 1).toNat=i+m:=by lia
  rw[this]
 rw[e];have:=pick_run xs i k;rw[List.filterMap_map] at this;have q:((λx=>xs[x]?) ∘ λx=>i+x)=λm=>xs[i+m]?:=rfl;right
def getItem_tuple_cut{lo hi:AQ}(B:IsTup s.heap t items)(Z:s.heap.IsSliceOf F U Y .none)(pl:IsPart U lo)(pu:IsPart Y hi)(hw:¬ (sIx items.size 0 lo=0/\sIx items.size items.size hi=items.size))(h:Q (.ref s.heap.objs.size) { s with heap:=s.heap.push { cls:=.type "tuple",data:=.seq ((items.toList.drop (sIx items.size 0 lo)).take (sIx items.size items.size hi - sIx items.size 0 lo)).toArray } })(hsz:items.size<=sizeLine):Ag prog w A (getItem (.ref t) (.ref F)) Q E s:=by
 have q:sizeOk (.seq ((items.toList.drop (sIx items.size 0 lo)).take (sIx items.size items.size hi - sIx items.size 0 lo)).toArray):=by change ((items.toList.drop (sIx items.size 0 lo)).take (sIx items.size items.size hi - sIx items.size 0 lo)).toArray.size<=sizeLine;rw[List.size_toArray,List.length_take,List.length_drop,Array.length_toList];lia
 have hj:sIx items.size items.size hi<=items.size:=zuQ _ _ (Nat.le_refl _) hi;obtain⟨os,I,J,ad⟩:=id Z;have L:s.TypeIs (.ref F) "slice" := ⟨os,I,J⟩;unfold getItem;try with_reducible show wpAny_holding ?_
 first | show wpAny_bind (wpAny_pure ?_) | skip
 show wpAny_bind (wpAny_sequenceKey B.typeIs (by ext) ?_)
 show wpAny_bind (wpAny_callSpecial?_slot (name:=Str.ofString "__getitem__") B.typeIs PyProof.Rows.slot_tuple_getitem
  (wpAny_call_entry PyProof.Rows.slot_tuple_getitem B.typeIs entry_tuple_getitem ?_ (args_tuple_getitem _ _)))
 change wpAny _ _ (Builtin.Tuple.tupleItemsOf (.ref t) >>= _) _ _ s;show wpAny_bind (tupleItemsOf_ B ?_);show wpAny_bind (wpAny_typeOf L ?_);rw[if_pos (by ext)];show wpAny_bind (u9 Z pl pu ?_);have O:¬ ((((sIx items.size 0 lo:Nat):Int)==0&&(1:Int)==1&&(sIx items.size items.size hi - sIx items.size 0 lo)==items.size)=true):=by grind
 change wpAny _ _ (if (((sIx items.size 0 lo:Nat):Int)==0&&(1:Int)==1&&(sIx items.size items.size hi - sIx items.size 0 lo)==items.size)=true then _ else _) _ _ s;rw[if_neg O,znI]
 first
  | exact wpAny_bind (m:=Builtin.Tuple.tupleExact _) (wpAny_newObj_type (wpAny_pure ⟨_,rfl,wpAny_pure h⟩) q)
  | exact wpAny_bind (by grind) (by grind)
  | exact wpAny_bind (by grind)
  | exact wpAny_bind (by grind)
end
end HT
namespace L2
open PyProof.Rows
abbrev TO:=St->Hp->(AQ->Hp->Prop)->Prop
def PO (X:Cx)(e:Option Expr)(t:TO):Prop:=
 ∀ (pins:AB) (s:AZ) (σ:St) (H:Hp) (Q:AQ->Hp->Prop),Inv X pins σ H s->t σ H Q->
  Af X (evalPart e X.env) (λu s'=>∃o H',Inv X pins σ H' s'/\IsPart u o/\Q o H') X.xe s
def zma:TO:=λ_ H Q=>Q none H
def zuZ (t:TE):TO:=λσ H Q=>t σ H λx H1=>∃i,x = .int i/\Q (some i) H1
section
variable {X:Cx}{e:Expr}{te:TE}{lo hi:Option Expr}{tl th:TO}{pos p2:Pos}
def zqV:PO X none zma:=by intro pins s σ H Q I h;rw[evalPart_none];exact ae ⟨none,H,I,.none,h⟩
def zqW (h:PE X e te):PO X (some e) (zuZ te):=by intro pins s σ H Q I B;rw[evalPart_some];show thn (h pins s σ H _ I B)  ?_;rintro u L ⟨x,H1,I1,F,J⟩;obtain⟨i,rfl,q⟩:=J;obtain⟨t,rfl⟩:=F;exact⟨some i,H1,I1,.int i t,q⟩
def SlR (X:Cx)(r:V->AQ->AQ->Hp->VK->Prop):Prop:=
 ∀ (pins:AB) (s:AZ) (σ:St) (H:Hp) (x:V) (v q B:Value) (lo hi:AQ) (F:Addr) (Q:VK),Inv X pins σ H s->yG x v->s.heap.IsSliceOf F q B .none->IsPart q lo->IsPart B hi->r x lo hi H Q->
  ∃T id,typeLookup (.type T) "__getitem__" = pure (some (.builtin id))/\s.TypeIs v T/\Af X (getItem v (.ref F)) (EP X pins σ Q) X.xe s
def tSl (r:V->AQ->AQ->Hp->VK->Prop)(te:TE)(tl th:TO):TE:=λσ H Q=>te σ H λx H1=>tl σ H1 λl H2=>th σ H2 λu H3=>r x l u H3 Q
def znD {r:V->AQ->AQ->Hp->VK->Prop}(L:SlR X r)(O:PE X e te)(U:PO X lo tl)(Y:PO X hi th):PE X (.Subscript e (.Slice lo hi none p2) pos) (tSl r te tl th):=by intro pins s σ H Q I h;show Subscript_ (thn (O pins s σ H _ I h)  ?_);rintro v Z ⟨x,H1,I1,r1,q1⟩;show wpAny_Slice (thn (U pins Z σ H1 _ I1 q1) λF s2 ⟨l,H2,I2,pl,q2⟩=>thn (Y pins s2 σ H2 _ I2 q2)  ?_);rintro J B ⟨u,H3,I3,pu,q3⟩;rw[evalPart_none];show ae ?_;have I4:Inv X pins σ H3 { B with heap:=B.heap.push { cls:=.type "slice",data:=.fields #[F,J,.none] } }:=I3.kept (t':=B.toks) λb ob q=>ai _ q;obtain⟨T,id,hT,ht,hg⟩:=L pins { B with heap:=B.heap.push { cls:=.type "slice",data:=.fields #[F,J,.none] } } σ H3 x v F J l u B.heap.objs.size Q I4 r1 (Heap.IsSliceOf.new ..) pl pu q3;change Af X (subscriptTail e (.Slice lo hi none p2) v (.ref B.heap.objs.size)) (EP X pins σ Q) X.xe { B with heap:=B.heap.push { cls:=.type "slice",data:=.fields #[F,J,.none] } };exact tail_any (ops:=[.ref B.heap.objs.size,v]) ht hT hg (by with_unfolding_all rfl)
def zdq (xs:AT)(lo hi:AQ):AT:=(xs.drop (HT.sIx xs.length 0 lo)).take (HT.sIx xs.length xs.length hi - HT.sIx xs.length 0 lo)
def zcA (xs:AT)(lo hi:AQ):(zdq xs lo hi).length<=xs.length:=by unfold zdq;rw[aM,cH];lia
def rSlT (K:AH):V->AQ->AQ->Hp->VK->Prop:=λx lo hi H Q=>∃a xs,x = .ref a/\SqT K H a xs/\
 ¬ (HT.sIx xs.length 0 lo=0/\HT.sIx xs.length xs.length hi=xs.length)/\∀p,H p=none->Q (.ref p) (upd H p (.tup (zdq xs lo hi)))
def zuS:SlR X (rSlT X.K):=by
 intro pins s σ H x v vl vu lo hi sl Q I L O pl U h;obtain⟨a,xs,rfl,Y,Z,q⟩:=h;cases L;obtain⟨its,r,F,J⟩:=I.tuple Y;have B:its.toArray.size=xs.length:=by rw[aS];exact r.length.symm
 show⟨"tuple",_,PyProof.Rows.slot_tuple_getitem.lookup,F.typeIs,?_⟩;show HT.getItem_tuple_cut F O pl U (by rw[B];exact Z) ?_ (by rw[B];exact J);rw[B];show⟨.ref s.heap.objs.size,_,I.laid (t':=s.toks) (o:=.tup (zdq xs lo hi)) (λb ob q=>ai _ q) (af _) ?_,rfl,q _ (I.hok.fresh (af _))⟩;exact⟨ar (zcA xs lo hi) J,_,(r.drop (HT.sIx xs.length 0 lo)).take (HT.sIx xs.length xs.length hi - HT.sIx xs.length 0 lo),zaJ.new _ _⟩
def zxi (K:AH):R2:=λx y H Q=>∃a b xs ys,x = .ref a/\y = .ref b/\SqT K H a xs/\SqT K H b ys/\xs≠[]/\xs.length+ys.length<=sizeLine/\
 (ys=[]->Q (.ref a) H)/\(ys≠[]->∀p,H p=none->Q (.ref p) (upd H p (.tup (xs++ys))))
def z9.nil_iff(r:z9 xs q):q=[]↔xs=[]:=by
 cases r with
 | nil=>simp
 | cons _ _=>simp
def zqA:OpR X (binaryOp .Add) (zxi X.K):=by intro pins s σ H x y v u Q I L O h;obtain⟨a,b,xs,ys,rfl,rfl,U,Y,Z,hz,q1,q2⟩:=h;cases L;cases O;obtain⟨its,F,p1,_⟩:=I.tuple U;obtain⟨J,B,p2,_⟩:=I.tuple Y;show HT.cat_tup p1 p2 (λz=>Z (F.nil_iff.mp z)) (λz=>⟨.ref a,H,I,rfl,q1 (B.nil_iff.mp z)⟩) (λz=>?_) (by rw[<- F.length,<- B.length];exact hz);show⟨.ref s.heap.objs.size,_,I.laid (t':=s.toks) (o:=.tup (xs++ys)) (λb ob q=>ai _ q) (af _) ?_,rfl,q2 (λw=>z (B.nil_iff.mpr w)) _ (I.hok.fresh (af _))⟩;exact⟨by right,_,F.append B,zaJ.new _ _⟩
end
def ixN (n:Nat)(i:Int):Option Nat:=if 0<=i then (if i<n then some i.toNat else none) else if -(n:Int)<=i then some (i+n).toNat else none
def atI {α:Type}(xs:List α)(i:Int):Option α:=(ixN xs.length i).bind λj=>xs[j]?
def zg0 {n:Nat}{i:Int}{j:Nat}(h:ixN n i=some j):seqIndex? i n=some j/\j<n/\-(n:Int)<=i/\i<n:=by
 unfold ixN at h;by_cases q:0<=i;rw[if_pos q] at h;by_cases h1:i<n;rw[if_pos h1] at h;have e:i.toNat=j:=bz h;exact⟨by rw[seqIndex_of q h1,e],by lia,by lia,h1⟩;right;rw[if_neg q] at h;by_cases h1:-(n:Int)<=i;rw[if_pos h1] at h;have e:(i+n).toNat=j:=bz h;exact⟨by rw[seqIndex_neg (by lia) h1,e],by lia,h1,by lia⟩;right
def zjl {α:Type}{xs:List α}{i:Int}{v:α}(h:atI xs i=some v):∃j,seqIndex? i xs.length=some j/\xs[j]?=some v/\j<xs.length/\-(xs.length:Int)<=i/\i<xs.length:=by
 unfold atI at h
 cases e:ixN xs.length i with
 | none=>rw[e] at h;cases h
 | some j=>
  rw[e] at h;obtain⟨h1,h2,q,B⟩:=zg0 e;exact⟨j,h1,h,h2,q,B⟩
def zjm {α:Type}{xs:List α}{j:Nat}{v:α}(h:xs[j]?=some v):atI xs (j:Int)=some v:=by
 have q:j<xs.length:=(ac.mp h).1
 have e:ixN xs.length (j:Int)=some j:=by
  unfold ixN;right
 unfold atI;rw[e];exact h
def zgy (b:Expr):Prop:=∀o i,subscripted b false o i=operate [o,i] (getItem o i)
def IxR (X:Cx)(r:R2):Prop:=
 ∀ (value q:Expr) (pins:AB) (s:AZ) (σ:St) (H:Hp) (x y:V) (v u:Value) (Q:VK),Inv X pins σ H s->yG x v->yG y u->r x y H Q->
  subscripted q false v u=operate [v,u] (getItem v u)->Af X (subscriptTail value q v u) (EP X pins σ Q) X.xe s
def MtR (X:Cx)(id:String)(r:V->AT->Hp->VK->Prop):Prop:=
 ∀ (pins:AB) (s:AZ) (σ:St) (H:Hp) (x:V) (xs:AT) (v:Value) (q:AN) (Q:VK),Inv X pins σ H s->yG x v->z9 xs q->r x xs H Q->
  Af X (call (.builtin id) (v::q)) (EP X pins σ Q) X.xe s
section
variable {X:Cx}{a b:Expr}{ta tb:TE}{pos:Pos}
def zw8(B:IxR X r)(F:PE X a ta)(J:PE X b tb)(L:zgy b):PE X (.Subscript a b pos) (tOp r ta tb):=by intro pins s σ H Q I h;exact Subscript_ (zv1 F J I h λv u O x y H2 I2 U Y q=>B a b pins O σ H2 x y v u Q I2 U Y q (L _ _))
def zvK (K:AH):R2:=λx y H Q=>∃p xs i v,x = .ref p/\y = .int i/\SqL K H p xs/\atI xs i=some v/\Q v H
def zus (K:AH):R2:=λx y H Q=>∃p xs i v,x = .ref p/\y = .int i/\SqT K H p xs/\atI xs i=some v/\Q v H
def zpY:IxR X (zvK X.K):=by
 intro value B pins s σ H x y v u Q I Y Z h L;obtain⟨p,xs,i,z,rfl,rfl,hq,he,q⟩:=h;cases Y;obtain⟨t,rfl⟩:=Z;obtain⟨its,r,pl,hz⟩:=I.list hq;obtain⟨j,h1,h2,h3,h4,h5⟩:=zjl he;obtain⟨w,O,F⟩:=r.get h2;have hl:=r.length;have hn:=zfV;have fin:EP X pins σ Q w s:=⟨z,H,I,F,q⟩;by_cases U:0<=i
 have J:i.toNat=j:=by
  rw[seqIndex_of U h5] at h1;right
 exact item_listR pl.isList U (by lia) (by rw[J];simpa using O) fin L
 have J:(i+(its.toArray.size:Int)).toNat=j:=by
  rw[seqIndex_neg (by lia) h4] at h1;right
 exact subscriptTail_builtinR (x:=w) pl.isList.typeIs slot_list_getitem.lookup
  (wpAny_getItem_list_neg (Q:=λr s'=>r=w/\EP X pins σ Q r s') pl.isList (by lia) (by right) (by lia) (by rw[J];simpa using O) ⟨rfl,fin⟩) L
def zs2:IxR X (zus X.K):=by
 intro value B pins s σ H x y v u Q I J L h O;obtain⟨p,xs,i,z,rfl,rfl,U,Y,q⟩:=h;cases J;obtain⟨t,rfl⟩:=L;obtain⟨its,r,pl,hz⟩:=I.tuple U;obtain⟨j,h1,h2,h3,h4,h5⟩:=zjl Y;obtain⟨w,Z,F⟩:=r.get h2;have hl:=r.length;have hn:=zfV;have fin:EP X pins σ Q w s:=⟨z,H,I,F,q⟩
 exact subscriptTail_builtinR (x:=w) pl.typeIs slot_tuple_getitem.lookup
  (getItem_tuple (j:=j) (Q:=λr s'=>r=w/\EP X pins σ Q r s') pl (by lia) (by lia) (by right) (by simpa using Z) ⟨rfl,fin⟩) O
def ziR (its:AN)(n j:Nat)(u:Value):Obj.mapSeq (·.setIfInBounds j u) { cls:=.type "list",data:=.seq its.toArray n }={ cls:=.type "list",data:=.seq (its.set j u).toArray n }:=by simp[Obj.mapSeq]
def Inv.lst {pins:AB}{σ:St}{H:Hp}{s:AZ}{p:Addr}{xs:AT}(I:Inv X pins σ H s)(h:H p=some (.lst xs)) :
  ∃ (its:AN) (n:Nat),z9 xs its/\s.heap.get? p=some { cls:=.type "list",data:=.seq its.toArray n }/\xs.length<=sizeLine:=by
 obtain⟨z,its,n,r,e⟩:=I.hok p _ h;exact⟨its,n,r,e,z⟩
def Inv.lstUpd{pins:AB}{σ:St}{H:Hp}{s:AZ}{p:Addr}{xs ys:AT}{its its':AN}{f:Obj->Obj}(I:Inv X pins σ H s)(h:H p=some (.lst xs))(J:s.heap.get? p=some { cls:=.type "list",data:=.seq its.toArray n })(F:f { cls:=.type "list",data:=.seq its.toArray n }={ cls:=.type "list",data:=.seq its'.toArray B })(r:z9 ys its')(L:ys.length<=sizeLine)(t:Nat) :
  Inv X pins σ (upd H p (.lst ys)) { s with heap:=s.heap.update p f,toks:=t }:=by
 have e:(s.heap.update p f).get? p=some { cls:=.type "list",data:=.seq its'.toArray B }:=by rw[cu f J (by rw[F] <;> rfl),F]
 show I.write (x:=p) (e:=p) (by rw[h];trivial) (.inl rfl) (λb u O q=>(Heap.get?_update_other _ _ (Ne.symm O)).trans q) ⟨_,e⟩ ?_;exact⟨L,its',B,r,e⟩
def zxl:V->V->V->Hp->(Hp->Prop)->Prop:=λo i v H Q=>∃p xs k j,o = .ref p/\i = .int k/\H p=some (.lst xs)/\ixN xs.length k=some j/\Q (upd H p (.lst (xs.set j v)))
def zoa:PSet X zxl:=by
 intro pins s σ H o i v ov iv u Q I O U Y h;obtain⟨p,xs,k,j,rfl,rfl,J,Z,q⟩:=h;cases O;obtain⟨t,rfl⟩:=U;obtain⟨its,n,r,B,hz⟩:=I.lst J;obtain⟨h1,h2,h3,h4⟩:=zg0 Z;have hl:=r.length;have hn:=zfV
 have I':Inv X pins σ (upd H p (.lst (xs.set j v))) { s with heap:=s.heap.update p (Obj.mapSeq (·.setIfInBounds j u)) }:=
  I.lstUpd J B (ziR its n j u) (r.set Y j) (by right) s.toks
 by_cases L:0<=k
 have F:k.toNat=j:=by
  rw[seqIndex_of L h4] at h1;right
 exact PySem.W.ki_setAt B L (by lia) (by right) (by rw[F];exact⟨_,I',q⟩)
 have F:(k+(its.toArray.size:Int)).toNat=j:=by
  rw[seqIndex_neg (by lia) h3] at h1;right
 exact PySem.W.ki_setBack B (by lia) (by right) (by lia) (by rw[F];exact⟨_,I',q⟩)
def zgl (lo hi:AQ)(n:Nat):(sliceBounds lo hi none n).1=((HT.sIx n 0 lo:Nat):Int)/\(sliceBounds lo hi none n).2.1=((HT.sIx n n hi:Nat):Int)/\(sliceBounds lo hi none n).2.2=1:=by
 show⟨?_,?_,rfl⟩
 ·cases lo with
  | none=>simp[sliceBounds,HT.sIx]
  | some i=>
   simp only[sliceBounds,HT.sIx,Option.getD_none,show (1:Int) > 0 by ext,if_true];by_cases h:i<0
   ·simp only[h,if_true] <;> lia
   ·simp only[h,if_false] <;> lia
 ·cases hi with
  | none=>simp[sliceBounds,HT.sIx]
  | some i=>
   simp only[sliceBounds,HT.sIx,Option.getD_none,show (1:Int) > 0 by ext,if_true];by_cases h:i<0
   ·simp only[h,if_true] <;> lia
   ·simp only[h,if_false] <;> lia
def ze1 (its:AN)(lo hi:AQ):slicePick its.toArray lo hi none=((its.drop (HT.sIx its.length 0 lo)).take (HT.sIx its.length its.length hi - HT.sIx its.length 0 lo)).toArray:=by obtain⟨h1,h2,q⟩:=zgl lo hi its.toArray.size;unfold slicePick;rw[h1,h2,q];simp only[sliceRange_one,pick_run,aS] <;> rfl
def rSlL (K:AH):V->AQ->AQ->Hp->VK->Prop:=λx lo hi H Q=>∃a xs,x = .ref a/\SqL K H a xs/\∀p,H p=none->Q (.ref p) (upd H p (.lst (zdq xs lo hi)))
def zrL:SlR X (rSlL X.K):=by intro pins s σ H x v Z vu lo hi sl Q I J L pl O h;obtain⟨a,xs,rfl,U,q⟩:=h;cases J;obtain⟨its,r,F,Y⟩:=I.list U;have B:=r.length;show⟨"list",_,slot_list_getitem.lookup,F.isList.typeIs,?_⟩;show wpAny_getItem_list_slice F.isList L pl O .none (by simp) ?_ (by grind);rw[ze1,<- B];show⟨.ref s.heap.objs.size,_,I.laid (t':=s.toks) (o:=.lst (zdq xs lo hi)) (λb ob q=>ai _ q) (af _) ?_,rfl,q _ (I.hok.fresh (af _))⟩;exact⟨ar (zcA xs lo hi) Y,_,0,(r.drop (HT.sIx xs.length 0 lo)).take (HT.sIx xs.length xs.length hi - HT.sIx xs.length 0 lo),aB _ rfl⟩
def zds:V->Bool
 | .non=>true
 | .bl _=>true
 | .int _=>true
 | .str _=>true
 | _=>false
def eqV:V->V->Bool
 | .non,.non=>true
 | .bl a,.bl b=>a==b
 | .bl a,.int b=>(if a then 1 else 0)==b
 | .int a,.bl b=>a==(if b then 1 else 0)
 | .int a,.int b=>a==b
 | .str a,.str b=>a==b
 | _,_=>false
def zsO(B:yG y u)(q:yG x v)(I:zds y=true)(F:zds x=true):SeqAt.EqAt A s u v (eqV y x):=by
 cases y with
 | non=>
  cases B
  cases x with
  | non=>cases q;exact SeqAt.EqAt.same _
  | bl b=>cases q;exact SeqAt.EqAt.none_bool b
  | int b=>obtain⟨t,rfl⟩:=q;exact SeqAt.EqAt.none_int b t
  | str b=>obtain⟨t,rfl⟩:=q;exact SeqAt.EqAt.none_str b t
  | _=>exact absurd (show false=true from F) aK
 | bl a=>
  cases B
  cases x with
  | non=>cases q;exact SeqAt.EqAt.bool_none a
  | bl b=>cases q;exact SeqAt.EqAt.bool_bool a b
  | int b=>obtain⟨t,rfl⟩:=q;exact SeqAt.EqAt.bool_int a b t
  | str b=>obtain⟨t,rfl⟩:=q;exact SeqAt.EqAt.bool_str a b t
  | _=>exact absurd (show false=true from F) aK
 | int a=>
  obtain⟨t',rfl⟩:=B
  cases x with
  | non=>cases q;exact SeqAt.EqAt.int_none a t'
  | bl b=>cases q;exact SeqAt.EqAt.int_bool a t' b
  | int b=>obtain⟨t,rfl⟩:=q;exact SeqAt.EqAt.int_int a t' b t
  | str b=>obtain⟨t,rfl⟩:=q;exact SeqAt.EqAt.int_str a t' b t
  | _=>exact absurd (show false=true from F) aK
 | str a=>
  obtain⟨t',rfl⟩:=B
  cases x with
  | non=>cases q;exact SeqAt.EqAt.str_none a t'
  | bl b=>cases q;exact SeqAt.EqAt.str_bool a t' b
  | int b=>obtain⟨t,rfl⟩:=q;exact SeqAt.EqAt.str_int a t' b t
  | str b=>obtain⟨t,rfl⟩:=q;exact SeqAt.EqAt.str_str a t' b t
  | _=>exact absurd (show false=true from F) aK
 | _=>exact absurd (show false=true from I) aK
def eqU (x:V)(u:Value):Bool:=match u with
 | .none=>eqV .non x
 | .bool b=>eqV (.bl b) x
 | .int i _=>eqV (.int i) x
 | .str z _=>eqV (.str z) x
 | _=>false
def zoD(r:yG y u)(f:zds y=true):eqU x u=eqV y x:=by
 cases y with
 | non=>cases r;rfl
 | bl b=>cases r;rfl
 | int i=>obtain⟨t,rfl⟩:=r;rfl
 | str z=>obtain⟨t,rfl⟩:=r;rfl
 | _=>exact absurd (show false=true from f) aK
def zcw:∀ {xs:AT} {q:AN},z9 xs q->xs.all zds=true->q.any (eqU x)=xs.any λy=>eqV y x
 | _,_,.nil,_=>rfl
 | y::xs,u::q,.cons r t,f=>by rw[b9,aQ] at f;rw[cr,cr,zoD r f.1,zcw t f.2]
def zbf {A:Ae}{s:AZ}{x:V}{v:Value}(F:yG x v)(I:zds x=true):∀ {xs:AT} {q:AN},z9 xs q->xs.all zds=true->∀u∈q,SeqAt.EqAt A s u v (eqU x u)
 | _,_,.nil,_=>by grind
 | y::xs,u::q,.cons r t,f=>λJ B=>by
  rw[b9,aQ] at f;rcases aJ.mp B with rfl | B;rw[zoD r f.1];exact zsO r F f.1 I;exact zbf F I t f.2 J B
def inV (x:V)(xs:AT):Bool:=xs.any λy=>eqV y x
def rIn (K:AH)(q:Bool):R2:=λx y H Q=>∃p xs,y = .ref p/\(SqL K H p xs\/SqT K H p xs)/\zds x=true/\xs.all zds=true/\Q (.bl (if q then !inV x xs else inV x xs)) H
def zls:OpR X (compareOp .In) (rIn X.K false):=by
 intro pins s σ H x y v u Q I J O h;obtain⟨p,xs,rfl,B,L,fs,q⟩:=h;cases O;rcases B with B | B;obtain⟨its,r,pl,U⟩:=I.list B;show SeqAt.in_listAt (eqU x) pl.isList (λw F=>zbf J L r fs w (by simpa using F)) ⟨.bl _,H,I,rfl,?_⟩;rw[show its.toArray.any (eqU x)=its.any (eqU x) by simp,zcw r fs];exact q;obtain⟨its,r,pl,U⟩:=I.tuple B;show SeqAt.in_tupleAt (eqU x) pl (λw F=>zbf J L r fs w (by simpa using F)) ⟨.bl _,H,I,rfl,?_⟩;rw[show its.toArray.any (eqU x)=its.any (eqU x) by simp,zcw r fs];exact q
def zf8:OpR X (compareOp .NotIn) (rIn X.K true):=by
 intro pins s σ H x y v u Q I J O h;obtain⟨p,xs,rfl,B,L,fs,q⟩:=h;cases O;rcases B with B | B;obtain⟨its,r,pl,U⟩:=I.list B;show SeqAt.notIn_listAt (eqU x) pl.isList (λw F=>zbf J L r fs w (by simpa using F)) ⟨.bl _,H,I,rfl,?_⟩;rw[show its.toArray.any (eqU x)=its.any (eqU x) by simp,zcw r fs];exact q;obtain⟨its,r,pl,U⟩:=I.tuple B;show SeqAt.notIn_tupleAt (eqU x) pl (λw F=>zbf J L r fs w (by simpa using F)) ⟨.bl _,H,I,rfl,?_⟩;rw[show its.toArray.any (eqU x)=its.any (eqU x) by simp,zcw r fs];exact q
def zfp:zct X (.type "list") (λxs H Q=>∃p ys,xs=[.ref p]/\(SqL X.K H p ys\/SqT X.K H p ys)/\∀l,H l=none->Q (.ref l) (upd H l (.lst ys))):=by
 intro pins s σ H xs us Q I r h;obtain⟨p,ys,rfl,J,q⟩:=h;obtain⟨u,rfl,rx⟩:=zaf r;cases rx
 have fin:∀ (its:AN),z9 ys its->ys.length<=sizeLine->∀ (h':Heap) (B:Nat),(∀b o',s.heap.get? b=some o'->h'.get? b=some o')->
   h'.get? s.heap.objs.size=some { cls:=.type "list",dict:=none,data:=.seq its.toArray B,slots:=#[] }->EP X pins σ Q (.ref s.heap.objs.size) { s with heap:=h' }:=λits F L h' B O e=>
  ⟨.ref s.heap.objs.size,_,I.laid (t':=s.toks) O (af _) (show yn X.prog X.w _ h' _ (.lst ys) from ⟨L,its,B,F,e⟩),rfl,q _ (I.hok.fresh (af _))⟩
 rcases J with J | J;obtain⟨its,F,pl,L⟩:=I.list J;have U:=F.length;obtain⟨o,Y,Z,n,hd⟩:=pl.isList;exact call_list_seq p (.inl rfl) Y Z hd (λh' B O e=>fin its F L h' B O e) (by grind);obtain⟨its,F,pl,L⟩:=I.tuple J;have U:=F.length;obtain⟨o,Y,Z,n,hd⟩:=pl;exact call_list_seq p (.inr rfl) Y Z hd (λh' B O e=>fin its F L h' B O e) (by grind)
def zeg:zct X (.type "tuple") (λxs H Q=>∃p ys,xs=[.ref p]/\((SqL X.K H p ys/\∀l,H l=none->Q (.ref l) (upd H l (.tup ys)))\/(SqT X.K H p ys/\Q (.ref p) H))):=by
 intro pins s σ H xs U Q I r h;obtain⟨p,ys,rfl,h⟩:=h;obtain⟨u,rfl,L⟩:=zaf r;cases L;rcases h with ⟨hq,q⟩ | ⟨hq,q⟩;obtain⟨its,B,pl,F⟩:=I.list hq;have J:=B.length;show call_tuple_list pl.isList (λh' O=>?_) (by grind);have I1:Inv X pins σ H { s with heap:=h' }:=I.kept (t':=s.toks) O
 have I2:Inv X pins σ (upd H h'.objs.size (.tup ys)) { s with heap:=h'.push { cls:=.type "tuple",data:=.seq its.toArray } }:=
  I1.laid (t':=s.toks) (λb o e=>ai _ e) (af _) (show yn X.prog X.w _ _ _ (.tup ys) from ⟨F,its,B,zaJ.new _ _⟩)
 exact⟨.ref h'.objs.size,_,I2,rfl,q _ (I1.hok.fresh (af _))⟩;obtain⟨its,B,pl,F⟩:=I.tuple hq;exact call_tuple_same pl ⟨.ref p,H,I,rfl,q⟩
def tyV (K:AH)(T:String)(x:V)(H:Hp):Prop:=match x with
 | .str _=>T = "str"
 | .int _=>T = "int"
 | .ref p=>(T = "list" /\ ∃xs,SqL K H p xs)\/(T = "tuple" /\ ∃o,K.lookup p=some o/\o.cls = .type "tuple" /\ o.dict=none)\/
   (T = "dict" /\ ((∃kvs,H p=some (.dK kvs))\/∃kvs,H p=some (.dT kvs)))\/(T = "set" /\ ∃S n,H p=some (.set S n))
 | _=>False
def zu6 {pins:AB}{σ:St}{H:Hp}{s:AZ}{T:String}{x:V}{v:Value}(I:Inv X pins σ H s)(r:yG x v)(ty:tyV X.K T x H) :
  s.TypeIs v T/\∀a,v = .ref a->∃ob,s.heap.get? a=some ob/\ob.dict=none:=by
 cases x with
 | str z=>
  obtain⟨t,rfl⟩:=r;cases (show T = "str" from ty);exact⟨typeIs_str s z t,λ_ e=>nomatch e⟩
 | int i=>
  obtain⟨t,rfl⟩:=r;cases (show T = "int" from ty);exact⟨fm s i t,λ_ e=>nomatch e⟩
 | ref p=>
  cases r;rcases ty with ⟨rfl,xs,hq⟩ | ⟨rfl,o,q,hc,B⟩ | ⟨rfl,q⟩ | ⟨rfl,S,n,q⟩;obtain⟨its,_,pl,_⟩:=I.list hq;show⟨pl.isList.typeIs,λa e=>?_⟩;cases e;obtain⟨o,n,e,c,B,_⟩:=pl;exact⟨o,e,B⟩;show⟨⟨o,I.kIn p o q,hc⟩,λa e=>?_⟩;cases e;exact⟨o,I.kIn _ o q,B⟩
  have z:∃o,s.heap.get? p=some o/\o.ExactDict:=by
   rcases q with ⟨kvs,q⟩ | ⟨kvs,q⟩;obtain⟨_,_,_,_,o,_,_,e,ex,_⟩:=I.hok p _ q;exact⟨o,e,ex⟩;obtain⟨_,_,_,_,o,_,_,e,ex,_⟩:=I.hok p _ q;exact⟨o,e,ex⟩
  obtain⟨o,e,ex⟩:=z;show⟨⟨o,e,ex.1⟩,λa F=>?_⟩;cases F;exact⟨o,e,ex.2.1⟩;obtain⟨o,_,_,_,e,ex,_⟩:=I.hok p _ q;show⟨⟨o,e,ex.1⟩,λa F=>?_⟩;cases F;exact⟨o,e,ex.2.1⟩
 | _=>exact False.elim ty
def tBM (K:AH)(T:String)(r:V->AT->Hp->VK->Prop)(to:TE)(t:TA):TE:=λσ H Q=>to σ H λx H1=>tyV K T x H1/\t σ H1 λxs H2=>r x xs H2 Q
variable {o e:Expr}{es:AO}{to:TE}{t:TA}{name:Str}{apos cpos:Pos}{T id:String}{r:V->AT->Hp->VK->Prop}
def ztY (Z:PlainAttrs T)(J:Slot T name id)(O:typeOf (.builtin id)=pure (.type "method_descriptor"))(hm:MtR X id r)(ho:PE X o to)(ha:PA X (e::es) t)
  (B:attributeBase o name X.env (eval o X.env)=eval o X.env:=by rfl)
  (L:((backTo cpos (starEach (e::es) X.env)).all (λx=>!x.1)&&(backToKw cpos (keywordEach [] X.env)).all (λx=>x.1.isSome)
   && decide ((e::es).length+([]:List Keyword).length+(if ([]:List Keyword).isEmpty then 0 else 1)<30))=true:=by rfl)
  (F:(apos.endLine==cpos.line)=true:=by rfl) (hs:starEach (e::es) X.env=(false,eval e X.env)::starEach es X.env:=by rfl) (q:(backTo cpos (starEach es X.env)).any (·.1)=false:=by rfl) :
  PE X (.Call (.Attribute o name apos) (e::es) [] cpos) (tBM X.K T r to t):=by
 intro pins s σ H Q I h;show wpAny_Call_method_late B L F rfl (thn (ho pins s σ H _ I h)  ?_);rintro v s1 ⟨x,H1,I1,U,ty,q1⟩;obtain⟨h1,h2⟩:=zu6 I1 U ty;show⟨T,id,Z,J,O,h1,h2,?_⟩;have Y:=ha cpos pins s1 σ H1 _ I1 q1;rw[hs] at Y ⊢;show dj (by change (false || (backTo cpos (starEach es X.env)).any (·.1))=false;rw[q] <;> rfl) (dM ?_);exact thn Y <| by rintro us s2 ⟨vs,H2,I2,r2,q2⟩;exact hm pins s2 σ H2 x vs v us Q I2 U r2 q2
end
def MtM (X:Cx)(id:String)(r:V->AT->Hp->VK->Prop):Prop:=
 ∀ (pins:AB) (s:AZ) (σ:St) (H:Hp) (x:V) (xs:AT) (v:Value) (q:AN) (Q:VK),Inv X pins σ H s->yG x v->z9 xs q->r x xs H Q->
  Af X (call (.builtin id) (v::q)) (EP X pins σ Q) X.xe s
def z9.one:∀ {x:V} {q:AN},z9 [x] q->∃u,q=[u]/\yG x u
 | _,_,.cons r .nil=>⟨_,rfl,r⟩
def z9.eraseIdx:∀ {xs:AT} {q:AN} (i:Nat),z9 xs q->z9 (xs.eraseIdx i) (q.eraseIdx i)
 | _,_,_,.nil=>.nil
 | _,_,0,.cons _ t=>t
 | _,_,i+1,.cons r t=>.cons r (z9.eraseIdx i t)
def z9.rep(h:z9 xs q):∀k:Nat,z9 (List.replicate k xs).flatten (List.replicate k q).flatten
 | 0=>.nil
 | k+1=>by rw[cG,cG,dq,dq];exact z9.append h (z9.rep h k)
def zfU {α:Type}:∀ (l:List α) (i:Nat),(l.eraseIdx i).length<=l.length
 | [],_=>af _
 | _::_,0=>dX _
 | _::r,i+1=>Nat.succ_le_succ (zfU r i)
def zfA (its:AN):∀ (k:Nat) (acc:AN),
  List.foldl (λx1 q=>x1++q) acc.toArray (List.replicate k its.toArray)=(acc++(List.replicate k its).flatten).toArray
 | 0,acc=>by simp
 | k+1,acc=>by
  have e:acc.toArray++its.toArray=(acc++its).toArray:=by simp
  have B:(acc++its)++(List.replicate k its).flatten=acc++(List.replicate (k+1) its).flatten:=by grind
  rw[<- B,<- zfA its k (acc++its),<- e,cG,List.foldl_cons]
section
variable {X:Cx}{pins:AB}{σ:St}{H:Hp}{s:AZ}{l b:Addr}{xs ys zs:AT}
def Inv.lset{its its':AN}{f:AK->AK}(I:Inv X pins σ H s)(B:H l=some (.lst xs))(e:s.heap.get? l=some { cls:=.type "list",data:=.seq its.toArray n })(F:f its.toArray=its'.toArray)(J:z9 ys its')(L:ys.length<=sizeLine) :
  Inv X pins σ (upd H l (.lst ys)) { s with heap:=s.heap.update l (Obj.mapSeq f),toks:=t' }:=by
 have q:=PySem.IsL.update e f;rw[F] at q;show I.write (x:=l) (e:=l) (by rw[B];exact trivial) (.inl rfl) (λY u O U=>(Heap.get?_update_other s.heap (Obj.mapSeq f) (Ne.symm O)).trans U) ⟨_,q⟩ ?_;exact⟨L,its',_,J,q⟩
def Inv.lnew(I:Inv X pins σ H s)(B:z9 ys its)(F:ys.length<=sizeLine) :
  Inv X pins σ (upd H s.heap.objs.size (.lst ys)) { s with heap:=s.heap.push { cls:=.type "list",data:=.seq its.toArray },toks:=t' }:=
 I.laid (λ_ _ q=>ai _ q) (af _) ⟨F,its,0,B,aB _ rfl⟩
def Inv.fresh (I:Inv X pins σ H s):H s.heap.objs.size=none:=I.hok.fresh (af _)
def Inv.lstM (I:Inv X pins σ H s)(q:H l=some (.lst xs)):xs.length<=sizeLine/\∃ (its:AN) (n:Nat),z9 xs its/\xs.length=its.length/\s.heap.get? l=some { cls:=.type "list",data:=.seq its.toArray n }:=by obtain⟨z,its,n,r,e⟩:=I.hok l _ q;exact⟨z,its,n,r,r.length,e⟩
def zia(h:n<=sizeLine):Builtin.List.listTooLong n=false:=by
 unfold Builtin.List.listTooLong;right
def zeX:V->AT->Hp->VK->Prop:=λx vs H Q=>∃l xs y,x = .ref l/\vs=[y]/\H l=some (.lst xs)/\xs.length<sizeLine/\Q .non (upd H l (.lst (xs++[y])))
def zf0:MtM X "list.append" zeX:=by intro pins s σ H x vs v U Q I J L h;obtain⟨l,xs,y,rfl,rfl,B,Y,q⟩:=h;cases J;obtain⟨u,rfl,O⟩:=L.one;obtain⟨z,its,n,r,Z,e⟩:=I.lstM B;show c9 F.slot_list_append ⟨_,e,rfl⟩ F.entry_list_append (F.args_list_append_2 _ _) (PySem.list_append l its.toArray n u (by grind)) ⟨e,?_⟩;show⟨.non,_,I.lset (its':=its++[u]) B e (by simp) (r.append (.cons O .nil)) ?_,rfl,q⟩;rw[aj,dC];lia
def zrr:V->AT->Hp->VK->Prop:=λx vs H Q=>∃l b xs zs,x = .ref l/\vs=[.ref b]/\H l=some (.lst xs)/\H b=some (.lst zs)/\xs.length+zs.length<=sizeLine/\Q .non (upd H l (.lst (xs++zs)))
def zk7:MtM X "list.extend" zrr:=by
 intro pins s σ H x vs v us Q I O U h;obtain⟨l,b,xs,zs,rfl,rfl,L,Y,hz,q⟩:=h;cases O;obtain⟨u,rfl,Z⟩:=U.one;cases Z;obtain⟨z,its,n,r,hl,e⟩:=I.lstM L;obtain⟨z2,B,n2,r2,ad,e2⟩:=I.lstM Y;have hsz:its.toArray.size+B.toArray.size<=sizeLine:=by rw[aS,aS];lia
 have J:¬ (!its.toArray.isEmpty&&Builtin.List.listTooLong (its.toArray.size+B.toArray.size))=true:=by
  rw[zia hsz,cN];grind
 show c9 F.slot_list_extend ⟨_,e,rfl⟩ F.entry_list_extend (F.args_list_extend_2 _ _)
  (AutoSeq1.list_extend_list_list_0 l its.toArray n b B.toArray n2 J (by lia) (by lia)) ⟨e,e2,?_⟩
 show⟨.non,_,I.lset (its':=its++B) L e (by simp) (r.append r2) ?_,rfl,q⟩;right
def zo3:V->AT->Hp->VK->Prop:=λx vs H Q=>∃l xs i k y,x = .ref l/\vs=[.int i]/\H l=some (.lst xs)/\-(2 ^ 63)<=i/\i<2 ^ 63/\seqIndex? i xs.length=some k/\xs[k]?=some y/\Q y (upd H l (.lst (xs.eraseIdx k)))
def zh3:MtM X "list.pop" zo3:=by
 intro pins s σ H x vs v Z Q I L O h;obtain⟨l,xs,i,k,y,rfl,rfl,J,h1,h2,hk,U,q⟩:=h;cases L;obtain⟨u,rfl,Y⟩:=O.one;obtain⟨t,rfl⟩:=Y;obtain⟨z,its,n,r,hl,e⟩:=I.lstM J;obtain⟨w,hw,B⟩:=r.get U
 show c9 F.slot_list_pop ⟨_,e,rfl⟩ F.entry_list_pop (F.args_list_pop_2 _ _)
  (MeetsSeq.list_pop_at l its.toArray n i t k w (fitsIndex_both h1 h2) (by right) (by right) (by right)) ⟨e,?_⟩
 show⟨y,_,I.lset (its':=its.eraseIdx k) J e ?_ (r.eraseIdx k) ?_,B,q⟩;right;have:=zfU xs k;lia
def rCat:R2:=λx y H Q=>∃l b xs zs,x = .ref l/\y = .ref b/\H l=some (.lst xs)/\H b=some (.lst zs)/\xs.length+zs.length<=sizeLine/\∀p,H p=none->Q (.ref p) (upd H p (.lst (xs++zs)))
def ztL:OpR X (binaryOp .Add) rCat:=by
 intro pins s σ H x y v u Q I F J h;obtain⟨l,b,xs,zs,rfl,rfl,L,O,hz,q⟩:=h;cases F;cases J;obtain⟨z,its,n,r,hl,e⟩:=I.lstM L;obtain⟨z2,B,n2,U,Y,Z⟩:=I.lstM O;show PySem.P.add_list e Z ?_ (by right);have ea:its.toArray++B.toArray=(its++B).toArray:=by simp
 rw[ea];exact⟨.ref _,_,I.lnew (t':=s.toks) (r.append U) (by right),rfl,q _ I.fresh⟩
def zvM:R2:=λx y H Q=>∃l k xs,x = .ref l/\y = .int k/\H l=some (.lst xs)/\-(2 ^ 63)<=k/\k<2 ^ 63/\xs.length * k.toNat<=sizeLine/\
 ∀p,H p=none->Q (.ref p) (upd H p (.lst (List.replicate k.toNat xs).flatten))
def zqf {α:Type}(xs:List α)(k:Nat):(List.replicate k xs).flatten.length=k * xs.length:=by right
def ztR:OpR X (binaryOp .Mult) zvM:=by
 intro pins s σ H x y v u Q I rx ry h;obtain⟨l,k,xs,rfl,rfl,hH,h1,h2,hz,q⟩:=h;cases rx;obtain⟨t,rfl⟩:=ry;obtain⟨z,its,n,r,hl,e⟩:=I.lstM hH;have hlen:its.toArray.size * k.toNat<=sizeLine:=by rw[aS,<- hl];exact hz
 have hcap:¬ its.toArray.size * k.toNat > (2 ^ 63 - 1) / 8:=by
  have:(sizeLine:Nat)<=(2 ^ 63 - 1) / 8:=by ext
  lia
 have hfit:¬ (!Builtin.List.listFitsIndex k)=true:=by
  rw[fitsIndex_both h1 h2];grind
 have hlong:¬ Builtin.List.listTooLong (its.toArray.size * k.toNat)=true:=by
  rw[zia hlen];grind
 have hnew:List.foldl (λx1 x2=>x1++x2) #[] (List.replicate (if its.toArray.isEmpty=true then 0 else k.toNat) its.toArray)=(List.replicate k.toNat its).flatten.toArray:=by
  have f0:∀m:Nat,List.foldl (λx1 x2=>x1++x2) #[] (List.replicate m its.toArray)=(List.replicate m its).flatten.toArray:=λm=>by
   have:=zfA its m [];right
  rw[f0]
  cases its with
  | nil=>simp
  | cons a r'=>rw[if_neg (by simp)]
 show wpAny_binaryOp_repeat_ref (T := "list") (U := "int") (by ext) ⟨_,e,rfl⟩ (λs'=>fm s' k t) noFill_list_mul F.fills_int_mul F.slot_int_rmul repeat_list F.slot_int_index.lookup
  (c9 F.slot_int_rmul (fm s k t) F.entry_int_rmul (F.args_int_rmul_2 _ _) (int___rmul___int_list k t l its.toArray n)
   ⟨e,rfl,⟨_,e,rfl⟩,c9 F.slot_list_mul ⟨_,e,rfl⟩ F.entry_list_mul (F.args_list_mul_2 _ _) (AutoListH.list___mul___list_int_3 l its.toArray n k t hfit hcap hlong) ⟨e,?_⟩⟩)
 rw[hnew];exact⟨.ref _,_,I.lnew (t':=s.toks) (r.rep k.toNat) (by rw[zqf,Nat.mul_comm];exact hz),rfl,q _ I.fresh⟩
variable {prog:Aa}{w:Ab}{A:Ae}{E:AA}
end
end L2
namespace Att
open PySem.W PySem.Calls PyProof.Rows
def zcP:∀ (ns:AG) (vs:AN),WellAll P h vs (ns.map WData.int)->IntsAre vs ns:=by
 intro ns
 induction ns with
 | nil=>
  intro vs w;rw[List.map_nil] at w;cases w;exact .nil
 | cons n ns q=>
  intro vs w;rw[List.map_cons] at w
  cases w with
  | cons a b=>
   cases a;exact .cons _ _ (q _ b)
def zl2{l:OpenLaw}(hn:l.most=some n){P:Params}{h:Heap}{q:AN}(B:l.row.toRowW.claim.pre args=true)(J:WellAll P h q args) :
  ∃a vs ns,q=[Value.ref a]/\args=[WData.list (ns.map WData.int)]/\h.get? a=some { cls:=.type "list",data:=.seq vs.toArray }/\IntsAre vs ns/\ns.length<=n:=by
 have L:WShape.hasAll [] args [.list .int]=true:=(pre_splitW B).1;have O:l.pre.holds [] { args:=args }=true:=(pre_splitW B).2;obtain⟨d,r,rfl,h1,h2⟩:=hasAllW_cons L;obtain rfl:=hasAllW_nil h2;obtain⟨xs,rfl,Y⟩:=hasW_list h1;obtain⟨ns,rfl⟩:=items_int Y
 have F:ns.length<=n:=by
  unfold OpenLaw.pre at O
  have U:(WTm.not (.lt (.lit (.int (n:Int))) (.len (.arg 0)))).holds [] { args:=[.list (ns.map .int)] }=true:=by
   have U:=(holds_andW O).1;right
  have h5:=condW_of U (w_not (w_lt w_lit (w_len_list (w_arg rfl))));grind
 cases J with
 | cons Z w2=>
  cases w2
  cases Z with
  | list ho I=>exact⟨_,_,ns,rfl,rfl,ho,zcP ns _ I,F⟩
def zlB (l:OpenLaw)(args:List WData):l.row.toRowW.claim.post args (.bool true) args=true:=
 postW_of (r:=l.row.toRowW) (X:=(true==true))
  (show WShape.has [] (.bool true) .bool=true by first | rfl | decide | simp[WShape.has,WShape.arms,WShape.armsAll])
  (show (WTm.eq .res (.lit (.bool true))).value [] { args:=args,res:=some (.bool true),after:=args }=some (.bool (true==true)) from w_eq_bool (w_res rfl) w_lit) rfl
def attach_call{l:OpenLaw}{q:Aa}{F:AM}{XP:(AI)->Heap->Prop}{YP:Ab->Heap->Prop}{d:DefRec}(hn:l.most=some n)(ag:d.params.defaults=[])(O:∀ (w:Ab) (I B:AZ) (mg mb:AI) (fa:Addr) (o:Obj) (pm cd J:Value) (a:Addr) (vs:AN) (ns:AG),
   Ground q F [] XP w I mg mb B.heap->YP w B.heap->
   B.heap.get? fa=some o->o.data = .func (docDef d.name d.params d.body d.scope pm cd J)->B.heap.CodeRec cd d.name->mg d.name=some (.ref fa)->
   B.heap.get? a=some { cls:=.type "list",data:=.seq vs.toArray }->IntsAre vs ns->ns.length<=n->B.gens = #[]->
   codeAny (model l.prog w) callerA (.call (.ref fa) ⟨[.ref a],[]⟩) (λr s'=>r = .ok (.ret (.bool true))/\OldK B.heap s'.heap/\s'.os=B.os/\AllBare s'.gens) B) :
  WalkO q F XP YP l.row.toRowW d [] (λf vs=>PySem.call f vs):=by
 intro w I B mg mb G Y fa o pm cd J dV kV ho hd al hD an hg args av as U a0 a1 ap a2;obtain rfl:dV = .none:=Dflts.none hD ag;obtain rfl:kV = .none:=Dflts.noKw hD;obtain⟨a,vs,ns,rfl,rfl,Z,L,ad⟩:=zl2 hn U ap;show enter_call (codeAny_mono (O w I B mg mb fa o pm cd J a vs ns G Y ho (fd_plain hd) al an Z L ad hg) λr s' hq=>?_);obtain⟨rfl,h2,h3,h4⟩:=hq;exact⟨.inl ⟨.bool true,.bool true,[],rfl,λ_=>rfl,.bool true,zlB l _,λ_=>⟨List.Pairwise.nil,λ_ hm=>(nomatch hm)⟩⟩,h2,h3,h4⟩
section
variable {prog:Aa}{w:Ab}{A:Ae}{E:AA}{s:AZ}{K:Frag}
def ledger (h:Heap)(L d:Addr):AB:=(List.range h.objs.size).filterMap λa=>if a=L\/a=d then none else (h.get? a).map λo=>(a,o)
end
end Att
namespace L2
open PyProof.Rows
def zgr:∀ {vs:AN} {ns:AG},IntsAre vs ns->z9 (ns.map V.int) vs
 | _,_,.nil=>.nil
 | _,_,.cons n t h=>.cons ⟨t,rfl⟩ (zgr h)
def zvV (H:Hp):Prop:=∀b,H b=none\/∃o xs,H b=some (.frz o (.lst xs))
def znk{P:Aa}{w:Ab}{K:AH}{mg mb:AI}{CX:CXT}{fa a:Addr}{fd:Ac}{sp:Sp}{B:AZ}{vs:AN}{ns:AG}(KX:K.In B.heap)(Y:B.heap.Ns mainGlobals mg)(J:B.heap.Ns builtinsNs mb)(ap:∀x:Str,x ≠ "__name__" -> mb x=bootBuiltins x)(Z:B.heap.NoLimit)(hg:B.gens = #[])(ha:B.heap.get? a=some { cls:=.type "list",data:=.seq vs.toArray })(hi:IntsAre vs ns)(hl:ns.length<=sizeLine)(hr:Room k callerA)(F:∀base:Heap,K.In base->base.Ns mainGlobals mg->FnOk P w K mg base CX k fa fd [x] sp)(U:∀ (s:AZ) (u:Value),BindsTo s fd ⟨[u],[]⟩ [(x,u)])(as:∀H:Hp,zvV H->SqL K H a (ns.map V.int)->sp [.ref a] H (λv _=>v = .bl true) λ_ _ _=>False)(av:∀H e s',CX [] H B (λ_ _ _=>False) e s'->False) :
  codeAny (model P w) callerA (.call (.ref fa) ⟨[.ref a],[]⟩) (λr s'=>r = .ok (.ret (.bool true))/\OldK B.heap s'.heap/\s'.os=B.os/\AllBare s'.gens) B:=by
 have rv:=zgr hi;have a1:=hi.length
 have O:∀H:Hp,zvV H->SqL K H a (ns.map V.int)->HOk P w H B.heap->(∀b,H b≠none->b=a)->(H a≠none->K.lookup a=none)->
   codeAny (model P w) callerA (.call (.ref fa) ⟨[.ref a],[]⟩) (λr s'=>r = .ok (.ret (.bool true))/\OldK B.heap s'.heap/\s'.os=B.os/\AllBare s'.gens) B:=by
  intro H hO hS ad hA hK;have I:∀ {b:Addr} {o:Obj},B.heap.get? b=some o->H b=none->(zmY B.heap H).get? b=some o:=λe n=>zmZ e n;have a0:∀ {b:Addr} {o:Obj} {es:Array DictEntry} {ep:Nat},B.heap.get? b=some o->o.data = .dict es ep->H b=none:=λ{b o es ep} e d=>by grind
  have L:∀ {b:Addr} {m:AI},B.heap.Ns b m->(zmY B.heap H).Ns b m:=λ{b m} ⟨o,es,ep,e,d,r⟩=>⟨o,es,ep,I e (a0 e d),d,r⟩;have ag:K.In (zmY B.heap H):=λb o e=>I (KX b o e) (by grind);have hM:Mod K mg (zmY B.heap H):=⟨ag,L Y,⟨mb,L J,ap⟩,let ⟨mc,h1,h2⟩:=Z;⟨mc,L h1,h2⟩⟩;have e0:Env0 P w K mg (zmY B.heap H) callerA [] B H:=⟨rfl,hM,λb o e=>zqw e,Nat.le_of_eq (zke _ _),trivial,λb J=>absurd (show b∈([]:AY) from J) (by simp),ad,.of_eq hg⟩;show dy ((F _ ag (L Y)).run callerA [] B H ⟨[.ref a],[]⟩ [.ref a] [.ref a] _ _ hr e0 (U B (.ref a)) (.cons rfl .nil) (as H hO hS)) λr s' h=>?_
  cases r with
  | error e=>exact (av H e s' h).elim
  | ok fl=>
   cases fl with
   | next=>exact False.elim h
   | brk=>exact False.elim h
   | cont=>exact False.elim h
   | ret u=>
    obtain⟨v,H',os,al,un,an,r',q⟩:=h;have q':v = .bl true:=q;subst q';obtain rfl:u=Value.bool true:=r';show⟨rfl,OldK.of_keep λb o e=>?_,os,al⟩
    cases q:H b with
    | none=>exact un.keep b o e q (by intro z;exact absurd (show b∈([]:AY) from z) (by simp)) (by simp)
    | some u=>
     rcases hO b with z | ⟨ob,xs,z⟩;grind;have z2:=un.frzs b ob _ z;obtain⟨e1,_⟩:=ad b _ z;obtain⟨e2,_⟩:=an b _ z2;grind
 cases hk:K.lookup a with
 | some o=>
  have e:=KX a o hk;rw[ha] at e;cases e;show O (λ_=>none) (λ_=>.inl rfl) (.inr ⟨_,vs.toArray,_,hk,rfl,rfl,rfl,by right,by simpa using rv⟩) (λb u z=>by lia) (by grind) λz=>absurd rfl z
 | none=>
  show O (λb=>if b=a then some (.frz { cls:=.type "list",data:=.seq vs.toArray } (.lst (ns.map V.int))) else none) (λb=>?_) (.inl (.inr ⟨{ cls:=.type "list",data:=.seq vs.toArray },if_pos rfl⟩)) (λb u z=>?_) (λb z=>?_) λ_=>hk;by_cases J:b=a;exact .inr ⟨_,_,if_pos J⟩;exact .inl (if_neg J);by_cases J:b=a;have z':=(if_pos J).symm.trans z;cases z';subst J;exact⟨ha,by right,vs,_,rv,ha⟩;right;grind
def zsb{l:PySem.W.OpenLaw}{q:Aa}{I:AM}{XP:(AI)->Heap->Prop}{YP:Ab->Heap->Prop}{d:DefRec}{K:Params->AH}{CX:Ab->CXT}{sp:Ab->Sp}(hn:l.most=some n)(U:n<=sizeLine)(Z:d.params.defaults=[])(hr:Room k callerA)(hY:∀ (w:Ab) (h:Heap),YP w h->(K w.params).In h)(F:∀ (w:Ab) (mg:AI) (fa:Addr) (h:Heap),(K w.params).In h->h.Ns mainGlobals mg->mg d.name=some (.ref fa)->
   ∃fd:Ac,(∀ (s:AZ) (u:Value),BindsTo s fd ⟨[u],[]⟩ [(x,u)])/\
    ∀base:Heap,(K w.params).In base->base.Ns mainGlobals mg->FnOk l.prog w (K w.params) mg base (CX w) k fa fd [x] (sp w))(ad:∀ (w:Ab) (H:Hp) (a:Addr) (ns:AG),ns.length<=n->zvV H->SqL (K w.params) H a (ns.map V.int)->sp w [.ref a] H (λv _=>v = .bl true) λ_ _ _=>False)(ag:∀ (w:Ab) (H:Hp) (s:AZ) (e:Value) (s':AZ),CX w [] H s (λ_ _ _=>False) e s'->False) :
  PySem.W.WalkO q I XP YP l.row.toRowW d [] (λf vs=>PySem.call f vs):=by
 show Att.attach_call hn Z λw an L mg mb fa o pm cd ap a vs ns G Y ho hd as al O J B hg=>?_;have KX:=hY w _ Y;obtain⟨fd,hb,hF⟩:=F w mg fa _ KX G.T.g al;exact znk KX G.T.g G.T.b G.T.builtins G.T.nolimit hg O J (ar B U) hr hF hb (λH hO hS=>ad w H a ns B hO hS) λH e s'=>ag w H L e s'
def zaR (s:Stmt):Arguments:=match s with
 | .FunctionDef _ a _ _ _ _ _ _ _ _=>a
 | _=>{ posonlyargs:=[],args:=[],vararg:=none,kwonlyargs:=[],kw_defaults:=[],kwarg:=none,defaults:=[] }
def yy (s:Stmt):List Stmt:=match s with
 | .FunctionDef _ _ b _ _ _ _ _ _ _=>b
 | _=>[]
def zg (s:Stmt):Scope:=match s with
 | .FunctionDef _ _ _ _ _ _ q _ _ _=>q
 | _=>{ kind:=.function,names:=[],isGenerator:=false,isCoroutine:=false }
abbrev CX0:CXT:=λ_ _ _ _ _ _=>False
abbrev E0:XK:=λ_ _ _=>False
def zw5:zjh CX0 X E0:=λ_ _ _ _ _ _ _ h=>h.elim
structure Fun (K:AH)(x qual:Str)(st:Stmt)(f:Addr)(fd:Ac):Prop where
 ex:∃ (oc:Value) (od:Option Addr) (kV doc pm:Value) (an:Option Addr) (cdv ct:Value) (osl:Array AJ),
  fd=PySem.W.fnOf x qual (zaR st) (yy st) (zg st) .none kV doc pm an cdv ct/\K.lookup f=some ⟨oc,od,.func fd,osl⟩/\PySem.W.codeIn K cdv qual=true
 kp:PySem.W.keepIn K (.ref f)=true
section
variable {P:Aa}{w:Ab}{K:AH}{mg:AI}{base:Heap}
def Fun.ok{x I:Str}{st:Stmt}{f:Addr}{fd:Ac}{N ps:AM}{sp:Sp}(F:Fun K x I st f fd)(S:FnScope N ps (zg st))(O:∀vs H Q E,sp vs H Q E->vs.length=ps.length)(L:∀ (J:Value) (A:Ae) (B:List Env) (s:AZ) (H:Hp) (vs:AT) (Q:VK) (E:XK),Room k (A.deeper (envOfC I (zg st) s.heap.objs.size f J))->sp vs H Q E->
   ∃t,PSs (zek CX0 P w K mg base N I (zg st) f J A B s H E).nox (yy st) t/\t { nx:=λ_ H'=>Q .non H',rt:=Q } (xy N vs) H):FnOk P w K mg base CX0 (k+1) f fd ps sp:=by
 obtain⟨oc,od,kV,Z,pm,an,J,ct,ad,rfl,lk,U⟩:=F.ex;show zwx lk U S O λA B s H vs Q E hr Y=>?_;obtain⟨t,h,q⟩:=L J A B s H vs Q E hr Y;exact⟨t,h.nox,q⟩
def Fun.binds {x q:Str}{st:Stmt}{f:Addr}{fd:Ac}{ps:AM}(F:Fun K x q st f fd)
  (h:∀ (kV B J:Value) (L:Option Addr) (I ct:Value) (O:AN),O.length=ps.length->bindArgs (PySem.W.fnOf x q (zaR st) (yy st) (zg st) .none kV B J L I ct) ⟨O,[]⟩=pure (ps.zip O)):zix K fd ps []:=by
 obtain⟨Z,od,kV,B,J,L,I,ct,U,rfl,lk,Y⟩:=F.ex;exact .all (h kV B J L I ct)
def zoI{x q:Str}{st:Stmt}{f:Addr}{U J:Option Addr}{kV F L B ct:Value}(l:K.lookup f=some ⟨O,U,.func (PySem.W.fnOf x q (zaR st) (yy st) (zg st) .none kV F L J B ct),I⟩)(c:PySem.W.codeIn K B q=true)(k:PySem.W.keepIn K (.ref f)=true):Fun K x q st f (PySem.W.fnOf x q (zaR st) (yy st) (zg st) .none kV F L J B ct):=⟨⟨O,U,kV,F,L,J,B,ct,I,rfl,l,c⟩,k⟩
end
def uC(q:Room k A):A.units+1<cLine:=aO (Nat.add_le_add_left (by decide:1<=64) _) q.units
def zdl(h:n<=1000):n<sizeLine:=aO h (by ext)
section
variable {X:Cx}
def zjs:zct X (.builtin "len") (λxs H Q=>∃a kvs,xs=[V.ref a]/\H a=some (.dK kvs)/\Q (.int kvs.length) H):=by intro pins s σ H xs J Q I r h;obtain⟨a,kvs,rfl,B,q⟩:=h;obtain⟨u,rfl,F⟩:=zaf r;cases F;exact zwk I (.inl B) λt s' I'=>⟨.int kvs.length,H,I',⟨t,rfl⟩,q⟩
end
def iteF {A B:Prop}(h:B):if false=true then A else B:=by grind
def zvx {c A B:Prop}[Decidable c](h1:c->A)(h2:¬ c->B):if c then A else B:=by grind
def y4 (H H':Hp):Prop:=∀b o,H b=some o->H' b=some o
def y4.trans(a:y4 H H1)(b:y4 H1 H2):y4 H H2:=λc o h=>b c o (a c o h)
def y4.free(e:y4 H H')(h:H' l=Option.none):H l=Option.none:=by
 cases q:H l with
 | none=>rfl
 | some o=>
  rw[e l o q] at h;cases h
def y4.seq{K:AH}{H H':Hp}{a:Addr}(e:y4 H H')(h:SqL K H a xs):SqL K H' a xs:=by
 rcases h with (h | ⟨o,h⟩) | h;exact .inl (.inl (e _ _ h));exact .inl (.inr ⟨o,e _ _ h⟩);exact .inr h
section
variable {κ:Type}[DecidableEq κ]
variable {X:Cx}
def zgC:zct X (.builtin "isinstance") (λxs H Q=>∃x T t b,xs=[x,.ty T]/\TyOf X.K H x t/\PySem.W.kitOne X.K t (.type T)=some b/\Q (.bl b) H):=by intro pins s σ H xs J Q I r h;obtain⟨x,T,t,b,rfl,ty,e,q⟩:=h;obtain⟨u,c,rfl,B,F⟩:=zxP r;cases F;exact zkr I B ty e λtk=>⟨.bl b,H,I.tok tk,rfl,q⟩
def zlL (K:AH):R2:=λx y H Q=>∃a b xs ys,x = .ref a/\y = .ref b/\H a=some (.tup xs)/\H b=some (.tup ys)/\xs.length+ys.length<=sizeLine/\
 ∀p H',H' p=some (.tup (xs++ys))->y4 H H'->Q (.ref p) H'
def zqz:OpR X (binaryOp .Add) (zlL X.K):=by
 intro pins s σ H x y v u Q I rx ry h;obtain⟨a,b,xs,ys,rfl,rfl,ha,O,hz,q⟩:=h;by_cases hx:xs=[]
 ·subst hx;cases rx;cases ry;obtain⟨its,r1,p1,_⟩:=I.tuple (.of ha);obtain⟨B,r2,p2,_⟩:=I.tuple (.of O);obtain⟨⟨cls,dd,data,sl⟩,ho,hc,n,hd⟩:=id p1;obtain⟨⟨ad,U,Y,Z⟩,F,J,n2,L⟩:=id p2;simp only at hc hd J L;subst hc hd J L;have hi:its=[]:=r1.nil_iff.mpr rfl
  exact concat_meets ⟨_,ho,rfl⟩ ⟨_,F,rfl⟩ e8 seq_tuple_add dl de (c8 _ _)
   (tuple_addW0 a b its.toArray B.toArray n n2 dd U sl Z (by simp[hi])) ⟨ho,F,⟨.ref b,H,I,rfl,q b H O λ_ _ e=>e⟩⟩
 show zqA pins s σ H _ _ v u Q I rx ry ⟨a,b,xs,ys,rfl,rfl,.of ha,.of O,hx,hz,λe=>?_,λe p hp=>?_⟩;subst e;exact q a H (by right) λ_ _ e=>e;exact q p _ zj λc o e=>by rw[zf (zc e hp)];exact e
end
end L2
namespace HT
open PyProof.Rows
section
variable {prog:Aa}{w:Ab}{A:Ae}{E:AA}{s:AZ}
def getItem_tuple_whole{lo hi:AQ}(q:IsTup s.heap t items)(Y:s.heap.IsSliceOf F O U .none)(pl:IsPart O lo)(Z:IsPart U hi)(hw:sIx items.size 0 lo=0/\sIx items.size items.size hi=items.size)(h:Q (.ref t) s)(hsz:items.size<=sizeLine):Ag prog w A (getItem (.ref t) (.ref F)) Q E s:=by
 obtain⟨os,I,J,ad⟩:=id Y;have L:s.TypeIs (.ref F) "slice" := ⟨os,I,J⟩;unfold getItem;try with_reducible show wpAny_holding ?_
 first | show wpAny_bind (wpAny_pure ?_) | skip
 show wpAny_bind (wpAny_sequenceKey q.typeIs (by ext) ?_)
 show wpAny_bind (wpAny_callSpecial?_slot (name:=Str.ofString "__getitem__") q.typeIs PyProof.Rows.slot_tuple_getitem
  (wpAny_call_entry PyProof.Rows.slot_tuple_getitem q.typeIs entry_tuple_getitem ?_ (args_tuple_getitem _ _)))
 change wpAny _ _ (Builtin.Tuple.tupleItemsOf (.ref t) >>= _) _ _ s;show wpAny_bind (tupleItemsOf_ q ?_);show wpAny_bind (wpAny_typeOf L ?_);rw[if_pos (by ext)];show wpAny_bind (u9 Y pl Z ?_);have B:(((sIx items.size 0 lo:Nat):Int)==0&&(1:Int)==1&&(sIx items.size items.size hi - sIx items.size 0 lo)==items.size)=true:=by right
 change wpAny _ _ (if (((sIx items.size 0 lo:Nat):Int)==0&&(1:Int)==1&&(sIx items.size items.size hi - sIx items.size 0 lo)==items.size)=true then _ else _) _ _ s;rw[if_pos B];unfold Builtin.Tuple.tupleIsExact;show wpAny_bind (wpAny_bind (wpAny_typeOf q.typeIs ?_));show wpAny_pure ?_;rw[if_pos (by ext)];show wpAny_bind (wpAny_rule ?_);exact wpAny_pure ⟨_,rfl,wpAny_pure h⟩
end
end HT
namespace L2
open PyProof.Rows
section
variable {X:Cx}
def rSlA:V->AQ->AQ->Hp->VK->Prop:=λx lo hi H Q=>∃a xs,x = .ref a/\H a=some (.tup xs)/\∀p H',H' p=some (.tup (zdq xs lo hi))->y4 H H'->Q (.ref p) H'
def zrM:SlR X rSlA:=by
 intro pins s σ H x v Z vu lo hi sl Q I F J pl L h;obtain⟨a,xs,rfl,O,q⟩:=h;by_cases U:HT.sIx xs.length 0 lo=0/\HT.sIx xs.length xs.length hi=xs.length;cases F;obtain⟨its,r,Y,hz⟩:=I.tuple (.of O);have B:its.toArray.size=xs.length:=by rw[aS];exact r.length.symm
 show⟨"tuple",_,PyProof.Rows.slot_tuple_getitem.lookup,Y.typeIs,?_⟩;show HT.getItem_tuple_whole Y J pl L (by rw[B];exact U) ⟨.ref a,H,I,rfl,q a H ?_ λ_ _ e=>e⟩ (by rw[B];exact hz);unfold zdq;grind;exact zuS pins s σ H _ v Z vu lo hi sl Q I F J pl L ⟨a,xs,rfl,.of O,U,λp hp=>q p _ zj λc o e=>by rw[zf (zc e hp)];exact e⟩
inductive Dt where
 | non | bl (b:Bool) | int (i:Int) | str (x:Str) | tup (l:List Dt) | lst (l:List Dt) | dct
abbrev AS:=List Dt
mutual
def Is (H:Hp):Dt->V->Prop
 | .non,v=>v = .non
 | .bl b,v=>v = .bl b
 | .int i,v=>v = .int i
 | .str x,v=>v = .str x
 | .tup l,v=>∃a xs,v = .ref a/\H a=some (.tup xs)/\IsL H l xs
 | .lst l,v=>∃a xs,v = .ref a/\H a=some (.lst xs)/\IsL H l xs
 | .dct,v=>∃a kvs,v = .ref a/\H a=some (.dK kvs)/\zaI kvs (Sum.inr "at" : Key)=none
def IsL (H:Hp):AS->AT->Prop
 | [],xs=>xs=[]
 | d::ds,xs=>∃x r,xs=x::r/\Is H d x/\IsL H ds r
end
open Classical in
@[reducible] noncomputable def pnK:HO->Option (List (Key×V))
 | .dK kvs=>some kvs
 | .ext q=>if (∃d ob,(∃h:Heap,h.get? d=some ob)/\q=λh=>h.get? d=some ob) then some [(Sum.inr "at",.non)] else none
 | _=>none
def zu (H H':Hp):Prop:=∀b o,H b=some o->(∀kvs,pnK o=some kvs->zaI kvs (Sum.inr "at" : Key)=none)->H' b=some o
def zu.refl (H:Hp):zu H H:=λ_ _ e _=>e
def zu.trans(a:zu H H1)(b:zu H1 H2):zu H H2:=λc o e n=>b c o (a c o e n) n
def zu.same(a:y4 H H1):zu H H1:=λc o e _=>a c o e
def zu.upd(h:H p=none):zu H (upd H p o):=λc u e _=>by rw[zf (zc e h)];exact e
def y4.upd(h:H p=none):y4 H (upd H p o):=λc u e=>by rw[zf (zc e h)];exact e
def zu.tup(a:zu H H1)(h:H p=some (.tup xs)):H1 p=some (.tup xs):=a _ _ h λ_ e=>by cases e
def zu.lst(a:zu H H1)(h:H p=some (.lst xs)):H1 p=some (.lst xs):=a _ _ h λ_ e=>by cases e
mutual
def Is.stay {H H1:Hp}(a:zu H H1):∀ {d:Dt} {v:V},Is H d v->Is H1 d v
 | .non,_,h=>h
 | .bl _,_,h=>h
 | .int _,_,h=>h
 | .str _,_,h=>h
 | .tup l,v,h=>by obtain⟨p,xs,e,hp,hl⟩:=h;exact⟨p,xs,e,a.tup hp,IsL.stay a hl⟩
 | .lst l,v,h=>by obtain⟨p,xs,e,hp,hl⟩:=h;exact⟨p,xs,e,a.lst hp,IsL.stay a hl⟩
 | .dct,v,h=>by obtain⟨p,kvs,e,hp,hl⟩:=h;exact⟨p,kvs,e,a _ _ hp λkvs' e=>by cases e;exact hl,hl⟩
def IsL.stay {H H1:Hp}(a:zu H H1):∀ {ds:AS} {xs:AT},IsL H ds xs->IsL H1 ds xs
 | [],_,h=>h
 | d::ds,xs,h=>by obtain⟨x,r,e,h1,h2⟩:=h;exact⟨x,r,e,Is.stay a h1,IsL.stay a h2⟩
end
def IsL.length:∀ {ds:AS} {xs:AT},IsL H ds xs->xs.length=ds.length
 | [],_,h=>by cases h;rfl
 | d::ds,xs,h=>by obtain⟨x,r,rfl,_,h2⟩:=h;rw[aV,aV,IsL.length h2]
def IsL.get:∀ {ds:AS} {xs:AT} {i:Nat} {x:V},IsL H ds xs->xs[i]?=some x->∃d,ds[i]?=some d/\Is H d x
 | [],_,_,_,h,e=>by cases h;simp at e
 | d::ds,xs,i,x,h,e=>by
  obtain⟨y,r,rfl,h1,h2⟩:=h
  cases i with
  | zero=>simp at e;subst e;exact⟨d,rfl,h1⟩
  | succ i=>
   obtain⟨d',q,B⟩:=IsL.get (i:=i) (x:=x) h2 (by simpa using e);right
def IsL.getD:∀ {ds:AS} {xs:AT} {i:Nat} {d:Dt},IsL H ds xs->ds[i]?=some d->∃x,xs[i]?=some x/\Is H d x
 | [],_,_,_,_,e=>by simp at e
 | d::ds,xs,i,x,h,e=>by
  obtain⟨y,r,rfl,h1,h2⟩:=h
  cases i with
  | zero=>simp at e;subst e;exact⟨y,rfl,h1⟩
  | succ i=>
   obtain⟨d',q,B⟩:=IsL.getD (i:=i) (d:=x) h2 (by simpa using e);right
def IsL.append:∀ {ds es:AS} {xs ys:AT},IsL H ds xs->IsL H es ys->IsL H (ds++es) (xs++ys)
 | [],_,_,_,h,k=>by cases h;exact k
 | d::ds,es,xs,ys,h,k=>by obtain⟨y,r,rfl,h1,h2⟩:=h;exact⟨y,r++ys,rfl,h1,IsL.append h2 k⟩
def IsL.take:∀ {ds:AS} {xs:AT} (n:Nat),IsL H ds xs->IsL H (ds.take n) (xs.take n)
 | _,_,0,_=>by simp[IsL]
 | [],_,n+1,h=>by cases h;simp[IsL]
 | d::ds,xs,n+1,h=>by obtain⟨y,r,rfl,h1,h2⟩:=h;exact⟨y,r.take n,rfl,h1,IsL.take n h2⟩
def IsL.drop:∀ {ds:AS} {xs:AT} (n:Nat),IsL H ds xs->IsL H (ds.drop n) (xs.drop n)
 | _,_,0,h=>h
 | [],_,n+1,h=>by cases h;simp[IsL]
 | d::ds,xs,n+1,h=>by obtain⟨y,r,rfl,h1,h2⟩:=h;exact IsL.drop n h2
def IsL.one(h:Is H d x):IsL H [d] [x]:=⟨x,[],rfl,h,rfl⟩
def IsL.ints:∀ {ns:AG},IsL H (ns.map .int) (ns.map .int)
 | []=>rfl
 | n::ns=>⟨_,_,rfl,rfl,IsL.ints⟩
def IsL.of_ints:∀ {ns:AG} {xs:AT},IsL H (ns.map .int) xs->xs=ns.map .int
 | [],_,h=>h
 | n::ns,xs,h=>by obtain⟨y,r,rfl,h1,h2⟩:=h;cases h1;rw[IsL.of_ints h2];rfl
def Dt.ty:Dt->String
 | .non => "NoneType" | .bl _ => "bool" | .int _ => "int" | .str _ => "str" | .tup _ => "tuple" | .lst _ => "list" | .dct => "dict"
def Is.ty {K:AH}{H:Hp}:∀ {d:Dt} {v:V},Is H d v->TyOf K H v (.type d.ty)
 | .non,_,h=>by cases h;exact .non
 | .bl _,_,h=>by cases h;exact .bl _
 | .int _,_,h=>by cases h;exact .int _
 | .str _,_,h=>by cases h;exact .str _
 | .tup l,v,h=>by obtain⟨p,xs,rfl,q,B⟩:=h;exact .tup q
 | .lst l,v,h=>by obtain⟨p,xs,rfl,q,B⟩:=h;exact .lst q
 | .dct,v,h=>by obtain⟨p,xs,rfl,q,B⟩:=h;exact .dK q
abbrev Dt.isTup:Dt->Bool
 | .tup _=>true | _=>false
abbrev Dt.isLst:Dt->Bool
 | .lst _=>true | _=>false
abbrev Dt.isInt:Dt->Bool
 | .int _=>true | .bl _=>true | _=>false
abbrev Dt.isBl:Dt->Bool
 | .bl _=>true | _=>false
def Dt.isWhole:Dt->Bool
 | .int _=>true | _=>false
def zqc (K:AH)(d:Dt):PySem.W.kitOne K (.type d.ty) (.type "tuple")=some d.isTup:=by cases d <;> rfl
def zqb (K:AH)(d:Dt):PySem.W.kitOne K (.type d.ty) (.type "list")=some d.isLst:=by cases d <;> rfl
def zqa (K:AH)(d:Dt):PySem.W.kitOne K (.type d.ty) (.type "int")=some d.isInt:=by cases d <;> rfl
def ztn (K:AH)(d:Dt):PySem.W.kitOne K (.type d.ty) (.type "bool")=some d.isBl:=by cases d <;> rfl
end
def zdo (env:Env):List (Str×NameKind)->List (Str×Addr)->List (Str×Addr)
 | [],cs=>cs
 | x::r,cs=>zdo env r (if (x.2==NameKind.free)=true then (x.1,(env.cells.lookup x.1).getD 0)::cs else cs)
def ziB(h:∀x∈scope.names,x.2 = .free->∃c,env.cells.lookup x.1=some c):closureFor scope env=pure (zdo env scope.names []):=by
 have gen:∀ (names:List (Str×NameKind)) (cs:List (Str×Addr)),(∀x∈names,x.2 = .free->∃c,env.cells.lookup x.1=some c)->
   (forIn names cs (λx r=>match x with
    | (name,kind)=>if (kind==NameKind.free)=true then do let a <- cellOf env name;pure (ForInStep.yield ((name,a)::r)) else pure (ForInStep.yield r)):Sem (List (Str×Addr)))=pure (zdo env names cs):=by
  intro names
  induction names with
  | nil=>intro cs _;rfl
  | cons x r ih=>
   intro cs hh;obtain⟨n,k⟩:=x;rw[List.forIn_cons];by_cases hk:(k==NameKind.free)=true;obtain⟨c,hc⟩:=hh (n,k) ak (dZ hk);have hc':env.cells.lookup n=some c:=hc;have e:cellOf env n=pure c:=by unfold cellOf;rw[hc']
   simp only[hk,if_true,e,pure_bind];rw[ih _ λy hy=>hh y (am _ hy)];change pure _=pure (zdo env r (if (k==NameKind.free)=true then (n,(env.cells.lookup n).getD 0)::cs else cs));right;simp only[hk,pure_bind];have e2:zdo env ((n,k)::r) cs=zdo env r cs:=by change zdo env r (if (k==NameKind.free)=true then _ else cs)=_;rw[if_neg hk]
   right
 unfold closureFor;have:=gen scope.names [] h;simpa using this
def zag:∀ {names:List (Str×NameKind)} {cs:List (Str×Addr)} {x:Str} {c:Addr},(∀y∈names,y.2 = .free->∃c,env.cells.lookup y.1=some c)->(zdo env names cs).lookup x=some c->env.cells.lookup x=some c\/cs.lookup x=some c
 | [],_,_,_,_,h=>.inr h
 | (n,k)::r,cs,x,c,B,h=>by
  have q:=zag (names:=r) (x:=x) (c:=c) (λy F=>B y (am _ F)) h;rcases q with q | q;exact .inl q;by_cases I:(k==NameKind.free)=true;obtain⟨J,L⟩:=B (n,k) ak (dZ I);grind;right
def zdH:∀ {names:List (Str×NameKind)} {cs:List (Str×Addr)} {x:Str},(∃c,cs.lookup x=some c)->∃c,(zdo env names cs).lookup x=some c
 | [],_,_,h=>h
 | (n,k)::r,cs,x,h=>by
  show zdH (names:=r) ?_;grind
def zaA:∀ {names:List (Str×NameKind)} {cs:List (Str×Addr)} {x:Str},names.lookup x=some .free->∃c,(zdo env names cs).lookup x=some c
 | [],_,_,h=>by simp at h
 | (n,k)::r,cs,x,h=>by
  rw[cI] at h
  cases e:x==n with
  | true=>
   rw[e] at h;have h':some k=some NameKind.free:=h;cases h';show zdH (names:=r) ?_;right
  | false=>
   rw[e] at h;exact zaA (names:=r) h
def y0 {env:Env}:∀ {names:List (Str×NameKind)} {x:Str} {k:NameKind},(∀y∈names,y.2≠.cell)->
  (names.map λ(n,k)=>if (k==NameKind.free&&env.scope.kind==.function&&env.kindOf n==some .cell) then (n,NameKind.cell) else (n,k)).lookup x=some k->(k = .cell\/k = .free)->names.lookup x=some .free
 | [],_,_,_,h,_=>by simp at h
 | (n,k)::r,x,q,B,h,I=>by
  have J:=@y0 env r x q (λy F=>B y (am _ F));grind
def y1 {env:Env}:∀ {names:List (Str×NameKind)} {x:Str},names.lookup x=some .free->
  (names.map λ(n,k)=>if (k==NameKind.free&&env.scope.kind==.function&&env.kindOf n==some .cell) then (n,NameKind.cell) else (n,k)).lookup x=some .cell\/
  (names.map λ(n,k)=>if (k==NameKind.free&&env.scope.kind==.function&&env.kindOf n==some .cell) then (n,NameKind.cell) else (n,k)).lookup x=some .free
 | [],_,h=>by simp at h
 | (n,k)::r,x,h=>by
  have q:=@y1 env r x;grind
def zA (X:Cx)(scope:Scope)(N:AM)(C:Addr)(s:AZ)(H:Hp)(ex:AY):Cx where
 prog:=X.prog
 w:=X.w
 K:=X.K
 mg:=X.mg
 base:=X.base
 A:=X.A
 N:=N
 s₀:=s
 H₀:=H
 env:=compEnvC scope (zdo X.env scope.names []) C X.env
 outer:=X.stack
 stack:=X.stack
 ex:=ex
 fn:=λ_=>false
 calm:=X.calm
 pn:=[]
 xe:=λ_ _=>False
def caps (XN:AM)(Xnames names:List (Str×NameKind))(N:AM)(cix:List (Option Nat)):Bool:=
 N.length==cix.length&&(names.all λy=>y.2 != .cell)&&((N.zip cix).all λp=>match p.2 with
  | none=>true
  | some i=>XN[i]?==some p.1&&names.lookup p.1==some .free&&(Xnames.lookup p.1==some .cell || Xnames.lookup p.1==some .free)) &&
 (names.all λy=>y.2 != .free || (Xnames.lookup y.1==some .cell || Xnames.lookup y.1==some .free))
def u4 (σ:St)(cix:List (Option Nat)):St:=cix.map λo=>match o with
 | none=>none
 | some i=>(σ[i]?).join
structure CompOk (X:Cx)(scope:Scope)(N:AM)(cix:List (Option Nat)):Prop where
 kind:scope.kind = .function
 names:∀x∈scope.names,x.2 = .local->scope.names.lookup x.1=some .local
 caps:caps X.N X.env.scope.names scope.names N cix=true
section
variable {X:Cx}{pins:AB}{σ:St}{H:Hp}{s:AZ}{scope:Scope}{N:AM}{cix:List (Option Nat)}
def CompOk.cell (c:CompOk X scope N cix):∀y∈scope.names,y.2≠.cell:=λy q e=>by
 have h:=c.caps;unfold L2.caps at h;rw[aQ,aQ,aQ] at h;have:=bm.mp h.1.1.2 y q;right
def CompOk.len (c:CompOk X scope N cix):N.length=cix.length:=by
 have h:=c.caps;unfold L2.caps at h;right
def CompOk.cells (c:CompOk X scope N cix)(B:X.Ok):∀x∈scope.names,x.2 = .free->∃a,X.env.cells.lookup x.1=some a:=λx F e=>by
 have h:=c.caps;unfold L2.caps at h;rw[aQ] at h;have q:=bm.mp h.2 x F;rw[e] at q;have I:(X.env.scope.names.lookup x.1==some NameKind.cell || X.env.scope.names.lookup x.1==some NameKind.free)=true:=by simpa using q
 rcases Bool.or_eq_true_iff.mp I with q | q;exact B.has _ (.inl (dZ q));exact B.has _ (.inr (dZ q))
def CompOk.cap (c:CompOk X scope N cix){j i:Nat}{x:Str}(h1:N[j]?=some x)(h2:cix[j]?=some (some i)):X.N[i]?=some x/\scope.names.lookup x=some .free/\(X.env.scope.names.lookup x=some .cell\/X.env.scope.names.lookup x=some .free):=by
 have h:=c.caps;unfold L2.caps at h;rw[aQ,aQ] at h;have B:(x,some i)∈N.zip cix:=by show aA (i:=j) ?_;rw[List.getElem?_zip_eq_some];exact⟨h1,h2⟩
 have q:=bm.mp h.1.2 _ B;grind
def zm2 {fp:AY}{h':Heap}{tk:Nat}{m:AI}(I:Inv X pins σ H s)(c:CompOk X scope N cix)(Y:∀b∈fp,zdE X pins H b)(ad:∀b∈fp,b<s.heap.objs.size)
  (hn:h'.Ns s.heap.objs.size m) (Z:∀b o,s.heap.get? b=some o->h'.get? b=some o) :
  Inv (zA X scope N s.heap.objs.size s H fp) [] (u4 σ cix) H { s with heap:=h',toks:=tk }:=by
 have ag:=c.cells I.ok
 have B:∀x a,(zdo X.env scope.names []).lookup x=some a->X.env.cells.lookup x=some a:=λx a e=>by
  rcases zag ag e with z | z;exact z;simp at z
 show⟨⟨I.mod,c.kind,I.ok.glob,I.ok.blt,af _,λx y a e1 e2=>I.ok.inj x y a (B x a e1) (B y a e2),λx hx=>?_,λx a z _=>absurd (show (false:Bool)=true from z) (by ext),I.ok.hd,I.ok.frames,.inl rfl,
  λb J=>⟨aR (ad b J),λx a e=>(Y b J).2.2.2.2.1 x a (B x a e)⟩,I.bs,ar I.ok.bsz I.sz,λb o e J=>?_,λb J z=>?_,I.stack,I.stkFree⟩,
  I.os ▸ rfl,I.bare,Un.kept Z,⟨m,hn,λj x v h1 h2 h3=>?_⟩,λx a e=>?_,I.hok.fresh (af _),λx a e=>I.freeC x a (B x a e),λp hp=>absurd (show p∈([]:AB) from hp) (by simp),I.hok.kept Z,?_⟩
 have al:((relabel scope X.env).names.lookup x=some .cell\/(relabel scope X.env).names.lookup x=some .free):=hx;rcases al with z | z;exact zaA (y0 c.cell z (.inl rfl));exact zaA (y0 c.cell z (.inr rfl));rcases (Y b J).2.2.2.1 with z | z;exact I.ok.noex b o e z;exact absurd (aI (ay e) (ar I.ok.bsz z)) (bO _);rcases aJ.mp (I.stkSub b z) with e | e;exact (Y b J).2.1 e;exact (Y b J).2.2.1 e;have an:N[j]?=some x:=h1;unfold u4 at h2;rw[aq] at h2
 cases e:cix[j]? with
 | none=>rw[e] at h2;cases h2
 | some o=>
  rw[e] at h2
  cases o with
  | none=>cases h2
  | some i=>
   have F:(σ[i]?).join=some v:=bz h2
   have O:σ[i]?=some (some v):=by
    cases q:σ[i]? with
    | none=>rw[q] at F;cases F
    | some z=>rw[q] at F;have:z=some v:=F;rw[this]
   obtain⟨q1,q2,q3⟩:=c.cap an e;obtain⟨m0,as,ap⟩:=I.loc;obtain⟨u,ru,hu⟩:=ap i x v q1 O (q3.elim (λz=>.inr (.inl z)) λz=>.inr (.inr z));show⟨u,ru,.inr ⟨y1 q2,?_⟩⟩;rcases hu with ⟨z,_⟩ | ⟨_,a,ha,hcell⟩;have z':X.env.scope.names.lookup x=some .local:=z;right;obtain⟨a',U⟩:=zaA (env:=X.env) (cs:=[]) q2;have:a'=a:=by have:=(B x a' U).symm.trans ha;exact bz this
   subst this;obtain⟨oc,L,hd⟩:=hcell;exact⟨a',U,oc,Z _ _ L,hd⟩
 obtain⟨v,oc,L,hd⟩:=I.cell x a (B x a e);exact⟨v,oc,Z _ _ L,hd⟩;change (u4 σ cix).length=N.length;unfold u4;rw[ab,c.len]
def zcK(x:HOk P w H h)(F:H a=none)(B:Heap.SameBut a h h'):HOk P w H h':=λb o e=>by
 show (x b o e).stay (λc u I q=>(B.2 c ?_).trans q) (λ_ q=>q) λ_ _ q=>q;grind
def ziO{U:St}{H':Hp}{s':AZ}(I:Inv X pins σ H s)(L:∀b∈fp,zdE X pins H b)(I':Inv (zA X scope N s.heap.objs.size s H fp) [] U H' s')(O:Heap.SameBut s.heap.objs.size s'.heap F) :
  Inv X pins σ H' { s' with heap:=F }:=by
 have Y:∀b o,s.heap.get? b=some o->b≠s.heap.objs.size:=λb o e=>aR (ay e);have u:=I'.base;show Inv.call' (ch:=fp) I I'.os ⟨λb o e n B J=>?_,λb o e n B J=>?_,u.free,λb o e J=>?_,u.tups,u.frzs,u.tbls⟩ (zcK I'.hok I'.free O) I'.bare λb B=>⟨(L b B).2.2.2.1,(L b B).2.1,(L b B).2.2.2.2.1,(L b B).2.2.2.2.2⟩;exact (O.2 b (Y b o e)).trans (u.keep b o e n B J);obtain⟨Z,q⟩:=u.slot b o e n B J;exact⟨Z,(O.2 b (Y b o e)).trans q⟩;obtain⟨o',q⟩:=u.there b o e J;exact⟨o',(O.2 b (Y b o e)).trans q⟩
variable {prog:Aa}{w:Ab}{A:Ae}{R:Result->AZ->Prop}
def zei(I:Nat->AZ->Prop)(turn:∀n s,I n s->Ag prog w A (pyNext it) (λr s₁=>match r with
   | none=>R (.ok .next) s₁
   | some v=>Ag prog w A (letOwnedTupleGo target it v) (λ_ s₂=>Ag prog w A (assign target env v) (λ_ s₃=>
     Ag prog w A (forIn ifs true λc r=>if r=true then do let ok <- isTrue c env (eval c env);pure (ForInStep.yield ok) else pure (ForInStep.yield r)) (λok s₄=>
      if ok=true then Ag prog w A (eval elt env) (λx s₅=>
       Ag prog w A (call (.builtin "list.append") [acc,x]) (λ_ s₆=>∃m,m<n/\I m s₆) (λ_ _=>False) s₅) (λ_ _=>False) s₄
      else ∃m,m<n/\I m s₄) (λ_ _=>False) s₃) (λ_ _=>False) s₂) (λ_ _=>False) s₁) (λ_ _=>False) s)(n:Nat)(h:I n s) :
  codeAny (model prog w) A (.compLoop (.ListComp elt [⟨target,iter,ifs,0⟩] scope pos) 0 it acc env) R s:=by
 show eC rfl I (λn s hI=>?_) n h;change wpAny _ A ((compTurn (.ListComp elt [⟨target,iter,ifs,0⟩] scope pos) 0 it acc env).onRaise (λx=>do noteFrame x env;theTreesLotGoes x)) _ _ s;show eW ?_;rw[compTurn_list];show aa (bJ (aa (aW (turn n s hI) (λr s₁ h₁=>?_) λ_ _ h'=>h'.elim)))
 cases r with
 | none=>exact ae h₁
 | some v=>
  show aa (aW h₁ (λ_ s₂ h₂=>?_) λ_ _ h'=>h'.elim);show aa (aW h₂ (λ_ s₃ h₃=>aa (aW h₃ (λok s₄ h₄=>?_) λ_ _ h'=>h'.elim)) λ_ _ h'=>h'.elim)
  cases ok with
  | false=>exact ae ⟨rfl,h₄⟩
  | true=>
   exact aa (aa (aW h₄ (λx s₅ h₅=>aa (aW h₅ (λ_ s₆ h₆=>ae (ae ⟨rfl,h₆⟩)) λ_ _ h'=>h'.elim)) λ_ _ h'=>h'.elim))
end
def PTs (X:Cx)(ifs:AO)(t:TT):Prop:=
 ∀ (pins:AB) (s:AZ) (σ:St) (H:Hp) (Q:Bool->Hp->Prop),Inv X pins σ H s->t σ H Q->
  Af X (forIn ifs true λc r=>if r=true then do let ok <- isTrue c X.env (eval c X.env);pure (ForInStep.yield ok) else pure (ForInStep.yield r)) (TP X pins σ Q) X.xe s
def zbM:TT:=λ_ H Q=>Q true H
def zq4:PTs X [] zbM:=λpins s σ H Q I h=>wpAny_tests_nil ⟨H,I,h⟩
def zq5(h:PT X c t):PTs X [c] t:=λpins s σ H Q I q=>wpAny_tests_one (h pins s σ H Q I q)
def zxv (wi:TI)(g:TG)(ti:TT)(te:TE)(cix:List (Option Nat)):TE:=λσ H Q=>wi σ H λJ H1=>∀acc,H1 acc=none->∃W:Nat->Nat->St->Hp->Prop,(∃m,W 0 m (u4 σ cix) (upd H1 acc (.lst [])))/\
 ∀i m B H',W i m B H'->(J.stop i H'/\Q (.ref acc) H')\/(J.go i H'/\∃N:St->Hp->Prop,(∀ F H2,N F H2->∃I,I<m/\W (i+1) I F H2)/\
  ∀x H2,J.yld i H' x H2->g x B H2 λq H3=>ti q H3 λL H4=>if L=true then te q H4 λv H5=>∃xs,H5 acc=some (.lst xs)/\xs.length<sizeLine/\N q (upd H5 acc (.lst (xs++[v]))) else N q H4)
def ziE (g:TG)(ti:TT)(te:TE)(acc:Addr)(N:St->Hp->Prop)(x:V)(σ:St)(H:Hp):Prop:=
 g x σ H λq H3=>ti q H3 λB H4=>if B=true then te q H4 λv H5=>∃xs,H5 acc=some (.lst xs)/\xs.length<sizeLine/\N q (upd H5 acc (.lst (xs++[v]))) else N q H4
def zom (M:Model)(A:Ae)(e:Expr)(k:Nat)(tg:Expr)(ifs:AO)(it acc:Value)(env:Env)(B:(AZ->Prop)->AZ->Prop):Prop:=
 ∀ (R:Result->AZ->Prop) (s:AZ) (I:Nat->AZ->Prop),(∀n s,I n s->wpAny M A (pyNext it) (λr s₁=>match r with
   | none=>R (.ok .next) s₁
   | some v=>wpAny M A (letOwnedTupleGo tg it v) (λ_ s₂=>wpAny M A (assign tg env v) (λ_ s₃=>
     wpAny M A (forIn ifs true λc r=>if r=true then do let ok <- isTrue c env (eval c env);pure (ForInStep.yield ok) else pure (ForInStep.yield r)) (λok s₄=>
      if ok=true then B (λs'=>∃m,m<n/\I m s') s₄ else ∃m,m<n/\I m s₄) (λ_ _=>False) s₃) (λ_ _=>False) s₂) (λ_ _=>False) s₁) (λ_ _=>False) s)->
  ∀n,I n s->codeAny M A (.compLoop e k it acc env) R s
def zfX{X:Cx}{ifs:AO}{it acc:Addr}{fp:AY}{tn:Nat->Heap->Prop}{J:It}{g:TG}{ti:TT}{tb:(St->Hp->Prop)->St->Hp->Prop}{B:(AZ->Prop)->AZ->Prop}{pl:AB}{Fin:St->Hp->Prop}{R:Result->AZ->Prop}{W:Nat->Nat->St->Hp->Prop}{σ0:St}{H0:Hp}{s0:AZ}(L:zom (model X.prog X.w) X.A e k tg ifs (.ref it) (.ref acc) X.env B)(hc:X.calm=true)(xX:X.xe=λ_ _=>False)(T:Turn X.prog X.w X.K tg J fp it tn)(f4:∀ {H':Hp},(∀b∈fp,H' b=none)->∀b∈fp,zdE X pl H' b)(hg:PG X tg g)(ht:PTs X ifs ti)(I:∀pl' s σ H (Nx:St->Hp->Prop) (P:AZ->Prop),Inv X (pl++pl') σ H s->tb Nx σ H->(∀ q H' s',Inv X (pl++pl') q H' s'->Nx q H'->P s')->B P s)(Y:∀i n σ H,W i n σ H->(J.stop i H/\Fin σ H)\/(J.go i H/\∃Nx:St->Hp->Prop,(∀ q H',Nx q H'->∃m,m<n/\W (i+1) m q H')/\∀x H',J.yld i H x H'->g x σ H' λO H2=>ti O H2 λb H3=>if b=true then tb Nx O H3 else Nx O H3))(fin:∀ σ H s,Inv X pl σ H s->Fin σ H->R (.ok .next) s)(I0:Inv X pl σ0 H0 s0)(an:tn 0 s0.heap)(ap:∀b∈fp,H0 b=none)(w0:W 0 m0 σ0 H0) :
  codeAny (model X.prog X.w) X.A (.compLoop e k (.ref it) (.ref acc) X.env) R s0:=by
 show L R s0 (λn s'=>∃i q H',Inv X pl q H' s'/\tn i s'.heap/\(∀b∈fp,H' b=none)/\W i n q H') ?_ m0 ⟨0,σ0,H0,I0,an,ap,w0⟩;rintro n s5 ⟨i,F,H5,I5,Z,ad,w5⟩;rcases Y i n F H5 w5 with ⟨stop,qn⟩ | ⟨go,Nx,hN,step⟩
 ·show thn (T.done X rfl rfl rfl hc i pl s5 F H5 (λ_ _=>False) I5 (f4 ad) Z stop) ?_;rintro r s6 ⟨hr,I6⟩;subst hr;exact fin F H5 s6 I6 qn
 show thn (T.item X rfl rfl rfl hc i pl s5 F H5 (λ_ _=>False) I5 (f4 ad) Z go) ?_;rintro r s6 ⟨u,hr,h6⟩;subst hr;show thn h6 ?_;rintro _ s7 ⟨x,H7,I7,r7,y7,U,as⟩;have I7':=I7.pinned (f4 as) (T.obj _ _ U);have a7:=hg _ s7 F H7 x u _ I7' r7 (step x H7 y7);rw[xX] at a7;show thn a7 ?_;rintro _ s8 ⟨al,H8,I8,q8⟩;have t8:=ht _ s8 al H8 _ I8 q8;rw[xX] at t8;show thn t8 ?_;rintro ok s9 ⟨H9,I9,q9⟩
 have ag:∀ q H' s',Inv X (pl++zgd fp s7.heap) q H' s'->Nx q H'->∃m,m<n/\∃i q H',Inv X pl q H' s'/\tn i s'.heap/\(∀b∈fp,H' b=none)/\W i m q H':=λq H' s' J' n'=>by
  obtain⟨m',hm,w'⟩:=hN q H' n'
  have pn:∀b∈fp,∀o,s7.heap.get? b=some o->s'.heap.get? b=some o/\H' b=none:=λb I o e=>by
   have:=J'.pin (b,o) (aZ _ (aZ _ (zaF I e)));right
  show⟨m',hm,i+1,q,H',J'.unpinned,T.keep _ _ _ U λb I o e=>(pn b I o e).1,λb I=>?_,w'⟩;obtain⟨o,e,_⟩:=T.obj _ _ U b I;right
 cases ok with
 | false=>exact ag _ _ _ I9 q9
 | true=>exact I _ s9 al H9 _ _ I9 q9 ag
structure Inn (X X':Cx)(pins:AB)(σ:St)(fp:AY)(C:Addr):Prop where
 pX:X'.prog=X.prog
 wX:X'.w=X.w
 KX:X'.K=X.K
 AX:X'.A=X.A
 cX:X'.calm=X.calm
 xX:X'.xe=λ_ _=>False
 lX:X'.env.locals=C
 f4:∀ {H':Hp},(∀b∈fp,H' b=none)->∀b∈fp,zdE X' [] H' b
 back:∀ {σ':St} {H':Hp} {s':AZ} {h'':Heap},Inv X' [] σ' H' s'->Heap.SameBut C s'.heap h''->Inv X pins σ H' { s' with heap:=h'' }
structure Opn (X:Cx)(scope:Scope)(cix:List (Option Nat))(Fam:Cx->Prop):Prop where
 kind:scope.kind = .function
 names:∀x∈scope.names,x.2 = .local->scope.names.lookup x.1=some .local
 cells:X.Ok->∀x∈scope.names,x.2 = .free->∃a,X.env.cells.lookup x.1=some a
 run:∀ (pins:AB) (σ:St) (H3:Hp) (s3:AZ) (fp:AY) (Q:Env->AZ->Prop),Inv X pins σ H3 s3->(∀b∈fp,zdE X pins H3 b)->(∀b∈fp,b<s3.heap.objs.size)->
  (∀X' cenv s4,Fam X'->Inn X X' pins σ fp s3.heap.objs.size->cenv.locals=s3.heap.objs.size->X'.env={ cenv with scope:=relabel scope X.env }->Inv X' [] (u4 σ cix) H3 s4->(∀b o,s3.heap.get? b=some o->s4.heap.get? b=some o)->Q cenv s4)->
  Af X (newFunctionEnv scope X.env.globals (zdo X.env scope.names []) [] X.env.qual none .none (some X.env)) Q X.xe s3
def za0{X:Cx}{Fam:Cx->Prop}{scope:Scope}{cix:List (Option Nat)}{use:Option (Value->Sem Unit)}{Qp:AA}{ifs:AO}{pos:Pos}{L:Sem Value}{o0:Addr->HO}{B:Cx->Addr->(AZ->Prop)->AZ->Prop}{tb:Addr->(St->Hp->Prop)->St->Hp->Prop}{Fin:Addr->Hp->Prop}{wi:TI}{g:TG}{ti:TT}{Kk:It->Hp->Prop}{pins:AB}{σ:St}{H:Hp}{s:AZ}(O:Opn X scope cix Fam)(hc:X.calm=true)(a4:clausesOf e=⟨tg,iter,ifs,0⟩::gs)(hs:∀x,foldedSetIterable iter X.env x=pure x)(a5:∀ (R:Result->AZ->Prop) (s:AZ) (it acc:Value) (env:Env),codeAny (model X.prog X.w) X.A (.compLoop e 0 it acc env) R s->Af X (pyIter it) (λa7 s'=>codeAny (model X.prog X.w) X.A (.compLoop e 0 a7 acc env) R s') (notedBy (model X.prog X.w) X.A env λx s'=>R (.error x) s') s->codeAny (model X.prog X.w) X.A (.compStart e 0 it acc env) R s)(hL:∀X',Fam X'->∀it acc,zom (model X'.prog X'.w) X'.A e 0 tg ifs it (.ref acc) X'.env (B X' acc))(an:∀ (s:AZ) (Q:AA),Q (.ref s.heap.objs.size) { s with heap:=s.heap.push ob }->Af X L Q X.xe s)(a8:∀ {pins σ H s},Inv X pins σ H s->∀H',yn X.prog X.w H' (s.heap.push ob) s.heap.objs.size (o0 s.heap.objs.size))(hi:PI X tg iter wi)(hg:∀X',Fam X'->PG X' tg g)(ht:∀X',Fam X'->PTs X' ifs ti)(U:∀X',Fam X'->X'.prog=X.prog->X'.w=X.w->X'.A=X.A->X'.calm=true->X'.xe=(λ_ _=>False)->∀acc pl s σ H (Nx:St->Hp->Prop) (P:AZ->Prop),Inv X' pl σ H s->tb acc Nx σ H->(∀ Y H' s',Inv X' pl Y H' s'->Nx Y H'->P s')->B X' acc P s)(I:Inv X pins σ H s)(h:wi σ H Kk)(hK:∀J H1 acc,Kk J H1->H1 acc=none->∃W:Nat->Nat->St->Hp->Prop,(∃m,W 0 m (u4 σ cix) (upd H1 acc (o0 acc)))/\∀i n σ H,W i n σ H->(J.stop i H/\Fin acc H)\/(J.go i H/\∃Nx:St->Hp->Prop,(∀ Y H',Nx Y H'->∃m,m<n/\W (i+1) m Y H')/\∀x H',J.yld i H x H'->g x σ H' λad H2=>ti ad H2 λb H3=>if b=true then tb acc Nx ad H3 else Nx ad H3))(ap:∀acc C H5 s6,zdE X pins H5 C->(∃m,s6.heap.Ns C m)->(∀ag,Heap.SameBut C s6.heap ag->Inv X pins σ H5 { s6 with heap:=ag })->Fin acc H5->compPost (model X.prog X.w) X.A X.xe use Qp (.ref acc) C (.ok .next) s6) :
  Af X (comprehension e scope X.env pos L false (eval iter X.env) use) Qp X.xe s:=by
 show wpAny_comprehension_free (use:=use) a4 hs (ziB (O.cells I.ok)) O.kind O.names (thn (hi pins s σ H _ I h) λxv s1 h1=>thn h1 λbk F h2=>?_);obtain⟨it,fp,tn,J,H2,e,I2,T,as,f2,q2⟩:=h2;subst e;show an F _ ?_;have al:=I2.hok.fresh (af F.heap.objs.size);obtain⟨W,⟨m0,w0⟩,av⟩:=hK J H2 F.heap.objs.size q2 al;have a0:∀b o,F.heap.get? b=some o->(F.heap.push ob).get? b=some o:=λb u e=>ai _ e;have I3:Inv X pins σ (upd H2 F.heap.objs.size (o0 F.heap.objs.size)) { F with heap:=F.heap.push ob,toks:=F.toks }:=I2.laid (t':=F.toks) a0 (af _) (a8 I2 _);have a1:∀b∈fp,b<F.heap.objs.size:=λb U=>by obtain⟨o,ho,_⟩:=T.obj _ _ as b U;exact ay ho
 have fn:∀b∈fp,upd H2 F.heap.objs.size (o0 F.heap.objs.size) b=none:=λb U=>by rw[zf (aR (a1 b U))];exact (f2 b U).1
 show O.run pins σ _ _ fp _ I3 (λb U=>⟨fn b U,(f2 b U).2⟩) (λb U=>Nat.lt_trans (a1 b U) (by simp)) λX' bd s4 hF N hl hE I4 kp=>?_;rw[<- hE,hl];have a2:tn 0 s4.heap:=T.keep _ _ _ as λb U o e=>kp b o (a0 b o e);have cX:=N.cX.trans hc;have Z:=zfX (X:=X') (R:=compPost (model X.prog X.w) X.A X.xe use Qp (.ref F.heap.objs.size) (F.heap.push ob).objs.size) (Fin:=λ_ H=>Fin F.heap.objs.size H) (pl:=[]) (hL X' hF (.ref it) F.heap.objs.size) cX N.xX (by rw[N.pX,N.wX,N.KX];exact T) N.f4 (hg X' hF) (ht X' hF) (U X' hF N.pX N.wX N.AX cX N.xX F.heap.objs.size) av (λbl H5 s6 I6 q=>?_) I4 a2 fn w0;rw[N.pX,N.wX,N.AX] at Z;exact a5 _ _ _ _ _ Z (T.self X.A 0 _ _ _ a2 Z);have bb:H5 (F.heap.push ob).objs.size=none:=by have:=I6.free;rwa[N.lX] at this
 obtain⟨m6,a3,_⟩:=I6.loc;rw[N.lX] at a3;exact ap _ _ H5 s6 (I3.fpOk (af _) bb) ⟨m6,a3⟩ (λag hs=>N.back I6 hs) q
section
variable {X:Cx}{scope:Scope}{N:AM}{cix:List (Option Nat)}{z:Str}
def zas (c:CompOk X scope N cix):Opn X scope cix (λX'=>∃C s H ex,X'=zA X scope N C s H ex) where
 kind:=c.kind
 names:=c.names
 cells:=c.cells
 run:=λpins σ H3 O fp Q I3 B F k=>by
  show wpAny_newFunctionEnv c.cell (by simp) (λY J L=>?_) c.kind;have U:∀b o,O.heap.get? b=some o->Y.get? b=some o:=λb o e=>L.extBut b o (aR (ay e)) (ai _ e);show k (zA X scope N O.heap.objs.size O H3 fp) _ _ ⟨_,_,_,_,rfl⟩ ⟨rfl,rfl,rfl,rfl,rfl,rfl,rfl,λ{H'} Z b q=>⟨Z b q,aR (F b q),λy=>?_,.inl q,λx a e=>?_,λp hp=>?_⟩,λI' hs=>ziO I3 B I' hs⟩ rfl rfl (zm2 I3 c B F J U) U;rcases aJ.mp (I3.stkSub b y) with e | e;exact (B b q).2.1 e;exact (B b q).2.2.1 e;rcases zag (c.cells I3.ok) e with y | y;exact (B b q).2.2.2.2.1 x a y;simp at y;exact absurd (show p∈([]:AB)++[] from hp) (by simp)
def za2 {pins:AB}{σ:St}{Q:VK}{acc C:Addr}{H5:Hp}{F:AZ}(J:∃m,F.heap.Ns C m)(L:∀B,Heap.SameBut C F.heap B->Inv X pins σ H5 { F with heap:=B })(q:Q (.ref acc) H5):compPost (model X.prog X.w) X.A X.xe none (EP X pins σ Q) (.ref acc) C (.ok .next) F:=
 let ⟨m,hn⟩:=J;⟨m,hn,λO I=>⟨.ref acc,H5,L O I,rfl,q⟩⟩
def zee{pos spos px:Pos}{nx:Str}{B first:Sem Value}{D:Ends}{pins:AB}{σ:St}{s:AZ}(O:X.N.Nodup)(Y:X.N[ix]?=some nx)(J:X.env.scope.names.lookup nx=some .local)(Z:swapsWithSole [.Name nx px] e spos.line X.env=pure true)(ad:(assignEach [.Name nx px] X.env).map (·.2)=[assign (.Name nx px) X.env])(ag:∀U,evalThenUse e X.env U=comprehension e scope X.env pos B false first (some U) >>= λ_=>pure ())(h:∀ (U:Value->Sem Unit) (Qp:AA),(∀acc C H5 I,zdE X pins H5 C->(∃m,I.heap.Ns C m)->(∀L,Heap.SameBut C I.heap L->Inv X pins σ H5 { I with heap:=L })->D.nx (σ.set ix (some (.ref acc))) H5->compPost (model X.prog X.w) X.A X.xe (some U) Qp (.ref acc) C (.ok .next) I)->Af X (comprehension e scope X.env pos B false first (some U)) Qp X.xe s) :
  Af X (exec (.Assign [.Name nx px] e spos) X.env) (SP X pins D) X.xe s:=by
 rw[exec_Assign_arm];show aa (bJ ?_);rw[Z];show aa (ae ?_);rw[if_pos rfl];show aa ?_;rw[ag];show aa ?_;show h _ _ λacc C H5 I F hm al q=>?_;have IX:=al _ ⟨rfl,λ_ _=>rfl⟩;change wpAny _ _ (assignAll _ ((assignEach [.Name nx px] X.env).map (·.2))) _ _ I;rw[ad];show wpAny_assign_Name (x:=nx) (pos:=px) ?_;show zgn IX O Y (Or.inl J) (v:=.ref acc) rfl (λs7 I7 ⟨a7,an,ap⟩=>?_) (.inr J)
 have as:C≠a7:=by
  intro z;rcases ap with e | e;exact F.2.1 (z.trans e);exact F.2.2.2.2.1 nx a7 e z.symm
 obtain⟨m6,oC,av,a0,a1,rC⟩:=hm;show⟨m6,⟨oC,av,a0,(an.2 _ as).trans a1,rC⟩,λh8 a2=>ae (ae ?_)⟩;exact⟨_,H5,I7.turned (t':=s7.toks) (λb o hb e=>(a2.2 b hb).trans e) F.1 F.2.1 F.2.2.2.1 F.2.2.2.2.1 F.2.2.2.2.2,q⟩
variable {Fam:Cx->Prop}{use:Option (Value->Sem Unit)}{Qp:AA}{elt tg iter:Expr}{ifs:AO}{pos ipos spos px:Pos}{wi:TI}{g:TG}{ti:TT}{te:TE}{pins:AB}{σ:St}{H:Hp}{s:AZ}{Fin:Addr->Hp->Prop}
def zhB {P:AZ->Prop}{acc:Addr}{Nx:St->Hp->Prop}(he:PE X elt te)(Z:X.xe=λ_ _=>False)(I:Inv X pins σ H s)(q:te σ H λv H'=>∃xs,H' acc=some (.lst xs)/\xs.length<sizeLine/\Nx σ (upd H' acc (.lst (xs++[v]))))(k:∀ B H' s',Inv X pins B H' s'->Nx B H'->P s') :
  Af X (eval elt X.env) (λx s5=>Af X (call (.builtin "list.append") [.ref acc,x]) (λ_ s6=>P s6) (λ_ _=>False) s5) (λ_ _=>False) s:=by
 have e9:=he pins s σ H _ I q;rw[Z] at e9;show thn e9 ?_;rintro u2 J ⟨v,H10,I10,L,xs,O,U,nx⟩;have F:=zf0 (X:=X) _ J σ H10 (.ref acc) [v] (.ref acc) [u2] (λ_ H'=>Nx σ H') I10 rfl (.cons L .nil) ⟨_,xs,v,rfl,rfl,O,U,nx⟩;rw[Z] at F;show thn F (by rintro _ ad ⟨_,H11,I11,_,Y⟩;exact k _ _ _ I11 Y)
def zbe (O:Opn X scope cix Fam)(hc:X.calm=true)(hi:PI X tg iter wi)(hg:∀X',Fam X'->PG X' tg g)(ht:∀X',Fam X'->PTs X' ifs ti)(he:∀X',Fam X'->PE X' elt te)(hs:∀x,foldedSetIterable iter X.env x=pure x)(I:Inv X pins σ H s)
  (h:wi σ H λJ H1=>∀acc,H1 acc=none->∃W:Nat->Nat->St->Hp->Prop,(∃m,W 0 m (u4 σ cix) (upd H1 acc (.lst [])))/\∀i n σ H,W i n σ H->(J.stop i H/\Fin acc H)\/(J.go i H/\∃Nx:St->Hp->Prop,(∀ L H',Nx L H'->∃m,m<n/\W (i+1) m L H')/\∀x H',J.yld i H x H'->ziE g ti te acc Nx x σ H'))
  (U:∀acc C H5 F,zdE X pins H5 C->(∃m,F.heap.Ns C m)->(∀Y,Heap.SameBut C F.heap Y->Inv X pins σ H5 { F with heap:=Y })->Fin acc H5->compPost (model X.prog X.w) X.A X.xe use Qp (.ref acc) C (.ok .next) F) :
  Af X (comprehension (.ListComp elt [⟨tg,iter,ifs,0⟩] scope pos) scope X.env ipos (newList []) false (eval iter X.env) use) Qp X.xe s:=
 za0 (ob:={ cls:=.type "list",dict:=none,data:=.seq ([]:AN).toArray }) (o0:=λ_=>.lst []) (B:=λX' acc P s=>wpAny (model X'.prog X'.w) X'.A (eval elt X'.env) (λx s5=>wpAny (model X'.prog X'.w) X'.A (call (.builtin "list.append") [.ref acc,x]) (λ_ F=>P F) (λ_ _=>False) s5) (λ_ _=>False) s) (tb:=λacc Nx σ H=>te σ H λv H'=>∃xs,H' acc=some (.lst xs)/\xs.length<sizeLine/\Nx σ (upd H' acc (.lst (xs++[v])))) O hc rfl hs (λ_ _ _ _ _ h0 h1=>codeAny_compStart_list h0 h1) (λ_ _ _ _ _ _ I Z n h=>zei I Z n h) (λs Q h=>bu h) (λ_ _=>⟨aG _,[],0,.nil,aB _ rfl⟩) hi hg ht (λX' hF _ _ _ _ xX _ _ _ _ _ _ _ I q k=>zhB (he X' hF) xX I q k) I h (λJ H1 acc q hn=>q acc hn) U
end
section
variable {X:Cx}{scope:Scope}{N:AM}{z:Str}
def zdJ {P:Cx->Prop}(h:∀C s H ex,P (zA X scope N C s H ex)):∀X',(∃C s H ex,X'=zA X scope N C s H ex)->P X':=by right
abbrev zvR (X:Cx)(pins:AB)(σ:St)(use:Option (Value->Sem Unit))(Qp:AA)(Q:VK):Prop:=∀acc C H5 B,zdE X pins H5 C->(∃m,B.heap.Ns C m)->(∀q,Heap.SameBut C B.heap q->Inv X pins σ H5 { B with heap:=q })->Q (.ref acc) H5->compPost (model X.prog X.w) X.A X.xe use Qp (.ref acc) C (.ok .next) B
end
structure Dfn (K:AH)(mg:AI)(x:Str)(st:Stmt)(ps:AM)(f:Addr)(fd:Ac):Prop where
 F:Fun K x x st f fd
 b:zix K fd ps []
 m:mg x=some (.ref f)
section
variable {X:Cx}
def zw7{x:Str}{st:Stmt}{ps:AM}{f:Addr}{fd:Ac}{sp:Sp}{es:AO}{p pos:Pos}(D:Dfn X.K X.mg x st ps f fd)(G:FnOk X.prog X.w X.K X.mg X.base CX0 j f fd ps sp)(J:Room k X.A)(L:PA X (e::es) t)(q:j<=k:=by ext)(O:Gl X x:=by rfl)(B:Ah x:=by ext)(U:starEach (e::es) X.env=(false,eval e X.env)::starEach es X.env:=by rfl)(I:(backTo pos (starEach es X.env)).any (·.1)=false:=by rfl) :
  PE X (.Call (.Name x p) (e::es) [] pos) (zhr sp [] E0 t):=
 zqJ G (J.mono q) O D.m D.F.kp D.b .nil zw5 L B U I
def zlP {q:List Bool}:((List.range q.length).all λi=>q.getD i true)=q.all id:=by
 rw[bP,bm,bm];constructor;intro h b F;obtain⟨i,hi,e⟩:=ba.mp F;right;intro h i hi;have B:=aX.mp hi;have:=h q[i] (b6 B);right
def zmC (Z:X.calm=true):zct X (.builtin "all") (λxs H Q=>∃ (p:Addr) (B:List Bool),xs=[.ref p]/\H p=some (.lst (B.map V.bl))/\Q (.bl (B.all id)) H):=by
 intro pins s σ H xs us Q I r h;obtain⟨p,B,rfl,hp,q⟩:=h;obtain⟨u,rfl,ru⟩:=zaf r;cases ru;obtain⟨its,U,pl,hz⟩:=I.list (.of hp);have F:=U.length;rw[ab] at F;have W:Walks X.prog X.w X.A.in1 s.heap.objs.size [s.heap.objs.size,p] [s.heap.objs.size] its.toArray.size (λi v=>its.toArray[i]?=some v) (λi h=>h.IsListIter s.heap.objs.size p i/\h.IsList p its.toArray):=by show Walks.list (A:=X.A.in1) (I.ok.hd Z) s.heap.objs.size p ?_ its.toArray;obtain⟨o,_,ho,_⟩:=pl;exact aR (ay ho)
 show call_all_walk (eO pl.isList ⟨s.heap.objs.size,_,_,_,_,_,λi=>B.getD i true,rfl,W,⟨?_,?_⟩,?_,?_⟩);exact⟨_,aB _ rfl,rfl,rfl⟩;exact pl.isList.at λo e=>ai _ e;intro i v s' Q' E' hP L;have O:its[i]?=some v:=by simpa using hP
 have hi:i<B.length:=by grind
 have hb:(B.map V.bl)[i]?=some (V.bl B[i]):=by simp[hi]
 obtain⟨u',J,rb⟩:=U.get hb;rw[O] at J;cases J;cases rb;have:B.getD i true=B[i]:=by simp[hi]
 dsimp only at L;rw[this] at L;exact ce L;intro h' tk hk;have e:(List.range its.toArray.size).all (λi=>B.getD i true)=B.all id:=by rw[aS,<- F];exact zlP
 rw[e];exact⟨.bl _,H,I.kept (t':=tk) λb o Y=>hk b o (by simp;exact aR (ay Y)) (ai _ Y),rfl,q⟩
end
structure QE (X:Cx)(e:Expr)(t:TE):Prop where
 run:PE X e t
structure QT (X:Cx)(e:Expr)(t:TT):Prop where
 run:PT X e t
structure QW (X:Cx)(e:Expr)(t:TT):Prop where
 run:PW X e t
structure QC (X:Cx)(op:CmpOp)(a b:Expr)(t:TE):Prop where
 run:PC X op a b t
structure QA (X:Cx)(es:AO)(t:TA):Prop where
 run:PA X es t
structure QS (X:Cx)(s:Stmt)(t:TS):Prop where
 run:PS X s t
structure QSs (X:Cx)(s:List Stmt)(t:TS):Prop where
 run:PSs X s t
structure QG (X:Cx)(e:Expr)(t:TG):Prop where
 run:PG X e t
structure QGs (X:Cx)(es:AO)(t:TGs):Prop where
 run:PGs X es t
structure QI (X:Cx)(tg e:Expr)(t:TI):Prop where
 run:PI X tg e t
structure QO (X:Cx)(e:Option Expr)(t:TO):Prop where
 run:PO X e t
structure QP (X:Cx)(pos:Pos)(ks:List (Option Expr))(vs:AO)(t:List (TE×TE)):Prop where
 run:PPs X pos ks vs t
structure QTs (X:Cx)(es:AO)(t:TT):Prop where
 run:PTs X es t
structure OpQ (X:Cx)(f:Value->Value->Sem Value)(r:R2):Prop where
 run:OpR X f r
structure CallQ (X:Cx)(f:Value)(r:AT->Hp->VK->Prop):Prop where
 run:zct X f r
structure IxQ (X:Cx)(r:R2):Prop where
 run:IxR X r
structure SlQ (X:Cx)(r:V->AQ->AQ->Hp->VK->Prop):Prop where
 run:SlR X r
section
variable {X:Cx}{e a b c:Expr}{es:AO}{te ta tb tc:TE}{t u:TT}{pos p:Pos}
def qv(i:Nat)(B:X.N[i]?=some x:=by rfl)(F:Vis X.env.scope x:=by walk_at "v")(I:Ah x:=by ext)(q:(x==("__classdict__" : Str))=false:=by ext):QE X (.Name x pos) (zmd i):=⟨zt1 B F I q⟩
def yu{i:Int}:QE X (.Constant (.int i) j pos) (tC (.int i)):=⟨zoW⟩
def zxf:QE X (.Constant (.bool k) j pos) (tC (.bl k)):=⟨zw6⟩
def zul:QE X (.Constant .none j pos) (tC .non):=⟨ztZ⟩
def ue:QE X (.Constant (.str x) j pos) (tC (.str x)):=⟨zt0⟩
def zq8(q:Gl X x)(B:X.mg x=none)(F:bootBuiltins x=some w)(r:yG v w)(I:x ≠ "__name__" := by ext)(J:Ah x:=by ext):QE X (.Name x pos) (tC v):=⟨zqI q B F r I J⟩
def yX:OpQ X (binaryOp .Add) (rI0 λi j=>.int (i+j)):=⟨ztK⟩
def zoV:OpQ X (binaryOp .Sub) (rI0 λi j=>.int (i - j)):=⟨ztS⟩
def zc1:OpQ X (binaryOp .Mult) (rI zvl λi j=>.int (i * j)):=⟨ztO⟩
def zeK:OpQ X (binaryOp .FloorDiv) (rI zsc λi j=>.int (i / j)):=⟨zqB⟩
def zbl:OpQ X (binaryOp .Mod) (rI (λ_ j=>0<j) λi j=>.int (i % j)):=⟨ztN⟩
def zlv:OpQ X (binaryOp .Pow) (rI CPow λi j=>.int (i ^ j.toNat)):=⟨ztQ⟩
def yM:OpQ X (binaryOp .Add) (zlL X.K):=⟨zqz⟩
def ztT:OpQ X (binaryOp .Add) rCat:=⟨ztL⟩
def zoU:OpQ X (binaryOp .Mult) zvM:=⟨ztR⟩
def zhh:OpQ X (compareOp .Lt) (rI0 λi j=>.bl (decide (i<j))):=⟨zw2⟩
def zqE:OpQ X (compareOp .LtE) (rI0 λi j=>.bl (decide (i<=j))):=⟨zw1⟩
def zqD:OpQ X (compareOp .Gt) (rI0 λi j=>.bl (decide (j<i))):=⟨zw0⟩
def zw4:OpQ X (compareOp .GtE) (rI0 λi j=>.bl (decide (j<=i))):=⟨zwZ⟩
def xI:OpQ X (compareOp .Eq) rEq:=⟨zwY⟩
def zf9:OpQ X (compareOp .NotEq) rNe:=⟨zw3⟩
def zbk:OpQ X (compareOp .In) (rIn X.K false):=⟨zls⟩
def zbW:OpQ X (compareOp .NotIn) (rIn X.K true):=⟨zf8⟩
def y9(B:OpQ X (binaryOp q) r)(F:QE X a ta)(I:QE X b tb):QE X (.BinOp a q b pos) (tOp r ta tb):=⟨zw9 B.run F.run I.run⟩
def zq9(B:OpQ X (compareOp q) r)(F:QE X a ta)(I:QE X b tb)(J:behindInMarks q b=false):QE X (.Compare a [q] [b] pos) (tOp r ta tb):=⟨zqK B.run F.run I.run J⟩
def zc7(B:OpQ X (compareOp q) r)(F:QE X a ta)(I:QE X b tb)(J:behindInMarks q b=false):QT X (.Compare a [q] [b] pos) (zmc (tOp r ta tb)):=⟨zq3 B.run F.run I.run J⟩
def znX(J:OpQ X (compareOp B) r)(F:OpQ X (compareOp q) I)(L:QE X a ta)(O:QE X b tb)(U:QE X c tc)(Y:lastMarks [B,q] [b,c]=false:=by with_unfolding_all rfl) :
  QT X (.Compare a [B,q] [b,c] pos) (zmc (zl8 r I ta tb tc)):=⟨znM J.run F.run L.run O.run U.run Y⟩
def zuj(q:QE X a ta):QC X .Is a (.Constant .none j pos') (zxy ta):=⟨ztX q.run⟩
def zq7(q:QE X a ta):QC X .IsNot a (.Constant .none j pos') (zrT ta):=⟨zqH q.run⟩
def zo0(h:QC X q a b te)(h1:behindInMarks q b=false:=by first | exact zh8 _ (by ext) (by ext) | rfl):QT X (.Compare a [q] [b] pos) (tB te):=⟨zue h.run h1⟩
def zup (h:QE X e te)(he:∀whole,isTrue e X.env whole=(do let v <- whole;standAt e.pos;holding [v] (truthy v)):=by intro _;rfl):QT X e (tB te):=⟨zug h.run he⟩
def znY (h:QE X e te)(he:∀whole,isTrue e X.env whole=(do let v <- whole;standAt e.pos;holding [v] (truthy v)):=by intro _;rfl):QT X e (λσ H Q=>te σ H λx H'=>∃k,zvZ X.K x H' k/\Q k H'):=⟨znN h.run he⟩
def zuo (h:QT X a t):QT X (.UnaryOp .Not a pos) (tNot t):=⟨zuf h.run⟩
def zlK (h:QT X a t):QW X (.BoolOp .And [a] pos) t:=⟨zq6 h.run⟩
def zuq (h:QT X a t):QW X (.BoolOp .Or [a] pos) t:=⟨zui h.run⟩
def zo1 {z4:AO}(h:QT X a t)(h':QW X (.BoolOp .And (b::z4) pos) u):QW X (.BoolOp .And (a::b::z4) pos) (zxu t u):=⟨zuh h.run h'.run⟩
def zxh {z4:AO}(h:QT X a t)(h':QW X (.BoolOp .Or (b::z4) pos) u):QW X (.BoolOp .Or (a::b::z4) pos) (tOr t u):=⟨zxe h.run h'.run⟩
def QW.pt (h:QW X e t):QT X e t:=⟨h.run.pt⟩
def yc:QA X [] zja:=⟨ztW⟩
def zD(B:QE X e te)(F:QA X es q)(I:starEach (e::es) X.env=(false,eval e X.env)::starEach es X.env:=by rfl):QA X (e::es) (zbL te q):=⟨zqG B.run F.run I⟩
def zrn:QP X pos [] [] []:=⟨zqX⟩
def zeT(B:QE X k tk)(F:QE X v tv)(I:QP X pos ks vs q):QP X pos (some k::ks) (v::vs) ((tk,tv)::q):=⟨znJ B.run F.run I.run⟩
def zrb(h:QP X pos q B F)(I:q.all (·.isSome)=true)(L:q.length=B.length)(O:q≠[])(J:q.length<=15):QE X (.Dict q B pos) (zuW F):=⟨zqM h.run I L O J⟩
def zlH:QO X none zma:=⟨zqV⟩
def zlI (h:QE X e te):QO X (some e) (zuZ te):=⟨zqW h.run⟩
def zrP:SlQ X rSlA:=⟨zrM⟩
def zl7:SlQ X (rSlL X.K):=⟨zrL⟩
def zeP{r:V->AQ->AQ->Hp->VK->Prop}{lo hi:Option Expr}{tl th:TO}(q:SlQ X r)(B:QE X e te)(F:QO X lo tl)(I:QO X hi th):QE X (.Subscript e (.Slice lo hi none p2) pos) (tSl r te tl th):=⟨znD q.run B.run F.run I.run⟩
def y3:IxQ X (zvK X.K):=⟨zpY⟩
def yF:IxQ X (zus X.K):=⟨zs2⟩
def zrd(q:IxQ X r)(B:QE X a ta)(F:QE X b tb)(I:zgy b):QE X (.Subscript a b pos) (tOp r ta tb):=⟨zw8 q.run B.run F.run I⟩
def xO (q:X.A.units+1<cLine)(B:QE X a ta)(F:QE X b tb)(I:zpd b):QE X (.Subscript a b pos) (zuT ta tb):=⟨zqL q B.run F.run I⟩
def z5:CallQ X (.builtin "len") (λxs H Q=>∃x n,xs=[x]/\zsk X.K x H n/\Q (.int n) H):=⟨zmD⟩
def zjA:CallQ X (.builtin "abs") (λxs H Q=>∃i,xs=[.int i]/\Q (.int (if i<0 then -i else i)) H):=⟨zmB⟩
def zjC:CallQ X (.builtin "isinstance") (λxs H Q=>∃x T t b,xs=[x,.ty T]/\TyOf X.K H x t/\PySem.W.kitOne X.K t (.type T)=some b/\Q (.bl b) H):=⟨zgC⟩
def zjB (B:X.calm=true):CallQ X (.builtin "all") (λxs H Q=>∃ (p:Addr) (q:List Bool),xs=[.ref p]/\H p=some (.lst (q.map V.bl))/\Q (.bl (q.all id)) H):=⟨zmC B⟩
def ziF:CallQ X (.type "list") (λxs H Q=>∃p ys,xs=[.ref p]/\(SqL X.K H p ys\/SqT X.K H p ys)/\∀l,H l=none->Q (.ref l) (upd H l (.lst ys))):=⟨zfp⟩
def zgG:CallQ X (.type "tuple") (λxs H Q=>∃p ys,xs=[.ref p]/\((SqL X.K H p ys/\∀l,H l=none->Q (.ref l) (upd H l (.tup ys)))\/(SqT X.K H p ys/\Q (.ref p) H))):=⟨zeg⟩
def xk {id:String}{r:AT->Hp->VK->Prop}{x:Str}{F:TA}(I:CallQ X (.builtin id) r)(J:Gl X x)(L:X.mg x=none)(O:bootBuiltins x=some (.builtin id))(U:QA X (e::es) F)(Y:x ≠ "__name__" := by ext)(q:Ah x:=by ext)
  (Z:starEach (e::es) X.env=(false,eval e X.env)::starEach es X.env:=by rfl) (B:(backTo pos (starEach es X.env)).any (·.1)=false:=by rfl):QE X (.Call (.Name x p) (e::es) [] pos) (tCB r F):=⟨znA I.run J L O U.run Y q Z B⟩
def zat(I:CallQ X (.type T) r)(J:Gl X x)(L:X.mg x=none)(O:bootBuiltins x=some (.type T))(U:QA X (e::es) F)(Y:x ≠ "__name__" := by ext)(q:Ah x:=by ext)(Z:starEach (e::es) X.env=(false,eval e X.env)::starEach es X.env:=by rfl)(B:(backTo pos (starEach es X.env)).any (·.1)=false:=by rfl):QE X (.Call (.Name x p) (e::es) [] pos) (tCB r F):=⟨zlx I.run J L O U.run Y q Z B⟩
def znQ{x:Str}{st:Stmt}{ps:AM}{f:Addr}{fd:Ac}{sp:Sp}(D:Dfn X.K X.mg x st ps f fd)(G:FnOk X.prog X.w X.K X.mg X.base CX0 j f fd ps sp)(J:Room k X.A)(L:QA X (e::es) I)(q:j<=k:=by ext)(O:Gl X x:=by rfl)(B:Ah x:=by ext)(U:starEach (e::es) X.env=(false,eval e X.env)::starEach es X.env:=by rfl)(F:(backTo pos (starEach es X.env)).any (·.1)=false:=by rfl) :
  QE X (.Call (.Name x p) (e::es) [] pos) (zhr sp [] E0 I):=⟨zw7 D G J L.run q O B U F⟩
def zc6(q:X.N.Nodup)(hi:X.N[i]?=some x)(B:Loc X.env.scope x)(F:X.fn x=true\/X.env.scope.names.lookup x=some .local:=by walk_at "l"):QG X (.Name x pos) (uA i):=⟨zqR q hi B F⟩
def zrj:QGs X [] gNil:=⟨zqS⟩
def znR(h1:QG X e g)(h2:QGs X es gs)(q:(assignEach (e::es) X.env).map (·.2)=assign e X.env::(assignEach es X.env).map (·.2):=by rfl):QGs X (e::es) (zsU g gs):=⟨znG h1.run h2.run q⟩
def zum {k:Nat}{gs:TGs}{n:Nat}(B:X.calm=true)(h:QGs X es gs)(F:(assignEach es X.env).length=n:=by rfl)(q:(assignEach es X.env).findIdx? (·.1)=none:=by rfl):QG X (.Tuple es k pos) (zwz X.K n gs):=⟨zt8 B h.run F q⟩
def zeR(q:QE X e te):QI X tg e (zpP X.K te):=⟨zqT q.run⟩
def zun(q:QE X e te):QI X tg e (zwC X.K te):=⟨zt9 q.run⟩
def zge(B:Gl X "range")(F:X.mg "range" = none)(I:QA X [a] q)(J:starEach [a] X.env=[(false,eval a X.env)]:=by rfl):QI X tg (.Call (.Name "range" p) [a] [] pos) (zsW q):=⟨zlA B F I.run J⟩
def zeW:QTs X [] zbM:=⟨zq4⟩
def zrp (h:QT X c t):QTs X [c] t:=⟨zq5 h.run⟩
def zra(B:X.calm=true)(c:CompOk X scope N cix)(hi:QI X tg iter wi)(F:∀C s H ex,QG (zA X scope N C s H ex) tg g)(J:∀C s H ex,QTs (zA X scope N C s H ex) ifs ti)(L:∀C s H ex,QE (zA X scope N C s H ex) elt te)(O:∀x,foldedSetIterable iter X.env x=pure x:=by intro _;rfl):QE X (.ListComp elt [⟨tg,iter,ifs,0⟩] scope pos) (zxv wi g ti te cix):=⟨λpins s σ H Q I h=>by
 rw[eval_ListComp];exact zbe (Fin:=λacc H=>Q (.ref acc) H) (zas c) B hi.run (zdJ λC s H ex=>(F C s H ex).run) (zdJ λC s H ex=>(J C s H ex).run) (zdJ λC s H ex=>(L C s H ex).run) O I h λ_ _ _ _ _ U Y q=>za2 U Y q⟩
end
section
variable {X:Cx}{st:Stmt}{sts body a b:List Stmt}{t u:TS}{e o i:Expr}{te td ty tv:TE}{pos:Pos}
def zeV:QSs X [] zuY:=⟨zq1⟩
def yh (h1:QS X st t)(h2:QSs X sts u):QSs X (st::sts) (zxz t u):=⟨znL h1.run h2.run⟩
def uW (h1:QS X st t):QSs X [st] t:=⟨zq2 h1.run⟩
def zaX (q:QE X e te)(B:swapsWith e none pos.line X.env=pure false:=by rfl):QS X (.Expr e pos) (zl9 te):=⟨zq0 q.run B⟩
def zbo (q:QE X e te):QS X (.Return (some e) pos) (zvQ te):=⟨zuc q.run⟩
def znU(q:QT X c tc)(B:QSs X a t)(F:QSs X b u):QS X (.If c a b pos) (tIfS tc t u):=⟨zxd q.run B.run F.run⟩
def xR {i:Nat}{x:Str}{pos':Pos}(q:X.N.Nodup)(hi:X.N[i]?=some x)(B:Loc X.env.scope x)(F:QE X e te)(I:swapsWith e (some (.Name x pos')) pos.line X.env=pure false:=by rfl)(J:X.fn x=true\/X.env.scope.names.lookup x=some .local:=by walk_at "l") :
  QS X (.Assign [.Name x pos'] e pos) (zfg te (uA i)):=⟨zud q hi B F.run I J⟩
def zoZ(q:QE X e te)(B:QG X tg g)(F:swapsWithSole [tg] e pos.line X.env=pure false:=by rfl)(I:swappedStores [tg] e X.env=pure none:=by rfl)(h1:(assignEach [tg] X.env).map (·.2)=[assign tg X.env]:=by rfl):QS X (.Assign [tg] e pos) (zfg te g):=⟨zua q.run B.run F I h1⟩
def zeU(q:X.A.units+1<cLine)(B:QE X o td)(hi:QE X i ty)(F:QE X e tv)(I:swapsWith e (some (.Subscript o i pos')) pos.line X.env=pure false):QS X (.Assign [.Subscript o i pos'] e pos) (zuP td ty tv):=⟨zqZ q B.run hi.run F.run I⟩
def zlJ(q:PassesOwn (model X.prog X.w) X.A X.env X.xe)(B:X.calm=true)(hi:QI X tg iter wi)(F:QG X tg g)(I:QSs X body t)(J:∀x,foldedSetIterable iter X.env x=pure x:=by intro _;rfl):QS X (.For tg iter body [] pos) (zvP wi g t):=⟨zub q B hi.run F.run I.run J⟩
end
def Fun.okQ{P:Aa}{w:Ab}{K:AH}{mg:AI}{base:Heap}{x B:Str}{st:Stmt}{f:Addr}{fd:Ac}{N ps:AM}{sp:Sp}(F:Fun K x B st f fd)(S:FnScope N ps (zg st))(L:∀vs H Q E,sp vs H Q E->vs.length=ps.length)(J:∀ (I:Value) (A:Ae) (q:List Env) (s:AZ) (H:Hp) (vs:AT) (Q:VK) (E:XK),Room k (A.deeper (envOfC B (zg st) s.heap.objs.size f I))->sp vs H Q E->
   ∃t,QSs (zek CX0 P w K mg base N B (zg st) f I A q s H E).nox (yy st) t/\t { nx:=λ_ H'=>Q .non H',rt:=Q } (xy N vs) H):FnOk P w K mg base CX0 (k+1) f fd ps sp:=
 F.ok S L λI A q s H vs Q E O h=>by obtain⟨t,h1,h2⟩:=J I A q s H vs Q E O h;exact⟨t,h1.run,h2⟩
def s_ca:¬ (("cells" : Str) = "at"):=by decide +kernel
def s_cl:¬ (("cells" : Str) = "left"):=by decide +kernel
def s_al:¬ (("at" : Str) = "left"):=by decide +kernel
def zwG:¬ (Sum.inr "cells" : Key)=(Sum.inr "at" : Key):=λz=>s_ca (Sum.inr.inj z)
def zwH:¬ (Sum.inr "cells" : Key)=(Sum.inr "left" : Key):=λz=>s_cl (Sum.inr.inj z)
def zvy:¬ (Sum.inr "at" : Key)=(Sum.inr "left" : Key):=λz=>s_al (Sum.inr.inj z)
def zbm (c:Addr)(a l:Int):List (Key×V):=[(Sum.inr "cells",.ref c),(Sum.inr "at",.int a),(Sum.inr "left",.int l)]
def zxb (c:Addr)(a l:Int):zaI (zbm c a l) (Sum.inr "cells" : Key)=some (.ref c):=xA rfl
def znE (c:Addr)(a l:Int):zaI (zbm c a l) (Sum.inr "at" : Key)=some (.int a):=by unfold zbm;rw[xW zwG,xA rfl]
def zxc (c:Addr)(a l:Int):zaI (zbm c a l) (Sum.inr "left" : Key)=some (.int l):=by unfold zbm;rw[xW zwH,xW zvy,xA rfl]
def zt4 (c:Addr)(a l b:Int):zae (zbm c a l) (Sum.inr "at" : Key) (.int b)=zbm c b l:=by unfold zae zbm;have q:=zwG;have B:¬ (Sum.inr "left" : Key)=(Sum.inr "at" : Key):=λz=>zvy z.symm;simp[q,B]
def zt5 (c:Addr)(a l b:Int):zae (zbm c a l) (Sum.inr "left" : Key) (.int b)=zbm c a b:=by unfold zae zbm;have q:=zwH;have B:=zvy;simp[q,B]
def zt3 (c:Addr)(a l:Int):zcW [] (zbm c a l)=zbm c a l:=by unfold zcW zbm;have q:=zwG;have B:=zwH;have F:=zvy;simp[zae,q,B,F]
structure Pen (H:Hp)(p c:Addr)(ns:AG)(n:Nat):Prop where
 ob:∃a l:Int,H p=some (.dK (zbm c a l))/\0<=a/\a<=n/\0<=l
 ls:∃ob,H c=some (.frz ob (.lst (ns.map V.int)))
 len:ns.length<=63
def Pen.same{ns:AG}(P:Pen H p c ns n)(h:y4 H H'):Pen H' p c ns n:=by obtain⟨⟨a,l,h1,h2,q,B⟩,F,I⟩:=P;exact⟨⟨a,l,h _ _ h1,h2,q,B⟩,let ⟨ob,e⟩:=F;⟨ob,h _ _ e⟩,I⟩
def ze6{a l:Int}(h:H p=some (.dK (zbm c a l))):zu H (upd H p o):=λb u e n=>by
 by_cases q:b=p;subst q;rw[h] at e;cases e;have:=n _ rfl;rw[znE] at this;cases this;rw[zf q];exact e
section
variable {H:Hp}{p c:Addr}{a l:Int}
def zid (h:H p=some (.dK (zbm c a l))):zch H p (.str "cells") (some (.ref c)):=by have:=zch.k (k:=(Sum.inr "cells" : Key)) h;rw[zxb] at this;exact this
def zt2 (h:H p=some (.dK (zbm c a l))):zch H p (.str "at") (some (.int a)):=by have:=zch.k (k:=(Sum.inr "at" : Key)) h;rw[znE] at this;exact this
def zly (h:H p=some (.dK (zbm c a l))):zch H p (.str "left") (some (.int l)):=by have:=zch.k (k:=(Sum.inr "left" : Key)) h;rw[zxc] at this;exact this
def zt6 (h:H p=some (.dK (zbm c a l)))(b:Int):zdB H p (.str "at") (.int b) (upd H p (.dK (zbm c b l))):=by have:=zdB.k (k:=(Sum.inr "at" : Key)) (v:=.int b) h (by change 3<sizeLine;decide);rw[zt4] at this;exact this
def zoX (h:H p=some (.dK (zbm c a l)))(b:Int):zdB H p (.str "left") (.int b) (upd H p (.dK (zbm c a b))):=by have:=zdB.k (k:=(Sum.inr "left" : Key)) (v:=.int b) h (by change 3<sizeLine;decide);rw[zt5] at this;exact this
end
def zsq (ns:AG)(a:Int)(h:0<((ns.map V.int).length:Int)):∃z,atI (ns.map V.int) (a % ((ns.map V.int).length:Int))=some (.int z):=by
 have q:=cz a (show ((ns.map V.int).length:Int)≠0 by lia);have h1:=bZ a h;generalize F:a % ((ns.map V.int).length:Int)=m at q h1;obtain⟨j,rfl⟩:∃j:Nat,m=j:=⟨m.toNat,by lia⟩;have B:j<ns.length:=by rw[ab] at h1;lia
 exact⟨ns[j],zjm (by simp[B])⟩
def zoc {a:Int}{n:Nat}(q:0<=a)(h1:a<=n)(h2:n<=1000000):0<=60013 * a * a/\60013 * a * a<=60013000000000000:=by have e:60013 * a * a=60013 * (a * a):=Int.mul_assoc _ _ _;have B:0<=a * a:=Int.mul_nonneg q q;have F:a * a<=1000000 * 1000000:=cU (by lia) (by lia) q (by lia);rw[e];lia
def meet {α:Type}{G:Prop}(P:α->Prop)(h:(∀a,P a)->G)(r:∀a,P a):G:=h r
def zwV {G:Prop}(P:Prop)(h:P->G)(r:P):G:=h r
def zl5:Sp:=λvs H Q _=>∃ (p c:Addr) (ns:AG) (n:Nat) (yt:Int),vs=[.ref p,.int yt]/\Pen H p c ns n/\n<=1000000/\1<=yt/\yt<1073741824/\
 ∀ (r:Int) (H':Hp),0<=r->r<yt->Pen H' p c ns (n+1)->zu H H'->Q (.int r) H'
def zob (K:AH):Sp:=λvs H Q _=>∃ (a:Addr) (ns:AG),vs=[.ref a]/\SqL K H a (ns.map V.int)/\ns.length<=63/\∀ (p c:Addr) (H':Hp),Pen H' p c ns 0->y4 H H'->Q (.ref p) H'
def yH (ns:AG):Int:=ns.foldl (· * ·) 1
def uH (ns:AG)(n:Int):yH (ns++[n])=yH ns * n:=by unfold yH;rw[List.foldl_append];rfl
def zn{α:Type}{l:List α}{x:α}(h:l[i]?=some x):l.take (i+1)=l.take i++[x]:=by rw[List.take_succ,h];rfl
def zl6 (K:AH):Sp:=λvs H Q _=>∃ (a:Addr) (ns:AG),vs=[.ref a]/\SqL K H a (ns.map V.int)/\ns.length<=63/\∀H',Q (.bl true) H'
def zoQ {g:TG}{x:V}{σ:St}{H:Hp}{A B:St->Hp->Prop}(h:g x σ H A):g x σ H λq H3=>zbM q H3 λF H4=>if F=true then A q H4 else B q H4:=by
 have e:(λq H3=>zbM q H3 λF H4=>if F=true then A q H4 else B q H4)=A:=by funext q H3;change (if true=true then A q H3 else B q H3)=A q H3;rw[if_pos rfl]
 rw[e];exact h
section
variable {prog:Aa}{w:Ab}{A:Ae}{E:AA}{s:AZ}
end
mutual
def Dt.toW:Dt->PySem.W.Dat
 | .non=>.none
 | .bl b=>.bool b
 | .int i=>.int i
 | .str x=>.str x
 | .tup l=>.tuple (Dt.toWs l)
 | .lst l=>.list (Dt.toWs l)
 | .dct=>.bytes #[]
def Dt.toWs:AS->List PySem.W.Dat
 | []=>[]
 | d::ds=>d.toW::Dt.toWs ds
end
mutual
def zhs:∀ {d e:Dt},d.toW=e.toW->d=e
 | .non,e,h=>by cases e <;> simp[Dt.toW] at h ⊢
 | .bl b,e,h=>by cases e <;> simp[Dt.toW] at h ⊢;exact h
 | .int b,e,h=>by cases e <;> simp[Dt.toW] at h ⊢;exact h
 | .str b,e,h=>by cases e <;> simp[Dt.toW] at h ⊢;exact h
 | .tup l,e,h=>by
  cases e with
  | tup m=>simp only[Dt.toW,PySem.W.Dat.tuple.injEq] at h;rw[ze8 h]
  | _=>simp[Dt.toW] at h
 | .lst l,e,h=>by
  cases e with
  | lst m=>simp only[Dt.toW,PySem.W.Dat.list.injEq] at h;rw[ze8 h]
  | _=>simp[Dt.toW] at h
 | .dct,e,h=>by cases e <;> simp[Dt.toW] at h ⊢
def ze8:∀ {l m:AS},Dt.toWs l=Dt.toWs m->l=m
 | [],m,h=>by cases m <;> simp[Dt.toWs] at h ⊢
 | d::l,m,h=>by
  cases m with
  | nil=>simp[Dt.toWs] at h
  | cons e m=>
   simp only[Dt.toWs,List.cons.injEq] at h;rw[zhs h.1,ze8 h.2]
end
def Dt.eqOk (d:Dt):Prop:=PySem.W.kqdOk 8 d.toW=true
section
variable {P:Aa}{w:Ab}{H:Hp}{h:Heap}
mutual
def xb (ok:HOk P w H h):∀ (n:Nat) {d:Dt} {v:V} {u:Value},Is H d v->yG v u->PySem.W.kqdOk n d.toW=true->∃as,Reads h u (PySem.W.kqdP d.toW) as
 | _,.non,_,_,h1,r,_=>by cases h1;cases r;exact⟨_,Reads.none⟩
 | n,.bl b,_,_,_,_,k=>by cases n <;> simp[Dt.toW,PySem.W.kqdOk] at k
 | _,.int i,_,_,h1,r,_=>by cases h1;obtain⟨t,rfl⟩:=r;exact⟨_,Reads.int i t⟩
 | _,.str x,_,_,h1,r,_=>by cases h1;obtain⟨t,rfl⟩:=r;exact⟨_,Reads.str x t⟩
 | 0,.tup l,_,_,_,_,k=>by simp[Dt.toW,PySem.W.kqdOk] at k
 | n+1,.tup l,_,_,h1,r,k=>by obtain⟨a,xs,rfl,ha,hl⟩:=h1;cases r;obtain⟨_,its,rv,o,ho,hc,⟨m,hd⟩,_⟩:=ok a _ ha;obtain⟨as,q⟩:=zaT ok n hl rv (by simpa [Dt.toW,PySem.W.kqdOk] using k);exact⟨as,reads_tuple_at ho hc hd (by simpa using q)⟩
 | 0,.lst l,_,_,_,_,k=>by simp[Dt.toW,PySem.W.kqdOk] at k
 | n+1,.lst l,_,_,h1,r,k=>by obtain⟨a,xs,rfl,ha,hl⟩:=h1;cases r;obtain⟨_,its,m,rv,e⟩:=ok a _ ha;obtain⟨as,q⟩:=zaT ok n hl rv (by simpa [Dt.toW,PySem.W.kqdOk] using k);exact⟨_,reads_list_at e rfl rfl (by simpa using q)⟩
 | n,.dct,_,_,_,_,k=>by cases n <;> simp[Dt.toW,PySem.W.kqdOk] at k
def zaT (ok:HOk P w H h):∀ (n:Nat) {ds:AS} {xs:AT} {us:AN},IsL H ds xs->z9 xs us->(∀d∈Dt.toWs ds,PySem.W.kqdOk n d=true)->∃as,ReadsAll h us (PySem.W.kqdPs (Dt.toWs ds)) as
 | _,[],_,_,h1,r,_=>by cases h1;cases r;exact⟨_,ReadsAll.nil⟩
 | n,d::ds,_,_,h1,r,k=>by
  obtain⟨x,xr,rfl,hd,hr⟩:=h1
  cases r with
  | cons rx rr=>
   obtain⟨as,q⟩:=xb ok n hd rx (k _ (by simp[Dt.toWs]));obtain⟨bs,q2⟩:=zaT ok n hr rr λe he=>k e (by simp[Dt.toWs,he]);exact⟨_,ReadsAll.cons q q2⟩
end
end
def uO {d:Dt}(h:d.eqOk):SeqAt.shaped (PySem.W.kqdP d.toW)=true:=by
 have l:=PySem.W.kqd_lay 8 _ h;unfold SeqAt.shaped;grind
def zvI:R2:=λx y H Q=>∃d e,Is H d x/\Is H e y/\d.eqOk/\e.eqOk/\∀b:Bool,(b=true↔d=e)->Q (.bl b) H
def zvL:R2:=λx y H Q=>∃d e,Is H d x/\Is H e y/\d.eqOk/\e.eqOk/\∀b:Bool,(b=true↔d=e)->Q (.bl (!b)) H
section
variable {X:Cx}
def zjZ {d e:Dt}(h1:d.eqOk)(h2:e.eqOk):PyData.eqv (PySem.W.kqdP d.toW) (PySem.W.kqdP e.toW)=true↔d=e:=
 (PySem.W.kqd_eqv 8 d.toW e.toW 8 h1 h2).trans ⟨zhs,λz=>by rw[z]⟩
def ztM (F:X.A.units+64<cLine):OpR X (compareOp .Eq) zvI:=by intro pins s σ H x y v u Q I J L h;obtain⟨d,e,O,U,B,ke,q⟩:=h;obtain⟨as,Y⟩:=xb I.hok 8 O J B;obtain⟨bs,Z⟩:=xb I.hok 8 U L ke;exact eq_dataH Y Z (uO B) (uO ke) F ⟨.bl _,H,I,rfl,q _ (zjZ B ke)⟩
def ztP (F:X.A.units+64<cLine):OpR X (compareOp .NotEq) zvL:=by intro pins s σ H x y v u Q I J L h;obtain⟨d,e,O,U,B,ke,q⟩:=h;obtain⟨as,Y⟩:=xb I.hok 8 O J B;obtain⟨bs,Z⟩:=xb I.hok 8 U L ke;exact ne_dataH Y Z (uO B) (uO ke) F ⟨.bl _,H,I,rfl,q _ (zjZ B ke)⟩
def zlt (q:X.A.units+64<cLine):OpQ X (compareOp .Eq) zvI:=⟨ztM q⟩
def zga (q:X.A.units+64<cLine):OpQ X (compareOp .NotEq) zvL:=⟨ztP q⟩
def zoY{to:TE}{t:TA}{apos cpos:Pos}(L:QE X o to)(O:QA X [e] t)(B:attributeBase o "append" X.env (eval o X.env)=eval o X.env:=by rfl)(J:((backTo cpos (starEach [e] X.env)).all (λx=>!x.1)&&(backToKw cpos (keywordEach [] X.env)).all (λx=>x.1.isSome)&&decide (([e]:AO).length+([]:List Keyword).length+(if ([]:List Keyword).isEmpty then 0 else 1)<30))=true:=by rfl)(I:(apos.endLine==cpos.line)=true:=by rfl)(U:starEach [e] X.env=(false,eval e X.env)::starEach [] X.env:=by rfl)(q:(backTo cpos (starEach [] X.env)).any (·.1)=false:=by rfl) :
  QE X (.Call (.Attribute o "append" apos) [e] [] cpos) (tBM X.K "list" zeX to t):=⟨ztY bB PySem.F.slot_list_append PySem.F.type_list_append zf0 L.run O.run B J I U q⟩
end
def zcC {ns:AG}:(Dt.tup (ns.map .int)).eqOk:=by
 have e:∀ns:AG,(Dt.toWs (ns.map .int)).all (PySem.W.kqdOk 7)=true:=by
  intro ns
  induction ns with
  | nil=>rfl
  | cons n ns q=>simp only[ax,Dt.toWs,b9,q,cv];rfl
 exact e ns
def yt (rm:AG)(i:Int):Int:=rm.getD i.toNat 0
abbrev zQ (q:Int×Int):Dt:=.tup [.int q.1,.int q.2]
structure Giv (rm:AG)(g:List (Int×Int)):Prop where
 ok:∀q∈g,0<=q.1/\q.1<rm.length/\0<=q.2/\q.2<yt rm q.1
 up:g.Pairwise λa b=>a.1<b.1
def ziJ {g:List (Int×Int)}:(Dt.tup (g.map zQ)).eqOk/\(Dt.lst (g.map zQ)).eqOk:=by
 have e:∀g:List (Int×Int),(Dt.toWs (g.map zQ)).all (PySem.W.kqdOk 7)=true:=by
  intro g
  induction g with
  | nil=>rfl
  | cons n ns q=>simp only[ax,Dt.toWs,b9,q,cv];rfl
 exact⟨e g,e g⟩
def zji (H H':Hp):Prop:=∀b xs,H b=some (.tup xs)->H' b=some (.tup xs)
def zji.app {H:Hp}{a:Addr}{xs ys:AT}(h:H a=some (.lst xs)):zji H (upd H a (.lst ys)):=λb zs e=>by
 by_cases q:b=a;grind;rw[zf q];exact e
mutual
def Dt.noL:Dt->Bool
 | .tup l=>Dt.noLs l
 | .lst _=>false
 | .dct=>false
 | _=>true
def Dt.noLs:AS->Bool
 | []=>true
 | d::ds=>d.noL&&Dt.noLs ds
end
mutual
def Is.stayT {H H1:Hp}(a:zji H H1):∀ {d:Dt} {v:V},d.noL=true->Is H d v->Is H1 d v
 | .non,_,_,h=>h
 | .bl _,_,_,h=>h
 | .int _,_,_,h=>h
 | .str _,_,_,h=>h
 | .tup l,_,n,h=>by obtain⟨p,xs,e,hp,hl⟩:=h;exact⟨p,xs,e,a _ _ hp,IsL.stayT a (by simpa [Dt.noL] using n) hl⟩
 | .lst l,_,n,_=>by simp[Dt.noL] at n
 | .dct,_,n,_=>by simp[Dt.noL] at n
def IsL.stayT {H H1:Hp}(a:zji H H1):∀ {ds:AS} {xs:AT},Dt.noLs ds=true->IsL H ds xs->IsL H1 ds xs
 | [],_,_,h=>h
 | d::ds,_,n,h=>by
  obtain⟨x,r,e,hd,hr⟩:=h;have n':d.noL=true/\Dt.noLs ds=true:=by simpa [Dt.noLs] using n
  exact⟨x,r,e,Is.stayT a n'.1 hd,IsL.stayT a n'.2 hr⟩
end
def zcY:∀g:List (Int×Int),Dt.noLs (g.map zQ)=true
 | []=>rfl
 | q::g=>by change (Dt.noL (zQ q)&&Dt.noLs (g.map zQ))=true;rw[zcY g];rfl
def Giv.snoc {rm:AG}{g:List (Int×Int)}{i w:Int}(h:Giv rm g)(B:∀q∈g,q.1<i)(L:0<=i)(h1:i<rm.length)(h2:0<=w)(O:w<yt rm i):Giv rm (g++[(i,w)]):=by
 show⟨λq F=>?_,List.pairwise_append.mpr ⟨h.up,dg _ _,λa I b J=>?_⟩⟩;rcases a9.mp F with z | z;exact h.ok q z;right;rw[aD.mp J];exact B a I
def Pen.app{ns:AG}(P:Pen H p c ns n)(q:H fa=some (.lst xs))(B:c≠fa):Pen (upd H fa (.lst ys)) p c ns n:=by
 obtain⟨⟨a,l,h1,h2,F,I⟩,J,L⟩:=P;have O:p≠fa:=λe=>by subst e;rw[q] at h1;cases h1
 exact⟨⟨a,l,by rw[zf O];exact h1,h2,F,I⟩,let ⟨ob,e⟩:=J;⟨ob,by rw[zf B];exact e⟩,L⟩
def New (H:Hp)(o:HO)(R:V->Hp->Prop):Prop:=∀ (p:Addr) (H':Hp),H p=none->H' p=some o->y4 H H'->R (.ref p) H'
def New.at(h:New H o R)(q:H p=none):R (.ref p) (upd H p o):=h p _ q zj (y4.upd q)
def zu2 (t:TA):TE:=λσ H Q=>t σ H λxs H1=>xs.length<=sizeLine/\New H1 (.tup xs) Q
def zuX (t:TA):TE:=λσ H Q=>t σ H λxs H1=>xs.length<=sizeLine/\New H1 (.lst xs) Q
section
variable {X:Cx}{es:AO}{t:TA}{pos:Pos}
def zqQ {x1}(h:PA X es t):PE X (.Tuple es x1 pos) (zu2 t):=by intro pins s σ H Q I F;show wpAny_Tuple_spliced (thn (h pos pins s σ H _ I F) λJ B ⟨xs,H1,I1,r,z,q⟩=>⟨by rw[<- r.length];exact z,?_⟩);have L:H1 B.heap.objs.size=none:=I1.hok.fresh (af _);show⟨.ref B.heap.objs.size,upd H1 B.heap.objs.size (.tup xs),I1.laid (t':=B.toks) (λb u e=>ai _ e) (af _) ?_,rfl,q.at L⟩;exact⟨z,J,r,⟨_,aB _ rfl,rfl,⟨_,rfl⟩,rfl⟩⟩
def zqO (h:PA X es t):PE X (.List es pos) (zuX t):=by intro pins s σ H Q I F;show wpAny_List_spliced (thn (h pos pins s σ H _ I F) λJ B ⟨xs,H1,I1,r,z,q⟩=>⟨by rw[<- r.length];exact z,?_⟩);have L:H1 B.heap.objs.size=none:=I1.hok.fresh (af _);show⟨.ref B.heap.objs.size,upd H1 B.heap.objs.size (.lst xs),I1.laid (t':=B.toks) (λb u e=>ai _ e) (af _) ?_,rfl,q.at L⟩;exact⟨z,J,0,r,aB _ rfl⟩
def zeQ {x1}(h:QA X es t):QE X (.Tuple es x1 pos) (zu2 t):=⟨zqQ h.run⟩
def zlG (h:QA X es t):QE X (.List es pos) (zuX t):=⟨zqO h.run⟩
def CallQ.weak(h:CallQ X f r)(k:∀xs H Q,q xs H Q->r xs H Q):CallQ X f q:=⟨λpins s σ H xs B Q I F z=>h.run pins s σ H xs B Q I F (k _ _ _ z)⟩
def OpQ.weak(h:OpQ X f r)(k:∀x y H Q,q x y H Q->r x y H Q):OpQ X f q:=⟨λpins s σ H x y v u Q I B F z=>h.run pins s σ H x y v u Q I B F (k _ _ _ _ z)⟩
def zut (K:AH):AT->Hp->VK->Prop:=λxs H Q=>∃p ys,xs=[.ref p]/\(SqL K H p ys\/SqT K H p ys)/\New H (.lst ys) Q
def zhk (K:AH):AT->Hp->VK->Prop:=λxs H Q=>∃p ys,xs=[.ref p]/\((SqL K H p ys/\New H (.tup ys) Q)\/(SqT K H p ys/\Q (.ref p) H))
def zgE:CallQ X (.type "list") (zut X.K):=ziF.weak <| by rintro xs H Q ⟨p,ys,e,h,n⟩;exact⟨p,ys,e,h,λl q=>n.at q⟩
def y6:CallQ X (.type "tuple") (zhk X.K):=zgG.weak <| by rintro xs H Q ⟨p,ys,e,h⟩;exact⟨p,ys,e,h.elim (by rintro⟨a,n⟩;exact .inl ⟨a,λl q=>n.at q⟩) .inr⟩
def zrq:R2:=λx y H Q=>∃l b xs zs,x = .ref l/\y = .ref b/\H l=some (.lst xs)/\H b=some (.lst zs)/\xs.length+zs.length<=sizeLine/\New H (.lst (xs++zs)) Q
def zqC:OpQ X (binaryOp .Add) zrq:=ztT.weak <| by rintro x y H Q ⟨l,b,xs,zs,q,B,h1,h2,z,n⟩;exact⟨l,b,xs,zs,q,B,h1,h2,z,λp F=>n.at F⟩
end
def zsw (J:It)(g:TG)(ti:TT)(te:TE)(acc:Addr)(Q:VK)(σ:St)(H:Hp):Prop:=∃W:Nat->Nat->St->Hp->Prop,(∃m,W 0 m σ H)/\
 ∀i m q H',W i m q H'->(J.stop i H'/\Q (.ref acc) H')\/(J.go i H'/\∃N:St->Hp->Prop,(∀ B H2,N B H2->∃F,F<m/\W (i+1) F B H2)/\∀x H2,J.yld i H' x H2->ziE g ti te acc N x q H2)
def zgp (wi:TI)(g:TG)(ti:TT)(te:TE)(cix:List (Option Nat)):TE:=λσ H Q=>wi σ H λJ H1=>∀acc,H1 acc=none->zsw J g ti te acc Q (u4 σ cix) (upd H1 acc (.lst []))
def zig(q:X.calm=true)(c:CompOk X scope N cix)(hi:QI X tg iter wi)(B:∀C s H ex,QG (zA X scope N C s H ex) tg g)(F:∀C s H ex,QTs (zA X scope N C s H ex) ifs ti)(I:∀C s H ex,QE (zA X scope N C s H ex) elt te)(J:∀x,foldedSetIterable iter X.env x=pure x:=by intro _;rfl):QE X (.ListComp elt [⟨tg,iter,ifs,0⟩] scope pos) (zgp wi g ti te cix):=zra q c hi B F I J
section
variable {K:AH}{a acc:Addr}{xs:AT}{g:TG}{ti:TT}{te:TE}{σ:St}{H:Hp}{Q:VK}
def zjx (B:H acc=none)(Pv:Nat->St->Hp->Prop)(I:∀H',H' acc=some (.lst [])->y4 H H'->Pv 0 σ H')(J:∀i σ H,i<=xs.length->Pv i σ H->SqL K H a xs)
  (L:∀i x σ H,xs[i]?=some x->Pv i σ H->ziE g ti te acc (Pv (i+1)) x σ H) (O:∀ σ H,Pv xs.length σ H->Q (.ref acc) H):zsw (Itl K a) g ti te acc Q σ (upd H acc (.lst [])):=by
 show⟨λi m σ H=>m=xs.length - i/\i<=xs.length/\Pv i σ H,⟨xs.length,by simp,aG _,I _ zj (y4.upd B)⟩,?_⟩;rintro i m σ H ⟨rfl,hi,p⟩;have q:=J i σ H hi p;by_cases F:i<xs.length;show .inr ⟨⟨xs,xs[i],q,by simp[F]⟩,Pv (i+1),λU H' Y=>⟨xs.length - (i+1),by lia,rfl,F,Y⟩,λx H' y=>?_⟩;obtain⟨e,y⟩:=y;subst e;exact L i x σ _ (y xs q) p;have e:i=xs.length:=by lia
 subst e;exact .inl ⟨⟨xs,q,af _⟩,O σ H p⟩
end
def zos(h:g x σ H λq H3=>te q H3 λv H5=>∃xs,H5 acc=some (.lst xs)/\xs.length<sizeLine/\N q (upd H5 acc (.lst (xs++[v])))):ziE g zbM te acc N x σ H:=zoQ h
def zn5(h:H acc=none)(s:y4 H H1):y4 H (upd H1 acc o):=λb u e=>by rw[zf (zc e h)];exact s b u e
def zil(h:H acc=none)(s:zu H H1):zu H (upd H1 acc o):=λb u e q=>by rw[zf (zc e h)];exact s b u e q
section
variable {X:Cx}(K:AH)(h:X.K=K)
include h
def zpm:CallQ X (.builtin "len") (λxs H Q=>∃x n,xs=[x]/\zsk K x H n/\Q (.int n) H):=h ▸ z5
def znw:OpQ X (binaryOp .Add) (zlL K):=h ▸ yM
end
def zri {X:Cx}(K:AH)(B:X.K=K){es:AO}{pos:Pos}{k:Nat}{gs:TGs}{n:Nat}(F:X.calm=true)(h:QGs X es gs)(I:(assignEach es X.env).length=n:=by rfl)(q:(assignEach es X.env).findIdx? (·.1)=none:=by rfl):QG X (.Tuple es k pos) (zwz K n gs):=B ▸ zum F h I q
def zrl(K:AH)(q:X.K=K)(B:QE X e te):QI X tg e (zwC K te):=q ▸ zun B
def zeS(K:AH)(q:X.K=K)(B:QE X e te):QI X tg e (zpP K te):=q ▸ zeR B
structure Wi where
 g:List (Int×Int)
 b:Int
 r:Int
 w:Int
abbrev AW:=List Wi
abbrev zU (x:Wi):Dt:=.tup [.tup (x.g.map zQ),.int x.b,.int x.r,.int x.w]
structure WishOk (rm:AG)(x:Wi):Prop where
 giv:Giv rm x.g
 b0:0<=x.b
 b1:x.b<rm.length
 apart:∀q∈x.g,q.1≠x.b
 r0:0<=x.r
 r1:x.r<yt rm x.b
 w0:0<=x.w
 w1:x.w<yt rm x.b
 ne:x.r≠x.w
section
variable {H H':Hp}{R:Dt->Prop}{xs ys:AT}
end
def zol (rm:AG)(d:Dt):Prop:=∃x,d=zU x/\WishOk rm x
def zh7 (x:Wi):(zU x).noL=true:=by change Dt.noLs [.tup (x.g.map zQ),.int x.b,.int x.r,.int x.w]=true;change (Dt.noLs (x.g.map zQ)&&_)=true;rw[zcY];rfl
def znj (x:Wi):PySem.W.kqdOk 7 (zU x).toW=true:=by
 have e:∀g:List (Int×Int),(Dt.toWs (g.map zQ)).all (PySem.W.kqdOk 5)=true:=by
  intro g
  induction g with
  | nil=>rfl
  | cons n ns q=>simp only[ax,Dt.toWs,b9,q,cv];rfl
 change ((Dt.toWs (x.g.map zQ)).all (PySem.W.kqdOk 5)&&_)=true;rw[e];rfl
def zgM{rm:AG}(h:∀d∈ds,zol rm d):(Dt.tup ds).eqOk/\(Dt.lst ds).eqOk:=by
 have e:∀ds:AS,(∀d∈ds,zol rm d)->(Dt.toWs ds).all (PySem.W.kqdOk 7)=true:=by
  intro ds
  induction ds with
  | nil=>intro _;rfl
  | cons n ns q=>
   intro h;obtain⟨x,rfl,_⟩:=h n ak;simp only[Dt.toWs,b9,q λd B=>h d (am _ B),znj x,cv]
 exact⟨e ds h,e ds h⟩
def zhQ (b:Int)(ns:AG):inV (.int b) (ns.map V.int)=ns.contains b:=by
 unfold inV
 induction ns with
 | nil=>rfl
 | cons n ns q=>
  rw[ax,cr,q,List.contains_cons];show ((n==b) || _)=((b==n) || _);rw[show (n==b)=(b==n) from BEq.comm]
def zfz (ns:AG):(ns.map V.int).all zds=true:=by rw[bm];intro x q;obtain⟨n,_,rfl⟩:=aF.mp q;rfl
def zgQ {m:Int}:∀ {g:List (Int×Int)} {lo:Int},(∀q∈g,lo<=q.1/\q.1<m)->(g.Pairwise λa b=>a.1<b.1)->lo<=m->(g.length:Int)<=m - lo
 | [],lo,_,_,h=>by simp;lia
 | q::g,lo,h,I,J=>by
  have h1:=h q ak;have B:=b5.mp I;have L:=zgQ (g:=g) (lo:=q.1+1) (λx F=>⟨by have:=B.1 x F;lia,(h x (am _ F)).2⟩) B.2 (by lia);grind
def zj7 {rm:AG}{g:List (Int×Int)}(h:Giv rm g)(F:rm.length<=8):g.length<=100:=by have:=zgQ (g:=g) (lo:=0) (m:=rm.length) (λq B=>⟨(h.ok q B).1,(h.ok q B).2.1⟩) h.up (by lia);lia
def zjE (xs:AT)(k:Nat):zdq xs none (some (k:Int))=xs.take k:=by
 have e:HT.sIx xs.length xs.length (some (k:Int))=min k xs.length:=by simp[HT.sIx];try lia
 unfold zdq;rw[e,show HT.sIx xs.length 0 none=0 from rfl,eL,fg];grind
def zjD (xs:AT)(k:Nat):zdq xs (some (k:Int)) none=xs.drop k:=by
 have e:HT.sIx xs.length 0 (some (k:Int))=min k xs.length:=by simp[HT.sIx];try lia
 unfold zdq;rw[e,show HT.sIx xs.length xs.length none=xs.length from rfl];by_cases h:k<=xs.length;rw[Nat.min_eq_left h,ck (by simp)];rw[Nat.min_eq_right (by lia),List.drop_eq_nil_of_le (as:=xs) (i:=xs.length) (by lia),List.drop_eq_nil_of_le (as:=xs) (i:=k) (by lia),List.take_nil]
section
variable {rm:AG}{g b r w:Dt}
end
end L2
namespace HT
open PyProof.Rows
section
variable {prog:Aa}{w:Ab}{A:Ae}{E:AA}{s:AZ}
def fm_congr {α q:Type}{f g:α->Option q}:∀ {l:List α},(∀m∈l,f m=g m)->l.filterMap f=l.filterMap g
 | [],_=>rfl
 | a::l,h=>by rw[List.filterMap_cons,List.filterMap_cons,h a List.mem_cons_self,fm_congr λm B=>h m (List.mem_cons_of_mem _ B)]
def pick_rev (xs:AK):((List.range xs.size).filterMap λ(m:Nat)=>xs[((xs.size:Int) - 1+(m:Int) * (-1)).toNat]?).toArray=xs.toList.reverse.toArray:=by
 congr 1
 have e:∀m∈List.range xs.size,xs[((xs.size:Int) - 1+(m:Int) * (-1)).toNat]?=some (xs.toList.reverse.getD m .none):=by
  intro m q;have B:=List.mem_range.mp q;have F:((xs.size:Int) - 1+(m:Int) * (-1)).toNat=xs.size - 1 - m:=by lia
  right
 rw[fm_congr e];rw[List.filterMap_eq_map' (f:=λm=>xs.toList.reverse.getD m .none)];show List.ext_getElem? λi=>?_;rw[List.getElem?_map];by_cases hi:i<xs.size
 all_goals right
end
end HT
namespace L2
open PyProof.Rows
section
variable {X:Cx}{e:Expr}{te:TE}{pos p2 p3 p4:Pos}{j:Nat}
def zgu(r:z9 xs q):z9 xs.reverse q.reverse:=by
 induction r with
 | nil=>exact .nil
 | cons h _ B=>rw[cQ,cQ];exact B.append (.cons h .nil)
def ze2 (xs:AK):slicePick xs none none (some (-1))=xs.toList.reverse.toArray:=by
 rw[<- HT.pick_rev];unfold slicePick;congr 1;have q:sliceBounds none none (some (-1)) xs.size=((xs.size:Int) - 1,-1,-1):=by simp[sliceBounds]
 rw[q];unfold sliceRange;have B:(if (-1:Int) > 0 then (if (xs.size:Int) - 1 < -1 then (-1 - ((xs.size:Int) - 1)+-1 - 1) / -1 else 0) else if (xs.size:Int) - 1 > -1 then ((xs.size:Int) - 1 - -1 - -1 - 1) / - -1 else 0).toNat=xs.size:=by grind
 change List.filterMap (λx=>xs[x]?) (List.map _ (List.range (if (-1:Int) > 0 then (if (xs.size:Int) - 1 < -1 then (-1 - ((xs.size:Int) - 1)+-1 - 1) / -1 else 0) else if (xs.size:Int) - 1 > -1 then ((xs.size:Int) - 1 - -1 - -1 - 1) / - -1 else 0).toNat))=_;rw[B,eB];show HT.fm_congr λm F=>?_;grind
def zu0 (te:TE):TE:=λσ H Q=>te σ H λx H1=>∃a xs,x = .ref a/\H1 a=some (.lst xs)/\New H1 (.lst xs.reverse) Q
def zqP (L:PE X e te):PE X (.Subscript e (.Slice none none (some (.UnaryOp .USub (.Constant (.int 1) j p4) p3)) p2) pos) (zu0 te):=by intro pins s σ H Q I h;show Subscript_ (thn (L pins s σ H _ I h)  ?_);rintro v O ⟨x,H1,I1,U,Y⟩;obtain⟨a,xs,rfl,Z,q⟩:=Y;cases U;show wpAny_Slice ?_;rw[evalPart_none];show ae (ae ?_);rw[evalPart_some];show thn (zxa (zvc (X:=X)) (zoW (X:=X)) pins O σ H1 (λz H2=>z = .int (-1)/\H2=H1) I1 ⟨1,rfl,rfl,rfl⟩)  ?_;rintro u B ⟨z,H2,I2,r2,e1,e2⟩;subst e1 e2;obtain⟨tk,rfl⟩:=r2;have I3:Inv X pins σ H2 { B with heap:=B.heap.push { cls:=.type "slice",data:=.fields #[.none,.none,.int (-1) tk] } }:=I2.kept (t':=B.toks) λb ob q=>ai _ q;obtain⟨its,r,F,hz⟩:=I3.list (.of Z);have J:=r.length;change Af X (subscriptTail e _ (.ref a) (.ref B.heap.objs.size)) (EP X pins σ Q) X.xe { B with heap:=B.heap.push { cls:=.type "slice",data:=.fields #[.none,.none,.int (-1) tk] } };show tail_any (ops:=[.ref a,.ref B.heap.objs.size]) F.isList.typeIs slot_list_getitem.lookup ?_ (by with_unfolding_all rfl);show wpAny_getItem_list_slice F.isList (Heap.IsSliceOf.new ..) .none .none (.int (-1) tk) (by simp) ?_ (by grind);rw[ze2];show⟨.ref _,_,I3.laid (t':=B.toks) (o:=.lst xs.reverse) (λb ob q=>ai _ q) (af _) ?_,rfl,q.at (I3.hok.fresh (af _))⟩;exact⟨by right,its.reverse,0,zgu r,aB _ rfl⟩
def zrf (q:QE X e te):QE X (.Subscript e (.Slice none none (some (.UnaryOp .USub (.Constant (.int 1) j p4) p3)) p2) pos) (zu0 te):=⟨zqP q.run⟩
def zxm:V->V->V->Hp->(Hp->Prop)->Prop:=λo i v H Q=>∃p xs k,o = .ref p/\i = .int k/\H p=some (.lst xs)/\0<=k/\k<xs.length/\Q (upd H p (.lst (xs.set k.toNat v)))
def zrh(ho:QE X o to)(hi:QE X i ti)(ha:∀v,assign (.Subscript o i pos) X.env v=(do
   let ov <- holding [v] (eval o X.env)
   let iv <- holding [v,ov] (eval i X.env)
   standAt pos
   holding [v,ov,iv] (setItem ov iv v)
   release [v,ov,iv] []):=by intro _;rfl):QG X (.Subscript o i pos) (gSub to ti zxm):=
 ⟨zt7 ho.run hi.run (by rintro pins s σ H o i v ov iv u Q I ro ri rv ⟨p,xs,k,e1,e2,hp,h0,h1,q⟩;exact zoa pins s σ H o i v ov iv u Q I ro ri rv ⟨p,xs,k,k.toNat,e1,e2,hp,by unfold ixN;rw[if_pos h0,if_pos h1],q⟩) ha⟩
end
def chg (st:AG)(b w:Int):AG:=st.take b.toNat++[w]++st.drop (b.toNat+1)
def zpl (st:AG){b w:Int}(q:0<=b):zdq (st.map V.int) none (some b)++[.int w]++zdq (st.map V.int) (some (b+1)) none=(chg st b w).map V.int:=by
 obtain⟨j,rfl⟩:∃j:Nat,b=j:=⟨b.toNat,by lia⟩;rw[zjE,show ((j:Int)+1)=((j+1:Nat):Int) by lia,zjD];unfold chg;right
def xN {st:AG}{b w:Int}(q:0<=b)(h1:b<st.length):(chg st b w).length=st.length:=by
 unfold chg;grind
def yo {st:AG}{b w c:Int}(B:0<=b)(h1:b<st.length)(F:0<=c):yt (chg st b w) c=if c=b then w else yt st c:=by
 obtain⟨j,rfl⟩:∃j:Nat,b=j:=⟨b.toNat,by lia⟩;obtain⟨k,rfl⟩:∃k:Nat,c=k:=⟨c.toNat,by lia⟩;have I:j<st.length:=by lia
 unfold yt chg;simp only[aT,bp];have q:(st.take j).length=j:=by rw[aM];lia
 rcases cg k j with h | h | h;rw[if_neg (by lia),bL,be (by rw[q];exact h),c7 h];right;rw[if_neg (by lia),bL,bh (by rw[q];lia),q];obtain⟨m,rfl⟩:∃m,k=j+1+m:=⟨k - (j+1),by lia⟩;rw[show j+1+m - j=m+1 by lia];right
def zhM {s t:AG}(q:s.length=t.length)(h:∀c:Int,0<=c->c<s.length->yt s c=yt t c):s=t:=by
 show cY q λi h1 h2=>?_;have:=h (i:Int) (by lia) (by lia);unfold yt at this;right
def xD (st:AG)(g:List (Int×Int)):Bool:=g.all λq=>decide (yt st q.1=q.2)
def zaS (st:AG)(x:Wi):Bool:=decide (yt st x.b=x.w)&&xD st x.g
def zwA (one q:AG)(x:Wi):Bool:=zaS one x&&decide (chg one x.b x.r=q)
def zu5 (x:Wi):Wi:={ x with r:=x.w,w:=x.r }
def zdQ:∀bk:AW,Dt.noLs (bk.map zU)=true
 | []=>rfl
 | x::bk=>by change ((zU x).noL&&Dt.noLs (bk.map zU))=true;rw[zh7,zdQ bk];rfl
def ym (st:AG)(j:Nat):yt st (j:Int)=st.getD j 0:=by unfold yt;simp
def zbT {st:AG}{r b:Int}(B:0<=b)(h1:b<st.length):yt (st++[r]) b=yt st b:=by
 obtain⟨j,rfl⟩:∃j:Nat,b=j:=⟨b.toNat,by lia⟩;have q:j<st.length:=by lia
 rw[ym,ym,bp,bp,be q]
def zbS {st:AG}{r:Int}:yt (st++[r]) (st.length:Int)=r:=by rw[ym,bp,bh (af _),eD];rfl
def zg8 {st:AG}{i:Nat}{m:Int}(h:st[i]?=some m):yt st (i:Int)=m:=by rw[ym,bp,h];rfl
def yi {rm:AG}(B:∀r∈rm,2<=r/\r<=4){b:Int}(F:0<=b)(h1:b<rm.length):2<=yt rm b/\yt rm b<=4:=by
 obtain⟨j,rfl⟩:∃j:Nat,b=j:=⟨b.toNat,by lia⟩;have q:j<rm.length:=by lia
 rw[zg8 (ah q)];right
def zaq:∀st:AG,Dt.noLs (st.map .int)=true
 | []=>rfl
 | _::st=>by change (true&&Dt.noLs (st.map .int))=true;rw[zaq st];rfl
def znh (st:AG):PySem.W.kqdOk 7 (Dt.tup (st.map .int)).toW=true:=by
 have e:∀ns:AG,(Dt.toWs (ns.map .int)).all (PySem.W.kqdOk 6)=true:=by
  intro ns
  induction ns with
  | nil=>rfl
  | cons n ns q=>simp only[ax,Dt.toWs,b9,q,cv];rfl
 exact e st
def zro{X:Cx}{ifs:AO}{scope:Scope}{pos spos:Pos}{wi:TI}{g:TG}{ti:TT}{te:TE}{N:AM}{nx:Str}(q:X.N.Nodup)(B:X.N[ix]?=some nx)(F:X.env.scope.names.lookup nx=some .local)(O:X.calm=true)(c:CompOk X scope N cix)(hi:QI X tg iter wi)(Y:∀C s H ex,QG (zA X scope N C s H ex) tg g)(Z:∀C s H ex,QTs (zA X scope N C s H ex) ifs ti)(he:∀C s H ex,QE (zA X scope N C s H ex) elt te)(J:swapsWithSole [.Name nx px] (.ListComp elt [⟨tg,iter,ifs,0⟩] scope pos) spos.line X.env=pure true:=by rfl)(hs:∀x,foldedSetIterable iter X.env x=pure x:=by intro _;rfl)(L:(assignEach [.Name nx px] X.env).map (·.2)=[assign (.Name nx px) X.env]:=by rfl):QS X (.Assign [.Name nx px] (.ListComp elt [⟨tg,iter,ifs,0⟩] scope pos) spos) (zfg (zgp wi g ti te cix) (uA ix)):=⟨λpins s σ H D I h=>zee q B F J L (λ_=>rfl) λU Qp hf=>zbe (Fin:=λacc H=>D.nx (σ.set ix (some (.ref acc))) H) (zas c) O hi.run (zdJ λC s H ex=>(Y C s H ex).run) (zdJ λC s H ex=>(Z C s H ex).run) (zdJ λC s H ex=>(he C s H ex).run) hs I h hf⟩
section
variable {prog:Aa}{w:Ab}{A:Ae}{E:AA}{s:AZ}
variable {X:Cx}
variable {R:Result->AZ->Prop}
def zb8(I:Nat->AZ->Prop)(turn:∀n s,I n s->Ag prog w A (pyNext it) (λr s₁=>match r with
   | none=>R (.ok .next) s₁
   | some v=>Ag prog w A (letOwnedTupleGo target it v) (λ_ s₂=>Ag prog w A (assign target env v) (λ_ s₃=>
     Ag prog w A (forIn ifs true λc r=>if r=true then do let ok <- isTrue c env (eval c env);pure (ForInStep.yield ok) else pure (ForInStep.yield r)) (λok s₄=>
      if ok=true then Ag prog w A (eval elt env) (λx s₅=>
       Ag prog w A (call (.builtin "list.append") [acc,x]) (λ_ s₆=>∃m,m<n/\I m s₆) (λ_ _=>False) s₅) (λ_ _=>False) s₄
      else ∃m,m<n/\I m s₄) (λ_ _=>False) s₃) (λ_ _=>False) s₂) (λ_ _=>False) s₁) (λ_ _=>False) s)(n:Nat)(h:I n s) :
  codeAny (model prog w) A (.compLoop (.ListComp elt [c1,⟨target,iter,ifs,0⟩] scope pos) 1 it acc env) R s:=by
 show eC rfl I (λn s hI=>?_) n h;change wpAny _ A ((compTurn (.ListComp elt [c1,⟨target,iter,ifs,0⟩] scope pos) 1 it acc env).onRaise (λx=>do noteFrame x env;theTreesLotGoes x)) _ _ s;show eW ?_;unfold compTurn;show aa (bJ (aa (aW (turn n s hI) (λr s₁ h₁=>?_) λ_ _ h'=>h'.elim)))
 cases r with
 | none=>exact ae h₁
 | some v=>
  show aa (aW h₁ (λ_ s₂ h₂=>?_) λ_ _ h'=>h'.elim);show aa (aW h₂ (λ_ s₃ h₃=>aa (aW h₃ (λok s₄ h₄=>?_) λ_ _ h'=>h'.elim)) λ_ _ h'=>h'.elim)
  cases ok with
  | false=>exact ae ⟨rfl,h₄⟩
  | true=>
   exact aa (aa (aW h₄ (λx s₅ h₅=>aa (aW h₅ (λ_ s₆ h₆=>ae (ae ⟨rfl,h₆⟩)) λ_ _ h'=>h'.elim)) λ_ _ h'=>h'.elim))
def zaQ(h1:codeAny (model prog w) A (.compLoop (.ListComp elt [c1,⟨target,iter,ifs,0⟩] scope pos) 1 it acc env) R s)(h2:Ag prog w A (pyIter it) (λit' s'=>codeAny (model prog w) A (.compLoop (.ListComp elt [c1,⟨target,iter,ifs,0⟩] scope pos) 1 it' acc env) R s') (λ_ _=>False) s) :
  codeAny (model prog w) A (.compStart (.ListComp elt [c1,⟨target,iter,ifs,0⟩] scope pos) 1 it acc env) R s:=by
 show dh ?_;change wpAny _ A ((compStart (.ListComp elt [c1,⟨target,iter,ifs,0⟩] scope pos) 1 it acc env).onRaise (λx=>do noteFrame x env;standAt theWindowsPlace)) _ _ s;show wpAny_onRaise ?_;unfold compStart;rw[if_neg (by change ¬ ((0 != 0)=true);decide)];show aa (bn ?_);split;exact ae ⟨rfl,h1⟩;show aa (fq ?_);show aa (bJ ?_);show aa (aW h2 (λit' s' h'=>ae ⟨rfl,h'⟩) λ_ _ h'=>h'.elim)
def zbA(hf:∀x,foldedSetIterable it2 env x=pure x)(I:Nat->AZ->Prop)(turn:∀n s,I n s->Ag prog w A (pyNext it) (λr s₁=>match r with
   | none=>R (.ok .next) s₁
   | some v=>Ag prog w A (letOwnedTupleGo target it v) (λ_ s₂=>Ag prog w A (assign target env v) (λ_ s₃=>
     Ag prog w A (forIn ifs true λc r=>if r=true then do let ok <- isTrue c env (eval c env);pure (ForInStep.yield ok) else pure (ForInStep.yield r)) (λok s₄=>
      if ok=true then Ag prog w A (eval it2 env) (λx s₅=>Ag prog w A (pyIter x) (λiv s₆=>
       codeAny (model prog w) A (.compStart (.ListComp elt [⟨target,iter,ifs,0⟩,⟨t2,it2,ifs2,0⟩] scope pos) 1 iv acc env) (λr s₇=>match r with
        | .ok _=>∃m,m<n/\I m s₇
        | .error _=>False) s₆) (λ_ _=>False) s₅) (λ_ _=>False) s₄
      else ∃m,m<n/\I m s₄) (λ_ _=>False) s₃) (λ_ _=>False) s₂) (λ_ _=>False) s₁) (λ_ _=>False) s)(n:Nat)(h:I n s) :
  codeAny (model prog w) A (.compLoop (.ListComp elt [⟨target,iter,ifs,0⟩,⟨t2,it2,ifs2,0⟩] scope pos) 0 it acc env) R s:=by
 show eC rfl I (λn s hI=>?_) n h;change wpAny _ A ((compTurn (.ListComp elt [⟨target,iter,ifs,0⟩,⟨t2,it2,ifs2,0⟩] scope pos) 0 it acc env).onRaise (λx=>do noteFrame x env;theTreesLotGoes x)) _ _ s;show eW ?_;unfold compTurn;show aa (bJ (aa (aW (turn n s hI) (λr s₁ h₁=>?_) λ_ _ h'=>h'.elim)))
 cases r with
 | none=>exact ae h₁
 | some v=>
  show aa (aW h₁ (λ_ s₂ h₂=>?_) λ_ _ h'=>h'.elim);show aa (aW h₂ (λ_ s₃ h₃=>aa (aW h₃ (λok s₄ h₄=>?_) λ_ _ h'=>h'.elim)) λ_ _ h'=>h'.elim)
  cases ok with
  | false=>exact ae ⟨rfl,h₄⟩
  | true=>
   show aa (aW h₄ (λx s₅ h₅=>?_) λ_ _ h'=>h'.elim);show aa (bJ ?_);show wpAny _ _ (foldedSetIterable it2 env x >>= _) _ _ _;rw[hf];show aa (ae ?_);show wpAny _ _ (holding [x] (pyIter x) >>= _) _ _ _;show aa (bq (aW h₅ (λiv s₆ h₆=>?_) λ_ _ h'=>h'.elim));show aa (wpAny_runOwn (h:=none) ?_);show dy (show codeAny (model prog w) (A.mark none) _ _ s₆ from h₆) λr s₇ h₇=>?_
   cases r with
   | ok f=>exact ae ⟨rfl,h₇⟩
   | error e=>exact h₇.elim
end
def zkh (J:It)(g:TG)(ti:TT)(te:TE)(acc:Addr)(N:St->Hp->Prop)(σ:St)(H:Hp):Prop:=∃W:Nat->Nat->St->Hp->Prop,(∃m,W 0 m σ H)/\
 ∀i m q H',W i m q H'->(J.stop i H'/\N q H')\/(J.go i H'/\∃N2:St->Hp->Prop,(∀ B H2,N2 B H2->∃F,F<m/\W (i+1) F B H2)/\∀x H2,J.yld i H' x H2->ziE g ti te acc N2 x q H2)
def zjw (g:TG)(ti:TT)(wi2:TI)(g2:TG)(ti2:TT)(te:TE)(acc:Addr)(N:St->Hp->Prop)(x:V)(σ:St)(H:Hp):Prop:=
 g x σ H λq H3=>ti q H3 λB H4=>if B=true then wi2 q H4 λJ2 H5=>zkh J2 g2 ti2 te acc N q H5 else N q H4
def zor (J:It)(g:TG)(ti:TT)(wi2:TI)(g2:TG)(ti2:TT)(te:TE)(acc:Addr)(Q:VK)(σ:St)(H:Hp):Prop:=∃W:Nat->Nat->St->Hp->Prop,(∃m,W 0 m σ H)/\
 ∀i m q H',W i m q H'->(J.stop i H'/\Q (.ref acc) H')\/(J.go i H'/\∃N:St->Hp->Prop,(∀ B H2,N B H2->∃F,F<m/\W (i+1) F B H2)/\∀x H2,J.yld i H' x H2->zjw g ti wi2 g2 ti2 te acc N x q H2)
def zo9 (wi:TI)(g:TG)(ti:TT)(wi2:TI)(g2:TG)(ti2:TT)(te:TE)(cix:List (Option Nat)):TE:=λσ H Q=>wi σ H λJ H1=>∀acc,H1 acc=none->zor J g ti wi2 g2 ti2 te acc Q (u4 σ cix) (upd H1 acc (.lst []))
section
variable {X:Cx}{Fam:Cx->Prop}{scope:Scope}{N:AM}{cix:List (Option Nat)}{z:Str}{use:Option (Value->Sem Unit)}{Qp:AA}{elt ke ve tg iter tg2 iter2:Expr}{ifs ifs2:AO}{pos ipos spos px:Pos}{wi wi2:TI}{g g2:TG}{ti ti2:TT}{te tk tv:TE}{pins:AB}{σ:St}{H:Hp}{s:AZ}{Q:VK}{o0:HO}
def ziC (O:Opn X scope cix Fam)(hc:X.calm=true)(hi:PI X tg iter wi)(hg:∀X',Fam X'->PG X' tg g)(ht:∀X',Fam X'->PTs X' ifs ti)(ad:∀X',Fam X'->PI X' tg2 iter2 wi2)(ag:∀X',Fam X'->PG X' tg2 g2)(al:∀X',Fam X'->PTs X' ifs2 ti2)(he:∀X',Fam X'->PE X' elt te)
  (hs:∀x,foldedSetIterable iter X.env x=pure x) (an:∀X',Fam X'->∀x,foldedSetIterable iter2 X'.env x=pure x) (I:Inv X pins σ H s) (h:zo9 wi g ti wi2 g2 ti2 te cix σ H Q) (Y:zvR X pins σ use Qp Q) :
  Af X (comprehension (.ListComp elt [⟨tg,iter,ifs,0⟩,⟨tg2,iter2,ifs2,0⟩] scope pos) scope X.env ipos (newList []) false (eval iter X.env) use) Qp X.xe s:=
 za0 (ob:={ cls:=.type "list",dict:=none,data:=.seq ([]:AN).toArray }) (o0:=λ_=>.lst []) (Fin:=λacc H=>Q (.ref acc) H)
  (B:=λX' acc P s=>wpAny (model X'.prog X'.w) X'.A (eval iter2 X'.env) (λx s5=>wpAny (model X'.prog X'.w) X'.A (pyIter x) (λiv s6=>codeAny (model X'.prog X'.w) X'.A (.compStart (.ListComp elt [⟨tg,iter,ifs,0⟩,⟨tg2,iter2,ifs2,0⟩] scope pos) 1 iv (.ref acc) X'.env) (λr s7=>match r with | .ok _=>P s7 | .error _=>False) s6) (λ_ _=>False) s5) (λ_ _=>False) s) (tb:=λacc Nx σ H=>wi2 σ H λJ2 H5=>zkh J2 g2 ti2 te acc Nx σ H5)
  O hc rfl hs (λ_ _ _ _ _ h0 h1=>codeAny_compStart_list h0 h1) (λX' U _ _ _ _ I F n h=>zbA (an X' U) I F n h) (λs Q h=>bu h) (λ_ _=>⟨aG _,[],0,.nil,aB _ rfl⟩) hi hg ht (λX' U pX wX AX cX xX acc pl s σ H Nx P I q k=>by
  have e9:=ad X' U pl s σ H _ I q;rw[xX] at e9;show thn e9 λxv s1 h1=>thn h1 λas s2 h2=>?_;obtain⟨it,fp,tn,J,H2,e,I2,T,Z,f2,W,⟨m0,w0⟩,F⟩:=h2;subst e
  have L:=zfX (X:=X') (e:=.ListComp elt [⟨tg,iter,ifs,0⟩,⟨tg2,iter2,ifs2,0⟩] scope pos) (pl:=pl) (R:=λr s7=>match r with | .ok _=>P s7 | .error _=>False) (k:=1) (B:=λP s=>wpAny (model X'.prog X'.w) X'.A (eval elt X'.env) (λx s5=>wpAny (model X'.prog X'.w) X'.A (call (.builtin "list.append") [.ref acc,x]) (λ_ s6=>P s6) (λ_ _=>False) s5) (λ_ _=>False) s) (tb:=λNx σ H=>te σ H λv H'=>∃xs,H' acc=some (.lst xs)/\xs.length<sizeLine/\Nx σ (upd H' acc (.lst (xs++[v]))))
   (λ_ _ I F n h=>zb8 I F n h) cX xX T (λhn b hb=>⟨hn b hb,(f2 b hb).2⟩) (ag X' U) (al X' U) (λ_ _ _ _ _ _ I q k=>zhB (he X' U) xX I q k) F (λap H' s' I' q'=>k ap H' s' I' q') I2 Z (λb hb=>(f2 b hb).1) w0
  exact zaQ L (T.self X'.A 0 _ _ _ Z L)) I h (λJ H1 acc q hn=>q acc hn) Y
end
def znV{X:Cx}{ifs ifs2:AO}{scope:Scope}{pos spos:Pos}{wi wi2:TI}{g g2:TG}{ti ti2:TT}{te:TE}{N:AM}{nx:Str}(q:X.N.Nodup)(B:X.N[ix]?=some nx)(F:X.env.scope.names.lookup nx=some .local)(hc:X.calm=true)(c:CompOk X scope N cix)(hi:QI X tg iter wi)(hg:∀C s H ex,QG (zA X scope N C s H ex) tg g)(ht:∀C s H ex,QTs (zA X scope N C s H ex) ifs ti)(J:∀C s H ex,QI (zA X scope N C s H ex) tg2 iter2 wi2)(L:∀C s H ex,QG (zA X scope N C s H ex) tg2 g2)(O:∀C s H ex,QTs (zA X scope N C s H ex) ifs2 ti2)(he:∀C s H ex,QE (zA X scope N C s H ex) elt te)(Y:swapsWithSole [.Name nx px] (.ListComp elt [⟨tg,iter,ifs,0⟩,⟨tg2,iter2,ifs2,0⟩] scope pos) spos.line X.env=pure true:=by rfl)(hs:∀x,foldedSetIterable iter X.env x=pure x:=by intro _;rfl)(Z:∀C s H ex x,foldedSetIterable iter2 (zA X scope N C s H ex).env x=pure x:=by intro _ _ _ _ _;rfl)(ad:(assignEach [.Name nx px] X.env).map (·.2)=[assign (.Name nx px) X.env]:=by rfl):QS X (.Assign [.Name nx px] (.ListComp elt [⟨tg,iter,ifs,0⟩,⟨tg2,iter2,ifs2,0⟩] scope pos) spos) (zfg (zo9 wi g ti wi2 g2 ti2 te cix) (uA ix)):=⟨λpins s σ H D I h=>zee q B F Y ad (λ_=>rfl) λU Qp hf=>ziC (Q:=λv H=>D.nx (σ.set ix (some v)) H) (zas c) hc hi.run (zdJ λC s H ex=>(hg C s H ex).run) (zdJ λC s H ex=>(ht C s H ex).run) (zdJ λC s H ex=>(J C s H ex).run) (zdJ λC s H ex=>(L C s H ex).run) (zdJ λC s H ex=>(O C s H ex).run) (zdJ λC s H ex=>(he C s H ex).run) hs (zdJ λC s H ex=>Z C s H ex) I h hf⟩
section
variable {K:AH}{a acc:Addr}{xs:AT}{g:TG}{ti:TT}{wi2:TI}{g2:TG}{ti2:TT}{te:TE}{σ:St}{H:Hp}{Q:VK}{N:St->Hp->Prop}
def ziD (B:H acc=none)(Pv:Nat->St->Hp->Prop)(I:∀H',H' acc=some (.lst [])->y4 H H'->Pv 0 σ H')(J:∀i σ H,i<=xs.length->Pv i σ H->SqL K H a xs)
  (L:∀i x σ H,xs[i]?=some x->Pv i σ H->zjw g ti wi2 g2 ti2 te acc (Pv (i+1)) x σ H) (O:∀ σ H,Pv xs.length σ H->Q (.ref acc) H):zor (Itl K a) g ti wi2 g2 ti2 te acc Q σ (upd H acc (.lst [])):=by
 show⟨λi m σ H=>m=xs.length - i/\i<=xs.length/\Pv i σ H,⟨xs.length,by simp,aG _,I _ zj (y4.upd B)⟩,?_⟩;rintro i m σ H ⟨rfl,hi,p⟩;have q:=J i σ H hi p;by_cases F:i<xs.length;show .inr ⟨⟨xs,xs[i],q,by simp[F]⟩,Pv (i+1),λU H' Y=>⟨xs.length - (i+1),by lia,rfl,F,Y⟩,λx H' y=>?_⟩;obtain⟨e,y⟩:=y;subst e;exact L i x σ _ (y xs q) p;have e:i=xs.length:=by lia
 subst e;exact .inl ⟨⟨xs,q,af _⟩,O σ H p⟩
def ziN (Pv:Nat->St->Hp->Prop)(F:Pv 0 σ H)(I:∀i σ H,i<=xs.length->Pv i σ H->SqL K H a xs)
  (J:∀i x σ H,xs[i]?=some x->Pv i σ H->ziE g ti te acc (Pv (i+1)) x σ H) (L:∀ σ H,Pv xs.length σ H->N σ H):zkh (Itl K a) g ti te acc N σ H:=by
 show⟨λi m σ H=>m=xs.length - i/\i<=xs.length/\Pv i σ H,⟨xs.length,by simp,aG _,F⟩,?_⟩;rintro i m σ H ⟨rfl,hi,p⟩;have q:=I i σ H hi p;by_cases B:i<xs.length;show .inr ⟨⟨xs,xs[i],q,by simp[B]⟩,Pv (i+1),λO H' U=>⟨xs.length - (i+1),by lia,rfl,B,U⟩,λx H' y=>?_⟩;obtain⟨e,y⟩:=y;subst e;exact J i x σ _ (y xs q) p;have e:i=xs.length:=by lia
 subst e;exact .inl ⟨⟨xs,q,af _⟩,L σ H p⟩
end
section
variable {X:Cx}
def zmJ:CallQ X (.type "range") (λxs H Q=>∃n,xs=[.int n]/\New H (.rng 0 n) Q):=⟨by
 intro pins s σ H xs F Q I r h;obtain⟨n,rfl,q⟩:=h;obtain⟨u,rfl,B⟩:=zaf r;obtain⟨t,rfl⟩:=B;show call_range_1 ?_;show⟨.ref s.heap.objs.size,_,I.laid (t':=s.toks+1+1) (o:=.rng 0 n) (λb ob q=>ai _ q) (af _) ?_,rfl,q.at (I.hok.fresh (af _))⟩;exact⟨_,_,_,aB _ rfl⟩⟩
def zii (n:Nat):Builtin.Range.rangeSize 0 (n:Int) 1=n:=by
 unfold Builtin.Range.rangeSize;grind
def zmj:∀ {xs:AT} {q:AN},xs.length=q.length->(∀ (i:Nat) x u,xs[i]?=some x->q[i]?=some u->yG x u)->z9 xs q
 | [],[],_,_=>.nil
 | [],_::_,h,_=>by simp at h
 | _::_,[],h,_=>by simp at h
 | x::xs,u::q,h,k=>.cons (k 0 x u rfl rfl) (zmj (by simpa using h) λi y v B F=>k (i+1) y v B F)
def zgF (U:X.calm=true):CallQ X (.type "list") (λxs H Q=>∃ (p:Addr) (n:Nat),xs=[.ref p]/\H p=some (.rng 0 n)/\n<=1000/\New H (.lst ((List.range n).map λi:Nat=>V.int i)) Q):=⟨by
 intro pins s σ H xs us Q I r h;obtain⟨p,n,rfl,Y,L,q⟩:=h;obtain⟨u,rfl,Z⟩:=zaf r;cases Z;obtain⟨t,u,v,ho⟩:=I.hok p _ Y;have J:n<sizeLine:=zdl L;show call_list_range (a:=0) (b:=n) (c:=1) (n:=n) (I.ok.hd U) ho ?_ ?_ (ar L (by ext)) λh' tk B c' kp hg F=>?_;have e:=zii n;unfold Builtin.Range.small;rw[e];simp[Builtin.Range.rangeFitsLong];lia;exact zii n
 have hv:z9 ((List.range n).map λi:Nat=>V.int i) B.toList:=by
  show zmj (by rw[ab,aw,aY,F.1]) λj x u O hu=>?_;rw[aq] at O;obtain⟨k,hk,rfl⟩:=aC.mp O;obtain⟨ad,e⟩:=ac.mp hk;have:k=j:=by simpa using e.symm
  subst this;obtain⟨t',rfl⟩:=F.2 k u (by simpa using hu);exact⟨t',by lia⟩
 show⟨.ref s.heap.objs.size,_,I.laid (t':=tk) (o:=.lst ((List.range n).map λi:Nat=>V.int i)) kp (af _) ?_,rfl,q.at (I.hok.fresh (af _))⟩;exact⟨by rw[ab,aw];exact cb J,B.toList,c',hv,by simpa using hg⟩⟩
end
def zk (m:Int):AG:=(List.range m.toNat).map λi:Nat=>(i:Int)
def x3 (q:AF)(B:AG):AF:=q.flatMap λr=>B.map λw=>r++[w]
def xn (cs:AF):AF:=cs.foldl x3 [[]]
def xa (cs:AF)(c:AG):xn (cs++[c])=x3 (xn cs) c:=by
 unfold xn;right
abbrev stD (st:AG):Dt:=.tup (st.map .int)
def xU:∀sts:AF,Dt.noLs (sts.map stD)=true
 | []=>rfl
 | st::sts=>by show ((stD st).noL&&Dt.noLs (sts.map stD))=true;rw[xU sts,show (stD st).noL=true from zaq st];rfl
def zbF (sts:AF):(Dt.lst (sts.map stD)).eqOk:=by
 have e:∀sts:AF,(Dt.toWs (sts.map stD)).all (PySem.W.kqdOk 7)=true:=by
  intro sts
  induction sts with
  | nil=>rfl
  | cons m B q=>simp only[ax,Dt.toWs,b9,q,show PySem.W.kqdOk 7 (stD m).toW=true from znh m,cv]
 exact e sts
def zsl (H:Hp)(xs:AT)(cs:AF):Prop:=xs.length=cs.length/\∀ (i:Nat) c,cs[i]?=some c->∃a,xs[i]?=some (.ref a)/\H a=some (.lst (c.map V.int))
def zd6 (K:AH):Sp:=λvs H Q _=>∃ (q:Addr) (xs:AT) (cs:AF),vs=[.ref q]/\H q=some (.lst xs)/\zsl H xs cs/\cs.length<=8/\(∀c∈cs,c.length<=4)/\
 ∀ (a:Addr) (ys:AT) (H':Hp),H a=none->H' a=some (.lst ys)->IsL H' ((xn cs).map stD) ys->y4 H H'->Q (.ref a) H'
def zcz (q:AF)(r B:AG):x3 (q++[r]) B=x3 q B++B.map λw=>r++[w]:=by
 unfold x3;right
def uz (q:AF)(B:AG):(x3 q B).length=q.length * B.length:=by
 unfold x3;rw[List.length_flatMap]
 induction q with
 | nil=>simp
 | cons r q F=>rw[ax,List.sum_cons,F,ab,aV,fj,Nat.add_comm]
def zeb:∀ (cs:AF) (q:AG),q∈xn cs->q.length=cs.length:=by
 intro cs
 have:∀ (n:Nat) (cs:AF),cs.length=n->∀q,q∈xn cs->q.length=cs.length:=by
  intro n
  induction n with
  | zero=>
   intro cs h q B;have:cs=[]:=bi h;subst this;have:q=[]:=by simpa [xn] using B
   right
  | succ n I=>
   intro cs h q B;have F:cs≠[]:=by intro z;rw[z] at h;simp at h
   rw[<- bj F,xa] at B;unfold x3 at B;grind
 exact this cs.length cs rfl
def zpe:∀ (n:Nat) (cs:AF),cs.length=n->(∀c∈cs,c.length<=4)->(xn cs).length<=4 ^ n:=by
 intro n
 induction n with
 | zero=>
  intro cs h _;have:cs=[]:=bi h;subst this;exact af _
 | succ n F=>
  intro cs h B;have q:cs≠[]:=by intro z;rw[z] at h;simp at h
  rw[<- bj q,xa,uz,Nat.pow_succ];exact du (F cs.dropLast (by grind) λc I=>B c ((List.dropLast_sublist cs).subset I)) (B _ (List.getLast_mem q))
def zhA {cs:AF}(F:cs.length<=8)(q:∀c∈cs,c.length<=4)(k:Nat):(xn (cs.take k)).length<=65536:=by
 show ar (zpe _ (cs.take k) rfl λc B=>q c (bT B)) ?_;have:(cs.take k).length<=8:=by rw[aM];lia
 exact ar (cx (by ext) this) (by ext)
def zK (m:Int):(zk m).length=m.toNat:=by unfold zk;rw[ab,aw]
section
variable {X:Cx}{o:Expr}{to:TE}{apos cpos:Pos}
end
open PySem.W
inductive Run (ans:Nat->Nat->Bool) (n:Nat):{α:Type}->KasT α->α->Prop
 | ret {α:Type} (a:α):Run ans n (.ret a) a
 | ask {α:Type} {i j:Nat} {k:Bool->KasT α} {a:α} (hi:i<n) (hj:j<n) (h:Run ans n (k (ans i j)) a):Run ans n (.ask i j k) a
def Run.bind{α B:Type}{t:KasT α}{f:α->KasT B}{a:α}{b:B}(h:Run q n t a)(k:Run q n (f a) b):Run q n (t.bind f) b:=by
 induction h with
 | ret a=>exact k
 | ask hi F _ I=>exact .ask hi F (I k)
def Run.wp{q:Nat->Nat->Bool}{α:Type}{t:KasT α}{a:α}(h:Run q n t a){B:Nat->Nat->(Bool->AZ->Prop)->AZ->Prop}{S:AZ->Prop}{Q:α->AZ->Prop}(J:∀i j C s,i<n->j<n->S s->(∀s',S s'->C (q i j) s')->B i j C s)(I:∀s,S s->Q a s):∀s,S s->KasT.kasWp B t Q s:=by
 induction h with
 | ret a=>intro s F;rw[KasT.kasWp.eq_1];exact I s F
 | ask hi L _ O=>
  intro s F;rw[KasT.kasWp.eq_2];right
section
variable {n:Nat}{f:Nat->Int}
def zgv (f:Nat->Int)(i j:Nat):Bool:=decide (f i<f j)
def key (f:Nat->Int)(p:Array Nat)(k:Nat):Int:=f (p.getD k 0)
structure Up (n:Nat)(f:Nat->Int)(p:Array Nat)(m:Nat):Prop where
 perm:p.Perm (List.range n).toArray
 le:m<=n
 up:∀k,k+1<m->key f p k<key f p (k+1)
def uG {p:Array Nat}(h:p.Perm (List.range n).toArray):p.size=n:=by have:=h.size_eq;simpa using this
def yE{p:Array Nat}(h:p.Perm (List.range n).toArray)(B:k<n):p.getD k 0<n:=by
 have F:=uG h;have q:p.getD k 0∈p:=by right
 have:=(h.mem_iff).mp q;simpa using this
def Up.lt_of(h:Up n f p m):∀ {i j:Nat},i<j->j<m->key f p i<key f p j:=by
 intro i j
 induction j with
 | zero=>intro F;lia
 | succ j I=>
  intro q B;have h1:=h.up j B;grind
def zgA (p:Array Nat)(q:p.Perm (List.range n).toArray):∀ (g x:Nat),1<=x->x+g<=n->∃m,Run (zgv f) n (kas_asc p g x) m/\x<=m/\m<=x+g/\(∀k,x<=k->k<m->¬ key f p k<key f p (k - 1))/\(m<x+g->key f p m<key f p (m - 1))
 | 0,x,_,_=>⟨x,by rw[kas_asc.eq_1];exact .ret _,af _,af _,by grind,λh=>by lia⟩
 | g+1,x,L,O=>by
  rw[kas_asc.eq_2];by_cases B:key f p x<key f p (x - 1);show⟨x,.ask (yE q (by lia)) (yE q (by lia)) ?_,af _,by lia,by grind,λ_=>B⟩;rw[show zgv f (p.getD x 0) (p.getD (x - 1) 0)=true from a6 B,if_pos rfl];exact .ret _;obtain⟨m,h1,h2,U,F,I⟩:=zgA p q g (x+1) (by lia) (by lia);show⟨m,.ask (yE q (by lia)) (yE q (by lia)) ?_,by lia,by lia,λk Y J=>?_,λh=>I (by lia)⟩;rw[show zgv f (p.getD x 0) (p.getD (x - 1) 0)=false from aU B,if_neg aK];exact h1;by_cases e:k=x;subst e;exact B;exact F k (by lia) J
def zcv (n:Nat)(f:Nat->Int):Prop:=∀i j,i<n->j<n->f i=f j->i=j
def zhZ (J:zcv n f){p:Array Nat}(q:p.Perm (List.range n).toArray){i j:Nat}(hi:i<n)(L:j<n)(B:i≠j):key f p i≠key f p j:=by
 intro e;have I:=J _ _ (yE q hi) (yE q L) e;have U:=uG q
 have F:p.toList.Nodup:=by
  have:p.toList.Perm (List.range n):=by have:=q.toList;simpa using this
  exact this.nodup_iff.mpr dJ
 rw[bQ,bQ,bH (by lia),bH (by lia)] at I;have O:p.toList[i]'(by right)=p.toList[j]'(by right):=by simpa using I
 exact B ((bI F).mp O)
def zhJ (I:zcv n f)(p:Array Nat)(q:p.Perm (List.range n).toArray):∀ (g x:Nat),1<=x->x+g<=n->∃m,Run (zgv f) n (kas_desc g p x 0) (p,m,0)/\x<=m/\m<=x+g/\(∀k,x<=k->k<m->key f p k<key f p (k - 1))
 | 0,x,_,_=>⟨x,by rw[kas_desc.eq_1];exact .ret _,af _,af _,by grind⟩
 | g+1,x,U,Y=>by
  rw[kas_desc.eq_2];by_cases B:key f p x<key f p (x - 1);obtain⟨m,h1,h2,Z,J⟩:=zhJ I p q g (x+1) (by lia) (by lia);show⟨m,.ask (yE q (by lia)) (yE q (by lia)) ?_,by lia,by lia,λk k1 L=>?_⟩;rw[show zgv f (p.getD x 0) (p.getD (x - 1) 0)=true from a6 B,if_pos rfl,if_neg (by lia)];exact h1;by_cases e:k=x;subst e;exact B;exact J k (by lia) L;have O:=zhZ I q (i:=x) (j:=x - 1) (by lia) (by lia) (by lia);have F:key f p (x - 1)<key f p x:=by lia
  show⟨x,.ask (yE q (by lia)) (yE q (by lia)) ?_,af _,by lia,by grind⟩;rw[show zgv f (p.getD x 0) (p.getD (x - 1) 0)=false from aU B,if_neg aK];show .ask (yE q (by lia)) (yE q (by lia)) ?_;rw[show zgv f (p.getD (x - 1) 0) (p.getD x 0)=true from a6 F,if_pos rfl];exact .ret _
def zkH(q:j<=p.size)(k:Nat):key f (kas_rev p 0 j) k=if k<j then key f p (j - 1 - k) else key f p k:=by
 unfold key kas_rev;rw[bQ,getElem?_mirror_all q];by_cases h:k<j;right;rw[if_neg (λz=>h z.2),if_neg h,bQ]
def zn3(q:p.Perm (List.range n).toArray)(j:Nat):(kas_rev p 0 j).Perm (List.range n).toArray:=(mirror_perm p 0 j _).trans q
def zjz (L:zcv n f)(hn:2<=n)(p:Array Nat)(B:p.Perm (List.range n).toArray):∃ (m:Nat) (q:Array Nat),Run (zgv f) n (kas_count n p) (m,q)/\1<=m/\Up n f q m:=by
 have hs:=uG B;obtain⟨m,h1,h2,h3,h4,h5⟩:=zgA (f:=f) p B (n - 1) 1 (af _) (by lia);have F:Up n f p m:=⟨B,by lia,λk O=>by have U:=h4 (k+1) (by lia) O;rw[eE] at U;have:=zhZ L B (i:=k) (j:=k+1) (by lia) (by lia) (by lia);lia⟩;unfold kas_count;by_cases ag:m=n;show⟨m,p,h1.bind ?_,h2,F⟩;rw[if_pos (by right)];exact .ret _;by_cases J:m > 1;show⟨m,p,h1.bind ?_,h2,F⟩;rw[if_neg (by right),if_pos J];show .ask (yE B (by lia)) (yE B (by lia)) ?_;have Y:key f p 0<key f p (m - 1):=F.lt_of (by lia) (by lia);rw[show zgv f (p.getD 0 0) (p.getD (m - 1) 0)=true from a6 Y,if_pos rfl];exact .ret _;have em:m=1:=by lia
 subst em;have Z:=h5 (by lia);obtain⟨d,g1,g2,g3,g4⟩:=zhJ L p B (n - 2) 2 (by lia) (by lia);have I:=zn3 B d;obtain⟨m2,a1,a2,a3,a4,_⟩:=zgA (f:=f) (kas_rev p 0 d) I (n - d) d (by lia) (by lia);show⟨m2,kas_rev p 0 d,h1.bind ?_,by lia,⟨I,by lia,λk O=>?_⟩⟩;rw[if_neg (by right),if_neg J];unfold kas_descPart;show Run.bind (a:=(p,d,0)) g1 ?_;rw[if_neg (by simp)];unfold kas_tail3;exact Run.bind a1 (.ret _);by_cases ad:k+1<d;rw[zkH (by lia),zkH (by lia),if_pos (by lia),if_pos ad];have e:d - 1 - k=(d - 1 - (k+1))+1:=by lia
 rw[e];by_cases e0:d - 1 - (k+1)=0;rw[e0];exact Z;have:=g4 (d - 1 - (k+1)+1) (by lia) (by lia);right;have U:=a4 (k+1) (by lia) O;rw[eE] at U;have:=zhZ L I (i:=k) (j:=k+1) (by lia) (by lia) (by lia);lia
def zc5 (p:Array Nat)(B:p.Perm (List.range n).toArray)(k:Nat)(I:k<n):∀ (g l r:Nat),r<=k->l<=r->r - l<=g->(∀i,i<l->¬ key f p k<key f p i)->(∀i,r<=i->i<k->key f p k<key f p i)->
  (∀i j,i<j->j<k->key f p i<key f p j)->
  ∃m,Run (zgv f) n (kas_place p k g l r) m/\m<=k/\(∀i,i<m->¬ key f p k<key f p i)/\(∀i,m<=i->i<k->key f p k<key f p i)
 | 0,l,r,h1,h2,h3,J,L,_=>⟨l,by rw[kas_place.eq_1];exact .ret _,by lia,J,λi hi=>L i (by lia)⟩
 | g+1,l,r,h1,h2,h3,J,L,q=>by
  rw[kas_place.eq_2];by_cases F:l ≥ r;show⟨l,?_,by lia,J,λi hi=>L i (by lia)⟩;rw[if_pos F];exact .ret _;rw[if_neg F];by_cases O:key f p k<key f p ((l+r) / 2)
  obtain⟨m,U,g2,Y,Z⟩:=zc5 p B k I g l ((l+r) / 2) (by lia) (by lia) (by lia) J (λi hi ad=>by
   by_cases e:i=(l+r) / 2;rw[e];exact O;have:=q ((l+r) / 2) i (by lia) ad;lia) q
  show⟨m,.ask (yE B I) (yE B (by lia)) ?_,g2,Y,Z⟩;rw[show zgv f (p.getD k 0) (p.getD ((l+r) / 2) 0)=true from a6 O,if_pos rfl];exact U
  obtain⟨m,U,g2,Y,Z⟩:=zc5 p B k I g ((l+r) / 2+1) r h1 (by lia) (by lia) (λi hi=>by
   by_cases e:i=(l+r) / 2;rw[e];exact O;have:=q i ((l+r) / 2) (by lia) (by lia);lia) L q
  show⟨m,.ask (yE B I) (yE B (by lia)) ?_,g2,Y,Z⟩;rw[show zgv f (p.getD k 0) (p.getD ((l+r) / 2) 0)=false from aU O,if_neg aK];exact U
def zdN {p:Array Nat}{q d:Nat}(h1:q<p.size)(h2:d<=q)(k:Nat):key f (bubble p q d) k=if k=q - d then key f p q else if q - d<k/\k<=q then key f p (k - 1) else key f p k:=by
 unfold key;simp only[bQ];rw[getElem?_bubble h1 d h2];grind
def zjo (J:zcv n f):∀ (g k:Nat) (p:Array Nat),k+g=n->Up n f p k->∃q,Run (zgv f) n (kas_bin g p k) q/\Up n f q n
 | 0,k,p,O,h=>by
  have e:k=n:=by lia
  rw[e] at h;exact⟨p,by rw[kas_bin.eq_1];exact .ret _,h⟩
 | g+1,k,p,O,h=>by
  have hs:=uG h.perm;obtain⟨l,U,r2,Y,r4⟩:=zc5 (f:=f) p h.perm k (by lia) k 0 k (af _) (aG _) (by lia) (λi hi=>by lia) (λi h1 h2=>by lia) (λi j B Z=>h.lt_of B Z)
  have F:Up n f (bubble p k (k - l)) (k+1):=by
   show⟨(bubble_perm p k (k - l)).trans h.perm,by lia,λi hi=>?_⟩;rw[zdN (by lia) (by lia),zdN (by lia) (by lia)];have I:k - (k - l)=l:=by lia
   rw[I];by_cases e1:i=l;grind;rw[if_neg e1];by_cases e2:l<i;rw[if_pos (by lia),if_neg (by lia),if_pos (by lia),eE];exact h.lt_of (by lia) (by lia);rw[if_neg (by lia)];by_cases L:i+1=l;rw[if_pos L];have h1:=Y i (by lia);have h2:=zhZ J h.perm (i:=i) (j:=k) (by lia) (by lia) (by lia);lia;rw[if_neg L,if_neg (by lia)];exact h.lt_of (by lia) (by lia)
  obtain⟨q,q1,q2⟩:=zjo J g (k+1) (bubble p k (k - l)) (by lia) F;show⟨q,?_,q2⟩;rw[kas_bin.eq_2];exact Run.bind U q1
def zik (B:zcv n f)(I:2<=n):∃q,Run (zgv f) n (kas_sort n) q/\Up n f q n:=by
 obtain⟨m,p,h1,h2,F⟩:=zjz B I (List.range n).toArray (Array.Perm.refl _);unfold kas_sort;by_cases J:m<n;obtain⟨q,O,L⟩:=zjo B (n - m) m p (by lia) F;show⟨q,Run.bind h1 ?_,L⟩;grind;have e:m=n:=by have:=F.le;lia
 show⟨p,Run.bind h1 ?_,by lia⟩;rw[if_neg J];exact .ret _
end
def zeu {prog:Aa}{w:Ab}{A:Ae}{s:AZ}{b:Bool}{Q:Bool->AZ->Prop}:∀ {ns B:AG} {xs ys:AN} (i:Nat),z9 (ns.map V.int) xs->z9 (B.map V.int) ys->ns.length=B.length->Q (HT.lexLt ns B) s->W.KatLex prog w A b false Q (xs.zip ys) i s
 | [],[],_,_,i,I,J,_,q=>by cases I;cases J;exact W.kat_nil q
 | [],_::_,_,_,_,_,_,h,_=>by simp at h
 | _::_,[],_,_,_,_,_,h,_=>by simp at h
 | a::ns,c::B,_,_,i,I,J,U,q=>by
  cases I with
  | cons Y L=>
   cases J with
   | cons Z O=>
    obtain⟨t,rfl⟩:=Y;obtain⟨u,rfl⟩:=Z;rw[List.zip_cons_cons];have F:Q (if a=c then HT.lexLt ns B else decide (a<c)) s:=q;show W.kat_cons (wpAny_eqBool_int ?_);by_cases e:a=c;rw[show (a==c)=true from by lia];rw[if_pos e] at F;exact W.kat_yes (zeu (i+1) L O (by simpa using U) F);rw[show (a==c)=false from beq_false_of_ne e];rw[if_neg e] at F;show W.kat_no ?_
    cases (b&&i==0) with
    | true=>exact oneLt_int F
    | false=>exact W.kat_one _ _ (P.lt_int F)
def xu:∀s:AG,HT.lexLt s s=false
 | []=>rfl
 | a::s=>by change (if a=a then HT.lexLt s s else _)=false;rw[if_pos rfl];exact xu s
def zbd:∀ {a b c:AG},a.length=b.length->b.length=c.length->HT.lexLt a b=true->HT.lexLt b c=true->HT.lexLt a c=true
 | [],[],[],_,_,h,_=>h
 | x::a,y::b,z::c,h1,h2,J,L=>by
  have q:(if x=y then HT.lexLt a b else decide (x<y))=true:=J;have B:(if y=z then HT.lexLt b c else decide (y<z))=true:=L;change (if x=z then HT.lexLt a c else decide (x<z))=true;by_cases F:x=y;by_cases I:y=z;rw[if_pos F] at q;rw[if_pos I] at B;rw[if_pos (F.trans I)];exact zbd (by simpa using h1) (by simpa using h2) q B;grind;grind
 | [],_::_,_,h,_,_,_=>by simp at h
 | _::_,[],_,h,_,_,_=>by simp at h
 | [],[],_::_,_,h,_,_=>by simp at h
 | _::_,_::_,[],_,h,_,_=>by simp at h
def zam:∀ {a b:AG},a.length=b.length->a=b\/HT.lexLt a b=true\/HT.lexLt b a=true
 | [],[],_=>.inl rfl
 | [],_::_,h=>by simp at h
 | _::_,[],h=>by simp at h
 | x::a,y::b,h=>by
  change _\/(if x=y then HT.lexLt a b else decide (x<y))=true\/(if y=x then HT.lexLt b a else decide (y<x))=true;by_cases e:x=y
  ·subst e;rw[if_pos rfl,if_pos rfl];rcases zam (a:=a) (b:=b) (by simpa using h) with h1 | h1 | h1
   all_goals right
  ·rw[if_neg e,if_neg (Ne.symm e)];rcases Int.lt_or_gt_of_ne e with h1 | h1
   all_goals right
def zhF {α:Type}{p q:α->Bool}:∀ {l:List α},(∀x∈l,p x=true->q x=true)->(∃x∈l,p x=false/\q x=true)->l.countP p<l.countP q
 | [],_,h=>by right
 | y::l,h,k=>by
  have J:l.countP p<=l.countP q:=List.countP_mono_left λx B F=>h x (am _ B) F;rw[List.countP_cons,List.countP_cons];obtain⟨x,B,F,I⟩:=k;rcases aJ.mp B with rfl | B;rw[F,I];simp;lia;have O:=zhF (l:=l) (λz L=>h z (am _ L)) ⟨x,B,F,I⟩;grind
def zcT (sts:AF)(i:Nat):Int:=(sts.countP λc=>HT.lexLt c (sts.getD i [])  : Nat)
def xE{sts:AF}(q:∀st∈sts,st.length=m)(hi:i<sts.length)(I:j<sts.length):decide (zcT sts i<zcT sts j)=HT.lexLt (sts.getD i []) (sts.getD j []):=by
 have J:sts.getD i []∈sts:=by rw[bp,ah hi];exact b6 hi
 have L:sts.getD j []∈sts:=by rw[bp,ah I];exact b6 I
 have O:∀ {a b:AG},a∈sts->b∈sts->HT.lexLt a b=true->(sts.countP λc=>HT.lexLt c a)<(sts.countP λc=>HT.lexLt c b):=λ{a b} F U B=>
  zhF (λx Y Z=>zbd ((q x Y).trans (q a F).symm) ((q a F).trans (q b U).symm) Z B) ⟨a,F,xu a,B⟩
 unfold zcT;generalize sts.getD i []=a at J;generalize sts.getD j []=b at L;rcases zam (a:=a) (b:=b) ((q a J).trans (q b L).symm) with h | h | h;subst h;rw[xu];right
 all_goals grind
def zbp (h:Heap)(L:Addr):AB:=(List.range h.objs.size).filterMap λb=>if b=L then none else (h.get? b).map λo=>(b,o)
def zY:(b,o)∈zbp h L↔b≠L/\h.get? b=some o:=by
 unfold zbp;rw[cO];constructor;rintro⟨c,F,e⟩;by_cases q:c=L;right;rw[if_neg q] at e;obtain⟨o',B,I⟩:=aC.mp e;grind;rintro⟨q,B⟩;exact⟨b,aX.mpr (ay B),by right⟩
def ztA {h:Heap}{L:Addr}{m q:AI}(a:h.Ns L m)(b:h.Ns L q):m=q:=by
 obtain⟨o,es,U,Y,Z,hk,hf⟩:=a;obtain⟨o',es',B,F,I,J,O⟩:=b;grind
section
variable {X:Cx}
def zbh(x:yn P w H h a o):∃u,h.get? a=some u:=by
 cases o with
 | lst xs=>obtain⟨_,_,_,_,e⟩:=x;exact⟨_,e⟩
 | tup xs=>obtain⟨_,_,_,p⟩:=x;obtain⟨o,e,_⟩:=p;exact⟨o,e⟩
 | dK kvs=>obtain⟨_,_,_,_,o,_,_,e,_⟩:=x;exact⟨_,e⟩
 | dT kvs=>obtain⟨_,_,_,_,o,_,_,e,_⟩:=x;exact⟨_,e⟩
 | set S n=>obtain⟨o,_,_,_,e,_⟩:=x;exact⟨_,e⟩
 | ins C dx fs=>obtain⟨_,_,_,e,_⟩:=x;exact⟨_,e⟩
 | own y=>exact x
 | xd fs=>obtain⟨_,⟨_,_,_,e,_⟩,_⟩:=x;exact⟨_,e⟩
 | met f y=>exact⟨_,x⟩
 | rng lo hi=>obtain⟨_,_,_,e⟩:=x;exact⟨_,e⟩
 | frz o u=>obtain⟨e,_⟩:=x;exact⟨_,e⟩
 | tbl ps=>exact⟨_,x⟩
 | ext q=>obtain⟨_,e,_⟩:=x;exact e
def zep{pins:AB}{σ:St}{H:Hp}{s:AZ}(I:Inv X pins σ H s)(hm:s.heap.Ns X.env.locals m){h':Heap}{D:Addr}{ys:AT}{its:AN}(U:∀b o,b≠X.env.locals->s.heap.get? b=some o->h'.get? b=some o)(J:h'.Ns X.env.locals m)(Y:s.heap.get? D=none)(L:H D=none)(ho:h'.get? D=some { cls:=.type "list",data:=.seq its.toArray c })(hv:z9 ys its)(hz:ys.length<=sizeLine)(tk:Nat):Inv X pins σ (upd H D (.lst ys)) { s with heap:=h',toks:=tk }:=by
 have nD:∀b o,s.heap.get? b=some o->b≠D:=λb o e z=>by rw[z,Y] at e;cases e
 have nL:∀b u,H b=some u->b≠X.env.locals:=λb u e=>zc e I.free;show Inv.step (ch:=[]) (g':=s.gens) (d':=s.drawn) (t':=tk) I (λb F=>by simp at F) (λb o h1 _ _ B _=>U b o h1 B) (λb o h1 _ _ B _=>⟨o.slots,U b o h1 B⟩) (λb o _ B h5=>by rw[zf (nD b o B)];exact h5) (λb o _ B=>?_) (λb ys q=>by rw[zf (zc q L)];exact q) (λb o u q=>by rw[zf (zc q L)];exact q) (λb ps q=>⟨#[],by rw[zf (zc q L),eF];exact q⟩) (λm' Z=>by rw[<- ztA hm Z];exact J) (λb u F=>?_) I.bare;by_cases hL:b=X.env.locals;obtain⟨o',_,_,h1,_⟩:=J;right;exact⟨o,U b o hL B⟩;by_cases O:b=D;subst O;rw[zj] at F;cases F;exact⟨hz,its,c,hv,ho⟩;rw[zf O] at F;show (I.hok b u F).stay (λc v ad q=>U c v ?_ q) (λc q=>by rw[zf (zc q L)];exact q) (λc ys q=>by rw[zf (zc q L)];exact q);grind
def zhl {pins:AB}{σ:St}{H:Hp}{s:AZ}(I:Inv X pins σ H s):∀ {sts:AF} {vs:AT} {its:AN},IsL H (sts.map stD) vs->z9 vs its->∀ {i:Nat},i<sts.length->∃ (a:Addr) (items:AN),vs.getD i .non = .ref a/\its.getD i .none = .ref a/\IsTup s.heap a items.toArray/\z9 ((sts.getD i []).map V.int) items/\a≠X.env.locals
 | [],_,_,_,_,i,hi=>by simp at hi
 | st::sts,_,_,h,F,i,hi=>by
  obtain⟨x,r,rfl,⟨a,xs,rfl,B,q⟩,J⟩:=h;obtain rfl:=q.of_ints
  cases F with
  | cons L O=>
   cases L
   cases i with
   | zero=>
    obtain⟨items,U,Y,_⟩:=I.tuple (.of B);exact⟨a,items,rfl,rfl,Y,U,zc B I.free⟩
   | succ i=>
    obtain⟨Z,items,e1,e2,e3,e4,e5⟩:=zhl I (sts:=sts) J O (i:=i) (by simpa using hi);exact⟨Z,items,by simpa using e1,by simpa using e2,e3,by simpa using e4,e5⟩
def zme {pins:AB}{σ:St}{H:Hp}{s:AZ}(I:Inv X pins σ H s){h':Heap}(L:∀b o,b≠X.env.locals->s.heap.get? b=some o->h'.get? b=some o):∀ {sts:AF} {vs:AT} {its:AN},IsL H (sts.map stD) vs->z9 vs its->(∀st∈sts,1<=st.length)->∃fs,W.KatTups h' its fs/\fs.length=sts.length/\∀f∈fs,∃a t,f = .int a t
 | [],_,_,h,q,_=>by cases h;cases q;exact⟨[],trivial,rfl,λ_ h=>by simp at h⟩
 | st::sts,_,_,h,q,h1=>by
  obtain⟨x,r,rfl,⟨a,xs,rfl,O,B⟩,Y⟩:=h;obtain rfl:=B.of_ints
  cases q with
  | cons Z rr=>
   cases Z;obtain⟨items,F,pt,_⟩:=I.tuple (.of O);obtain⟨o,ho,hc,n,hd⟩:=pt;obtain⟨fs,f1,f2,f3⟩:=zme I L (sts:=sts) Y rr λz hz=>h1 z (am _ hz);have J:=h1 st ak
   match st,F,J with
   | z::zs,F,_=>
    cases F with
    | cons q1 qq=>
     obtain⟨t,rfl⟩:=q1;show⟨_::fs,⟨⟨a,o,_,n,rfl,L a o (zc O I.free) ho,hc,hd,rfl⟩,f1⟩,by right,λf U=>?_⟩;rcases aJ.mp U with rfl | U
     all_goals right
def zuv:AT->Hp->VK->Prop:=λxs H Q=>∃ (l:Addr) (vs:AT) (sts:AF) (m:Nat),xs=[.ref l]/\H l=some (.lst vs)/\IsL H (sts.map stD) vs/\2<=sts.length/\sts.length<64/\1<=m/\(∀st∈sts,st.length=m)/\sts.Nodup/\
 ∀ (ys:AT) (q:AF),IsL H (q.map stD) ys->q.Perm sts->(q.Pairwise λa b=>HT.lexLt a b=true)->New H (.lst ys) Q
def zhT {H:Hp}{sts:AF}{vs:AT}(h:IsL H (sts.map stD) vs):∀ {p:AR},(∀i∈p,i<sts.length)->IsL H ((p.map λi=>sts.getD i []).map stD) (p.map λi=>vs.getD i .non)
 | [],_=>rfl
 | i::p,q=>by
  have hi:=q i ak;obtain⟨x,F,I⟩:=h.getD (i:=i) (d:=stD (sts.getD i [])) (by simp[hi]);show⟨vs.getD i .non,_,rfl,?_,zhT h λj B=>q j (am _ B)⟩;right
def zgs(h:z9 vs its):∀ (p:AR),(∀i∈p,i<vs.length)->z9 (p.map λi=>vs.getD i .non) (p.map λi=>its.getD i .none)
 | [],_=>.nil
 | i::p,q=>by
  have hi:=q i ak;obtain⟨u,F,I⟩:=h.get (i:=i) (x:=vs[i]) (ah hi);show .cons ?_ (zgs h p λj B=>q j (am _ B));right
def zbK {α:Type}(d:α)(l:List α):(List.range l.length).map (λi=>l.getD i d)=l:=by show cY (by simp) λi h1 h2=>?_;simp[h2]
def zmL:CallQ X (.builtin "sorted") zuv:=⟨by
 intro pins s σ H xs us Q I r h;obtain⟨l,vs,sts,m,rfl,hl,B,h2,b3,as,hm,av,q⟩:=h;obtain⟨u,rfl,ru⟩:=zaf r;cases ru;obtain⟨its,rv,pl,hz⟩:=I.list (.of hl);have a0:=B.length;rw[ab] at a0;have b4:=rv.length;obtain⟨m0,ag,_⟩:=id I.loc;show W.kat_sorted (h₀:=(⟨#[],{}⟩:Heap)) (L:=X.env.locals) (m:=m0) (news:=zbp s.heap X.env.locals) ⟨ag,λb o e=>?_,aG _⟩ (λp hp=>?_) pl.isList (by lia) (by lia) λD e1 h' F N O=>?_;have:=ay e;simp at this;obtain⟨b,o⟩:=p;have:=zY.mp hp;show⟨this.2,this.1,?_⟩
 cases e:(⟨#[],{}⟩:Heap).get? b with
 | none=>rfl
 | some o'=>
  have:=ay e;simp at this
 ·have kp:∀b o,b≠X.env.locals->s.heap.get? b=some o->h'.get? b=some o:=λb o hb e=>(N (b,o) (am _ (zY.mpr ⟨hb,e⟩))).1;obtain⟨fs,k1,k2,k3⟩:=zme I kp B rv λst a3=>by rw[hm st a3];exact as
  show W.kat_kind (T:=.type "int") (s:={ s with heap:=h' }) k1 (by lia) (λf hf=>?_) (by ext) ?_;obtain⟨a,t,rfl⟩:=k3 f hf;intro A' Q' E' s' _ hq;exact cE (fm s' a t) hq
  ·have hu:zcv sts.length (zcT sts):=λi j hi J e=>by
    have e1:=xE hm hi J;have e2:=xE hm J hi;rw[e,aU (eX _)] at e1;rw[e,aU (eX _)] at e2;have gi:sts.getD i []=sts[i]:=by simp[hi]
    have gj:sts.getD j []=sts[j]:=by simp[J]
    rcases zam (a:=sts.getD i []) (b:=sts.getD j []) (by right) with h | h | h;rw[gi,gj] at h;exact (bI av).mp h
    all_goals grind
   obtain⟨p,al,U⟩:=zik hu h2;rw[show its.length=sts.length by lia];show al.wp (S:=λs'=>s'={ s with heap:=h' }) (λi j C s' hi J Y hC=>?_) (λs' Y=>?_) _ rfl;subst Y;obtain⟨a1,a4,_,b1,c1,d1,f1⟩:=zhl I B rv hi;obtain⟨a2,a5,_,b2,c2,d2,f2⟩:=zhl I B rv J;obtain⟨o1,a7,_,n1,a8⟩:=c1;obtain⟨o2,bb,_,n2,bd⟩:=c2;change wpAny _ _ (keyLt' _ (its.getD i .none) (its.getD j .none)) C _ _;rw[b1,b2];have gi:(sts.getD i []).length=m:=by right
   have gj:(sts.getD j []).length=m:=by right
   have l1:=d1.length;have l2:=d2.length;rw[ab] at l1 l2;show W.kat_lt (s:={ s with heap:=h' }) (kp _ _ f1 a7) a8 (kp _ _ f2 bb) bd ?_;rw[show decide (a4.toArray.size<a5.toArray.size)=false from aU (by simp;lia)];show zeu 0 d1 d2 (by rw[gi,gj]) ?_;have:=hC { s with heap:=h' } rfl;rw[show zgv (zcT sts) i j=HT.lexLt (sts.getD i []) (sts.getD j []) from xE hm hi J] at this;exact this;subst Y;have Z:p.toList.Perm (List.range sts.length):=by have:=U.perm.toList;simpa using this
   have ad:∀i∈p.toList,i<sts.length:=λi hi=>aX.mp ((Z.mem_iff).mp hi);show W.KasFin.intro F N (W.UpdF.head λq' bk=>?_) λbl c F'' N''=>?_;exact aR (O q' bk);have bo:∀b o,b≠X.env.locals->s.heap.get? b=some o->bl.get? b=some o:=λb o hb e=>(N'' (b,o) (am _ (zY.mpr ⟨hb,e⟩))).1;have bs:D≠X.env.locals:=(N'' (D,_) ak).2.1
   have bx:s.heap.get? D=none:=by
    cases e:s.heap.get? D with
    | none=>rfl
    | some o=>exact absurd (O (D,o) (zY.mpr ⟨bs,e⟩)) (bO _)
   have an:H D=none:=by
    cases e:H D with
    | none=>rfl
    | some o=>
     obtain⟨o',ca⟩:=zbh (I.hok D o e);grind
   have ap:=(N'' (D,_) ak).1;have I':=zep I ag (ys:=p.toList.map λi=>vs.getD i .non) bo F''.ns bx an ap (zgs rv p.toList λi hi=>by right) (by rw[ab,Z.length_eq,aw];exact cb (zdl (by lia))) s.toks;show⟨.ref D,_,I',rfl,(q _ (p.toList.map λi=>sts.getD i []) (zhT B ad) ?_ ?_).at an⟩;have:=Z.map λi=>sts.getD i [];rwa[zbK] at this;have cc:p.size=sts.length:=uG U.perm;rw[bY];intro i j hi J b0;rw[ab,aY] at hi J;have hk:=U.lt_of b0 (by lia);rw[cJ,cJ,cT,cT];have e1:p.getD i 0=p[i]:=by simp[hi]
   have e2:p.getD j 0=p[j]:=by simp[J]
   unfold key at hk;rw[e1,e2] at hk;rw[<- xE hm (ad _ (by simp)) (ad _ (by simp))];exact a6 hk⟩
end
open PySem.Calls
def zay {prog:Aa}{w:Ab}{A:Ae}{E:AA}{s:AZ}{a:Addr}{vs:AN}{n:Nat}{P:PySem.Fin->AZ->Prop}(ho:s.heap.get? a=some (seqObj "list" vs.toArray n))(h2:vs.length<2)
  (h:∀h' c,(∀b o,b≠a->s.heap.get? b=some o->h'.get? b=some o)->h'.get? a=some (seqObj "list" vs.toArray c)->P (.done (.ret .none)) { s with heap:=h' }) :
  Ag prog w A (Builtin.«list.sort» ⟨[.ref a],[]⟩) P E s:=by
 obtain⟨e1,ho1⟩:∃e1,(s.heap.update a (Obj.mapSeq λ_=>(#[]:AK))).get? a=some (seqObj "list" #[] e1):=⟨_,get?_update_seq ho λ_=>#[]⟩;rw[list_sort_plain];show aa (listItems_at ho rfl ?_);show aa (listUpdate_at ho rfl ?_ (by rw[aS,br];lia) (aG _));show aa (seqEpoch_at ho1 rfl ?_);show aa (wpAny_newTuple ?_ (by change vs.length<=_;rw[br];lia));show aa (wpAny_newList ?_ (aG _));show bq ?_;change Ag prog w A _ P E { s with heap:=((s.heap.update a (Obj.mapSeq λ_=>(#[]:AK))).push (seqObj "tuple" vs.toArray 0)).push (seqObj "list" #[] 0) };dsimp only;have hn2:vs.toArray.size<2:=by rw[aS];lia
 rw[if_pos hn2,if_pos hn2];show aa (ae ?_);show aa (m:=(pure ():StateT SortSt _ _).run _) (ae ?_);have hsnd:(arrOf (SortSt.mk' general' (vs.toArray.zip vs.toArray) #[] 7 none)).map (λx=>x.snd)=vs.toArray:=by change (vs.toArray.zip vs.toArray).map (λx=>x.snd)=vs.toArray;apply Array.toList_inj.mp;rw[Array.toList_map,Array.toList_zip];exact List.map_snd_zip (af _)
 have ha:a<s.heap.objs.size:=ay ho;have g3:(((s.heap.update a (Obj.mapSeq λ_=>(#[]:AK))).push (seqObj "tuple" vs.toArray 0)).push (seqObj "list" #[] 0)).get? a=some (seqObj "list" #[] e1):=ai _ (ai _ ho1);show aa (seqEpoch_at g3 rfl ?_);show aa (listUpdate_at g3 rfl ?_ (aG _) ?_);change wpAny _ _ _ _ _ _;dsimp only;rw[hsnd];simp only[bne_self_eq_false,aP,if_false];show ae (h _ _ (λb o hb e=>?_) (get?_update_seq g3 λ_=>vs.toArray));rw[ee _ _ _ _ hb];show ai _ (ai _ ?_);rw[ee _ _ _ _ hb];exact e;dsimp only;rw[hsnd,aS,br];lia
def zgk {prog:Aa}{w:Ab}{A:Ae}{E:AA}{s:AZ}{l:Addr}{vs:AN}{Q:AA}(J:s.heap.IsList l vs.toArray)(h2:vs.length<2)
  (h:∀D h' c,(∀b o,s.heap.get? b=some o->h'.get? b=some o)->s.heap.get? D=none->h'.get? D=some (seqObj "list" vs.toArray c)->Q (.ref D) { s with heap:=h' }) :
  Ag prog w A (call (.builtin "sorted") [.ref l]) Q E s:=by
 show Calls.call_function_entry kind_sorted plain_sorted entry_sorted (args_sorted1 _) ?_;unfold Builtin.«sorted»;show aa (m:=checkCount "sorted" 1 1 _) (ae ?_);show aa (collect_list J ?_ (by rw[br];lia));show aa (wpAny_newList ?_ (by rw[br];lia));have hsz:((s.heap.push (seqObj "list" #[] 0)).update s.heap.objs.size (Obj.mapSeq (·++vs.toArray))).objs.size=s.heap.objs.size+1:=by right
 have F:(((s.heap.push (seqObj "list" #[] 0)).update s.heap.objs.size (Obj.mapSeq (·++vs.toArray))).push (seqObj "list" vs.toArray 0)).get? (s.heap.objs.size+1)=some (seqObj "list" vs.toArray 0):=by rw[<- hsz];exact aB _ rfl
 have I:∀b o,s.heap.get? b=some o->(((s.heap.push (seqObj "list" #[] 0)).update s.heap.objs.size (Obj.mapSeq (·++vs.toArray))).push (seqObj "list" vs.toArray 0)).get? b=some o:=λb o q=>by have B:b<s.heap.objs.size:=ay q;rw[Heap.get?_push_ne _ _ _ (by rw[hsz];exact aR (Nat.lt_succ_of_lt B)),ee _ _ _ _ (aR B),Heap.get?_push_ne _ _ _ (aR B)];exact q
 change wpAny _ _ _ _ _ { s with heap:=((s.heap.push (seqObj "list" #[] 0)).update s.heap.objs.size (Obj.mapSeq (·++vs.toArray))).push (seqObj "list" vs.toArray 0) };rw[hsz];show aa (bq (bf slot_list_sort ⟨_,F,rfl⟩ entry_list_sort ?body (args_list_sort _)))
 case body=>
  show zay (s:={ s with heap:=((s.heap.push (seqObj "list" #[] 0)).update s.heap.objs.size (Obj.mapSeq (·++vs.toArray))).push (seqObj "list" vs.toArray 0) }) F h2 λh' c L O=>?_;show⟨_,rfl,ae ⟨_,rfl,h _ _ _ (λb o e=>L b o (aR (Nat.lt_succ_of_lt (ay e))) (I b o e)) ?_ O⟩⟩;exact Heap.get?_none_of_le (dX _)
section
variable {X:Cx}
def zru:AT->Hp->VK->Prop:=λxs H Q=>∃ (l:Addr) (vs:AT) (sts:AF) (m:Nat),xs=[.ref l]/\H l=some (.lst vs)/\IsL H (sts.map stD) vs/\sts.length<64/\1<=m/\(∀st∈sts,st.length=m)/\sts.Nodup/\
 ∀ (ys:AT) (q:AF),IsL H (q.map stD) ys->q.Perm sts->(q.Pairwise λa b=>HT.lexLt a b=true)->New H (.lst ys) Q
def zpq:CallQ X (.builtin "sorted") zru:=⟨by
 intro pins s σ H xs us Q I r h;obtain⟨l,vs,sts,m,rfl,hl,B,L,O,hm,U,q⟩:=h;by_cases h2:2<=sts.length;exact zmL.run _ _ _ _ _ _ _ I r ⟨l,vs,sts,m,rfl,hl,B,h2,L,O,hm,U,q⟩;obtain⟨u,rfl,ru⟩:=zaf r;cases ru;obtain⟨its,rv,pl,hz⟩:=I.list (.of hl);have Y:=B.length;rw[ab] at Y;have ad:=rv.length;obtain⟨m0,F,_⟩:=id I.loc;show zgk pl.isList (by lia) λD h' c kp Z hD=>?_
 have J:H D=none:=by
  cases e:H D with
  | none=>rfl
  | some o=>
   obtain⟨o',ag⟩:=zbh (I.hok D o e);grind
 have I':=zep I F (ys:=vs) (λb o _ e=>kp b o e) (by obtain⟨o,es,ep,g,k⟩:=F;exact⟨o,es,ep,kp _ _ g,k⟩) Z J hD rv (by grind) s.toks;show⟨.ref D,_,I',rfl,(q _ sts B (List.Perm.refl _) ?_).at J⟩
 match sts,h2 with
 | [],_=>exact .nil
 | [_],_=>exact dg _ _
 | _::_::_,h2=>exact absurd (by simp) h2⟩
end
def Ris (xs:Array Nat):Prop:=∀i j:Nat,i<j->j<xs.size->xs.getD i 0<xs.getD j 0
def zef {xs:Array Nat}(F:Ris xs){j:Nat}:∀ (B lo hi:Nat),lo<=hi->hi<=xs.size->hi - lo<=B->(∀i,i<lo->xs.getD i 0<j)->(∀i,hi<=i->i<xs.size->j<=xs.getD i 0)->
  ∃p,SetTable.below.go xs j B lo hi=p/\p<=xs.size/\(∀i,i<p->xs.getD i 0<j)/\(∀i,p<=i->i<xs.size->j<=xs.getD i 0)
 | 0,lo,hi,h1,h2,Z,I,J=>by
  have:lo=hi:=by lia
  subst this;exact⟨lo,rfl,h2,I,J⟩
 | B+1,lo,hi,h1,h2,Z,I,J=>by
  change ∃p,(if lo<hi then if xs.getD ((lo+hi) / 2) j<j then SetTable.below.go xs j B ((lo+hi) / 2+1) hi else SetTable.below.go xs j B lo ((lo+hi) / 2) else lo)=p/\_;by_cases U:lo<hi;rw[if_pos U];have Y:(lo+hi) / 2<xs.size:=by lia
  have e:xs.getD ((lo+hi) / 2) j=xs.getD ((lo+hi) / 2) 0:=by simp[Y]
  rw[e];by_cases L:xs.getD ((lo+hi) / 2) 0<j;rw[if_pos L];show zef F B _ hi (by lia) h2 (by lia) (λi O=>?_) J;by_cases q:i=(lo+hi) / 2;rw[q];exact L;have:=F i ((lo+hi) / 2) (by lia) Y;lia;rw[if_neg L];show zef F B lo _ (by lia) (by lia) (by lia) I (λi O hs=>?_);by_cases q:i=(lo+hi) / 2;rw[q];lia;have:=F ((lo+hi) / 2) i (by lia) hs;lia;rw[if_neg U];have:lo=hi:=by lia
  subst this;exact⟨lo,rfl,h2,I,J⟩
def uy(q:Ris xs)(j:Nat):SetTable.below xs j<=xs.size/\(∀i,i<SetTable.below xs j->xs.getD i 0<j)/\(∀i,SetTable.below xs j<=i->i<xs.size->j<=xs.getD i 0):=by obtain⟨p,e,h⟩:=zef q (j:=j) xs.size 0 xs.size (aG _) (af _) (af _) (λi h=>absurd h (cA _)) (λi h1 h2=>by lia);have B:SetTable.below xs j=p:=e;rw[B];exact h
def ur{xs:Array Nat}(h:xs[i]?=some j):i<xs.size/\xs.getD i 0=j:=by
 obtain⟨h1,h2⟩:=cq.mp h;right
def zgP{xs:Array Nat}(h:i<xs.size):xs[i]?=some (xs.getD i 0):=by simp[h]
def zmA(B:Ris xs)(h:xs[i]?=some j):SetTable.below xs j=i:=by
 obtain⟨h1,h2⟩:=ur h;obtain⟨J,F,I⟩:=uy B j;rcases cg (SetTable.below xs j) i with q | q | q;have:=I _ (af _) (by lia);have:=B _ i q h1;lia;exact q;have:=F i q;lia
def zbs{t:SetTable}(q:Ris t.place)(h:t.place[i]?=some j):t.slot j = .live i:=by unfold SetTable.slot;rw[zmA q h];simp[h]
def zl4 {t:SetTable}(q:t.dummies = #[]){j:Nat}(h:∀i:Nat,t.place[i]?≠some j):t.slot j = .empty:=by
 unfold SetTable.slot;have e:(t.place[SetTable.below t.place j]?==some j)=false:=by grind
 have B:SetTable.has t.dummies j=false:=by rw[q];rfl
 right
def zrN {t:SetTable}(q:Ris t.place)(B:t.dummies = #[])(j:Nat):(t.slot j = .empty/\∀i:Nat,t.place[i]?≠some j)\/∃i,t.slot j = .live i/\t.place[i]?=some j:=by
 by_cases h:∃i:Nat,t.place[i]?=some j;obtain⟨i,hi⟩:=h;exact .inr ⟨i,zbs q hi,hi⟩;have h':∀i:Nat,t.place[i]?≠some j:=λi e=>h ⟨i,e⟩;exact .inl ⟨zl4 B h',h'⟩
def tm (q:Nat):SetTable:=⟨q,#[],#[],0,true,0,true⟩
def stp (q:Nat)(h:Int):Nat->SetTable.Probe
 | 0=>(tm q).probeStart h
 | n+1=>(tm q).advance (stp q h n)
def wk (q:Nat)(h:Int)(n:Nat):Nat:=(stp q h n).j
def zjj (q:Nat)(p:SetTable.Probe):((tm q).advance p).dummy=p.dummy:=by unfold SetTable.advance;split <;> rfl
def zgo (q:Nat)(h:Int):∀n,(stp q h n).dummy=none
 | 0=>rfl
 | n+1=>by change ((tm q).advance _).dummy=none;rw[zjj,zgo q h n]
def zhz (q:Nat)(p:SetTable.Probe)(h:0<p.more):(tm q).advance p={ p with j:=p.j+1,more:=p.more - 1 }:=by unfold SetTable.advance;rw[if_pos h]
def zea (q:Nat)(p:SetTable.Probe)(h:p.more=0):(tm q).advance p={ p with j:=(p.i * 5+1+p.perturb / 32) % (q+1),more:=SetTable.runEnd q ((p.i * 5+1+p.perturb / 32) % (q+1)) - (p.i * 5+1+p.perturb / 32) % (q+1),i:=(p.i * 5+1+p.perturb / 32) % (q+1),perturb:=p.perturb / 32 }:=by unfold SetTable.advance;rw[if_neg (by lia)];rfl
def lp (q:Nat)(h:Int):Nat->Nat×Nat
 | 0=>(SetTable.bits h % (q+1),SetTable.bits h)
 | n+1=>SetTable.leap q (lp q h n).1 (lp q h n).2
def zo5 (q i:Nat):SetTable.runEnd q i - i<=9:=by unfold SetTable.runEnd;split <;> lia
def ze7 (B:Nat)(h:Int){T i q:Nat}(e:stp B h T=⟨i,SetTable.runEnd B i - i,i,q,none⟩):∀k,k<=SetTable.runEnd B i - i->stp B h (T+k)=⟨i+k,SetTable.runEnd B i - i - k,i,q,none⟩
 | 0,_=>e
 | k+1,F=>by
  change (tm B).advance (stp B h (T+k))=_;rw[ze7 B h e k (by lia),zhz B _ (by lia)];grind
def zkI (q:Nat)(h:Int):∀k,∃T,T<=10 * k/\stp q h T=⟨(lp q h k).1,SetTable.runEnd q (lp q h k).1 - (lp q h k).1,(lp q h k).1,(lp q h k).2,none⟩
 | 0=>⟨0,af _,rfl⟩
 | k+1=>by obtain⟨T,B,e⟩:=zkI q h k;have F:=zo5 q (lp q h k).1;show⟨T+(SetTable.runEnd q (lp q h k).1 - (lp q h k).1)+1,by lia,?_⟩;change (tm q).advance (stp q h (T+_))=_;rw[ze7 q h e _ (af _),zea q _ (eD _)];rfl
def zdP (q:Nat)(h:Int):∀k,(lp q h k).2=SetTable.bits h / 32 ^ k
 | 0=>by change SetTable.bits h=_;simp
 | k+1=>by change (lp q h k).2 / 32=_;rw[zdP q h k,Nat.div_div_eq_div_mul,Nat.pow_succ]
def zpj (h:Int):SetTable.bits h<2 ^ 64:=by
 unfold SetTable.bits;grind
def lcg (m i:Nat):Nat:=(i * 5+1) % m
def orb (m:Nat):Nat->Nat->Nat
 | 0,i=>i
 | k+1,i=>lcg m (orb m k i)
def zkS (q:Nat)(h:Int):∀k,(lp q h (13+k)).1=orb (q+1) k (lp q h 13).1
 | 0=>rfl
 | k+1=>by
  change ((lp q h (13+k)).1 * 5+1+(lp q h (13+k)).2 / 32) % (q+1)=lcg (q+1) (orb (q+1) k _);rw[<- zkS q h k,zdP];have B:=zpj h
  have e:SetTable.bits h / 32 ^ (13+k)=0:=by
   show Nat.div_eq_of_lt (aI B ?_)
   calc 2 ^ 64<=32 ^ 13:=by ext
    _<=32 ^ (13+k):=cx (by ext) (by lia)
  rw[e];rfl
def zc2 (m:Nat)(a:Nat):∀ (b i:Nat),orb m (a+b) i=orb m b (orb m a i)
 | 0,i=>rfl
 | b+1,i=>by change lcg m (orb m (a+b) i)=lcg m (orb m b _);rw[zc2 m a b i]
def zsf (m:Nat):Nat->Nat->AR
 | 0,_=>[]
 | n+1,i=>i::zsf m n (lcg m i)
def znx (m:Nat)(k i:Nat):orb m (k+1) i=orb m k (lcg m i):=by rw[Nat.add_comm,zc2];rfl
def zeL (m:Nat):∀ (n i k:Nat),k<n->(zsf m n i)[k]?=some (orb m k i)
 | n+1,i,0,_=>rfl
 | n+1,i,k+1,h=>by rw[znx];exact zeL m n (lcg m i) k (by lia)
def zic (m:Nat):∀ (n i:Nat),(zsf m n i).length=n
 | 0,_=>rfl
 | n+1,i=>by change (zsf m n _).length+1=n+1;rw[zic m n]
structure Ring (m:Nat):Prop where
 pos:0<m
 all:∀v,v<m->v∈zsf m m 0
 back:orb m m 0=0
def Ring.reach(r:Ring m)(hi:i<m)(J:j<m):∃k,k<m/\orb m k i=j:=by
 obtain⟨a,F,O⟩:=ba.mp (r.all i hi);obtain⟨b,I,U⟩:=ba.mp (r.all j J);rw[zic] at F I
 have q:orb m a 0=i:=by
  have:=zeL m m 0 a F;right
 have B:orb m b 0=j:=by
  have:=zeL m m 0 b I;right
 by_cases L:a<=b;show⟨b - a,by lia,?_⟩;rw[<- q,<- zc2,show a+(b - a)=b by lia];exact B;show⟨b+m - a,by lia,?_⟩;rw[<- q,<- zc2,show a+(b+m - a)=m+b by lia,zc2,r.back];exact B
def zuF (m:Nat):Bool:=((List.range m).all λv=>(zsf m m 0).contains v)&&orb m m 0==0
def zeZ(q:0<m)(h:zuF m=true):Ring m:=by
 unfold zuF at h;rw[aQ] at h;show⟨q,λv B=>?_,dZ h.2⟩;right
def zxo:Ring 8:=zeZ (by ext) (by decide +kernel)
def zuE:Ring 32:=zeZ (by ext) (by decide +kernel)
def zrz:Ring 128:=zeZ (by ext) (by decide +kernel)
def zrA:Ring 512:=zeZ (by ext) (by decide +kernel)
def zoi(r:Ring (q+1))(h:Int)(B:j<=q):∃n,n<10 * SetTable.turns q/\wk q h n=j:=by have F:(lp q h 13).1<q+1:=eQ _ (eG _);obtain⟨k,J,e⟩:=r.reach F (eR B);obtain⟨T,L,I⟩:=zkI q h (13+k);show⟨T,by unfold SetTable.turns;lia,?_⟩;change (stp q h T).j=j;rw[I];change (lp q h (13+k)).1=j;rw[zkS,e]
def zrC {xs:Array Nat}(B:Ris xs){i j a b:Nat}(hi:xs[i]?=some a)(F:xs[j]?=some b)(h:a<b):i<j:=by
 obtain⟨h1,h2⟩:=ur hi;obtain⟨I,J⟩:=ur F;rcases cg i j with q | q | q;exact q;subst q;lia;have:=B j i q h1;lia
def zih(q:Ris xs):∀ (M:Nat),(∀j,j<M->∃i:Nat,xs[i]?=some j)->∀ (j i:Nat),j<M->xs[i]?=some j->j<=i
 | _,_,0,_,_,_=>aG _
 | M,h,j+1,i,I,e=>by obtain⟨F,B⟩:=h j (by lia);have h1:=zrC q B e (Nat.lt_succ_self j);have h2:=zih q M h j F (by lia) B;lia
def zrB(q:Ris xs)(h:xs.size<M):∃j,j<M/\∀i:Nat,xs[i]?≠some j:=by show bv λB=>?_;have all:∀j,j<M->∃i:Nat,xs[i]?=some j:=λj F=>bv λI=>B ⟨j,F,λi e=>I ⟨i,e⟩⟩;obtain⟨i,e⟩:=all (M - 1) (by lia);have h1:=zih q M all (M - 1) i (by lia) e;have h2:=(ur e).1;lia
section
variable {t:SetTable}{hashAt:Nat->Int}{h:Int}
def zif (F:Ris t.place)(I:t.dummies = #[]):∀ (q n:Nat),(∃N,n<=N/\N<n+q/\∀i:Nat,t.place[i]?≠some (wk t.mask h N))->
  ∃N,n<=N/\(∀m,n<=m->m<N->∃i,t.place[i]?=some (wk t.mask h m)/\hashAt i≠h)/\
   (((∀i:Nat,t.place[i]?≠some (wk t.mask h N))/\SetTable.probe.go t hashAt h q (stp t.mask h n)=some (.empty (wk t.mask h N) none))\/
    ∃i,t.place[i]?=some (wk t.mask h N)/\hashAt i=h/\SetTable.probe.go t hashAt h q (stp t.mask h n)=some (.candidate (wk t.mask h N) i (stp t.mask h (N+1))))
 | 0,n,⟨N,h1,h2,_⟩=>by lia
 | q+1,n,⟨N,h1,h2,J⟩=>by
  rcases zrN F I (wk t.mask h n) with ⟨e,hn⟩ | ⟨i,e,hi⟩;show⟨n,af _,λm a b=>by lia,.inl ⟨hn,?_⟩⟩;change (match t.slot (wk t.mask h n) with | .empty=>some (SetTable.Met.empty (wk t.mask h n) (stp t.mask h n).dummy) | .dummy=>_ | .live i=>_)=_;rw[e,zgo];by_cases B:hashAt i=h;show⟨n,af _,λm a b=>by lia,.inr ⟨i,hi,B,?_⟩⟩;change (match t.slot (wk t.mask h n) with | .empty=>_ | .dummy=>_ | .live i=>if hashAt i==h then some (SetTable.Met.candidate (wk t.mask h n) i (t.advance (stp t.mask h n))) else _)=_;rw[e];change (if (hashAt i==h)=true then _ else _)=_;rw[if_pos (beq_iff_eq.mpr B)];rfl;have Y:n≠N:=λz=>by subst z;exact J i hi
  obtain⟨N',Z,L,a3⟩:=zif F I q (n+1) ⟨N,by lia,by lia,J⟩;have e2:SetTable.probe.go t hashAt h (q+1) (stp t.mask h n)=SetTable.probe.go t hashAt h q (stp t.mask h (n+1)):=by change (match t.slot (wk t.mask h n) with | .empty=>_ | .dummy=>_ | .live i=>if hashAt i==h then _ else SetTable.probe.go t hashAt h q (t.advance (stp t.mask h n)))=_;rw[e];change (if (hashAt i==h)=true then _ else _)=_;rw[if_neg (λz=>B (beq_iff_eq.mp z))];rfl
  show⟨N',by lia,λm b1 O=>?_,?_⟩;by_cases U:m=n;subst U;exact⟨i,hi,B⟩;exact L m (by lia) O;right
variable {prog:Aa}{w:Ab}
abbrev tk (prog:Aa)(w:Ab):HeapKind prog w (List Key):=tupleKind (zR prog w)
def zvX (t:SetTable)(h:Int)(i:Nat):Prop:=∃n,n<10 * SetTable.turns t.mask/\t.place[i]?=some (wk t.mask h n)/\∀m,m<n->∃q:Nat,t.place[q]?=some (wk t.mask h m)
def zaL (m:Nat):Prop:=m=7\/m=31\/m=127\/m=511
def zaL.ring(h:zaL m):Ring (m+1):=by
 rcases h with rfl | rfl | rfl | rfl;exact zxo;exact zuE;exact zrz;exact zrA
def zaL.le(h:zaL m):7<=m/\m<=511:=by rcases h with rfl | rfl | rfl | rfl <;> lia
def zaL.odd(h:zaL m):(m % 2==0)=false:=by rcases h with rfl | rfl | rfl | rfl <;> rfl
structure Tb (prog:Aa)(w:Ab)(t:SetTable)(es:Array (Int×Value))(xs:List (List Key×Addr)):Prop where
 eq:es.toList=xs.map λq=>((tk prog w).hash q.1,Value.ref q.2)
 nd:(xs.map (·.1)).Nodup
 dm:t.dummies = #[]
 ris:Ris t.place
 le:∀ (i j:Nat),t.place[i]?=some j->j<=t.mask
 sz:t.place.size=xs.length
 msk:zaL t.mask
 few:xs.length<=t.mask
 plain:t.plain=true
 led:t.led = !w.params.followText "set-order"
 reach:∀ (i:Nat) (q:List Key×Addr),xs[i]?=some q->zvX t ((tk prog w).hash q.1) i
variable {es:Array (Int×Value)}{xs:List (List Key×Addr)}
def Tb.size (T:Tb prog w t es xs):es.size=xs.length:=by rw[<- aY,T.eq,ab]
def Tb.get (T:Tb prog w t es xs){i:Nat}{q:List Key×Addr}(h:xs[i]?=some q):es[i]?=some ((tk prog w).hash q.1,Value.ref q.2):=by rw[<- Array.getElem?_toList,T.eq,aq,h];rfl
def Tb.at' (T:Tb prog w t es xs){i j:Nat}(h:t.place[i]?=some j):∃q,xs[i]?=some q:=by
 have:=(ur h).1;rw[T.sz] at this;right
def Tb.fits (T:Tb prog w t es xs):t.fits es.size=true:=by unfold SetTable.fits SetTable.fill;rw[T.size,T.sz,T.dm];have:=T.few;simp;lia
def Tb.empty (T:Tb prog w t es xs)(h:Int):∃N,N<10 * SetTable.turns t.mask/\∀i:Nat,t.place[i]?≠some (wk t.mask h N):=by have:=T.few;obtain⟨j,q,B⟩:=zrB T.ris (M:=t.mask+1) (by rw[T.sz];lia);obtain⟨N,h1,h2⟩:=zoi T.msk.ring h (cB q);exact⟨N,h1,by rw[h2];exact B⟩
variable {A:Ae}{E:AA}{s:AZ}
def zgB(h:(zR prog w).is k v=true):(∃i t,v = .int i t)\/∃x t,v = .str x t:=by
 rcases z6 h with ⟨i,t,_,e⟩ | ⟨x,t,_,e⟩;exact .inl ⟨i,t,e⟩;exact .inr ⟨x,t,e⟩
def zcQ:∀ {ks:List Key} {vs:AN},ItemsAre (zR prog w) ks vs->∀v∈vs,(∃i t,v = .int i t)\/∃x t,v = .str x t
 | _,_,.nil,v,h=>by simp at h
 | _,_,.cons h1 h2,v,h=>by
  rcases aJ.mp h with rfl | h;exact zgB h1;exact zcQ h2 v h
def zdR(J:(tk prog w).is s.heap k b)(h:Q false s):Ag prog w A (ofAClassStatement 8 (.ref b)) Q E s:=by
 have B:IsTupleKey (zR prog w) s.heap k b:=J;have L:=B.typeIs;obtain⟨o,items,n,O,_,U,hi⟩:=B;unfold ofAClassStatement;show aa (cE L ?_);dsimp only;rw[if_pos (by ext)];show aa (ae ?_);simp only[eY,aP,if_false];show aa (wpAny_seqItems O U ?_);show aa ?_;change wpAny _ _ (forIn items _ _) _ _ s;rw[<- Array.forIn_toList];show ff _ (λz4 r s'=>r.1=none/\s'=s/\∀v∈z4,(∃i t,v=Value.int i t)\/∃x t,v=Value.str x t) _ ?_ ?_ _ _ ⟨rfl,rfl,zcQ hi⟩
 ·rintro v z4 r s' ⟨F,rfl,q⟩;have e:ofAClassStatement 7 v=pure false:=by rcases q v ak with ⟨i,t,rfl⟩ | ⟨x,t,rfl⟩ <;> rfl
  rw[e];show aa (ae ?_);simp only[aP,if_false];exact ae ⟨rfl,rfl,λu I=>q u (am _ I)⟩
 rintro⟨Y,Z⟩ s' ⟨F,rfl,_⟩;simp only at F;subst F;exact ae h
def zvd(O:(tk prog w).is s.heap k b):∀ (l:AN),(∀v∈l,∃F q,v = .ref q/\(tk prog w).is s.heap F q)->Q false s->Ag prog w A (searchCouldBeSeen (.ref b) l) Q E s:=by
 intro l U h;unfold searchCouldBeSeen;show aa ?_;show ff _ (λz4 r s'=>r.1=none/\s'=s/\∀v∈z4,∃F q,v=Value.ref q/\(tk prog w).is s.heap F q) _ ?_ ?_ _ _ ⟨rfl,rfl,U⟩
 ·rintro v z4 r s' ⟨J,rfl,B⟩;obtain⟨F,q,rfl,I⟩:=B v ak;have next:∀u∈z4,∃F q,u=Value.ref q/\(tk prog w).is s'.heap F q:=λu L=>B u (am _ L);dsimp only;split
  ·exact ae ⟨rfl,rfl,next⟩
  ·show aa ((tk prog w).quiet O ?_);simp only[eY,aP,if_false];show aa ((tk prog w).quiet I ?_);simp only[eY,aP,if_false];show aa (zdR O ?_);simp only[aP,if_false];show aa (zdR I ?_);simp only[aP,if_false];exact ae ⟨rfl,rfl,next⟩
 rintro⟨Y,Z⟩ s' ⟨J,rfl,_⟩;simp only at J;subst J;exact ae h
def zfi (t:SetTable)(xs:List (List Key×Addr))(h:Int)(k:List Key)(n:Nat):Prop:=∀m,m<n->∃ (i:Nat) (q:List Key×Addr),t.place[i]?=some (wk t.mask h m)/\xs[i]?=some q/\q.1≠k
def zgi {a b:Addr}{o:Obj}{ep:Nat}{k:List Key}{adding:Bool}{Q:SetFound->AZ->Prop}(hu:A.units<cLine)(T:Tb prog w t es xs)(hk:(tk prog w).is s.heap k b)(hel:∀q∈xs,(tk prog w).is s.heap q.1 q.2)
  (ho:s.heap.get? a=some o) (hd:o.data = .set es ep t)
  (found:∀r i q,xs[i]?=some q->q.1=k->(r=none/\adding=true\/r=some i)->Q (.there r) s)
  (free:∀N,N<10 * SetTable.turns t.mask->(∀i:Nat,t.place[i]?≠some (wk t.mask ((tk prog w).hash k) N))->zfi t xs ((tk prog w).hash k) k N->Q (.free (wk t.mask ((tk prog w).hash k) N) false) s) :
  ∀ (fuel n:Nat) (stand:Option SetTable.Probe),stand.getD (t.probeStart ((tk prog w).hash k))=stp t.mask ((tk prog w).hash k) n->10 * SetTable.turns t.mask<n+fuel->n<=10 * SetTable.turns t.mask->zfi t xs ((tk prog w).hash k) k n->
   Ag prog w A (setSearchFrom a (.ref b) ((tk prog w).hash k) adding fuel stand) Q E s
 | 0,n,stand,_,h2,h3,_=>by lia
 | fuel+1,n,stand,h1,h2,h3,h4=>by
  unfold setSearchFrom;show aa (bw ho hd T.fits ?_);dsimp only;rw[show t.gaveWay=false from T.msk.odd];simp only[aP,if_false];rw[h1];obtain⟨N0,hN0,eN0⟩:=T.empty ((tk prog w).hash k)
  have hn0:n<=N0:=by
   rcases Nat.lt_or_ge N0 n with q | q;obtain⟨i,_,e,_⟩:=h4 N0 q;exact absurd e (eN0 i);exact q
  have pass:∀N,n<=N->(∀m,n<=m->m<N->∃i:Nat,t.place[i]?=some (wk t.mask ((tk prog w).hash k) m)/\(es[i]?.map (·.1)).getD 0≠(tk prog w).hash k)->zfi t xs ((tk prog w).hash k) k N:=λN hN hh m hm=>by
   rcases Nat.lt_or_ge m n with q | q;exact h4 m q;obtain⟨i,e1,e2⟩:=hh m q hm;obtain⟨q,hq⟩:=T.at' e1;show⟨i,q,e1,hq,λz=>e2 ?_⟩;rw[T.get hq,<- z];rfl
  obtain⟨N,hN,hp,hc⟩:=zif (t:=t) (hashAt:=λi=>(es[i]?.map (·.1)).getD 0) (h:=(tk prog w).hash k) T.ris T.dm (10 * SetTable.turns t.mask) n ⟨N0,hn0,by lia,eN0⟩
  have hNle:N<=N0:=by
   rcases Nat.lt_or_ge N0 N with q | q;obtain⟨i,e,_⟩:=hp N0 hn0 q;exact absurd e (eN0 i);exact q
  rcases hc with ⟨he,hg⟩ | ⟨i,hi,hh,hg⟩;have hg':t.probe (λi=>(es[i]?.map (·.1)).getD 0) ((tk prog w).hash k) (stp t.mask ((tk prog w).hash k) n)=some (.empty (wk t.mask ((tk prog w).hash k) N) none):=hg;have fin:=free N (by lia) he (pass N hN hp);generalize hm:SetTable.probe t _ _ _=met;have:met=some (.empty (wk t.mask ((tk prog w).hash k) N) none):=hm.symm.trans hg';rw[this];dsimp only;exact ae fin;have hg':t.probe (λi=>(es[i]?.map (·.1)).getD 0) ((tk prog w).hash k) (stp t.mask ((tk prog w).hash k) n)=some (.candidate (wk t.mask ((tk prog w).hash k) N) i (stp t.mask ((tk prog w).hash k) (N+1))):=hg;generalize hm:SetTable.probe t _ _ _=met;have:met=some (.candidate (wk t.mask ((tk prog w).hash k) N) i (stp t.mask ((tk prog w).hash k) (N+1))):=hm.symm.trans hg';rw[this];dsimp only;obtain⟨q,hq⟩:=T.at' hi;have hqe:=T.get hq;have hqk:=hel q (aA hq);have stl:t.slot (wk t.mask ((tk prog w).hash k) N) = .live i:=zbs T.ris hi
  have core:Ag prog w A (do
    let some (_,y):=es[i]? | unsupported "internal:set-entry"
    let equal <- holding [y] (eqBool y (.ref b))
    let (es',_,t') <- setState a
    if adding&&equal then return .there none
    let some smem:=t'.sameMemory t.moves t.mask | unsupported "set.changed-during-lookup:is-the-new-block-at-the-old-address"
    let still <- match (if smem then t'.slot (wk t.mask ((tk prog w).hash k) N) else .empty) with
     | .live i'=>match es'[i']? with
      | some (_,y')=>do pure (if <- isSame y' y then some i' else none)
      | none=>pure none
     | _=>pure none
    match still with
    | none=>rule "set.search.anew";setSearchFrom a (.ref b) ((tk prog w).hash k) adding fuel none
    | some i'=>if equal then return .there (some i') else setSearchFrom a (.ref b) ((tk prog w).hash k) adding fuel (some (stp t.mask ((tk prog w).hash k) (N+1)))) Q E s:=by
   rw[hqe];dsimp only;show aa (bq ((tk prog w).eqBool hu hqk hk ?_));show aa (bw ho hd T.fits ?_);dsimp only;by_cases hkk:q.1=k;rw[a6 hkk]
   cases adding with
   | true=>
    simp only[Bool.and_self,if_true];exact ae (found none i q hq hkk (.inl ⟨rfl,rfl⟩))
   | false=>
    simp only[Bool.false_and,aP,if_false];have e1:t.sameMemory t.moves t.mask=some true:=by unfold SetTable.sameMemory;simp
    rw[e1];dsimp only;simp only[if_true];rw[stl];dsimp only;rw[hqe];dsimp only;show aa (wpAny_isSame_ref_self (aa (ae ?_)));simp only[if_true];exact ae (found (some i) i q hq hkk (.inr rfl))
   rw[aU hkk];simp only[cN,aP,if_false];have e1:t.sameMemory t.moves t.mask=some true:=by unfold SetTable.sameMemory;simp
   rw[e1];dsimp only;simp only[if_true];rw[stl];dsimp only;rw[hqe];dsimp only;show aa (wpAny_isSame_ref_self (aa (ae ?_)));simp only[if_true];show zgi hu T hk hel ho hd found free fuel (N+1) _ rfl (by lia) (by lia) λm hm=>?_;rcases Nat.lt_succ_iff_lt_or_eq.mp hm with z | z;exact pass N hN hp m z;subst z;exact⟨i,q,hi,hq,hkk⟩
  split;show aa (zvd hk _ (λv hv=>?_) ?_);obtain⟨e,he,rfl⟩:=aF.mp hv;have he':e∈es.toList:=by have:=dL.mp he;exact dL.mpr (Array.mem_filter.mp this).1
  rw[T.eq] at he';obtain⟨q',hq',rfl⟩:=aF.mp he';exact⟨_,_,rfl,hel q' hq'⟩;simp only[aP,if_false];exact core;exact core
end
def zfI {α:Type}(l:List α)(p:Nat)(x:α):List α:=l.take p++x::l.drop p
def zgT {α:Type}{l:List α}{p i:Nat}{x:α}(q:p<=l.length)(h:i<p):(zfI l p x)[i]?=l[i]?:=by unfold zfI;rw[be (by grind),c7 h]
def zgR{α:Type}{l:List α}{x:α}(q:p<=l.length):(zfI l p x)[p]?=some x:=by
 unfold zfI;right
def zgS {α:Type}{l:List α}{p i:Nat}{x:α}(q:p<=l.length)(h:p<=i):(zfI l p x)[i+1]?=l[i]?:=by unfold zfI;rw[bh (by grind),aM,show i+1 - min p l.length=(i - p)+1 by lia,bC,List.getElem?_drop,show p+(i - p)=i by lia]
def zen {α:Type}{l:List α}{p:Nat}{x:α}(q:p<=l.length):(zfI l p x).length=l.length+1:=by
 unfold zfI;grind
def zm1 {α q:Type}(f:α->q)(l:List α)(p:Nat)(x:α):(zfI l p x).map f=zfI (l.map f) p (f x):=by
 unfold zfI;right
def zki {α:Type}(l:List α)(p:Nat)(x:α):(zfI l p x).Perm (x::l):=by
 unfold zfI;show List.perm_middle.trans ?_;right
def yL{α:Type}(xs:Array α)(x:α):(SetTable.insertAt xs p x).toList=zfI xs.toList p x:=by
 unfold SetTable.insertAt zfI;rw[Array.toList_append,Array.toList_push,Array.toList_extract,Array.toList_extract,List.extract_eq_take_drop,List.extract_eq_take_drop];rw[fg,eL,bL];congr 1;change x::_=_;congr 1;change []++List.take _ (List.drop p xs.toList)=_;rw[List.nil_append];show ck ?_;right
def zb7 {α:Type}(xs:Array α)(i:Nat):xs[i]?=xs.toList[i]?:=by right
def zgU{xs:Array Nat}(B:p<=xs.size)(h:xs[i]?=some v):(SetTable.insertAt xs p j)[if i<p then i else i+1]?=some v:=by
 rw[zb7,yL];rw[zb7] at h;have q:p<=xs.toList.length:=by rw[aY];exact B
 split
 ·rename_i hi;rw[zgT q hi,h]
 ·rename_i hi;rw[zgS q (by lia),h]
def za4{xs:Array Nat}(I:p<=xs.size)(h:(SetTable.insertAt xs p j)[i]?=some v):(i=p/\v=j)\/(i<p/\xs[i]?=some v)\/∃B,i=B+1/\p<=B/\xs[B]?=some v:=by
 rw[zb7,yL] at h;have F:p<=xs.toList.length:=by rw[aY];exact I
 rcases cg i p with q | q | q;rw[zgT F q,<- zb7] at h;right;subst q;rw[zgR F] at h;right;obtain⟨B,rfl⟩:∃B,i=B+1:=⟨i - 1,by lia⟩;rw[zgS F (by lia),<- zb7] at h;exact .inr (.inr ⟨B,rfl,by lia,h⟩)
def zi3(Z:Ris xs)(hn:∀i:Nat,xs[i]?≠some j):Ris (SetTable.insertAt xs (SetTable.below xs j) j):=by
 obtain⟨L,b2,b3⟩:=uy Z j;intro i I U h2;have e1:=zgP (xs:=SetTable.insertAt xs (SetTable.below xs j) j) (i:=i) (by lia);have J:=zgP h2;generalize (SetTable.insertAt xs (SetTable.below xs j) j).getD i 0=v at e1;generalize (SetTable.insertAt xs (SetTable.below xs j) j).getD I 0=O at J
 have Y:∀i v,SetTable.below xs j<=i->xs[i]?=some v->j<v:=λi v h e=>by
  obtain⟨a1,a2⟩:=ur e;grind
 have F:∀i v,i<SetTable.below xs j->xs[i]?=some v->v<j:=λi v h e=>by obtain⟨a1,a2⟩:=ur e;have:=b2 i h;lia
 have B:∀i I v O,i<I->xs[i]?=some v->xs[I]?=some O->v<O:=λi I v O h e J=>by
  obtain⟨a1,a2⟩:=ur e;obtain⟨a3,a4⟩:=ur J;have:=Z i I h a3
  omega
 rcases za4 L e1 with ⟨rfl,rfl⟩ | ⟨q,e⟩ | ⟨i',rfl,q,e⟩;rcases za4 L J with ⟨rfl,rfl⟩ | ⟨q',e'⟩ | ⟨i'',rfl,q',e'⟩;lia;lia;exact Y _ _ q' e';rcases za4 L J with ⟨rfl,rfl⟩ | ⟨q',e'⟩ | ⟨i'',rfl,q',e'⟩;exact F _ _ q e;exact B _ _ _ _ U e e';exact B _ _ _ _ (by lia) e e';rcases za4 L J with ⟨rfl,rfl⟩ | ⟨q',e'⟩ | ⟨i'',rfl,q',e'⟩;lia;lia;exact B _ _ _ _ (by lia) e e'
section
variable {prog:Aa}{w:Ab}{t:SetTable}{es:Array (Int×Value)}{xs:List (List Key×Addr)}
def zpN:SetTable.has #[] j=false:=rfl
def Tb.put(T:Tb prog w t es xs)(hN:N<10 * SetTable.turns t.mask)(he:∀i:Nat,t.place[i]?≠some (wk t.mask ((tk prog w).hash k) N))(hp:zfi t xs ((tk prog w).hash k) k N)(hk:k∉xs.map (·.1))(hf:xs.length+1<=t.mask)(Z:wk t.mask ((tk prog w).hash k) N<=t.mask) :
  ∃L,Tb prog w (t.put (wk t.mask ((tk prog w).hash k) N)).1 (SetTable.insertAt es (t.put (wk t.mask ((tk prog w).hash k) N)).2 ((tk prog w).hash k,.ref b)) L/\L.Perm ((k,b)::xs):=by
 generalize hj:wk t.mask ((tk prog w).hash k) N=j at *;obtain⟨O,b2,b3⟩:=uy T.ris j;have ad:(t.put j).2=SetTable.below t.place j:=rfl
 have ht:(t.put j).1={ t with place:=SetTable.insertAt t.place (SetTable.below t.place j) j }:=by
  unfold SetTable.put;dsimp only;rw[T.dm,zpN];grind
 generalize ag:SetTable.below t.place j=p at *;have F:p<=xs.length:=by rw[<- T.sz];exact O
 have B:∀ {i v:Nat},t.place[i]?=some v->∃I:Nat,(SetTable.insertAt t.place p j)[I]?=some v:=λ{i v} h=>⟨_,zgU O h⟩;have U:=zki xs p (k,b);show⟨zfI xs p (k,b),?_,U⟩;rw[ad,ht];show⟨?_,?_,T.dm,?_,?_,?_,T.msk,?_,T.plain,T.led,?_⟩;rw[yL,T.eq,zm1];rw[(U.map (·.1)).nodup_iff,ax,cj];exact⟨hk,T.nd⟩;have:=zi3 T.ris he;right;intro i v e;rcases za4 O e with ⟨_,rfl⟩ | ⟨_,e'⟩ | ⟨_,_,_,e'⟩;exact Z;exact T.le _ _ e';exact T.le _ _ e';change (SetTable.insertAt t.place p j).size=_;rw[<- aY,yL,zen (by right),zen F,aY,T.sz];change (zfI xs p (k,b)).length<=t.mask;rw[zen F];exact hf;intro i q J;rcases cg i p with z | z | z;rw[zgT F z] at J;obtain⟨n,h1,h2,h3⟩:=T.reach i q J;show⟨n,h1,?_,λm Y=>?_⟩;have:=zgU (j:=j) O h2;right;obtain⟨I,e⟩:=h3 m Y;exact B e;subst z;rw[zgR F] at J;cases J;show⟨N,hN,?_,λm Y=>?_⟩;change (SetTable.insertAt t.place i j)[i]?=_;rw[zb7,yL,zgR (by right)];right;obtain⟨I,q',e,_⟩:=hp m Y;exact B e;obtain⟨I,rfl⟩:∃I,i=I+1:=⟨i - 1,by lia⟩;rw[zgS F (by lia)] at J;obtain⟨n,h1,h2,h3⟩:=T.reach I q J;show⟨n,h1,?_,λm Y=>?_⟩;have:=zgU (j:=j) O h2;rw[if_neg (by lia)] at this;exact this;obtain⟨I,e⟩:=h3 m Y;exact B e
end
def zeB:∀ (n:Nat) {l:AR},l.Nodup->(∀x∈l,x<n)->l.length<=n
 | 0,l,_,h=>by
  cases l with
  | nil=>exact af _
  | cons a _=>exact absurd (h a ak) (cA _)
 | n+1,l,q,h=>by
  by_cases F:n∈l
  have h1:=zeB n (q.erase n) λx B=>by
   grind
  grind
  have:=zeB n q λx B=>by
   grind
  lia
def zeO {α:Type}[BEq α][LawfulBEq α]:∀ {l l':List α},l.Nodup->l'.Nodup->(∀x,x∈l↔x∈l')->l.Perm l'
 | [],l',_,_,h=>by
  cases l' with
  | nil=>exact .nil
  | cons a _=>exact absurd ((h a).mpr ak) (by simp)
 | a::l,l',B,q,h=>by grind
def St0 (q:Nat)(h:Int)(K:Nat):SetTable.Probe:=⟨(lp q h K).1,SetTable.runEnd q (lp q h K).1 - (lp q h K).1,(lp q h K).1,(lp q h K).2,none⟩
def zkJ {q:Nat}{h:Int}{T K:Nat}(e:stp q h T=St0 q h K):stp q h (T+(SetTable.runEnd q (lp q h K).1 - (lp q h K).1)+1)=St0 q h (K+1):=by change (tm q).advance (stp q h (T+_))=_;rw[ze7 q h e _ (af _),zea q _ (eD _)];rfl
def ztp (q:Nat)(h:Int):∀K,(lp q h K).1<=q
 | 0=>cB (eQ _ (eG _))
 | K+1=>cB (eQ _ (eG _))
def zda {q i:Nat}(h:i<=q):SetTable.runEnd q i<=q/\i<=SetTable.runEnd q i:=by unfold SetTable.runEnd;split <;> lia
def zfC{h:Int}{owner:Array (Option Nat)}(hs:owner.size=q+1):∀ (B K T:Nat),T<=10 * K->stp q h T=St0 q h K->(∀m,m<T->∃F,owner[wk q h m]?=some (some F))->
  (∃K',K<=K'/\K'<K+B/\owner[(lp q h K').1]?=some none)->
  ∃N,SetTable.layClean.free q owner B (lp q h K).1 (lp q h K).2=some (wk q h N)/\N<10 * (K+B)/\wk q h N<=q/\owner[wk q h N]?=some none/\∀m,m<N->∃F,owner[wk q h m]?=some (some F)
 | 0,K,T,_,_,_,⟨K',h1,h2,_⟩=>by lia
 | B+1,K,T,hT,eT,ad,⟨K',h1,h2,h3⟩=>by
  have as:=ztp q h K;obtain⟨r1,r2⟩:=zda as;have r9:=zo5 q (lp q h K).1;have I:∀k,k<=SetTable.runEnd q (lp q h K).1 - (lp q h K).1->wk q h (T+k)=(lp q h K).1+k:=λk U=>by change (stp q h (T+k)).j=_;rw[ze7 q h eT k U]
  have inR:∀k,k<=SetTable.runEnd q (lp q h K).1 - (lp q h K).1->∃u,owner[(lp q h K).1+k]?=some u/\owner.getD ((lp q h K).1+k) (some 0)=u:=λk U=>by
   have a0:(lp q h K).1+k<owner.size:=by lia
   right
  change ∃N,(match (List.range (SetTable.runEnd q (lp q h K).1+1 - (lp q h K).1)).find? λk=>(owner.getD ((lp q h K).1+k) (some 0)).isNone with
   | some k=>some ((lp q h K).1+k)
   | none=>SetTable.layClean.free q owner B (lp q h (K+1)).1 (lp q h (K+1)).2)=some (wk q h N)/\_
  cases hf:(List.range (SetTable.runEnd q (lp q h K).1+1 - (lp q h K).1)).find? λk=>(owner.getD ((lp q h K).1+k) (some 0)).isNone with
  | some k=>
   obtain⟨hp,i,hi,ag,al⟩:=List.find?_eq_some_iff_getElem.mp hf;rw[bF] at ag;subst ag;rw[aw] at hi;have U:i<=SetTable.runEnd q (lp q h K).1 - (lp q h K).1:=by lia
   obtain⟨u,J,L⟩:=inR i U;rw[L] at hp
   have av:u=none:=by
    cases u with
    | none=>rfl
    | some z=>exact absurd hp (by simp)
   subst av;show⟨T+i,by rw[I i U],by lia,by rw[I i U];lia,by rw[I i U];exact J,λm hm=>?_⟩;by_cases Z:m<T;exact ad m Z;obtain⟨O,rfl⟩:∃O,m=T+O:=⟨m - T,by lia⟩;obtain⟨u,J,L⟩:=inR O (by lia);have:=al O (by lia);rw[bF,L] at this;rw[I O (by lia),J]
   cases u with
   | none=>simp at this
   | some F=>exact⟨F,rfl⟩
  | none=>
   have an:=eI.mp hf
   have Y:∀k,k<=SetTable.runEnd q (lp q h K).1 - (lp q h K).1->∃F,owner[(lp q h K).1+k]?=some (some F):=λk U=>by
    obtain⟨u,J,L⟩:=inR k U;have:=an k (aX.mpr (by lia));rw[L] at this
    cases u with
    | none=>simp at this
    | some F=>exact⟨F,J⟩
   have a4:K≠K':=λz=>by
    subst z;obtain⟨F,e⟩:=Y 0 (aG _);grind
   have ap:∀m,m<T+(SetTable.runEnd q (lp q h K).1 - (lp q h K).1)+1->∃F,owner[wk q h m]?=some (some F):=λm hm=>by
    by_cases Z:m<T;exact ad m Z;obtain⟨O,rfl⟩:∃O,m=T+O:=⟨m - T,by lia⟩;rw[I O (by lia)];exact Y O (by lia)
   obtain⟨N,a1,a2,a3⟩:=zfC hs B (K+1) _ (by lia) (zkJ eT) ap ⟨K',by lia,by lia,h3⟩;exact⟨N,a1,by lia,a3⟩
structure Own (mask:Nat)(hs:AG)(n:Nat)(owner:Array (Option Nat)):Prop where
 size:owner.size=mask+1
 lt:∀ (j i:Nat),owner[j]?=some (some i)->i<n
 inj:∀ (j j' i:Nat),owner[j]?=some (some i)->owner[j']?=some (some i)->j=j'
 reach:∀ (i:Nat) (h:Int),i<n->hs[i]?=some h->∃N,N<10 * SetTable.turns mask/\owner[wk mask h N]?=some (some i)/\∀m,m<N->∃i',owner[wk mask h m]?=some (some i')
def Own.gap{J:AG}(o:Own q J n owner)(hn:n<=q):∃j,j<=q/\owner[j]?=some none:=by
 show bv λL=>?_
 have all:∀j,j<q+1->∃i,owner[j]?=some (some i):=λj F=>by
  have O:j<owner.size:=by rw[o.size];exact F
  cases e:owner[j] with
  | none=>exact absurd ⟨j,cB F,by right⟩ L
  | some i=>exact⟨i,by right⟩
 have U:=zeB n (l:=(List.range (q+1)).map λj=>((owner[j]?).join).getD 0) ?_ ?_;rw[ab,aw] at U;lia;show bD.mpr (List.Pairwise.imp_of_mem ?_ dJ);intro a b Y Z I e;show I ?_;obtain⟨i,hi⟩:=all a (aX.mp Y);obtain⟨i',B⟩:=all b (aX.mp Z);rw[hi,B] at e;have:i=i':=e;subst this;exact o.inj _ _ _ hi B;intro x hx;obtain⟨j,F,rfl⟩:=aF.mp hx;obtain⟨i,hi⟩:=all j (aX.mp F);rw[hi];exact o.lt _ _ hi
def Own.step{hs:AG}{h:Int}(o:Own B hs n owner)(hr:Ring (B+1))(hn:n<=B)(hh:hs[n]?=some h) :
  ∃j,SetTable.layClean.free B owner (SetTable.turns B) (SetTable.bits h % (B+1)) (SetTable.bits h)=some j/\Own B hs (n+1) (owner.setIfInBounds j (some n)):=by
 obtain⟨g,hg,eg⟩:=o.gap hn;have hb:(lp B h 13).1<B+1:=eR (ztp B h 13);obtain⟨k,hk,e⟩:=hr.reach hb (eR hg);obtain⟨N,h1,h2,h3,h4,h5⟩:=zfC o.size (SetTable.turns B) 0 0 (af _) (h:=h) rfl (λm U=>absurd U (cA _)) ⟨13+k,aG _,by unfold SetTable.turns;lia,by rw[zkS,e];exact eg⟩;have hj:wk B h N<owner.size:=by rw[o.size];lia
 have I:(owner.setIfInBounds (wk B h N) (some n))[wk B h N]?=some (some n):=by right
 have F:∀j,j≠wk B h N->(owner.setIfInBounds (wk B h N) (some n))[j]?=owner[j]?:=λj ad=>by rw[Array.getElem?_setIfInBounds];rw[if_neg (λz=>ad z.symm)]
 have J:∀j i,owner[j]?=some (some i)->(owner.setIfInBounds (wk B h N) (some n))[j]?=some (some i):=λj i e=>by
  by_cases q:j=wk B h N;rw[q,h4] at e;cases e;rw[F j q];exact e
 show⟨wk B h N,h1,by simp[o.size],λj i e=>?_,λj Z i e O=>?_,λi h' hi L=>?_⟩;by_cases q:j=wk B h N;right;rw[F j q] at e;have:=o.lt _ _ e;lia;by_cases q:j=wk B h N;subst q;rw[I] at e;cases e;by_cases Y:Z=wk B h N;exact Y.symm;rw[F Z Y] at O;have:=o.lt _ _ O;lia;rw[F j q] at e;by_cases Y:Z=wk B h N;subst Y;rw[I] at O;cases O;have:=o.lt _ _ e;lia;rw[F Z Y] at O;exact o.inj _ _ _ e O;by_cases q:i=n;subst q;rw[hh] at L;cases L;show⟨N,by lia,I,λm U=>?_⟩;obtain⟨i',e⟩:=h5 m U;exact⟨i',J _ _ e⟩;obtain⟨M,m1,m2,m3⟩:=o.reach i h' (by lia) L;show⟨M,m1,J _ _ m2,λm U=>?_⟩;obtain⟨i',e⟩:=m3 m U;exact⟨i',J _ _ e⟩
def znz (q:Nat)(F:AG):Own q F 0 (Array.replicate (q+1) none):=by
 have B:∀j i,(Array.replicate (q+1) (none:Option Nat))[j]?≠some (some i):=λj i e=>by
  rw[Array.getElem?_replicate] at e;grind
 exact⟨by simp,λj i e=>absurd e (B j i),λj I i e=>absurd e (B j i),λi h hi=>absurd hi (cA _)⟩
def zhO(J:Ring (B+1)):∀ (z4 q:AG) (owner:Array (Option Nat)),(q++z4).length<=B->Own B (q++z4) q.length owner->
  ∃F,z4.foldl (λ(acc:Option (Array (Option Nat)×Nat)) h=>acc.bind λx=>(SetTable.layClean.free B x.1 (SetTable.turns B) (SetTable.bits h % (B+1)) (SetTable.bits h)).bind λj=>some (x.1.setIfInBounds j (some x.2),x.2+1)) (some (owner,q.length))=some (F,(q++z4).length)/\Own B (q++z4) (q++z4).length F
 | [],q,owner,_,o=>by right
 | h::z4,q,owner,I,o=>by
  have O:q.length+(z4.length+1)<=B:=by rw[aj,aV] at I;exact I
  obtain⟨j,e,o'⟩:=o.step J (by lia) (h:=h) (by simp);have L:q++h::z4=(q++[h])++z4:=by rw[bL];rfl
  have U:q.length+1=(q++[h]).length:=by rw[aj];rfl
  rw[L,U] at o';obtain⟨F,Y,Z⟩:=zhO J z4 (q++[h]) _ (by rw[<- L];exact I) o';grind
def zfS(F:Ring (q+1))(B:Array Int)(I:B.size<=q):∃owner,SetTable.layClean q B=some owner/\Own q B.toList B.size owner:=by
 obtain⟨owner,h1,h2⟩:=zhO F B.toList [] (Array.replicate (q+1) none) (by right) (znz q _);rw[List.nil_append,aY] at h2;show⟨owner,?_,h2⟩;unfold SetTable.layClean;right
def xF (q:Nat)(owner:Array (Option Nat)):List (Nat×Nat):=(List.range (q+1)).filterMap λj=>(owner.getD j none).map (j,·)
def uj{I:AG}(o:Own q I n owner):(j,i)∈xF q owner↔owner[j]?=some (some i):=by
 unfold xF;rw[cO];constructor;rintro⟨O,F,e⟩;obtain⟨U,J,L⟩:=aC.mp e;cases L;have B:j<owner.size:=by rw[o.size];exact aX.mp F
 right;intro e;obtain⟨B,J⟩:=cq.mp e;show⟨j,aX.mpr (by rw[<- o.size];exact B),?_⟩;right
def zkO (q:Nat)(owner:Array (Option Nat)):(xF q owner).Pairwise λa b=>a.1<b.1:=by
 unfold xF;show List.pairwise_filterMap.mpr ((List.pairwise_lt_range).imp ?_);right
def zkN{B:AG}(o:Own q B B.length owner):((xF q owner).map (·.2)).Perm (List.range B.length):=by
 show zeO ?_ dJ λi=>?_;show bD.mpr (List.Pairwise.imp_of_mem ?_ (zkO q owner));intro a b F I J e;have h1:=(uj o).mp F;have h2:=(uj o).mp I;rw[e] at h1;have:=o.inj _ _ _ h1 h2;lia;rw[aX];constructor;intro h;obtain⟨⟨j,L⟩,h1,rfl⟩:=aF.mp h;exact o.lt _ _ ((uj o).mp h1);intro h;obtain⟨N,_,e,_⟩:=o.reach i B[i] h (ah h);exact aF.mpr ⟨(_,i),(uj o).mpr e,rfl⟩
def zc8 {α:Type}(l:List α):(List.range l.length).filterMap (λi=>l[i]?)=l:=by
 have:∀ (n:Nat) (l:List α),n=l.length->(List.range n).filterMap (λi=>l[i]?)=l:=by
  intro n
  induction n with
  | zero=>intro l h;cases l with | nil=>rfl | cons _ _=>simp at h
  | succ n q=>
   intro l h
   cases l with
   | nil=>simp at h
   | cons a l=>
    rw[List.range_succ_eq_map,bU];change a::_=_;rw[eB];congr 1;exact q l (by simpa using h)
 exact this _ l rfl
section
variable {prog:Aa}{w:Ab}{t:SetTable}{es:Array (Int×Value)}{xs:List (List Key×Addr)}
def Tb.laid(T:Tb prog w t es xs)(hm:zaL B)(hl:xs.length<=B)(L U:Nat) :
  ∃t' F Z,SetTable.laid B L U t.led true (es.map (·.1))=some (t',F)/\(F.filterMap (es[·]?)).size=es.size/\Tb prog w t' (F.filterMap (es[·]?)) Z/\Z.Perm xs/\t'.mask=B:=by
 obtain⟨owner,e,o⟩:=zfS hm.ring (es.map (·.1)) (by rw[Array.size_map,T.size];exact hl);have hh:(es.map (·.1)).toList=xs.map λq=>(tk prog w).hash q.1:=by rw[Array.toList_map,T.eq,ao];rfl
 have hsz:(es.map (·.1)).size=xs.length:=by rw[Array.size_map,T.size]
 rw[hh,hsz] at o;have o':Own B (xs.map λq=>(tk prog w).hash q.1) (xs.map λq=>(tk prog w).hash q.1).length owner:=by rw[ab];exact o
 have hp:=zkN o';rw[ab] at hp;have ad:((((xF B owner).map (·.2)).toArray).filterMap (es[·]?)).toList=((xF B owner).map (·.2)).filterMap (es.toList[·]?):=by right
 have J:(((xF B owner).map (·.2)).filterMap (xs[·]?)).Perm xs:=by have:=hp.filterMap (xs[·]?);rw[zc8] at this;exact this
 have ag:((xF B owner).map (·.2)).filterMap (es.toList[·]?)=(((xF B owner).map (·.2)).filterMap (xs[·]?)).map λq=>((tk prog w).hash q.1,Value.ref q.2):=by rw[List.map_filterMap];congr 1;funext i;rw[T.eq,aq]
 have Y:∀ {c:Nat} {q:List Key×Addr},(((xF B owner).map (·.2)).filterMap (xs[·]?))[c]?=some q->∃j i,(xF B owner)[c]?=some (j,i)/\xs[i]?=some q:=by
  have as:∀ (l:List (Nat×Nat)),(∀p∈l,p.2<xs.length)->∀ {c:Nat} {q:List Key×Addr},((l.map (·.2)).filterMap (xs[·]?))[c]?=some q->∃j i,l[c]?=some (j,i)/\xs[i]?=some q:=by
   intro l
   induction l with
   | nil=>intro _ c q h;simp at h
   | cons p l ih=>
    intro al c q h;have av:=al p ak;rw[ax,bU,ah av] at h
    cases c with
    | zero=>
     show⟨p.1,p.2,rfl,?_⟩;right
    | succ c=>exact ih (λp' a0=>al p' (am _ a0)) (by simpa using h)
  intro c q h;show as _ (λp hp=>?_) h;obtain⟨j,i⟩:=p;exact o.lt _ _ ((uj o).mp hp)
 have I:∀ {c j i:Nat},(xF B owner)[c]?=some (j,i)->(((xF B owner).map (·.1)).toArray)[c]?=some j:=λ{c j i} h=>by right
 show⟨_,_,((xF B owner).map (·.2)).filterMap (xs[·]?),by unfold SetTable.laid;rw[e];rfl,?_,⟨?_,?_,rfl,?_,?_,?_,hm,?_,rfl,by exact T.led,?_⟩,J,rfl⟩;change ((((xF B owner).map (·.2)).toArray).filterMap (es[·]?)).size=es.size;rw[<- aY,ad,ag,ab,J.length_eq,T.size];exact ad.trans ag;rw[(J.map (·.1)).nodup_iff];exact T.nd;intro i j an hj
 have ap:j<(xF B owner).length:=by
  have:(((xF B owner).map (·.1)).toArray).size=(xF B owner).length:=by simp
  rw[<- this];exact hj
 have a1:i<(xF B owner).length:=Nat.lt_trans an ap;have:=bY.mp (zkO B owner) i j a1 ap an;change (((xF B owner).map (·.1)).toArray).getD i 0<(((xF B owner).map (·.1)).toArray).getD j 0;right;intro c j hc;have O:((xF B owner).map (·.1))[c]?=some j:=by rw[zb7] at hc;exact hc
 rw[aq] at O;obtain⟨⟨j',i'⟩,h1,rfl⟩:=aC.mp O;have h2:=(uj o).mp (aA h1);have:=(cq.mp h2).1;rw[o.size] at this;change j'<=B;lia;change (((xF B owner).map (·.1)).toArray).size=_;have h1:(((xF B owner).map (·.1)).toArray).size=(xF B owner).length:=by simp
 rw[h1,J.length_eq];have:=hp.length_eq;grind;rw[J.length_eq];exact hl;intro c q hq;obtain⟨j,i,h1,h2⟩:=Y hq;have hi:=(ac.mp h2).1;obtain⟨N,n1,n2,n3⟩:=o.reach i ((tk prog w).hash q.1) hi (by right);have hj:=o.inj _ _ _ ((uj o).mp (aA h1)) n2;subst hj;show⟨N,n1,I h1,λm a2=>?_⟩;obtain⟨i',e'⟩:=n3 m a2;obtain⟨c',O,a3⟩:=ba.mp ((uj o).mpr e');exact⟨c',I (by rw[ah O,a3])⟩
variable {A:Ae}{E:AA}{s:AZ}
def zcu (prog:Aa)(w:Ab)(h:Heap)(a:Addr)(xs:List (List Key×Addr)):Prop:=∃o es q t,h.get? a=some o/\o.ExactSet/\o.data = .set es q t/\Tb prog w t es xs/\xs.length * 5<t.mask * 3
def zca{ns:AG}(Y:(tk prog w).is s.heap (ns.map Sum.inl) b)(h:Q true s):Ag prog w A (hashByValue 8 (.ref b)) Q E s:=by
 have I:IsTupleKey (zR prog w) s.heap (ns.map Sum.inl) b:=Y;have Z:=I.typeIs;obtain⟨o,items,n,ho,_,hd,hi⟩:=I
 have B:∀ {ns:AG} {vs:AN},ItemsAre (zR prog w) (ns.map Sum.inl) vs->∀v∈vs,∃i t,v=Value.int i t:=by
  intro ns
  induction ns with
  | nil=>intro vs h v J;cases h;simp at J
  | cons n ns ih=>
   intro vs h v J
   cases h with
   | cons h1 h2=>
    rcases aJ.mp J with rfl | J
    ·have L:zfO (Sum.inl n) v=true:=h1;rcases z6 L with ⟨i,t,_,e⟩ | ⟨x,t,z,_⟩
     all_goals right
    exact ih h2 v J
 unfold hashByValue;show aa (wpAny_specialOf Z F.slot_tuple_hash.lookup ?_);dsimp only;show aa (wpAny_seqItems ho hd ?_);show aa ?_;change wpAny _ _ (forIn items _ _) _ _ s;rw[<- Array.forIn_toList];show ff _ (λz4 r s'=>r.1=none/\s'=s/\∀v∈z4,∃i t,v=Value.int i t) _ ?_ ?_ _ _ ⟨rfl,rfl,B hi⟩;rintro v z4 r s' ⟨O,rfl,q⟩;obtain⟨i,t,rfl⟩:=q v ak;have e:hashByValue 7 (Value.int i t)=pure true:=rfl;rw[e];show aa (ae ?_);simp only[eY,aP,if_false];exact ae ⟨rfl,rfl,λu U=>q u (am _ U)⟩;rintro⟨r1,r2⟩ s' ⟨O,rfl,_⟩;simp only at O;subst O;exact ae h
def zdW{h:Heap}{a:Addr}{o:Obj}{es:Array (Int×Value)}{es':Array (Int×Value)}(F:h.get? a=some o)(B:o.data = .set es q t) :
  (h.update a (Obj.putSet es' t')).get? a=some { o with data:=.set es' (q+1) t' }:=by
 have:=cu (Obj.putSet es' t') F (by rw[putSet_of es' t' B];rfl);rw[putSet_of es' t' B] at this;exact this
def zn2(T:Tb prog w t es xs)(ho:s.heap.get? a=some o)(hx:o.ExactSet)(hd:o.data = .set es ep t)(hw:SetTable.sizeAbove wanted=mask+1)(hm:zaL mask)(hl:xs.length * 5<mask * 3)(h:∀h' xs',Heap.SameBut a s.heap h'->zcu prog w h' a xs'->xs'.Perm xs->Q () { s with heap:=h' }):Ag prog w A (setRelay a wanted) Q E s:=by
 unfold setRelay;show aa (bw ho hd T.fits ?_);dsimp only;have:=hm.le;rw[if_neg (by rw[hw,br];lia)];obtain⟨t',order,xs',e,hsz,T',hp,hmk⟩:=T.laid hm (by lia) t.finger (t.movedTo mask);have e':t.relaid (es.map (·.1)) wanted=some (t',order):=by unfold SetTable.relaid;rw[hw,T.plain];exact e
 have core:∀ {R:Array (Int×Value)×SetTable->AZ->Prop},R (order.filterMap (es[·]?),t') s->Ag prog w A (do
   let some (t,order):=t.relaid (es.map (·.1)) wanted | unsupported "internal:set-table-without-room"
   let es':=order.filterMap (es[·]?)
   if es'.size != es.size then unsupported "internal:set-table-lost-an-element"
   pure (es',t)) R E s:=λ{R} hR=>by
  rw[e'];dsimp only;rw[hsz];simp only[bne_self_eq_false,aP,if_false]
  first | exact ae hR | exact aa (by grind)
 show aa (core ?_);show wpAny_storeSet_of ho hd ?_ (by rw[hsz,T.size,br];lia);show h _ xs' (bK _ a _) ⟨_,_,_,t',zdW ho hd,hx,rfl,T',?_⟩ hp;rw[hp.length_eq,hmk];exact hl
def Tb.out(T:Tb prog w t es xs)(Y:N<10 * SetTable.turns t.mask)(J:∀i:Nat,t.place[i]?≠some (wk t.mask ((tk prog w).hash k) N))(L:zfi t xs ((tk prog w).hash k) k N):k∉xs.map (·.1):=λz=>by
 obtain⟨q,O,B⟩:=aF.mp z;obtain⟨i,hi⟩:=List.mem_iff_getElem?.mp O;obtain⟨n,h1,h2,I⟩:=T.reach i q hi;rw[B] at h2 I;rcases cg N n with z | z | z;obtain⟨F,e⟩:=I N z;exact J F e;right;obtain⟨F,Z,U,e2,e3⟩:=L n z
 have:F=i:=by
  have a1:=zbs T.ris U;have a2:=zbs T.ris h2;right
 grind
def zsn{ns:AG}(hu:A.units<cLine)(S:zcu prog w s.heap a xs)(hk:(tk prog w).is s.heap (ns.map Sum.inl) b)(av:∀q∈xs,(tk prog w).is s.heap q.1 q.2)(hn:xs.length<300)(h:∀r h' n U,Heap.SameBut a s.heap h'->zcu prog w h' a U->((ns.map Sum.inl)∈xs.map (·.1)->U=xs)->((ns.map Sum.inl)∉xs.map (·.1)->U.Perm ((ns.map Sum.inl,b)::xs))->Q r { s with heap:=h',toks:=n }) :
  Ag prog w A (setAdd a (.ref b)) Q E s:=by
 obtain⟨o,es,ep,t,ho,hx,hd,T,B⟩:=S;unfold setAdd;show bq (aa ((tk prog w).pyHash hu hk ?_));unfold setAddHashed;show bq ?_;rw[show (100000:Nat)=99999+1 from rfl];unfold setAddHashedIn;show aa (bw (s:={ s with toks:=s.toks+(tk prog w).draws (ns.map Sum.inl) }) ho hd T.fits ?_);dsimp only;rw[show byScan (.ref b) es=false from rfl];simp only[aP,if_false];unfold setSearch;have hm:=T.msk.le;have a7:t.fill=xs.length:=by unfold SetTable.fill;rw[T.sz,T.dm];rfl
 show aa (zgi (s:={ s with toks:=s.toks+(tk prog w).draws (ns.map Sum.inl) }) hu T hk av ho hd ?found ?free 100000 0 none rfl (by unfold SetTable.turns;lia) (aG _) (λm hm=>absurd hm (cA _)))
 case found=>
  intro r i q hq a0 _;dsimp only;have ag:(ns.map Sum.inl)∈xs.map (·.1):=aF.mpr ⟨q,aA hq,a0⟩;exact ae (h false s.heap _ xs (Heap.SameBut.refl a s.heap) ⟨o,es,ep,t,ho,hx,hd,T,B⟩ (λ_=>rfl) (λz=>absurd ag z))
 case free=>
  intro N hN he hp;have Y:=T.out hN he hp;dsimp only;show aa (bw (s:={ s with toks:=s.toks+(tk prog w).draws (ns.map Sum.inl) }) ho hd T.fits ?_);dsimp only
  have al:wk t.mask ((tk prog w).hash (ns.map Sum.inl)) N<=t.mask:=by
   have:∀ (h:Int) (n:Nat),wk t.mask h n<=t.mask/\(stp t.mask h n).j+(stp t.mask h n).more<=t.mask:=by
    intro h n
    induction n with
    | zero=>
     have h0:SetTable.bits h % (t.mask+1)<=t.mask:=cB (eQ _ (eG _));obtain⟨r1,r2⟩:=zda h0;show⟨h0,?_⟩;change SetTable.bits h % (t.mask+1)+(SetTable.runEnd t.mask (SetTable.bits h % (t.mask+1)) - SetTable.bits h % (t.mask+1))<=t.mask;lia
    | succ n ih=>
     change ((tm t.mask).advance (stp t.mask h n)).j<=t.mask/\((tm t.mask).advance (stp t.mask h n)).j+((tm t.mask).advance (stp t.mask h n)).more<=t.mask;by_cases a1:0<(stp t.mask h n).more;rw[zhz _ _ a1];grind;rw[zea _ _ (by lia)];have h0:((stp t.mask h n).i * 5+1+(stp t.mask h n).perturb / 32) % (t.mask+1)<=t.mask:=cB (eQ _ (eG _));obtain⟨r1,r2⟩:=zda h0;grind
   exact (this _ _).1
  obtain⟨a2,T1,Z⟩:=T.put (b:=b) hN he hp Y (by lia) al;generalize an:t.put (wk t.mask ((tk prog w).hash (ns.map Sum.inl)) N)=tp at T1;obtain⟨J,p⟩:=tp;dsimp only at T1 ⊢
  have ap:J.mask=t.mask:=by
   have:J=(t.put (wk t.mask ((tk prog w).hash (ns.map Sum.inl)) N)).1:=by rw[an]
   rw[this];rfl
  rw[T1.plain];simp only[if_true];show aa (zca (s:={ s with toks:=s.toks+(tk prog w).draws (ns.map Sum.inl) }) hk ?_);simp only[if_true];have ad:=Z.length_eq;rw[aV] at ad;show aa (wpAny_storeSet_of (s:={ s with toks:=s.toks+(tk prog w).draws (ns.map Sum.inl) }) ho hd ?_ (by rw[T1.size,br];lia));have g1:=zdW (es':=SetTable.insertAt es p ((tk prog w).hash (ns.map Sum.inl),.ref b)) (t':=J) ho hd;have as:=bK s.heap a (Obj.putSet (SetTable.insertAt es p ((tk prog w).hash (ns.map Sum.inl),.ref b)) J);simp only[Bool.not_false,Bool.true_and];have L:J.fill=xs.length+1:=by unfold SetTable.fill;rw[T1.sz,T1.dm,ad];rfl
  by_cases O:J.tooFull=true
  ·rw[if_pos O];unfold SetTable.tooFull at O;rw[L,ap] at O;have I:=bW O;rw[T.size]
   have next:∃F,SetTable.sizeAbove (SetTable.grown (xs.length+1))=F+1/\zaL F/\(xs.length+1) * 5<F * 3:=by
    rcases T.msk with e | e | e | e;rw[e] at I B;have:xs.length=4:=by lia
    rw[this];exact⟨31,by ext,.inr (.inl rfl),by lia⟩;rw[e] at I B;have:xs.length=18:=by lia
    rw[this];exact⟨127,by ext,.inr (.inr (.inl rfl)),by lia⟩;rw[e] at I B;have:xs.length=76:=by lia
    rw[this];exact⟨511,by ext,.inr (.inr (.inr rfl)),by lia⟩;rw[e] at I B;lia
   obtain⟨F,m1,m2,m3⟩:=next;show aa (zn2 (s:={ s with heap:=s.heap.update a (Obj.putSet (SetTable.insertAt es p ((tk prog w).hash (ns.map Sum.inl),.ref b)) J),toks:=s.toks+(tk prog w).draws (ns.map Sum.inl) }) T1 g1 hx rfl m1 m2 (by rw[ad];exact m3) λh' a3 a4 S2 a5=>?_);exact ae (h true h' _ a3 (as.trans a4) S2 (λz=>absurd z Y) λ_=>a5.trans Z)
  rw[if_neg O];unfold SetTable.tooFull at O;rw[L,ap] at O;have I:¬ ((xs.length+1) * 5 ≥ t.mask * 3):=λz=>O (a6 z);show ae (h true _ _ a2 as ⟨_,_,_,J,g1,hx,rfl,T1,?_⟩ (λz=>absurd z Y) λ_=>Z);right
end
def z3:Slot "set_iterator" "__next__" "set_iterator.__next__" :=
 .of (owner := "set_iterator") (n := "__next__") (by rw[typeLookup_type,dD];kernel_rfl) (by decide +kernel) (by decide +kernel) (by decide +kernel)
  (by first | exact .inl (by decide +kernel) | exact .inr (by decide +kernel)) (by rw[isSubtype_type];kernel_rfl)
def uK:Slot "set_iterator" "__iter__" "set_iterator.__iter__" :=
 .of (owner := "set_iterator") (n := "__iter__") (by rw[typeLookup_type,dD];kernel_rfl) (by decide +kernel) (by decide +kernel) (by decide +kernel)
  (by first | exact .inl (by decide +kernel) | exact .inr (by decide +kernel)) (by rw[isSubtype_type];kernel_rfl)
def ui:entryFor table "set_iterator.__next__" = some Builtin.«set_iterator.__next__»:=entryFor_of_tree (by kernel_rfl)
def za1:entryFor table "set_iterator.__iter__" = some Builtin.«dict_keyiterator.__iter__»:=entryFor_alias (id' := "dict_keyiterator.__iter__") (by kernel_rfl) rfl (by decide +kernel) (by kernel_rfl)
def zdr:entryFor table "set.__iter__" = some Builtin.«frozenset.__iter__»:=entryFor_alias (id' := "frozenset.__iter__") (by kernel_rfl) rfl (by decide +kernel) (by kernel_rfl)
def ux (a:Value):argsOk "set_iterator.__next__" ⟨[a],[]⟩:=by unfold argsOk;kernel_rfl
def zbw (a:Value):argsOk "set_iterator.__iter__" ⟨[a],[]⟩:=by unfold argsOk;kernel_rfl
def zj9 {α:Type}(next:Nat->Nat):∀ (n k:Nat) (left:List α) (q:Array α),left.length=n->(pickOrder.go next n k left q).toList.Perm (q.toList++left)
 | 0,k,left,q,h=>by
  have:left=[]:=bi h;subst this;change q.toList.Perm (q.toList++[]);right
 | n+1,k,left,q,h=>by
  have B:next k % left.length<left.length:=eQ _ (by lia)
  change (match left[next k % left.length]? with
   | some x=>pickOrder.go next n (k+1) (left.eraseIdx (next k % left.length)) (q.push x)
   | none=>q).toList.Perm _
  rw[ah B];show (zj9 next n (k+1) _ _ (by grind)).trans ?_;rw[Array.toList_push,bL];show List.Perm.append_left _ ?_;have e:left=left.take (next k % left.length)++left[next k % left.length]::left.drop (next k % left.length+1):=by right
  rw[List.eraseIdx_eq_take_drop_succ];show List.Perm.trans ?_ (List.Perm.of_eq e.symm);rw[List.singleton_append];exact List.perm_middle.symm
def zgc {α:Type}(next:Nat->Nat)(xs:Array α):(pickOrder next xs).toList.Perm xs.toList:=by
 change (pickOrder.go next xs.size 0 xs.toList #[]).toList.Perm _;have:=zj9 next xs.size 0 xs.toList #[] (aY);grind
section
variable {prog:Aa}{w:Ab}{t:SetTable}{es:Array (Int×Value)}{xs:List (List Key×Addr)}{A:Ae}{E:AA}{s:AZ}
def zny (w:Ab)(a:Addr)(q:Nat)(es:Array (Int×Value)):Array (Int×Value):=if w.params.followText "set-order" then pickOrder (w.params.setOrder a q) es else es
def zgb (a:Addr)(q:Nat):(zny w a q es).toList.Perm es.toList:=by
 unfold zny;split;exact zgc _ _;right
def yI (h:Heap)(B a:Addr)(q i n F:Nat):Prop:=∃o,h.get? B=some o/\o.cls = .type "set_iterator" /\ o.data = .fields #[.int q 0,.int i 0,.ref a,.int n 0,.int F 0]
def yI.typeIs(x:yI s.heap B a q i n F):s.TypeIs (.ref B) "set_iterator" := let ⟨o,ho,hc,_⟩:=x;⟨o,ho,hc⟩
structure SetIs (prog:Aa)(w:Ab)(h:Heap)(a:Addr)(es:Array (Int×Value))(ep:Nat)(t:SetTable)(xs:List (List Key×Addr)):Prop where
 ob:∃o,h.get? a=some o/\o.ExactSet/\o.data = .set es ep t
 tb:Tb prog w t es xs
def zld{e:Int×Value}(hit:yI s.heap it a slot i es.size ep)(S:SetIs prog w s.heap a es ep t xs)(hs:w.params.followText "set-order" = true\/SetTable.below t.place slot=i)(hx:(zny w a ep es)[i]?=some e)(hQ:∀h' slot',yI h' it a slot' (i+1) es.size ep->(w.params.followText "set-order" = true\/SetTable.below t.place slot'=i+1)->Heap.SameBut it s.heap h'->Q (some e.2) { s with heap:=h' }):Ag prog w A (pyNext (.ref it)) Q E s:=by
 obtain⟨o,ho,hc,hd⟩:=id hit;obtain⟨⟨os,hos,_,hds⟩,T⟩:=S;have hf:=T.fits;unfold pyNext
 show aa (cR (wpAny_callSpecial?_slot (name:=Str.ofString "__next__") hit.typeIs z3
  (bf z3 hit.typeIs ui ?_ (ux _))))
 show aa (ae ?_);show aa (eM ho hd ?_);dsimp only;show aa (eh hos hds hf ?_);rw[if_neg (by simp)]
 have upd2:∀slot':Nat,∃h',yI h' it a slot' (i+1) es.size ep/\Heap.SameBut it s.heap h'/\∀ {A':Ae} {E':AA} {α:Type} {f:Sem α} {R:α->AZ->Prop},Ag prog w A' f R E' { s with heap:=h' }->Ag prog w A' (do setField (.ref it) 0 (rawInt slot');setField (.ref it) 1 (rawInt ((i:Int)+1));f) R E' s:=by
  intro slot';have h1:(s.heap.update it (Obj.mapFields (·.setIfInBounds 0 (rawInt slot')))).get? it=some (Obj.mapFields (·.setIfInBounds 0 (rawInt slot')) o):=cu _ ho (dE (cw hd _));have hd1:(Obj.mapFields (·.setIfInBounds 0 (rawInt slot')) o).data = .fields #[.int slot' 0,.int i 0,.ref a,.int es.size 0,.int ep 0]:=by rw[cw hd];simp[rawInt]
  show⟨(s.heap.update it (Obj.mapFields (·.setIfInBounds 0 (rawInt slot')))).update it (Obj.mapFields (·.setIfInBounds 1 (rawInt ((i:Int)+1)))),⟨_,cu _ h1 (dE (cw hd1 _)),?_,?_⟩,(bK ..).trans (bK ..),λ{A' E' α f R} hR=>?_⟩;rw[eS,eS];exact hc;rw[cw hd1];simp[rawInt];exact aa (cV ho hd (by simp) (aa (cV (s:={ s with heap:=s.heap.update it (Obj.mapFields (·.setIfInBounds 0 (rawInt slot'))) }) h1 hd1 (by simp) hR)))
 unfold setNext
 cases hb:w.params.followText "set-order" with
 | true=>
  have hx':(pickOrder (w.params.setOrder a ep) es)[i]?=some e:=by
   unfold zny at hx;right
  obtain⟨h',hi',sb',step⟩:=upd2 slot;show aa ?_;show aa (bw hos hds hf ?_);dsimp only;unfold setsByText;show aa (aa (bn (ae ?_)));rw[show (model prog w).w=w from rfl,hb];simp only[if_true];rw[if_neg (by simp)];unfold setWalk;show aa ?_;show aa (bw hos hds hf ?_);dsimp only;unfold setsByText;show aa (aa (bn (ae ?_)));rw[show (model prog w).w=w from rfl,hb];simp only[if_true];show aa (bn (ae ?_));show ae ?_;rw[show (model prog w).w=w from rfl];simp only[aT];rw[hx'];dsimp only[Option.map];exact step (ae ⟨_,rfl,ae (hQ h' slot hi' (.inl hb) sb')⟩)
 | false=>
  have hx':es[i]?=some e:=by
   unfold zny at hx;grind
  have hsl:SetTable.below t.place slot=i:=by grind
  have hi:i<es.size:=(cq.mp hx').1;have hpl:t.place[i]?=some (t.place.getD i 0):=zgP (by rw[T.sz,<- T.size];exact hi);obtain⟨h',hi',sb',step⟩:=upd2 (t.place.getD i 0+1);show aa ?_;show aa (bw hos hds hf ?_);dsimp only;unfold setsByText;show aa (aa (bn (ae ?_)));rw[show (model prog w).w=w from rfl,hb];simp only[aP,if_false];rw[if_neg (by change ¬ ((!t.plain&&decide (es.size > 1))=true);rw[T.plain];simp)];show aa ?_;change wpAny _ _ (if (!t.led&&!es.isEmpty)=true then unsupported "set:maker-not-led" else pure ()) _ _ s;rw[if_neg (by rw[T.led,hb];simp)];show ae ?_;simp only[aT];rw[hsl,hx',hpl];show ae ?_;dsimp only;show step (ae ⟨_,rfl,ae (hQ h' _ hi' (.inr ?_) sb')⟩);obtain⟨b1,b2,b3⟩:=uy T.ris (t.place.getD i 0+1);have hi2:=(ur hpl).1;rcases cg (SetTable.below t.place (t.place.getD i 0+1)) (i+1) with z | z | z;have:=b3 i (by lia) hi2;lia;exact z;have h1:=b2 (i+1) z;have h2:=T.ris i (i+1) (Nat.lt_succ_self i) (by lia);lia
def znt(hh:A.handled=none)(B:yI s.heap J a q es.size es.size L)(S:SetIs prog w s.heap a es L t xs)(hs:w.params.followText "set-order" = true\/SetTable.below t.place q=es.size)(hQ:∀h',Heap.ExtBut J s.heap h'->Q none { s with heap:=h' }):Ag prog w A (pyNext (.ref J)) Q E s:=by
 obtain⟨o,O,hc,U⟩:=id B;obtain⟨⟨os,F,_,I⟩,T⟩:=S;have Y:=T.fits;unfold pyNext
 show aa (cR (wpAny_callSpecial?_slot (name:=Str.ofString "__next__") B.typeIs z3
  (bf z3 B.typeIs ui ?_ (ux _))))
 show aa (ae ?_);show aa (eM O U ?_);dsimp only;show aa (eh F I Y ?_);rw[if_neg (by simp)];unfold setNext;show aa ?_;show aa (bw F I Y ?_);dsimp only;unfold setsByText;show aa (aa (bn (ae ?_)))
 cases hb:w.params.followText "set-order" with
 | true=>
  rw[show (model prog w).w=w from rfl,hb];simp only[if_true];rw[if_neg (by simp)];unfold setWalk;show aa ?_;show aa (bw F I Y ?_);dsimp only;unfold setsByText;show aa (aa (bn (ae ?_)));rw[show (model prog w).w=w from rfl,hb];simp only[if_true];show aa (bn (ae ?_));show ae ?_;rw[show (model prog w).w=w from rfl];simp only[aT];have hn:(pickOrder (w.params.setOrder a L) es)[es.size]?=none:=by rw[zb7];show List.getElem?_eq_none ?_;rw[(zgc _ es).length_eq,aY];exact af _
  rw[hn];dsimp only[Option.map];show aa (cV O U (by simp) ?_);show wpAny _ _ (newExc (.type "StopIteration") [] >>= _) _ _ _;show aa ?_;simp only[newExc,newTuple];show aa (bu ?_ (by size_fits));show aa (m:=firstArgMember _ _) (wpAny_of_eq (a:=Value.none) (by first | rfl | (simp only[firstArgMember];rfl)) ?_);show bu ?_ (by size_fits);simp only[raiseNew];show aa (wpAny_handled ?_);rw[show A.in1.handled=none from hh];show aa (ae (wpAny_throw ?_));show aa (cK (T := "StopIteration") (b:=true) ⟨_,aB _ rfl,rfl⟩ dv ?_);exact ae (hQ _ (((bK ..).extBut.push _).push _))
 | false=>
  have Z:SetTable.below t.place q=es.size:=by grind
  rw[show (model prog w).w=w from rfl,hb];simp only[aP,if_false];rw[if_neg (by change ¬ ((!t.plain&&decide (es.size > 1))=true);rw[T.plain];simp)];show aa ?_;change wpAny _ _ (if (!t.led&&!es.isEmpty)=true then unsupported "set:maker-not-led" else pure ()) _ _ s;rw[if_neg (by rw[T.led,hb];simp)];show ae ?_;simp only[aT];rw[Z,Array.getElem?_eq_none (af _)];show ae ?_;dsimp only;show aa (cV O U (by simp) ?_);show wpAny _ _ (newExc (.type "StopIteration") [] >>= _) _ _ _;show aa ?_;simp only[newExc,newTuple];show aa (bu ?_ (by size_fits));show aa (m:=firstArgMember _ _) (wpAny_of_eq (a:=Value.none) (by first | rfl | (simp only[firstArgMember];rfl)) ?_);show bu ?_ (by size_fits);simp only[raiseNew];show aa (wpAny_handled ?_);rw[show A.in1.handled=none from hh];show aa (ae (wpAny_throw ?_));show aa (cK (T := "StopIteration") (b:=true) ⟨_,aB _ rfl,rfl⟩ dv ?_);exact ae (hQ _ (((bK ..).extBut.push _).push _))
def zks(q:yI s.heap F a B i n I)(h:Q (.ref F) s):Ag prog w A (pyIter (.ref F)) Q E s:=by show eU q.typeIs uK (bf uK q.typeIs za1 ?_ (zbw _));change wpAny _ _ (ret (.ref F)) _ _ s;exact ae ⟨_,rfl,"set_iterator",_,q.typeIs,z3.lookup,h⟩
def SetIs.typeIs(S:SetIs prog w s.heap a es q t xs):s.TypeIs (.ref a) "set" := let ⟨o,ho,hc,_⟩:=S.ob;⟨o,ho,hc.1⟩
def zm4(S:SetIs prog w s.heap a es J t xs)(h:Q (.ref s.heap.objs.size) { s with heap:=s.heap.push { cls:=.type "set_iterator",data:=.fields #[.int 0 0,.int 0 0,.ref a,.int es.size 0,.int J 0] } }):Ag prog w A (pyIter (.ref a)) Q E s:=by
 have L:=S.typeIs;obtain⟨⟨O,q,U,B⟩,T⟩:=S;have I:=T.fits;show eU L F.slot_set_iter (bf F.slot_set_iter L zdr ?_ (F.args_set_iter_1 _));unfold Builtin.«frozenset.__iter__»;show aa (m:=Builtin.Frozenset.slot0 "__iter__" ⟨[.ref a],[]⟩) (ae ?_);show aa ?_;unfold Builtin.Frozenset.sizeOf;show aa (eh q B I (ae ?_));show aa ?_;unfold setDrawn;show aa (bw q B I ?_);dsimp only;unfold setsByText;show aa (aa (bn (ae ?_)));show ae ?_;rw[if_neg (by change ¬ ((!_&&(!t.plain&&decide (es.size > 1)))=true);rw[T.plain];simp)];show aa (ae ?_);show aa (wpAny_setEpoch_of q B I ?_);show aa (bu (ae ⟨_,rfl,"set_iterator",_,⟨_,aB _ rfl,rfl⟩,z3.lookup,?_⟩));simpa [rawInt] using h
def zn9(I:s.TypeIs (.ref r) "set")(h:Q false s):Ag prog w A (Builtin.List.listLengthHint (.ref r)) Q E s:=by
 unfold Builtin.List.listLengthHint;show aa (wpAny_specialOf I PySem.F.slot_set_len.lookup ?_);generalize B:("set.__len__" : String)=id0
 wp_delta
 rw[show splitId id0=some ("set","__len__") from by subst B;decide +kernel];subst B;show aa (cK (T := "set") (b:=true) I (by rw[isSubtype_type];kernel_rfl) ?_);show wpAny_ite_split (λq=>absurd q (by ext)) (λ_=>?_);show wpAny_ite_split (λ_=>?_) (λq=>absurd (by decide +kernel) q);show aa (cE I ?_);exact ae h
def SetIs.keep(S:SetIs prog w h a es q t xs)(k:∀o,h.get? a=some o->h'.get? a=some o):SetIs prog w h' a es q t xs:=let ⟨⟨o,ho,r⟩,T⟩:=S;⟨⟨o,k o ho,r⟩,T⟩
def yI.keep(S:yI h B a q i n F)(k:∀o,h.get? B=some o->h'.get? B=some o):yI h' B a q i n F:=let ⟨o,ho,r⟩:=S;⟨o,k o ho,r⟩
def SetIs.lt(S:SetIs prog w h a es q t xs):a<h.objs.size:=let ⟨⟨o,ho,_⟩,_⟩:=S;ay ho
def zl3 (hh:A.handled=none)(I a:Addr)(ad:a≠I)(J:Nat) :
  Walks prog w A I [I,a] [I] es.size (λi v=>∃e,(zny w a J es)[i]?=some e/\v=e.2) (λi h=>(∃q,yI h I a q i es.size J/\(w.params.followText "set-order" = true\/SetTable.below t.place q=i))/\SetIs prog w h a es J t xs) where
 sub:=λb L=>by simp at L;simp[L]
 frame:=λ_ _ _ st hk=>⟨let ⟨Z,x,y⟩:=st.1;⟨Z,x.keep λo e=>hk I (by simp) o e,y⟩,st.2.keep λo e=>hk a (by simp) o e⟩
 item:=λi s Q E hi st O=>by
  obtain⟨⟨Z,B,hs⟩,S⟩:=st
  have U:i<(zny w a J es).size:=by
   have:=(zgb (w:=w) (es:=es) a J).length_eq;grind
  show zld B S hs (e:=(zny w a J es)[i]) (bH U) λh' F Y ag sb=>?_;exact O _ h' s.toks ⟨_,bH U,rfl⟩ ⟨⟨F,Y,ag⟩,S.keep λo e=>(sb.2 a ad).trans e⟩ λb o L e=>sb.extBut b o (λh=>L (by simp[h])) e
 done:=λs Q E st O=>by obtain⟨⟨Z,B,hs⟩,S⟩:=st;exact znt hh B S hs λh' al=>O h' s.toks λb o L e=>al b o (λh=>L (by simp[h])) e
 self:=λ_ _ _ _ st O=>let ⟨Z,x,_⟩:=st.1;zks x O
def zrK (a:Addr)(q:Nat):KdlSrc prog w "set" a a es.size (λi v=>∃e,(zny w a q es)[i]?=some e/\v=e.2) (λh=>SetIs prog w h a es q t xs) where
 type:=λs S=>S.typeIs
 there:=λ_ S=>⟨S.lt,S.lt⟩
 keep:=λ_ _ S F=>S.keep λo e=>F a (.inl rfl) o e
 notList:=by ext
 notTuple:=by ext
 hint:=λ_ _ _ _ S B=>zn9 S.typeIs B
 iter:=λA s I S=>⟨_,_,(λ_ _ B=>zm4 S B),zl3 I _ a (aR S.lt) q,⟨⟨0,⟨_,aB _ rfl,rfl,rfl⟩,.inr ?_⟩,S.keep λo e=>ai _ e⟩⟩
where finally
 have b:=uy S.tb.ris 0;rcases Nat.eq_zero_or_pos (SetTable.below t.place 0) with z | z;exact z;exact absurd (b.2.1 0 z) (cA _)
end
def zfj (h:Heap)(L D:Addr)(v:Value)(st:AG):Prop:=∃ (a:Addr) (items:AN),v = .ref a/\IsTup h a items.toArray/\z9 (st.map V.int) items/\a≠L/\a≠D
def zfj.keep{st:AG}(r:zfj h L D v st)(q:∀b o,b≠L->b≠D->h.get? b=some o->h'.get? b=some o):zfj h' L D v st:=by obtain⟨a,items,e,⟨o,B,F⟩,I,h1,h2⟩:=r;exact⟨a,items,e,⟨o,q a o h1 h2 B,F⟩,I,h1,h2⟩
def zdM:∀ {vs:AN} {sts:AF},Paired (zfj h L D) vs sts->(∀st∈sts,1<=st.length)->∃fs,W.KatTups h vs fs/\fs.length=sts.length/\∀f∈fs,∃a t,f=Value.int a t
 | _,_,.nil,_=>⟨[],trivial,rfl,λ_ h=>by simp at h⟩
 | _,_,.cons (b:=st) r I,h1=>by
  obtain⟨a,items,rfl,⟨o,J,O,n,U⟩,q,_⟩:=r;obtain⟨fs,Y,f2,f3⟩:=zdM I λz Z=>h1 z (am _ Z);have B:=h1 st ak
  match st,q,B with
  | z::zs,q,_=>
   cases q with
   | cons q1 qq=>
    obtain⟨t,rfl⟩:=q1;show⟨_::fs,⟨⟨a,o,_,n,rfl,J,O,U,rfl⟩,Y⟩,by right,λf F=>?_⟩;rcases aJ.mp F with rfl | F
    all_goals right
def zbJ {α q:Type}{R:α->q->Prop}:∀ {l:List α} {l':List q},Paired R l l'->∀ {i:Nat} (d:α) (d':q),i<l'.length->R (l.getD i d) (l'.getD i d')
 | _,_,.nil,i,_,_,h=>by simp at h
 | _,_,.cons r _,0,_,_,_=>r
 | _,_,.cons _ t,i+1,d,d',h=>by have:=zbJ t (i:=i) d d' (by simpa using h);simpa using this
def zdT {α q:Type}{R:α->q->Prop}:∀ {l:List α} {l':List q},Paired R l l'->l.length=l'.length
 | _,_,.nil=>rfl
 | _,_,.cons _ t=>by rw[aV,aV,zdT t]
section
variable {prog:Aa}{w:Ab}{A:Ae}{E:AA}{s:AZ}
def znn{sts:AF}(ad:s.heap.Ns L m0)(ap:D≠L)(ho:s.heap.get? D=some (seqObj "list" vs.toArray n))(hv:Paired (zfj s.heap L D) vs sts)(bs:sts.length<64)(as:1<=m)(hm:∀st∈sts,st.length=m)(av:sts.Nodup)(h:∀h' c p,List.Perm p (List.range sts.length)->((p.map λi=>sts.getD i []).Pairwise λa b=>HT.lexLt a b=true)->(∀b o,b≠L->b≠D->s.heap.get? b=some o->h'.get? b=some o)->h'.Ns L m0->
   h'.get? D=some (seqObj "list" (p.map λi=>vs.getD i .none).toArray c)->Q .none { s with heap:=h' }) :
  Ag prog w A (call (.builtin "list.sort") [.ref D]) Q E s:=by
 have a0:=zdT hv;by_cases h2:2<=sts.length
 ·have B:∀p∈(zbp s.heap L).filter (λq=>decide (q.1≠D)),s.heap.get? p.1=some p.2/\p.1≠L/\p.1≠D:=λp Z=>by
   have h1:=aN.mp Z;have h2:=zY.mp (show (p.1,p.2)∈zbp s.heap L from h1.1);right
  have J:∀b,(⟨#[],{}⟩:Heap).get? b=none:=λb=>by
   cases e:(⟨#[],{}⟩:Heap).get? b with
   | none=>rfl
   | some o'=>
    have:=ay e;simp at this
  show W.kat_lsort (h₀:=(⟨#[],{}⟩:Heap)) (L:=L) (m:=m0) (D:=D) (its:=vs.toArray) (n:=n) (news:=(D,seqObj "list" vs.toArray n)::(zbp s.heap L).filter (λq=>decide (q.1≠D))) (g:=λo=>(D,o)::(zbp s.heap L).filter (λq=>decide (q.1≠D))) ⟨ad,λb o e=>?_,aG _⟩ (λp Z=>?_) (W.UpdF.head λq hq=>(B q hq).2.2) (vs:=vs) rfl (by lia) (by lia) λe1 h' F N=>?_;right;rcases aJ.mp Z with rfl | Z;right;exact⟨(B p Z).1,(B p Z).2.1,J _⟩
  ·have kp:∀b o,b≠L->b≠D->s.heap.get? b=some o->h'.get? b=some o:=λb o hb hD e=>(N (b,o) (am _ (aN.mpr ⟨zY.mpr ⟨hb,e⟩,a6 hD⟩))).1;have O:Paired (zfj h' L D) vs sts:=Paired.mapP hv λv st r=>r.keep kp;obtain⟨fs,k1,k2,k3⟩:=zdM O λst a3=>by rw[hm st a3];exact as
   show W.kat_kind (T:=.type "int") (s:={ s with heap:=h' }) k1 (by lia) (λf hf=>?_) (by ext) ?_;obtain⟨a,t,rfl⟩:=k3 f hf;intro A' Q' E' s' _ hq;exact cE (fm s' a t) hq
   ·have hu:zcv sts.length (zcT sts):=λi j hi I e=>by
     have e1:=xE hm hi I;have e2:=xE hm I hi;rw[e,aU (eX _)] at e1;rw[e,aU (eX _)] at e2;have gi:sts.getD i []=sts[i]:=by simp[hi]
     have gj:sts.getD j []=sts[j]:=by simp[I]
     rcases zam (a:=sts.getD i []) (b:=sts.getD j []) (by right) with h | h | h;rw[gi,gj] at h;exact (bI av).mp h
     all_goals grind
    obtain⟨p,ag,U⟩:=zik hu h2;rw[show vs.length=sts.length by lia];show ag.wp (S:=λs'=>s'={ s with heap:=h' }) (λi j C s' hi I Y hC=>?_) (λs' Y=>?_) _ rfl;subst Y;obtain⟨a1,a4,b1,c1,d1,_⟩:=zbJ O .none [] hi;obtain⟨a2,a5,b2,c2,d2,_⟩:=zbJ O .none [] I;obtain⟨o1,a7,_,n1,a8⟩:=c1;obtain⟨o2,bb,_,n2,bd⟩:=c2;change wpAny _ _ (keyLt' _ (vs.getD i .none) (vs.getD j .none)) C _ _;rw[b1,b2];have gi:(sts.getD i []).length=m:=by right
    have gj:(sts.getD j []).length=m:=by right
    have l1:=d1.length;have l2:=d2.length;rw[ab] at l1 l2;show W.kat_lt (s:={ s with heap:=h' }) a7 a8 bb bd ?_;rw[show decide (a4.toArray.size<a5.toArray.size)=false from aU (by simp;lia)];show zeu 0 d1 d2 (by rw[gi,gj]) ?_;have:=hC { s with heap:=h' } rfl;rw[show zgv (zcT sts) i j=HT.lexLt (sts.getD i []) (sts.getD j []) from xE hm hi I] at this;exact this;subst Y;have al:p.toList.Perm (List.range sts.length):=by have:=U.perm.toList;simpa using this
    have an:∀i∈p.toList,i<sts.length:=λi hi=>aX.mp ((al.mem_iff).mp hi);show W.KasFin.intro F N (W.UpdF.head λq' bk=>(B q' bk).2.2) λbl c F'' N''=>?_;show h bl c p.toList al ?_ (λb o hb hD e=>(N'' (b,o) (am _ (aN.mpr ⟨zY.mpr ⟨hb,e⟩,a6 hD⟩))).1) F''.ns (N'' (D,_) ak).1;have bx:p.size=sts.length:=uG U.perm;rw[bY];intro i j hi I bo;rw[ab,aY] at hi I;have hk:=U.lt_of bo (by lia);rw[cJ,cJ,cT,cT];have e1:p.getD i 0=p[i]:=by simp[hi]
    have e2:p.getD j 0=p[j]:=by simp[I]
    unfold key at hk;rw[e1,e2] at hk;rw[<- xE hm (an _ (by simp)) (an _ (by simp))];right
 show bf slot_list_sort ⟨_,ho,rfl⟩ entry_list_sort ?_ (args_list_sort _);show zay ho (by lia) λh' c kp hD=>⟨_,rfl,?_⟩;show h h' c (List.range sts.length) (List.Perm.refl _) ?_ (λb o _ hb e=>kp b o hb e) ?_ ?_;grind;obtain⟨o,es,ep,g,k⟩:=ad;exact⟨o,es,ep,kp _ _ (Ne.symm ap) g,k⟩;rw[<- a0,zbK];exact hD
end
def zbX {α L:Type}{f:α->L}{l m:List L}(h:l.Perm m):∀ {xs:List α},m=xs.map f->∃q:List α,q.Perm xs/\l=q.map f:=by
 induction h with
 | nil=>
  right
 | cons x _ O=>
  intro xs e
  cases xs with
  | nil=>cases e
  | cons y ys=>
   rw[ax] at e;injection e with U F;obtain⟨q,h1,h2⟩:=O F;exact⟨y::q,h1.cons y,by right⟩
 | swap x y l=>
  intro xs e
  match xs,e with
  | [],e=>cases e
  | [_],e=>cases e
  | a::b::r,e=>
   rw[ax,ax] at e;injection e with U F;injection F with F e3;exact⟨b::a::r,.swap _ _ _,by grind⟩
 | trans _ _ I J=>
  intro xs e;obtain⟨q,h1,h2⟩:=J e;obtain⟨B,Y,Z⟩:=I h2;exact⟨B,Y.trans h1,Z⟩
def zgx (P:Aa)(w:Ab)(a:Addr)(xs:List (List Key×Addr)):HO:=.ext λh=>zcu P w h a xs
def zad (xs:AE):List (List Key×Addr):=xs.map λq=>(q.1.map Sum.inl,q.2)
def zhn(S:zcu P w h a xs):yn P w H h a (zgx P w a xs):=by
 show⟨S,?_,λh1 h2 q k=>?_⟩;obtain⟨o,_,_,_,B,_⟩:=S;exact⟨o,B⟩;obtain⟨o,es,F,t,B,r⟩:=q;exact⟨o,es,F,t,k o B,r⟩
def zry(h:(⟨Array.replicate (n+1) o,{}⟩:Heap).get? d=some u):u=o:=by
 unfold Heap.get? at h;simp only[Array.getElem?_replicate] at h;split at h;cases h;split at h;exact (bz h).symm;cases h
def zrJ(F:∃h:Heap,h.get? d=some ob):(λh=>zcu P w h a xs)≠λh=>h.get? d=some ob:=λe=>by
 obtain⟨B,I⟩:=F;have h1:zcu P w B a xs:=by rw[show zcu P w B a xs=_ from congrFun e B];exact I
 obtain⟨o,es,O,t,U,J,Y,T,L⟩:=h1;have k:∀q:Nat,({ o with data:=.set es q t }:Obj)=ob:=λq=>by have h2:zcu P w (⟨Array.replicate (a+1) { o with data:=.set es q t },{}⟩:Heap) a xs:=⟨{ o with data:=.set es q t },es,q,t,by simp[Heap.get?],J,rfl,T,L⟩;rw[show zcu P w _ a xs=_ from congrFun e _] at h2;exact (zry h2).symm
 have:=congrArg Obj.data ((k 0).trans (k 1).symm);cases this
def zh4:∀kvs,pnK (zgx P w a xs)=some kvs->zaI kvs (Sum.inr "at" : Key)=none:=λkvs e=>by
 unfold zgx pnK at e;dsimp only at e;rw[if_neg] at e;cases e;rintro⟨d,ob,q,z⟩;exact zrJ q z
def zdF (P:Aa)(w:Ab)(H:Hp)(a:Addr)(ks:AF):Prop:=∃xs:AE,H a=some (zgx P w a (zad xs))/\(∀q∈xs,H q.2=some (.tup (q.1.map V.int)))/\ks=xs.map (·.1)/\ks.Nodup
def zdF.stay{ks:AF}(S:zdF P w H a ks)(h:zu H H'):zdF P w H' a ks:=by obtain⟨xs,h1,h2,B,F⟩:=S;exact⟨xs,h _ _ h1 zh4,λq I=>h.tup (h2 q I),B,F⟩
def zcO:∀ns:AG,(ns.map Sum.inl).map kV=ns.map V.int
 | []=>rfl
 | n::ns=>by rw[ax,ax,ax,zcO ns];rfl
section
variable {X:Cx}
def zkF{pins:AB}{σ:St}{H:Hp}{s:AZ}(I:Inv X pins σ H s){ns:AG}(h:H b=some (.tup (ns.map V.int))):(tk X.prog X.w).is s.heap (ns.map Sum.inl) b:=by
 obtain⟨its,B,⟨o,F,J,n,L⟩,_⟩:=I.tuple (.of h);show⟨o,its.toArray,n,F,J,L,?_⟩
 have q:∀ {ns:AG} {its:AN},z9 (ns.map V.int) its->ItemsAre (zR X.prog X.w) (ns.map Sum.inl) its:=by
  intro ns
  induction ns with
  | nil=>intro its r;cases r;exact .nil
  | cons n ns O=>
   intro its r
   cases r with
   | cons U Y=>
    obtain⟨t,rfl⟩:=U;exact .cons (zfP n t) (O Y)
 exact q B
def zlO (P:Aa)(w:Ab):AT->Hp->VK->Prop:=λxs H Q=>∃ (a:Addr) (ks:AF) (m:Nat),xs=[.ref a]/\zdF P w H a ks/\ks.length<64/\1<=m/\(∀st∈ks,st.length=m)/\
 ∀ (ys:AT) (q:AF),IsL H (q.map stD) ys->q.Perm ks->(q.Pairwise λa b=>HT.lexLt a b=true)->New H (.lst ys) Q
def zhU:∀ {xs:AE},(∀q∈xs,H q.2=some (.tup (q.1.map V.int)))->IsL H ((xs.map (·.1)).map stD) (xs.map λq=>V.ref q.2)
 | [],_=>rfl
 | q::xs,h=>⟨_,_,rfl,⟨q.2,_,rfl,h q ak,IsL.ints⟩,zhU λr B=>h r (am _ B)⟩
def zgt:∀ (xs:AE),z9 (xs.map λq=>V.ref q.2) (xs.map λq=>Value.ref q.2)
 | []=>.nil
 | q::xs=>.cons rfl (zgt xs)
def zhH (hc:X.calm=true):CallQ X (.builtin "sorted") (zlO X.prog X.w):=⟨by
 intro pins s σ H xs us Q I r h;obtain⟨a,ks,m,rfl,⟨xs,hH,a5,rfl,a7⟩,a8,bb,hm,q⟩:=h;obtain⟨u,rfl,ru⟩:=zaf r;cases ru;obtain⟨⟨o,es,ep,t,ho,hx,hd,T,_⟩,_⟩:=(show yn X.prog X.w H s.heap a (zgx X.prog X.w a (zad xs)) from I.hok a _ hH);have S:SetIs X.prog X.w s.heap a es ep t (zad xs):=⟨⟨o,ho,hx,hd⟩,T⟩;obtain⟨m0,an,_⟩:=id I.loc;have hsz:es.size=xs.length:=by rw[T.size];unfold zad;rw[ab]
 rw[ab] at a8
 have bd:∀b,(⟨#[],{}⟩:Heap).get? b=none:=λb=>by
  cases e:(⟨#[],{}⟩:Heap).get? b with
  | none=>rfl
  | some o'=>
   have:=ay e;simp at this
 have ap:=zgb (w:=X.w) (es:=es) a ep;have bk:es.toList=xs.map λq=>((tk X.prog X.w).hash (q.1.map Sum.inl),Value.ref q.2):=by rw[T.eq];unfold zad;rw[ao];rfl
 rw[bk] at ap;obtain⟨B,O,bl⟩:=zbX ap rfl;show kdu_sorted (h₀:=(⟨#[],{}⟩:Heap)) (L:=X.env.locals) (m:=m0) (news:=zbp s.heap X.env.locals) (zrK (t:=t) (xs:=zad xs) a ep) (I.ok.hd hc) ⟨an,λb o e=>(by right),aG _⟩ (λp hp=>?_) S (by rw[hsz,br];lia) λD h' as vs F N bo hl hP=>?_;obtain⟨b,o⟩:=p;have:=zY.mp hp;right
 have bs:vs=B.map λq=>Value.ref q.2:=by
  have cd:=O.length_eq;show cY (by right) λj h1 h2=>?_;obtain⟨e,he,hv⟩:=hP j vs[j] (ah h1);rw[zb7,bl,aq] at he;rw[ab] at h2;rw[ah h2] at he;rw[hv,cJ,<- bz he]
 have kp:∀b o,b≠X.env.locals->s.heap.get? b=some o->h'.get? b=some o:=λb o hb e=>(N (b,o) (am _ (zY.mpr ⟨hb,e⟩))).1;have av:D≠X.env.locals:=(N (D,_) ak).2.1
 have bx:s.heap.get? D=none:=by
  cases e:s.heap.get? D with
  | none=>rfl
  | some o=>exact absurd (bo (D,o) (zY.mpr ⟨av,e⟩)) (bO _)
 have Y:H D=none:=by
  cases e:H D with
  | none=>rfl
  | some o=>
   obtain⟨o',a0⟩:=zbh (I.hok D o e);grind
 have U:∀q∈B,H q.2=some (.tup (q.1.map V.int)):=λq Z=>a5 q ((O.mem_iff).mp Z)
 have a1:Paired (zfj h' X.env.locals D) vs (B.map (·.1)):=by
  rw[bs]
  have b0:∀ (l:AE),(∀q∈l,H q.2=some (.tup (q.1.map V.int)))->Paired (zfj h' X.env.locals D) (l.map λq=>Value.ref q.2) (l.map (·.1)):=by
   intro l
   induction l with
   | nil=>intro _;exact .nil
   | cons q l ih=>
    intro hl;have Z:=hl q ak;obtain⟨items,rv,⟨o',a0,b1⟩,_⟩:=I.tuple (.of Z);have a2:=zc Z I.free;exact .cons ⟨q.2,items,rfl,⟨o',kp _ _ a2 a0,b1⟩,rv,a2,zc Z Y⟩ (ih λr hr=>hl r (am _ hr))
  exact b0 B U
 have ad:=O.map (·.1);show znn (s:={ s with heap:=h',toks:=as }) F.ns av (N (D,_) ak).1 a1 (by right) bb (λst b2=>hm st ((ad.mem_iff).mp b2)) (ad.nodup_iff.mpr a7) λch c p hp a3 b3 b4 a4=>?_;have ca:∀i∈p,i<B.length:=λi hi=>by have:=aX.mp ((hp.mem_iff).mp hi);rwa[ab] at this
 have J:(p.map λi=>(B.map (·.1)).getD i [])=(p.map λi=>B.getD i ([],0)).map (·.1):=by right
 have ag:(p.map λi=>vs.getD i .none)=(p.map λi=>B.getD i ([],0)).map λq=>Value.ref q.2:=by right
 have cc:∀q∈(p.map λi=>B.getD i ([],0)),H q.2=some (.tup (q.1.map V.int)):=λq Z=>by
  obtain⟨i,hi,rfl⟩:=aF.mp Z;have h1:=ca i hi;have:B.getD i ([],0)=B[i]:=by simp[h1]
  rw[this];exact U _ (b6 h1)
 rw[ag] at a4;rw[J] at a3;have al:p.length=xs.length:=by rw[hp.length_eq,aw,ab,O.length_eq]
 have I':=zep I an (ys:=(p.map λi=>B.getD i ([],0)).map λq=>V.ref q.2) (λb o hb e=>b3 b o hb (by grind) (kp b o hb e)) b4 bx Y a4 (zgt _) (by rw[ab,ab,al,br];lia) as;show⟨.ref D,_,I',rfl,(q _ ((p.map λi=>B.getD i ([],0)).map (·.1)) (zhU cc) ?_ a3).at Y⟩;show List.Perm.trans ?_ ad;rw[<- J];have:=hp.map λi=>(B.map (·.1)).getD i [];rwa[zbK] at this⟩
end
def zfr (elt target iter:Expr)(ifs:AO)(scope:Scope)(pos:Pos)(it acc:Value)(env:Env) :
  compTurn (.SetComp elt [⟨target,iter,ifs,0⟩] scope pos) 0 it acc env=(do
   standAt iter.pos
   match <- pyNext it with
   | none=>pure (.done .next)
   | some v=>
    letOwnedTupleGo target it v
    assign target env v
    let mut ok:=true
    for c in ifs do
     if ok then ok <- isTrue c env (eval c env)
    if ok then
     (do let v <- eval elt env;standAt elt.pos;let _ <- call (.builtin "set.add") [acc,v])
    again (.compLoop (.SetComp elt [⟨target,iter,ifs,0⟩] scope pos) 0 it acc env)):=by rfl
section
variable {prog:Aa}{w:Ab}{A:Ae}{E:AA}{R:Result->AZ->Prop}{s:AZ}
def zai {elt target iter ifs z4 scope pos it acc env}
  (h0:codeAny (model prog w) A (.compLoop (.SetComp elt (⟨target,iter,ifs,0⟩::z4) scope pos) 0 it acc env) R s)
  (h:Ag prog w A (pyIter it) (λit' s'=>codeAny (model prog w) A (.compLoop (.SetComp elt (⟨target,iter,ifs,0⟩::z4) scope pos) 0 it' acc env) R s')
   (notedBy (model prog w) A env λx s'=>R (.error x) s') s) :
  codeAny (model prog w) A (.compStart (.SetComp elt (⟨target,iter,ifs,0⟩::z4) scope pos) 0 it acc env) R s:=by
 show dh ?_;change wpAny _ _ ((compStart (.SetComp elt (⟨target,iter,ifs,0⟩::z4) scope pos) 0 it acc env).onRaise (λx=>do noteFrame x env;standAt theWindowsPlace)) _ _ s;show wpAny_notedAt ?_;unfold compStart;change wpAny _ _ (ask >>= _) _ _ s;show aa (bn (wpAny_ite ?_));split
 first
  | exact aa (by grind)
  | exact ae (And.intro rfl h0)
 first
  | exact aa (by grind)
  | (show aa (fq ?_);change wpAny _ _ (standAt iter.pos >>= _) _ _ s;exact aa (bJ (aa (aW h (λit' s' h'=>ae (And.intro rfl h')) λ_ _ x=>x))))
def zb9(I:Nat->AZ->Prop)(turn:∀n s,I n s->Ag prog w A (pyNext it) (λr s₁=>match r with
   | none=>R (.ok .next) s₁
   | some v=>Ag prog w A (letOwnedTupleGo target it v) (λ_ s₂=>Ag prog w A (assign target env v) (λ_ s₃=>
     Ag prog w A (forIn ifs true λc r=>if r=true then do let ok <- isTrue c env (eval c env);pure (ForInStep.yield ok) else pure (ForInStep.yield r)) (λok s₄=>
      if ok=true then Ag prog w A (eval elt env) (λx s₅=>
       Ag prog w A (call (.builtin "set.add") [acc,x]) (λ_ s₆=>∃m,m<n/\I m s₆) (λ_ _=>False) s₅) (λ_ _=>False) s₄
      else ∃m,m<n/\I m s₄) (λ_ _=>False) s₃) (λ_ _=>False) s₂) (λ_ _=>False) s₁) (λ_ _=>False) s)(n:Nat)(h:I n s) :
  codeAny (model prog w) A (.compLoop (.SetComp elt [⟨target,iter,ifs,0⟩] scope pos) 0 it acc env) R s:=by
 show eC rfl I (λn s hI=>?_) n h;change wpAny _ A ((compTurn (.SetComp elt [⟨target,iter,ifs,0⟩] scope pos) 0 it acc env).onRaise (λx=>do noteFrame x env;theTreesLotGoes x)) _ _ s;show eW ?_;rw[zfr];show aa (bJ (aa (aW (turn n s hI) (λr s₁ h₁=>?_) λ_ _ h'=>h'.elim)))
 cases r with
 | none=>exact ae h₁
 | some v=>
  show aa (aW h₁ (λ_ s₂ h₂=>?_) λ_ _ h'=>h'.elim);show aa (aW h₂ (λ_ s₃ h₃=>aa (aW h₃ (λok s₄ h₄=>?_) λ_ _ h'=>h'.elim)) λ_ _ h'=>h'.elim)
  cases ok with
  | false=>exact ae ⟨rfl,h₄⟩
  | true=>
   exact aa (aa (aW h₄ (λx s₅ h₅=>aa (bJ (aa (aW h₅ (λ_ s₆ h₆=>ae (ae ⟨rfl,h₆⟩)) λ_ _ h'=>h'.elim)))) λ_ _ h'=>h'.elim))
def zlc(h:Q (.ref s.heap.objs.size) { s with heap:=s.heap.push { cls:=.type "set",dict:=none,data:=.set #[] 0 (.fresh 0 0 (!w.params.followText "set-order")) } }):Ag prog w A (newSet (.type "set")) Q E s:=by unfold newSet setsByText;show aa (aa (bn (ae ?_)));dsimp only;simp only[newObj];exact aa (eZ (ae h))
def zgj (h:Heap):zcu prog w (h.push { cls:=.type "set",dict:=none,data:=.set #[] 0 (.fresh 0 0 (!w.params.followText "set-order")) }) h.objs.size []:=by
 show⟨_,#[],0,_,aB _ rfl,⟨rfl,rfl,rfl⟩,rfl,⟨rfl,eK,rfl,λi j _ B=>?_,λi j e=>?_,rfl,.inl rfl,aG _,rfl,rfl,λi q e=>?_⟩,by change 0 * 5<7 * 3;decide⟩;exact absurd B (cA _);simp[SetTable.fresh] at e;simp at e
end
def uT:∀ {ns q:AG},ns.map (Sum.inl:Int->Key)=q.map Sum.inl->ns=q
 | [],[],_=>rfl
 | [],_::_,e=>by cases e
 | _::_,[],e=>by cases e
 | n::ns,m::q,e=>by rw[ax,ax] at e;injection e with B F;rw[Sum.inl.inj B,uT F]
section
variable {X:Cx}
def zd4 {pins:AB}{σ:St}{H:Hp}{s:AZ}{acc b:Addr}{ns:AG}{ks:AF}{Q:AA}(hu:X.A.units+1<cLine)(I:Inv X pins σ H s)(S:zdF X.prog X.w H acc ks)(hb:H b=some (.tup (ns.map V.int)))(hn:ks.length<300)
  (h:∀o ks' s',zdF X.prog X.w (upd H acc o) acc ks'->(∀x,x∈ks'↔x=ns\/x∈ks)->ks'.length<=ks.length+1->Inv X pins σ (upd H acc o) s'->Q .none s') :
  Af X (call (.builtin "set.add") [.ref acc,.ref b]) Q X.xe s:=by
 obtain⟨xs,hH,hel,rfl,hnd⟩:=S;have hS:=(show yn X.prog X.w H s.heap acc (zgx X.prog X.w acc (zad xs)) from I.hok acc _ hH).1;obtain⟨o,es,ep,t,ho,hx,hd,T,hroom⟩:=id hS;show bf F.slot_set_add ⟨o,ho,hx.1⟩ F.entry_set_add ?_ (F.args_set_add_2 _ _);unfold Builtin.«set.add»;show aa (m:=Builtin.Frozenset.oneOther "add" ⟨[.ref acc,.ref b],[]⟩) (ae ?_);have hba:b≠acc:=zlb hb hH (by intro z;cases z);have hea:∀q∈xs,q.2≠acc:=λq hq=>zlb (hel q hq) hH (by intro z;cases z);rw[ab] at hn;show aa (zsn (A:=X.A.in1) (xs:=zad xs) (ns:=ns) (aO (af _) hu) hS (zkF I hb) (λq hq=>?_) (by unfold zad;rw[ab];exact hn) λr h' n xs' sb S' hin hout=>?_);unfold zad at hq;obtain⟨q',hq',rfl⟩:=aF.mp hq;exact zkF I (hel q' hq')
 ·
  have mem_key:∀ {l:AE},(ns.map Sum.inl)∈(zad l).map (·.1)↔ns∈l.map (·.1):=by
   intro l;unfold zad;rw[ao,aF,aF];constructor;rintro⟨q,hq,e⟩;show⟨q,hq,?_⟩;have e':q.1.map (Sum.inl:Int->Key)=ns.map Sum.inl:=e;exact uT e';rintro⟨q,hq,rfl⟩;exact⟨q,hq,rfl⟩
  have fin:∀xs2:AE,xs'=zad xs2->(∀q∈xs2,q∈xs\/q=(ns,b))->(∀x,x∈xs2.map (·.1)↔x=ns\/x∈xs.map (·.1))->(xs2.map (·.1)).Nodup->xs2.length<=xs.length+1->wpAny (model X.prog X.w) X.A.in1 (do ret .none) (λfin s'=>∃v,fin = .done (.ret v)/\Q v s') X.xe { s with heap:=h',toks:=n }:=by
   rintro xs2 rfl hsub hmem hnd2 hlen
   have hel2:∀q∈xs2,H q.2=some (.tup (q.1.map V.int)):=λq hq=>by
    rcases hsub q hq with z | z;exact hel q z;rw[z];exact hb
   have hea2:∀q∈xs2,q.2≠acc:=λq hq=>zlb (hel2 q hq) hH (by intro z;cases z);show ae ⟨.none,rfl,h (zgx X.prog X.w acc (zad xs2)) (xs2.map (·.1)) _ ⟨xs2,zj,λq hq=>by rw[zf (hea2 q hq)];exact hel2 q hq,rfl,hnd2⟩ hmem (by right) ?_⟩;show I.write (e:=acc) (by rw[hH];trivial) (.inl rfl) (λc u hc q=>sb.extBut c u hc q) ?_ (zhn S');obtain⟨o',_,_,_,ho',_⟩:=S';exact⟨o',ho'⟩
  by_cases hm:ns∈xs.map (·.1);have:=hin (mem_key.mpr hm);show fin xs this (λq hq=>.inl hq) (λx=>⟨.inr,λz=>z.elim (λe=>e ▸ hm) id⟩) hnd (dX _);have hp:=hout λz=>hm (mem_key.mp z);have hk:((ns.map Sum.inl,b)::zad xs)=zad ((ns,b)::xs):=rfl;rw[hk] at hp;obtain⟨xs2,hp2,e2⟩:=zbX hp rfl;show fin xs2 e2 (λq hq=>?_) (λx=>?_) ?_ ?_;grind;rw[(hp2.map (·.1)).mem_iff,ax,aJ];rw[(hp2.map (·.1)).nodup_iff,ax,cj];exact⟨hm,hnd⟩;rw[hp2.length_eq,aV];exact af _
end
def zfx(elt gens scope pos):eval (.SetComp elt gens scope pos) env=comprehension (.SetComp elt gens scope pos) scope env (firstIterPos gens pos) (newSet (.type "set")) (firstAsync gens) (firstIter gens env):=rfl
def setT (P:Aa)(w:Ab)(g:TG)(ti:TT)(te:TE)(acc:Addr)(N:St->Hp->Prop)(x:V)(σ:St)(H:Hp):Prop:=
 g x σ H λq H3=>ti q H3 λF H4=>if F=true then te q H4 λv H5=>∃b ns ks,v = .ref b/\H5 b=some (.tup (ns.map V.int))/\zdF P w H5 acc ks/\ks.length<300/\
  (∀o B,zdF P w (upd H5 acc o) acc B->(∀x,x∈B↔x=ns\/x∈ks)->B.length<=ks.length+1->N q (upd H5 acc o)) else N q H4
def setG (P:Aa)(w:Ab)(J:It)(g:TG)(ti:TT)(te:TE)(acc:Addr)(Q:VK)(σ:St)(H:Hp):Prop:=∃W:Nat->Nat->St->Hp->Prop,(∃m,W 0 m σ H)/\
 ∀i m q H',W i m q H'->(J.stop i H'/\Q (.ref acc) H')\/(J.go i H'/\∃N:St->Hp->Prop,(∀ B H2,N B H2->∃F,F<m/\W (i+1) F B H2)/\∀x H2,J.yld i H' x H2->setT P w g ti te acc N x q H2)
def zrU (P:Aa)(w:Ab)(wi:TI)(g:TG)(ti:TT)(te:TE)(cix:List (Option Nat)):TE:=λσ H Q=>wi σ H λJ H1=>∀acc,H1 acc=none->zdF P w (upd H1 acc (zgx P w acc [])) acc []->setG P w J g ti te acc Q (u4 σ cix) (upd H1 acc (zgx P w acc []))
section
variable {X:Cx}{Fam:Cx->Prop}{scope:Scope}{N:AM}{cix:List (Option Nat)}{z:Str}{use:Option (Value->Sem Unit)}{Qp:AA}{elt ke ve tg iter tg2 iter2:Expr}{ifs ifs2:AO}{pos ipos spos px:Pos}{wi wi2:TI}{g g2:TG}{ti ti2:TT}{te tk tv:TE}{pins:AB}{σ:St}{H:Hp}{s:AZ}{Q:VK}{o0:HO}
def zn8 (hu:X.A.units+1<cLine)(O:Opn X scope cix Fam)(hc:X.calm=true)(hi:PI X tg iter wi)(hg:∀X',Fam X'->PG X' tg g)(ht:∀X',Fam X'->PTs X' ifs ti)(he:∀X',Fam X'->PE X' elt te)(hs:∀x,foldedSetIterable iter X.env x=pure x)(I:Inv X pins σ H s)
  (h:zrU X.prog X.w wi g ti te cix σ H Q) (L:zvR X pins σ use Qp Q) :
  Af X (comprehension (.SetComp elt [⟨tg,iter,ifs,0⟩] scope pos) scope X.env ipos (newSet (.type "set")) false (eval iter X.env) use) Qp X.xe s:=
 za0 (ob:={ cls:=.type "set",dict:=none,data:=.set #[] 0 (.fresh 0 0 (!X.w.params.followText "set-order")) }) (o0:=λa=>zgx X.prog X.w a []) (Fin:=λacc H=>Q (.ref acc) H) (B:=λX' acc P s=>wpAny (model X'.prog X'.w) X'.A (eval elt X'.env) (λx s5=>wpAny (model X'.prog X'.w) X'.A (call (.builtin "set.add") [.ref acc,x]) (λ_ s6=>P s6) (λ_ _=>False) s5) (λ_ _=>False) s) (tb:=λacc Nx σ H=>te σ H λv H5=>∃ (b:Addr) (ns:AG) (ks:AF),v = .ref b/\H5 b=some (.tup (ns.map V.int))/\zdF X.prog X.w H5 acc ks/\ks.length<300/\(∀o F,zdF X.prog X.w (upd H5 acc o) acc F->(∀x,x∈F↔x=ns\/x∈ks)->F.length<=ks.length+1->Nx σ (upd H5 acc o))) O hc rfl hs (λ_ _ _ _ _ h0 h1=>zai h0 h1) (λ_ _ _ _ _ _ I U n h=>zb9 I U n h) (λs Q h=>zlc h) (λ_ _=>zhn (zgj _)) hi hg ht (λX' hF pX wX AX _ xX acc pl s σ H Nx P I q k=>by have e9:=he X' hF pl s σ H _ I q;rw[xX] at e9;show thn e9 ?_;rintro u2 ad ⟨v,H10,I10,Z,b,ns,ks,rfl,hb,S,hn,nx⟩;cases Z;have Y:=zd4 (X:=X') (Q:=λ_ s'=>P s') (by rw[AX];exact hu) I10 (by right) hb hn λo F s' S' hm hl I'=>k _ _ _ I' (nx o F (by right) hm hl);rw[xX] at Y;exact Y) I h (λJ H1 acc q hn=>q acc hn ⟨[],zj,λq hq=>by simp at hq,rfl,eK⟩) L
end
def zi2(B:X.A.units+1<cLine)(F:X.calm=true)(c:CompOk X scope N cix)(hi:QI X tg iter wi)(J:∀C s H ex,QG (zA X scope N C s H ex) tg g)(L:∀C s H ex,QTs (zA X scope N C s H ex) ifs ti)(O:∀C s H ex,QE (zA X scope N C s H ex) elt te)(U:∀x,foldedSetIterable iter X.env x=pure x:=by intro _;rfl):QE X (.SetComp elt [⟨tg,iter,ifs,0⟩] scope pos) (zrU X.prog X.w wi g ti te cix):=⟨λpins s σ H Q I h=>by
 rw[zfx];exact zn8 B (zas c) F hi.run (zdJ λC s H ex=>(J C s H ex).run) (zdJ λC s H ex=>(L C s H ex).run) (zdJ λC s H ex=>(O C s H ex).run) U I h λ_ _ _ _ _ Y Z q=>za2 Y Z q⟩
section
variable {P:Aa}{w:Ab}{K:AH}{a acc:Addr}{xs:AT}{g:TG}{ti:TT}{te:TE}{σ:St}{H:Hp}{Q:VK}
end
def zl1 (H:Hp):y4 H H:=λ_ _ z=>z
section
variable {X:Cx}
variable {prog:Aa}{w:Ab}{A:Ae}{E:AA}{s:AZ}{es:Array DictEntry}
def uq (h:Heap)(d:Addr)(es:Array DictEntry)(q:Nat):Prop:=∃o,h.get? d=some o/\o.ExactDict/\o.data = .dict es q
def uq.keep(x:uq h d es q)(k:∀o,h.get? d=some o->h'.get? d=some o):uq h' d es q:=let ⟨o,ho,r⟩:=x;⟨o,k o ho,r⟩
def uq.typeIs(x:uq s.heap d es q):s.TypeIs (.ref d) "dict" := let ⟨o,ho,hc,_⟩:=x;⟨o,ho,hc.1⟩
def uq.lt(x:uq h d es q):d<h.objs.size:=let ⟨o,ho,_⟩:=x;ay ho
def zcR(U:(d==sysModules)=false)(J:uq s.heap d es I)(O:Q (.ref s.heap.objs.size) { s with heap:=s.heap.push { cls:=.type "dict_keyiterator",data:=.fields #[.ref d,.int 0 0,.int es.size 0,.int I 0] } }) :
  Ag prog w A (pyIter (.ref d)) Q E s:=by
 obtain⟨o,L,Y,q⟩:=id J;have B:=J.typeIs;show eU B PySem.F.slot_dict_iter (bf PySem.F.slot_dict_iter B PySem.F.entry_dict_iter ?_ (PySem.F.args_dict_iter_1 _));unfold Builtin.«dict.__iter__»;show aa ?_;unfold Builtin.Dict.dictSlotNone;show aa (wpAny_notOrdered_dict B ?_);change wpAny _ _ (pure (Value.ref d)) _ _ s;show ae ?_;change wpAny _ _ (Builtin.Dict.showsAll d >>= _) _ _ s;unfold Builtin.Dict.showsAll;rw[if_neg (by right)];show aa (ae ?_);show aa (eV L q ?_);show aa (wpAny_dictEpoch L q ?_);show aa (bu (ae ⟨_,rfl,"dict_keyiterator",_,⟨_,aB _ rfl,rfl⟩,PySem.F.slot_dict_keyiterator_next.lookup,?_⟩));simpa [rawInt] using O
def zng(q:s.heap.IsKeyIter B d i es.size O)(Z:uq s.heap d es O)(hx:es[i]?=some e)(hQ:∀h',h'.IsKeyIter B d (i+1) es.size O->Heap.SameBut B s.heap h'->Q (.done (.ret e.key)) { s with heap:=h' }):Ag prog w A (Builtin.«dict_keyiterator.__next__» { pos:=[Value.ref B] }) Q E s:=by
 obtain⟨o,Y,hc,U⟩:=id q;obtain⟨od,I,ad,J⟩:=id Z;show aa (ae ?_);show aa ?_;show aa ?_
 first | show aa (b7 q.typeIs (ae ?_)) | show aa (by grind)
 show aa (eM Y U ?_);have L:Builtin.Dict_items.ownsTuple "dict_keyiterator" = false:=by ext
 simp only[L,aP,if_false];show wpAny _ _ (if (Value.ref d==Value.none)=true then _ else _) _ _ s;rw[if_neg (by grind)];show aa (ae ?_);show aa (eV I J ?_);rw[if_neg (by simp)];show aa (ae ?_);show aa (wpAny_dictEpoch I J ?_);rw[if_neg (by simp)];show ae ?_;simp only[show ¬ ((i:Int)<0) from by lia,if_false,aT,hx];show aa ?_
 first | show aa (b7 q.typeIs (ae ?_)) | show aa (by grind)
 show aa (wpAny_isOneOf_keyiter q.typeIs ?_);change wpAny _ _ (setField (.ref B) 1 (rawInt ((i:Int)+1)) >>= _) _ _ s;show aa (cV Y U (by simp) ?_)
 have F:(s.heap.update B (Obj.mapFields (·.setIfInBounds 1 (rawInt ((i:Int)+1))))).IsKeyIter B d (i+1) es.size O:=
  ⟨_,cu _ Y (dE (cw U _)),(eS ..).trans hc,by rw[cw U];simp[rawInt]⟩
 show aa (bq ?_);show aa (wpAny_isOneOf_keyiter (s:={ s with heap:=s.heap.update B (Obj.mapFields (·.setIfInBounds 1 (rawInt ((i:Int)+1)))) }) F.typeIs ?_);change wpAny _ _ (pure e.key) _ _ _;exact ae (ae (hQ _ F (bK ..)))
def zbH(q:s.heap.IsKeyIter B d i es.size F)(I:uq s.heap d es F)(J:es[i]?=some e)(L:∀h',h'.IsKeyIter B d (i+1) es.size F->Heap.SameBut B s.heap h'->Q (some e.key) { s with heap:=h' }):Ag prog w A (pyNext (.ref B)) Q E s:=by
 unfold pyNext
 exact aa (cR (wpAny_callSpecial?_slot (name:=Str.ofString "__next__") q.typeIs bN
  (bf bN q.typeIs c3 (zng q I J λh' a b=>⟨_,rfl,ae (L h' a b)⟩) (cW _))))
def zp9(Y:A.handled=none)(q:s.heap.IsKeyIter J d es.size es.size L)(Z:uq s.heap d es L)(hE:∀h' x,Heap.ExtBut J s.heap h'->(∃o,h'.get? x=some o/\o.cls = .type "StopIteration")->E (.ref x) { s with heap:=h' }):Ag prog w A (Builtin.«dict_keyiterator.__next__» { pos:=[Value.ref J] }) Q E s:=by
 obtain⟨o,O,hc,U⟩:=id q;obtain⟨od,B,ad,F⟩:=id Z;show aa (ae ?_);show aa ?_;show aa ?_
 first | show aa (b7 q.typeIs (ae ?_)) | show aa (by grind)
 show aa (eM O U ?_);have I:Builtin.Dict_items.ownsTuple "dict_keyiterator" = false:=by ext
 simp only[I,aP,if_false];show wpAny _ _ (if (Value.ref d==Value.none)=true then _ else _) _ _ s;rw[if_neg (by grind)];show aa (ae ?_);show aa (eV B F ?_);rw[if_neg (by simp)];show aa (ae ?_);show aa (wpAny_dictEpoch B F ?_);rw[if_neg (by simp)];show ae ?_;simp only[show ¬ ((es.size:Int)<0) from by lia,if_false,aT,Array.getElem?_eq_none (af es.size)];show aa ?_
 first | show aa (b7 q.typeIs (ae ?_)) | show aa (by grind)
 change wpAny _ _ (setField (.ref J) 0 .none >>= _) _ _ s;show aa (cV O U (by simp) ?_);change wpAny _ _ (newExc (.type "StopIteration") [] >>= _) _ _ _;show aa ?_;simp only[newExc,newTuple];show aa (bu ?_ (by size_fits));show aa (m:=firstArgMember _ _) (wpAny_of_eq (a:=Value.none) (by first | rfl | (simp only[firstArgMember];rfl)) ?_);show bu ?_ (by size_fits);simp only[raiseNew];show aa (wpAny_handled ?_);rw[Y];show aa (ae (wpAny_throw ?_));exact hE _ _ (((bK ..).extBut.push _).push _) ⟨_,aB _ rfl,rfl⟩
def zcX(I:A.handled=none)(q:s.heap.IsKeyIter B d es.size es.size F)(J:uq s.heap d es F)(L:∀h',Heap.ExtBut B s.heap h'->Q none { s with heap:=h' }):Ag prog w A (pyNext (.ref B)) Q E s:=by
 unfold pyNext
 show aa (cR (wpAny_callSpecial?_slot (name:=Str.ofString "__next__") q.typeIs bN
  (bf bN q.typeIs c3 (zp9 I q J λh' x a b=>?_) (cW _))))
 exact aa (cK (T := "StopIteration") (b:=true) b dv (ae (L _ a)))
def ziH (Z:A.handled=none)(I d:Addr)(J:d≠I)(O:Nat) :
  Walks prog w A I [I,d] [I] es.size (λi v=>∃e,es[i]?=some e/\v=e.key) (λi h=>h.IsKeyIter I d i es.size O/\uq h d es O) where
 sub:=λb q=>by simp at q;simp[q]
 frame:=λ_ _ _ st U=>⟨let ⟨o,ho,r⟩:=st.1;⟨o,U I (by simp) o ho,r⟩,st.2.keep λo e=>U d (by simp) o e⟩
 item:=λi s Q E hi st B=>by show zbH st.1 st.2 (bH hi) λh' F Y=>?_;exact B _ h' s.toks ⟨_,bH hi,rfl⟩ ⟨F,st.2.keep λo e=>(Y.2 d J).trans e⟩ λb o q e=>Y.extBut b o (λh=>q (by simp[h])) e
 done:=λs Q E st B=>zcX Z st.1 st.2 λh' L=>B h' s.toks λb o q e=>L b o (λh=>q (by simp[h])) e
 self:=λ_ _ _ _ st B=>dO st.1 B
def zmO (d:Addr)(B:Nat)(lo:(d==sysModules)=false):KdlSrc prog w "dict" d d es.size (λi v=>∃e,es[i]?=some e/\v=e.key) (λh=>uq h d es B) where
 type:=λs S=>S.typeIs
 there:=λ_ S=>⟨S.lt,S.lt⟩
 keep:=λ_ _ S F=>S.keep λo e=>F d (.inl rfl) o e
 notList:=by ext
 notTuple:=by ext
 hint:=λ_ _ _ _ S q=>kdl_hint_dict S.typeIs q
 iter:=λA s I S=>⟨_,_,(λ_ _ q=>zcR lo S q),ziH I _ d (aR S.lt) B,⟨⟨_,aB _ rfl,rfl,rfl⟩,S.keep λo e=>ai _ e⟩⟩
end
def zhX (kvs:List (AG×V)):List (List Key×V):=kvs.map λq=>(q.1.map Sum.inl,q.2)
def dtO (kvs:List (AG×V)):HO:=.dT (zhX kvs)
def zhY (kvs:List (AG×V))(st:AG):zaI (zhX kvs) (st.map Sum.inl)=zaI kvs st:=by
 unfold zhX
 induction kvs with
 | nil=>rfl
 | cons q r B=>
  rw[ax];by_cases e:q.1=st;rw[xA (p:=q) e,xA (p:=(q.1.map Sum.inl,q.2)) (by rw[e])];rw[xW (p:=q) e,xW (p:=(q.1.map Sum.inl,q.2)) (λz=>e (uT z)),B]
def znf (kvs:List (AG×V))(st:AG)(v:V):zae (zhX kvs) (st.map Sum.inl) v=zhX (zae kvs st v):=by
 have B:∀q:AG×V,decide ((q.1.map (Sum.inl:Int->Key))=st.map Sum.inl)=decide (q.1=st):=λq=>by rw[bP,bM,bM];exact⟨uT,λz=>by rw[z]⟩
 have F:((zhX kvs).any λkv=>decide (kv.1=st.map Sum.inl))=kvs.any λkv=>decide (kv.1=st):=by unfold zhX;rw[List.any_map];congr 1;funext q;exact B q
 unfold zae;rw[F];by_cases h:(kvs.any λkv=>decide (kv.1=st))=true;rw[if_pos h,if_pos h];unfold zhX;rw[ao,ao];show c4 λq _=>?_;grind;rw[if_neg h,if_neg h];unfold zhX;right
def zch.i{kvs:List (AG×V)}{st:AG}(e:H a=some (dtO kvs))(q:H b=some (.tup (st.map V.int))):zch H a (.ref b) (zaI kvs st):=by have:=zch.t (k:=st.map Sum.inl) e (by rw[zcO];exact q);rwa[zhY] at this
def zdB.i{kvs:List (AG×V)}{st:AG}(e:H a=some (dtO kvs))(q:H b=some (.tup (st.map V.int)))(B:kvs.length<sizeLine):zdB H a (.ref b) v (upd H a (dtO (zae kvs st v))):=by have:=zdB.t (k:=st.map Sum.inl) (v:=v) e (by rw[zcO];exact q) (by unfold zhX;rw[ab];exact B);rwa[znf] at this
def zrS:TE:=λ_ H Q=>New H (dtO []) Q
section
variable {X:Cx}
def znP:QE X (.Dict [] [] pos) zrS:=⟨λpins s σ H Q I h=>znC pins s σ H Q I λp q=>h.at q⟩
def zmP {pins:AB}{σ:St}{H:Hp}{s:AZ}(I:Inv X pins σ H s){a:Addr}{kvs:List (AG×V)}(h:Rd H a (dtO kvs)) :
  (a==sysModules)=false/\∃ (es:Array DictEntry) (B:Nat) (ys:AE),uq s.heap a es B/\ys.map (·.1)=kvs.map (·.1)/\(∀q∈ys,H q.2=some (.tup (q.1.map V.int)))/\es.toList.map (·.key)=ys.map (λq=>Value.ref q.2)/\kvs.length<=sizeLine/\(kvs.map (·.1)).Nodup:=by
 obtain⟨z,lo,xs,r,o,es,B,h1,h2,h3,h4,U⟩:=(show yn X.prog X.w H s.heap a (.dT (zhX kvs)) from zrv I.hok h)
 have F:∀ {kvs:List (AG×V)} {xs:List (List Key×Addr×Value)},Paired (λ(p:List Key×V) (q:List Key×Addr×Value)=>p.1=q.1/\H q.2.1=some (.tup (p.1.map kV))/\yG p.2 q.2.2) (zhX kvs) xs->
   ∃ys:AE,ys.map (·.1)=kvs.map (·.1)/\(∀q∈ys,H q.2=some (.tup (q.1.map V.int)))/\xs.map (λq=>Value.ref q.2.1)=ys.map (λq=>Value.ref q.2)/\xs.map (·.1)=kvs.map (λq=>q.1.map Sum.inl):=by
  intro kvs
  induction kvs with
  | nil=>intro xs r;cases r;exact⟨[],rfl,λ_ h=>by simp at h,rfl,rfl⟩
  | cons q kvs ih=>
   intro xs r
   cases r with
   | cons r1 r2=>
    rename_i x ad;obtain⟨ys,Y,J,Z,e4⟩:=ih r2;show⟨(q.1,x.2.1)::ys,by right,λy L=>?_,by right,by right⟩;rcases aJ.mp L with rfl | L
    have:=r1.2.1;rwa[show ((q.1.map Sum.inl,q.2):List Key×V).1=q.1.map Sum.inl from rfl,zcO] at this;exact J y L
 obtain⟨ys,Y,J,Z,e4⟩:=F r;show⟨lo,es,B,ys,⟨o,h1,h2,h3⟩,Y,J,?_,?_,?_⟩;rw[h4,ao,<- Z];rfl;unfold zhX at z;right;rw[e4] at U;have O:((kvs.map (·.1)).map λst:AG=>st.map (Sum.inl:Int->Key)).Nodup:=by rw[ao];exact U
 exact (bD.mp O).imp λh z=>h (by rw[z])
end
abbrev Up' (l:AF):Prop:=l.Pairwise λa b=>HT.lexLt a b=true
def zpQ (x:AG):AF->AF
 | []=>[x]
 | y::r=>if HT.lexLt x y then x::y::r else if x=y then y::r else y::zpQ x r
def ze3 (l:AF):AF:=l.foldr zpQ []
def zeo {x z:AG}:∀ {l:AF},z∈zpQ x l↔z=x\/z∈l
 | []=>by change z∈[x]↔_;simp
 | y::r=>by
  unfold zpQ;split;simp;split;right;rw[aJ,zeo,aJ];grind
def uf {z:AG}:∀ {l:AF},z∈ze3 l↔z∈l
 | []=>Iff.rfl
 | x::l=>by change z∈zpQ x (ze3 l)↔_;rw[zeo,uf,aJ]
def zkj {x:AG}{m:Nat}(F:x.length=m):∀ {l:AF},(∀y∈l,y.length=m)->Up' l->Up' (zpQ x l)
 | [],_,_=>dg _ _
 | y::r,I,B=>by
  have J:=I y ak;rw[Up',b5] at B;unfold zpQ;split
  ·rename_i h;show b5.mpr ⟨λz q=>?_,b5.mpr B⟩;rcases aJ.mp q with rfl | q
   exact h;exact zbd (F.trans J.symm) (by grind) h (B.1 z q)
  ·rename_i h;split
   exact b5.mpr B
   ·rename_i L;show b5.mpr ⟨λz q=>?_,zkj F (λz q=>I z (am _ q)) B.2⟩;rcases zeo.mp q with rfl | q
    ·rcases zam (a:=z) (b:=y) (F.trans J.symm) with e | e | e
     all_goals right
    exact B.1 z q
def zgm{l:AF}(h:∀y∈l,y.length=m):∀y∈ze3 l,y.length=m:=λy q=>h y (uf.mp q)
def ze4:∀ {l:AF},(∀y∈l,y.length=m)->Up' (ze3 l)
 | [],_=>.nil
 | x::l,h=>zkj (h x ak) (zgm λy q=>h y (am _ q)) (ze4 λy q=>h y (am _ q))
def zht:∀ {l l':AF},(∀y∈l,y.length=m)->Up' l->Up' l'->(∀z,z∈l↔z∈l')->l=l'
 | [],[],_,_,_,_=>rfl
 | [],y::r,_,_,_,h=>absurd ((h y).mpr ak) (by simp)
 | x::l,[],_,_,_,h=>absurd ((h x).mp ak) (by simp)
 | x::l,y::r,F,I,q,h=>by
  rw[Up',b5] at I q;have B:∀z∈y::r,z.length=m:=λz J=>F z ((h z).mpr J)
  have e:x=y:=by
   rcases aJ.mp ((h x).mp ak) with e | e;exact e;rcases aJ.mp ((h y).mpr ak) with L | L;exact L.symm;have h1:=q.1 x e;have h2:=I.1 y L;have U:=zbd ((F x ak).trans (B y ak).symm) ((B y ak).trans (F x ak).symm) h2 h1;rw[xu] at U;cases U
  subst e;have O:∀ {l:AF},(∀z∈l,HT.lexLt x z=true)->x∉l:=λY z=>by have:=Y x z;rw[xu] at this;cases this
  congr 1;show zht (λz J=>F z (am _ J)) I.2 q.2 λz=>?_;grind
def zcq{l l':AF}(q:∀y∈l,y.length=m)(B:Up' l')(h:∀z,z∈l'↔z∈l):l'=ze3 l:=
 zht (λy F=>q y ((h y).mp F)) B (ze4 q) λz=>(h z).trans uf.symm
def zhp{l l':AF}(q:∀y∈l,y.length=m)(h:∀z,z∈l'↔z∈l):ze3 l'=ze3 l:=
 zcq q (ze4 λy B=>q y ((h y).mp B)) λz=>uf.trans (h z)
def zbE (bk:AW)(st q:AG):AF:=(bk.filter λx=>zaS st x&&!q.contains x.b).map λx=>chg st x.b x.r
def zop (bk:AW)(st q:AG):AF:=ze3 (zbE bk st q)
def zcH{st q z:AG}:z∈zbE bk st q↔∃x∈bk,zaS st x=true/\x.b∉q/\z=chg st x.b x.r:=by
 unfold zbE;grind
def zfE{rm:AG}{st F:AG}(q:∀x∈bk,WishOk rm x)(I:st.length=rm.length):∀z∈zbE bk st F,z.length=rm.length:=λz J=>by obtain⟨x,B,_,_,rfl⟩:=zcH.mp J;have h1:=(q x B).b1;rw[xN (q x B).b0 (by lia)];exact I
def yr {α:Type}[BEq α][LawfulBEq α]:∀ {l l':List α},l.Nodup->(∀x∈l,x∈l')->l.length<=l'.length
 | [],_,_,_=>aG _
 | a::l,l',q,h=>by
  rw[cj] at q;have B:=h a ak;have:=yr (l:=l) (l':=l'.erase a) q.2 λx F=>by grind
  grind
def zfD{rm:AG}{st B:AG}{ks:AF}(q:∀x∈bk,WishOk rm x)(Y:rm.length<=8)(F:∀r∈rm,2<=r/\r<=4)(I:ks.Nodup)(J:∀z∈ks,z∈zbE bk st B):ks.length<=32:=by
 have:=yr (l':=(List.range 32).map λc=>chg st ((c / 4:Nat):Int) ((c % 4:Nat):Int)) I λz L=>by obtain⟨x,O,_,_,rfl⟩:=zcH.mp (J z L);have o:=q x O;have h1:=o.b1;have h2:=o.b0;have U:=o.r0;have Z:=o.r1;have h5:=(yi F h2 h1).2;show aF.mpr ⟨4 * x.b.toNat+x.r.toNat,aX.mpr (by lia),?_⟩;rw[show (4 * x.b.toNat+x.r.toNat) / 4=x.b.toNat by lia,show (4 * x.b.toNat+x.r.toNat) % 4=x.r.toNat by lia,bX h2,bX U]
 right
end L2
namespace L2
open PyProof.Rows PySem.SeqAt
def zcs:∀ds:AS,Dt.toWs ds=ds.map Dt.toW
 | []=>rfl
 | d::ds=>by rw[Dt.toWs,ax,zcs ds]
def zfR:∀ds:List PySem.W.Dat,PySem.W.kqdPs ds=ds.map PySem.W.kqdP
 | []=>by simp[PySem.W.kqdPs]
 | d::ds=>by rw[ax,<- zfR ds];simp[PySem.W.kqdPs]
def zvJ (q:Bool):R2:=λx y H Q=>∃d ds,Is H d x/\(Is H (.lst ds) y\/Is H (.tup ds) y)/\d.eqOk/\(Dt.lst ds).eqOk/\∀b:Bool,(b=true↔d∈ds)->Q (.bl (if q then !b else b)) H
section
variable {X:Cx}
def zeq(h:(Dt.lst ds).eqOk):∀d∈ds,PySem.W.kqdOk 7 d.toW=true:=λd q=>by
 have h':PySem.W.kqdOk 8 (Dt.lst ds).toW=true:=h;simp only[Dt.toW,PySem.W.kqdOk,bm,zcs] at h';right
def zed(q:d.eqOk)(B:(Dt.lst ds).eqOk):((PySem.W.kqdPs (Dt.toWs ds)).any λy=>PyData.eqv y (PySem.W.kqdP d.toW))=true↔d∈ds:=by
 rw[zfR,zcs,ao,List.any_map,cZ];constructor;rintro⟨e,F,h⟩;have:=(PySem.W.kqd_eqv 7 e.toW d.toW 8 (zeq B e F) q).mp h;rw[<- zhs this];exact F;intro h;exact⟨d,h,(PySem.W.kqd_eqv 7 d.toW d.toW 8 (zeq B d h) q).mpr rfl⟩
def zni(h:PySem.W.kqdOk 7 d=true):PySem.W.kqdOk 8 d=true:=by
 have q:∀ (n:Nat) (d:PySem.W.Dat),PySem.W.kqdOk n d=true->PySem.W.kqdOk (n+1) d=true:=by
  intro n
  induction n with
  | zero=>intro d h;cases d <;> simp_all [PySem.W.kqdOk]
  | succ n B=>
   intro d h;cases d <;> simp_all [PySem.W.kqdOk]
 exact q 7 d h
def zoN {d:Dt}{ds:AS}{u:Nat}(I:d.eqOk)(J:(Dt.lst ds).eqOk)(U:u+64<cLine):PyData.canLayAll0 (PySem.W.kqdPs (Dt.toWs ds))=true/\(PySem.W.kqdP d.toW).canLay0=true/\u+1+min (PyData.depthAll (PySem.W.kqdPs (Dt.toWs ds))) (PySem.W.kqdP d.toW).depth<cLine:=by
 have B:=PySem.W.kqd_lay 8 _ I;have L:=PySem.W.kqd_layL (ds:=Dt.toWs ds) λe F=>by rw[zcs] at F;obtain⟨O,q,rfl⟩:=aF.mp F;exact zni (zeq J O q)
 show⟨L.1,B.1,?_⟩;have:min (PyData.depthAll (PySem.W.kqdPs (Dt.toWs ds))) (PySem.W.kqdP d.toW).depth<=8:=ar (Nat.min_le_right _ _) B.2;lia
def zoT (hu:X.A.units+64<cLine):OpQ X (compareOp .In) (zvJ false):=⟨by
 intro pins s σ H x y v u Q I rx L h;obtain⟨d,ds,hd,B,F,ks,q⟩:=h;obtain⟨as,O⟩:=xb I.hok 8 hd rx F;obtain⟨U,Y,Z⟩:=zoN F ks hu;rcases B with B | B;obtain⟨bs,J⟩:=xb I.hok 8 B L ks;exact in_list_reads J O U Y Z ⟨.bl _,H,I,rfl,q _ (zed F ks)⟩;obtain⟨bs,J⟩:=xb I.hok 8 B L (show (Dt.tup ds).eqOk from ks);exact in_tuple_reads J O U Y Z ⟨.bl _,H,I,rfl,q _ (zed F ks)⟩⟩
def zlu (hu:X.A.units+64<cLine):OpQ X (compareOp .NotIn) (zvJ true):=⟨by
 intro pins s σ H x y v u Q I rx L h;obtain⟨d,ds,hd,B,F,ks,q⟩:=h;obtain⟨as,O⟩:=xb I.hok 8 hd rx F;obtain⟨U,Y,Z⟩:=zoN F ks hu;rcases B with B | B;obtain⟨bs,J⟩:=xb I.hok 8 B L ks;exact notIn_list_reads J O U Y Z ⟨.bl _,H,I,rfl,q _ (zed F ks)⟩;obtain⟨bs,J⟩:=xb I.hok 8 B L (show (Dt.tup ds).eqOk from ks);exact notIn_tuple_reads J O U Y Z ⟨.bl _,H,I,rfl,q _ (zed F ks)⟩⟩
end
def zdU (bk:AW)(q:Int)(st:AG):AF:=(bk.filter λx=>decide (x.b=q)&&xD st x.g).map λx=>[x.w,x.r]
def lpF (bk:AW)(q:Int)(st:AG):AF:=ze3 (zdU bk q st)
def xx{q:Int}{st z:AG}:z∈zdU bk q st↔∃x∈bk,x.b=q/\xD st x.g=true/\z=[x.w,x.r]:=by
 unfold zdU;grind
def uF{q:Int}{st:AG}:∀z∈zdU bk q st,z.length=2:=λz B=>by obtain⟨x,_,_,_,rfl⟩:=xx.mp B;rfl
def zdV{rm:AG}{q:Int}{st:AG}{ks:AF}(B:∀x∈bk,WishOk rm x)(F:∀r∈rm,2<=r/\r<=4)(I:ks.Nodup)(J:∀z∈ks,z∈zdU bk q st):ks.length<=16:=by
 have:=yr (l':=(List.range 16).map λc=>[((c / 4:Nat):Int),((c % 4:Nat):Int)]) I λz L=>by obtain⟨x,O,_,_,rfl⟩:=xx.mp (J z L);have o:=B x O;have U:=o.r0;have Z:=o.r1;have h5:=(yi F o.b0 o.b1).2;have Y:=o.w0;have h7:=o.w1;show aF.mpr ⟨4 * x.w.toNat+x.r.toNat,aX.mpr (by lia),?_⟩;rw[show (4 * x.w.toNat+x.r.toNat) / 4=x.w.toNat by lia,show (4 * x.w.toNat+x.r.toNat) % 4=x.r.toNat by lia,bX Y,bX U]
 right
def ztq{q:Int}{st:AG}:∀z∈lpF bk q st,z.length=2:=zgm uF
def uQ {rm st:AG}{x:Wi}{w:Int}(F:WishOk rm x)(I:st.length=rm.length):xD (chg st x.b w) x.g=xD st x.g:=by
 unfold xD;rw[bP,bm,bm];have J:=F.b1;have key:∀q∈x.g,yt (chg st x.b w) q.1=yt st q.1:=λq B=>by rw[yo F.b0 (by lia) (F.giv.ok q B).1,if_neg (F.apart q B)]
 constructor;intro h q B;have:=h q B;rwa[key q B] at this;intro h q B;rw[key q B];exact h q B
def zoO{rm:AG}{q w:Int}{st:AG}(B:∀x∈bk,WishOk rm x)(J:st.length=rm.length):lpF bk q (chg st q w)=lpF bk q st:=by
 show zhp uF λz=>?_;rw[xx,xx];constructor;rintro⟨x,F,h1,h2,I⟩;subst h1;exact⟨x,F,rfl,by rwa[uQ (B x F) J] at h2,I⟩;rintro⟨x,F,h1,h2,I⟩;subst h1;exact⟨x,F,rfl,by rwa[uQ (B x F) J],I⟩
def zN (C:Nat->Nat->Bool)(w j:Nat):AF:=((List.range j).filter (C w)).map λb:Nat=>[(w:Int),(b:Int)]
def uL (C:Nat->Nat->Bool)(n:Nat):Nat->AF
 | 0=>[]
 | i+1=>uL C n i++zN C i n
def xm (C:Nat->Nat->Bool)(w j:Nat):zN C w (j+1)=if C w j=true then zN C w j++[[(w:Int),(j:Int)]] else zN C w j:=by
 unfold zN;rw[List.range_succ,bR];grind
def zb5{z:AG}:z∈zN C w j↔∃b,b<j/\C w b=true/\z=[(w:Int),(b:Int)]:=by
 unfold zN;rw[aF];constructor;rintro⟨b,q,rfl⟩;rw[aN,aX] at q;exact⟨b,q.1,q.2,rfl⟩;rintro⟨b,h1,h2,rfl⟩;exact⟨b,aN.mpr ⟨aX.mpr h1,h2⟩,rfl⟩
def uM{z:AG}:∀ {i:Nat},z∈uL C n i↔∃w b,w<i/\b<n/\C w b=true/\z=[(w:Int),(b:Int)]
 | 0=>⟨λh=>(by cases h),by lia⟩
 | i+1=>by
  change z∈uL C n i++zN C i n↔_;rw[a9,uM,zb5];constructor;rintro (⟨w,b,h1,h2⟩ | ⟨b,h1,h2⟩);exact⟨w,b,by lia,h2⟩;exact⟨i,b,by lia,h1,h2⟩;rintro⟨w,b,h1,h2,q⟩;by_cases e:w=i;subst e;exact .inr ⟨b,h2,q⟩;exact .inl ⟨w,b,by lia,h2,q⟩
def lex2 {a b c d:Int}:HT.lexLt [a,b] [c,d]=true↔a<c\/(a=c/\b<d):=by
 change (if a=c then (if b=d then _ else decide (b<d)) else decide (a<c))=true↔_;by_cases h1:a=c;rw[if_pos h1];by_cases h2:b=d;rw[if_pos h2];constructor;intro h;cases h;intro h;lia;grind;grind
def ze9 (C:Nat->Nat->Bool)(n:Nat):∀i,Up' (uL C n i)
 | 0=>.nil
 | i+1=>by
  show List.pairwise_append.mpr ⟨ze9 C n i,?_,λa q b B=>?_⟩;unfold zN;show bD.mpr ((List.pairwise_lt_range.filter _).imp ?_);intro a b F;exact lex2.mpr (.inr ⟨rfl,by lia⟩);obtain⟨w,I,h1,_,_,rfl⟩:=uM.mp q;obtain⟨J,_,_,rfl⟩:=zb5.mp B;exact lex2.mpr (.inl (by lia))
def zbt:(uL C n i).length<=i * n:=by
 induction i with
 | zero=>exact aG _
 | succ i q=>
  change (uL C n i++zN C i n).length<=_;rw[aj,fj]
  have:(zN C i n).length<=n:=by
   unfold zN;grind
  lia
def zc3 (bk:AW)(q:Int)(st:AG)(w b:Nat):Bool:=decide (b≠w)&&bk.any λx=>zaS (chg st q w) x&&decide (chg (chg st q w) x.b x.r=chg st q b)
def zc4{rm:AG}{q:Int}{st:AG}(F:∀x∈bk,WishOk rm x)(hl:st.length=rm.length)(B:0<=q)(h1:q<rm.length):zc3 bk q st w b=true↔∃x∈bk,x.b=q/\xD st x.g=true/\x.w=w/\x.r=b:=by
 unfold zc3;rw[aQ,bM,cZ];have I:∀v:Int,(chg st q v).length=st.length:=λv=>xN B (by lia);constructor;rintro⟨ad,x,J,h⟩;rw[aQ,bM] at h;obtain⟨L,he⟩:=h;have o:=F x J;have U:=o.b0;have b1:=o.b1;unfold zaS at L;rw[aQ,bM] at L;have Y:yt (chg (chg st q w) x.b x.r) x.b=x.r:=by rw[yo U (by rw[I];lia) U,if_pos rfl]
 by_cases Z:x.b=q;subst Z;rw[he,yo B (by lia) B,if_pos rfl] at Y;have O:=L.1;rw[yo B (by lia) B,if_pos rfl] at O;show⟨x,J,rfl,?_,O.symm,Y.symm⟩;have:=L.2;rwa[uQ o hl] at this;exfalso;have O:=L.1;rw[yo B (by lia) U,if_neg Z] at O;rw[he,yo B (by lia) U,if_neg Z] at Y;exact o.ne (Y.symm.trans O);rintro⟨x,J,rfl,hk,h2,h3⟩;have o:=F x J;show⟨λz=>o.ne (by rw[h2,h3,z]),x,J,?_⟩;rw[aQ,bM];constructor;unfold zaS;rw[aQ,bM,yo B (by lia) B,if_pos rfl,uQ o hl];exact⟨h2.symm,hk⟩;rw[<- h3];show zhM (by rw[xN B (by rw[I];lia),I,I]) λc c0 c1=>?_;rw[yo B (by rw[I];lia) c0,yo (w:=x.r) B (by lia) c0];by_cases hc:c=x.b;right;rw[if_neg hc,if_neg hc,yo B (by lia) c0,if_neg hc]
def zod {rm:AG}{bk:AW}{q:Int}{st:AG}{n:Nat}(B:∀x∈bk,WishOk rm x)(J:st.length=rm.length)(L:0<=q)(h1:q<rm.length)(hn:(n:Int)=yt rm q):uL (zc3 bk q st) n n=lpF bk q st:=by
 show zcq uF (ze9 _ _ _) λz=>?_;rw[uM,xx];constructor;rintro⟨w,b,_,_,h,rfl⟩;obtain⟨x,F,h2,I,O,U⟩:=(zc4 B J L h1).mp h;exact⟨x,F,h2,I,by rw[O,U]⟩;rintro⟨x,F,h2,I,rfl⟩;have o:=B x F;have Y:=o.w0;have Z:=o.w1;have r0:=o.r0;have r1:=o.r1;rw[h2] at Z r1;show⟨x.w.toNat,x.r.toNat,by lia,by lia,(zc4 B J L h1).mpr ⟨x,F,h2,I,by lia,by lia⟩,?_⟩;rw[bX Y,bX r0]
open PySem.W PySem.Calls
section
variable {prog:Aa}{w:Ab}{A:Ae}{E:AA}{s:AZ}{R:Result->AZ->Prop}
variable {X:Cx}
variable {e st:Expr}{te tk:TE}{pos p2:Pos}
end
def zcj {one q:AG}{x:Wi}:zwA one q x=true↔zaS one x=true/\chg one x.b x.r=q:=by
 unfold zwA;grind
def zpi{one q:AG}:q∈zop bk one []↔∃x∈bk,zwA one q x=true:=by
 unfold zop;rw[uf,zcH];constructor;rintro⟨x,B,h1,_,h2⟩;exact⟨x,B,zcj.mpr ⟨h1,h2.symm⟩⟩;rintro⟨x,B,h⟩;obtain⟨h1,h2⟩:=zcj.mp h;exact⟨x,B,h1,b8,h2.symm⟩
def zto{rm:AG}{one:AG}{q wo:Int}(J:∀x∈bk,WishOk rm x)(h1:one.length=rm.length)(L:0<=q)(Z:q<rm.length):[yt one q,wo]∈lpF bk q one↔chg one q wo∈zop bk one []:=by
 unfold lpF;rw[uf,xx,zpi];constructor;rintro⟨x,I,rfl,hk,e⟩;injection e with B O;injection O with O _;subst O;show⟨x,I,zcj.mpr ⟨?_,rfl⟩⟩;unfold zaS;grind;rintro⟨x,I,h⟩;obtain⟨F,U⟩:=zcj.mp h;have o:=J x I;have o0:=o.b0;have o1:=o.b1;unfold zaS at F;rw[aQ,bM] at F;have B:yt (chg one x.b x.r) x.b=x.r:=by rw[yo o0 (by lia) o0,if_pos rfl]
 by_cases Y:x.b=q;subst Y;rw[U,yo L (by lia) L,if_pos rfl] at B;exact⟨x,I,rfl,F.2,by rw[F.1,B]⟩;exfalso;rw[U,yo L (by lia) o0,if_neg Y,F.1] at B;exact o.ne B.symm
def unlike (one z q:AG):AG:=q.filter λb=>decide (yt one b≠yt z b)
section
variable {X:Cx}{pos:Pos}
end
end L2
namespace L2
open PyProof.Rows
end L2
namespace L2
open PyProof.Rows
section
variable {M:Model}{A:Ae}{E:AA}{s:AZ}
def zcx {α:Type}{f:List (Str×Addr)->Sem α}{Q:α->AZ->Prop}:∀ (names:List (Str×NameKind)) (cells:List (Str×Addr)),(∀y∈names,y.2≠.cell)->wpAny M A (f cells) Q E s->
  wpAny M A ((forIn names cells λx r=>match x with | (name,kind)=>if (kind==NameKind.cell)=true then do let a <- alloc { cls:=.type "cell",data:=.cell none };pure (ForInStep.yield ((name,a)::r)) else pure (ForInStep.yield r)) >>= f) Q E s
 | [],cells,_,h=>h
 | (n,k)::r,cells,hn,h=>by
  have hk:(k==NameKind.cell)=false:=by simpa using hn (n,k) ak
  rw[List.forIn_cons];simp only[hk,aP,if_false,pure_bind];exact zcx r cells (λy hy=>hn y (am _ hy)) h
def zcy {α:Type}{z:Str}{f:List (Str×Addr)->Sem α}{Q:α->AZ->Prop}:∀ (names:List (Str×NameKind)) (cells:List (Str×Addr)),names.filter (λy=>y.2==.cell)=[(z,.cell)]->
  wpAny M A (f ((z,s.heap.objs.size)::cells)) Q E { s with heap:=s.heap.push { cls:=.type "cell",data:=.cell none } }->
  wpAny M A ((forIn names cells λx r=>match x with | (name,kind)=>if (kind==NameKind.cell)=true then do let a <- alloc { cls:=.type "cell",data:=.cell none };pure (ForInStep.yield ((name,a)::r)) else pure (ForInStep.yield r)) >>= f) Q E s
 | [],cells,hn,h=>by cases hn
 | (n,k)::r,cells,hn,h=>by
  rw[List.forIn_cons];by_cases hk:(k==NameKind.cell)=true;rw[List.filter_cons_of_pos (p:=λy:Str×NameKind=>y.2==.cell) (a:=(n,k)) hk] at hn;injection hn with h1 h2;cases h1;simp only[hk,if_true,bind_assoc,pure_bind];show aa (eZ ?_);show zcx r _ (λy hy e=>?_) h;have:y∈r.filter (λy=>y.2==.cell):=aN.mpr ⟨hy,by rw[e];rfl⟩;grind;rw[List.filter_cons_of_neg (p:=λy:Str×NameKind=>y.2==.cell) (a:=(n,k)) hk] at hn;simp only[hk,aP,if_false,pure_bind];exact zcy r cells hn h
def zhd {scope:Scope}{z:Str}{globals:Addr}{closure:List (Str×Addr)}{qual:Str}{o:Env}{Q:Env->AZ->Prop}(hn:scope.names.filter (λy=>y.2==.cell)=[(z,.cell)])
  (h:Q { scope,locals:=s.heap.objs.size,globals,cells:=(z,(s.heap.push { cls:=.type "dict",data:=.dict #[] }).objs.size)::closure,qual,func:=none,code:=o.code,frame:=o.frame,builtins:=o.builtins } { s with heap:=(s.heap.push { cls:=.type "dict",data:=.dict #[] }).push { cls:=.type "cell",data:=.cell none } }) :
  wpAny M A (newFunctionEnv scope globals closure [] qual none .none (some o)) Q E s:=by
 unfold newFunctionEnv;simp only[Option.isSome_some,if_true];show aa (eZ ?_);show zcy scope.names closure hn ?_;exact aa (ae (ae h))
end
def zB (X:Cx)(scope:Scope)(N:AM)(z:Str)(C D:Addr)(s:AZ)(H:Hp)(ex:AY):Cx:=
 { zA X scope N C s H ex with env:={ compEnvC scope (zdo X.env scope.names []) C X.env with cells:=(z,D)::zdo X.env scope.names [] },fn:=λy=>y==z }
def zjt (XN:AM)(Xnames names:List (Str×NameKind))(N:AM)(z:Str)(cix:List (Option Nat)):Bool:=
 N.length==cix.length&&(names.filter (λy=>y.2==.cell)==[(z,NameKind.cell)]&&names.lookup z==some .cell)&&((N.zip cix).all λp=>match p.2 with
  | none=>true
  | some i=>XN[i]?==some p.1&&names.lookup p.1==some .free&&(Xnames.lookup p.1==some .cell || Xnames.lookup p.1==some .free)) &&
 (names.all λy=>y.2 != .free || (Xnames.lookup y.1==some .cell || Xnames.lookup y.1==some .free))
structure CompOkC (X:Cx)(scope:Scope)(N:AM)(z:Str)(cix:List (Option Nat)):Prop where
 kind:scope.kind = .function
 names:∀x∈scope.names,x.2 = .local->scope.names.lookup x.1=some .local
 caps:zjt X.N X.env.scope.names scope.names N z cix=true
def mem_of_lookup {α B:Type}[BEq α][LawfulBEq α]{x:α}{k:B}:∀ {l:List (α×B)},l.lookup x=some k->(x,k)∈l
 | [],h=>by simp at h
 | (n,q)::r,h=>by
  rw[cI] at h
  cases e:x==n with
  | true=>
   grind
  | false=>
   rw[e] at h;exact am _ (mem_of_lookup h)
def xw {env:Env}:∀ {names:List (Str×NameKind)} {x:Str} {k:NameKind},
  (names.map λ(n,k)=>if (k==NameKind.free&&env.scope.kind==.function&&env.kindOf n==some .cell) then (n,NameKind.cell) else (n,k)).lookup x=some k->(k = .cell\/k = .free)->names.lookup x=some .free\/names.lookup x=some .cell
 | [],_,_,h,_=>by simp at h
 | (n,k)::r,x,q,h,B=>by
  have F:=@xw env r x q;grind
section
variable {X:Cx}{pins:AB}{σ:St}{H:Hp}{s:AZ}{scope:Scope}{N:AM}{z:Str}{cix:List (Option Nat)}
def CompOkC.parts (c:CompOkC X scope N z cix):N.length=cix.length/\scope.names.filter (λy=>y.2==.cell)=[(z,.cell)]:=by
 have h:=c.caps;unfold L2.zjt at h;right
def CompOkC.lk (c:CompOkC X scope N z cix):scope.names.lookup z=some .cell:=by
 have h:=c.caps;unfold L2.zjt at h;right
def CompOkC.cells (c:CompOkC X scope N z cix)(B:X.Ok):∀x∈scope.names,x.2 = .free->∃a,X.env.cells.lookup x.1=some a:=λx F e=>by
 have h:=c.caps;unfold L2.zjt at h;rw[aQ] at h;have q:=bm.mp h.2 x F;rw[e] at q;have I:(X.env.scope.names.lookup x.1==some NameKind.cell || X.env.scope.names.lookup x.1==some NameKind.free)=true:=by simpa using q
 rcases Bool.or_eq_true_iff.mp I with q | q;exact B.has _ (.inl (dZ q));exact B.has _ (.inr (dZ q))
def CompOkC.cap (c:CompOkC X scope N z cix){j i:Nat}{x:Str}(h1:N[j]?=some x)(h2:cix[j]?=some (some i)):X.N[i]?=some x/\scope.names.lookup x=some .free/\(X.env.scope.names.lookup x=some .cell\/X.env.scope.names.lookup x=some .free):=by
 have h:=c.caps;unfold L2.zjt at h;rw[aQ,aQ] at h;have B:(x,some i)∈N.zip cix:=by show aA (i:=j) ?_;rw[List.getElem?_zip_eq_some];exact⟨h1,h2⟩
 have q:=bm.mp h.1.2 _ B;grind
def CompOkC.isZ(c:CompOkC X scope N z cix)(h:scope.names.lookup x=some .cell):x=z:=by
 have:(x,NameKind.cell)∈scope.names.filter (λy=>y.2==.cell):=aN.mpr ⟨mem_of_lookup h,rfl⟩;rw[c.parts.2,aD] at this;grind
def zkk {fp:AY}{h':Heap}{tk:Nat}{m:AI}{D:Addr}(I:Inv X pins σ H s)(c:CompOkC X scope N z cix)(hf:∀b∈fp,zdE X pins H b)(U:∀b∈fp,b<s.heap.objs.size)
  (hn:h'.Ns s.heap.objs.size m) (Y:s.heap.objs.size<=D) (ag:h'.IsCell D none) (hk:∀b o,s.heap.get? b=some o->h'.get? b=some o) :
  Inv (zB X scope N z s.heap.objs.size D s H fp) [] (u4 σ cix) H { s with heap:=h',toks:=tk }:=by
 have al:=c.cells I.ok
 have B:∀x a,((z,D)::zdo X.env scope.names []).lookup x=some a->(x=z/\a=D)\/(x≠z/\(zdo X.env scope.names []).lookup x=some a/\X.env.cells.lookup x=some a/\a<s.heap.objs.size):=λx a e=>by
  rw[cI] at e
  cases q:x==z with
  | true=>
   right
  | false=>
   rw[q] at e;have e':(zdo X.env scope.names []).lookup x=some a:=e
   have hl:X.env.cells.lookup x=some a:=by
    rcases zag al e' with z | z;exact z;simp at z
   obtain⟨v,oc,F,_⟩:=I.cell x a hl;exact .inr ⟨by grind,e',hl,ay F⟩
 show⟨⟨I.mod,c.kind,I.ok.glob,I.ok.blt,af _,λx y a e1 e2=>?_,λx hx=>?_,λx a hz e=>?_,I.ok.hd,I.ok.frames,.inl rfl,
  λb L=>⟨aR (U b L),λx a e=>?_⟩,I.bs,ar I.ok.bsz I.sz,λb o e L=>?_,λb L z=>?_,I.stack,I.stkFree⟩,
  I.os ▸ rfl,I.bare,Un.kept hk,⟨m,hn,λj x v h1 h2 h3=>?_⟩,λx a e=>?_,I.hok.fresh (af _),λx a e=>?_,λp hp=>absurd (show p∈([]:AB) from hp) (by simp),I.hok.kept hk,?_⟩
 ·rcases B x a e1 with ⟨r1,r2⟩ | ⟨_,_,r1,r2⟩ <;> rcases B y a e2 with ⟨q1,O⟩ | ⟨_,_,q1,O⟩;grind;exact absurd (aI O (r2 ▸ Y)) (bO _);exact absurd (aI r2 (O ▸ Y)) (bO _);exact I.ok.inj x y a r1 q1
 have an:((relabel scope X.env).names.lookup x=some .cell\/(relabel scope X.env).names.lookup x=some .free):=hx
 have ap:scope.names.lookup x=some .free\/scope.names.lookup x=some .cell:=by
  rcases an with q | q;exact xw q (.inl rfl);exact xw q (.inr rfl)
 change ∃a,((z,D)::zdo X.env scope.names []).lookup x=some a;rw[cI]
 cases q:x==z with
 | true=>exact⟨D,rfl⟩
 | false=>
  rcases ap with e | e;exact zaA e;exact absurd (c.isZ e) λw=>by subst w;simp at q
 have a2:(x==z)=true:=hz;rcases B x a e with ⟨_,r⟩ | ⟨r,_⟩;rw[r];exact Y;right;rcases B x a e with ⟨_,r⟩ | ⟨_,_,r,_⟩;rw[r];exact dw (aI (U b L) Y);exact (hf b L).2.2.2.2.1 x a r;rcases (hf b L).2.2.2.1 with z | z;exact I.ok.noex b o e z;exact absurd (aI (ay e) (ar I.ok.bsz z)) (bO _);rcases aJ.mp (I.stkSub b z) with e | e;exact (hf b L).2.1 e;exact (hf b L).2.2.1 e
 ·have as:N[j]?=some x:=h1;unfold u4 at h2;rw[aq] at h2
  cases e:cix[j]? with
  | none=>rw[e] at h2;cases h2
  | some o=>
   rw[e] at h2
   cases o with
   | none=>cases h2
   | some i=>
    have J:(σ[i]?).join=some v:=bz h2
    have Z:σ[i]?=some (some v):=by
     cases q:σ[i]? with
     | none=>rw[q] at J;cases J
     | some z=>rw[q] at J;have:z=some v:=J;rw[this]
    obtain⟨q1,O,q3⟩:=c.cap as e;obtain⟨m0,a3,av⟩:=I.loc;obtain⟨u,ru,hu⟩:=av i x v q1 Z (q3.elim (λz=>.inr (.inl z)) λz=>.inr (.inr z));show⟨u,ru,.inr ⟨y1 O,?_⟩⟩;rcases hu with ⟨z,_⟩ | ⟨_,a,ha,hcell⟩;have z':X.env.scope.names.lookup x=some .local:=z;right
    ·obtain⟨a',a0⟩:=zaA (env:=X.env) (cs:=[]) O
     have a1:(x==z)=false:=by
      cases q:x==z with
      | false=>rfl
      | true=>
       have:=dZ q;subst this;rw[c.lk] at O;cases O
     have ad:((z,D)::zdo X.env scope.names []).lookup x=some a':=by rw[cI,a1];exact a0
     have:a'=a:=by
      rcases B x a' ad with ⟨r,_⟩ | ⟨_,_,r,_⟩
      all_goals right
     subst this;obtain⟨oc,F,hd⟩:=hcell;exact⟨a',ad,oc,hk _ _ F,hd⟩
 rcases B x a e with ⟨_,r⟩ | ⟨_,_,r,_⟩;rw[r];exact⟨none,ag⟩;obtain⟨v,oc,F,hd⟩:=I.cell x a r;exact⟨v,oc,hk _ _ F,hd⟩;rcases B x a e with ⟨_,r⟩ | ⟨_,_,r,_⟩;rw[r];exact I.hok.fresh Y;exact I.freeC x a r;change (u4 σ cix).length=N.length;unfold u4;rw[ab,c.parts.1]
def zgV{U:St}{H':Hp}{s':AZ}{D:Addr}(I:Inv X pins σ H s)(L:∀b∈fp,zdE X pins H b)(I':Inv (zB X scope N z s.heap.objs.size D s H fp) [] U H' s')(O:Heap.SameBut s.heap.objs.size s'.heap F) :
  Inv X pins σ H' { s' with heap:=F }:=by
 have Y:∀b o,s.heap.get? b=some o->b≠s.heap.objs.size:=λb o e=>aR (ay e);have u:=I'.base;show Inv.call' (ch:=fp) I I'.os ⟨λb o e n B J=>?_,λb o e n B J=>?_,u.free,λb o e J=>?_,u.tups,u.frzs,u.tbls⟩ (zcK I'.hok I'.free O) I'.bare λb B=>⟨(L b B).2.2.2.1,(L b B).2.1,(L b B).2.2.2.2.1,(L b B).2.2.2.2.2⟩;exact (O.2 b (Y b o e)).trans (u.keep b o e n B J);obtain⟨Z,q⟩:=u.slot b o e n B J;exact⟨Z,(O.2 b (Y b o e)).trans q⟩;obtain⟨o',q⟩:=u.there b o e J;exact⟨o',(O.2 b (Y b o e)).trans q⟩
end
section
variable {X:Cx}{scope:Scope}{N:AM}{cix:List (Option Nat)}{z:Str}
def zeJ (c:CompOkC X scope N z cix):Opn X scope cix (λX'=>∃C D s H ex,X'=zB X scope N z C D s H ex) where
 kind:=c.kind
 names:=c.names
 cells:=c.cells
 run:=λpins σ H3 B fp Q I3 L F k=>by
  show zhd c.parts.2 ?_;have O:B.heap.objs.size<=(B.heap.push { cls:=.type "dict",data:=.dict #[] }).objs.size:=by rw[Heap.size_push];exact dX _
  have Y:∀b o,B.heap.get? b=some o->((B.heap.push { cls:=.type "dict",data:=.dict #[] }).push { cls:=.type "cell",data:=.cell none }).get? b=some o:=λb o e=>ai _ (ai _ e);show k (zB X scope N z B.heap.objs.size (B.heap.push { cls:=.type "dict",data:=.dict #[] }).objs.size B H3 fp) _ _ ⟨_,_,_,_,_,rfl⟩ ⟨rfl,rfl,rfl,rfl,rfl,rfl,rfl,λ{H'} Z b J=>⟨Z b J,aR (F b J),λy=>?_,.inl J,λx a e=>?_,λp hp=>?_⟩,λI' hs=>zgV I3 L I' hs⟩ rfl rfl (zkk I3 c L F ((Heap.Ns.new ..).at' λo e=>ai _ e) O ⟨_,aB _ rfl,rfl⟩ Y) Y;rcases aJ.mp (I3.stkSub b y) with e | e;exact (L b J).2.1 e;exact (L b J).2.2.1 e;have U:((z,(B.heap.push { cls:=.type "dict",data:=.dict #[] }).objs.size)::zdo X.env scope.names []).lookup x=some a:=e;rw[cI] at U
  cases q:x==z with
  | true=>
   rw[q] at U;cases (show some _=some a from U);exact dw (aI (F b J) O)
  | false=>
   rw[q] at U;rcases zag (c.cells I3.ok) U with y | y;exact (L b J).2.2.2.2.1 x a y;simp at y
  exact absurd (show p∈([]:AB)++[] from hp) (by simp)
def zmm {P:Cx->Prop}(h:∀C D s H ex,P (zB X scope N z C D s H ex)):∀X',(∃C D s H ex,X'=zB X scope N z C D s H ex)->P X':=by right
end
def znW{X:Cx}{ifs:AO}{scope:Scope}{pos spos:Pos}{wi:TI}{g:TG}{ti:TT}{te:TE}{N:AM}{z:Str}{nx:Str}(q:X.N.Nodup)(B:X.N[ix]?=some nx)(F:X.env.scope.names.lookup nx=some .local)(O:X.calm=true)(c:CompOkC X scope N z cix)(hi:QI X tg iter wi)(Y:∀C D s H ex,QG (zB X scope N z C D s H ex) tg g)(Z:∀C D s H ex,QTs (zB X scope N z C D s H ex) ifs ti)(he:∀C D s H ex,QE (zB X scope N z C D s H ex) elt te)(J:swapsWithSole [.Name nx px] (.ListComp elt [⟨tg,iter,ifs,0⟩] scope pos) spos.line X.env=pure true:=by rfl)(hs:∀x,foldedSetIterable iter X.env x=pure x:=by intro _;rfl)(L:(assignEach [.Name nx px] X.env).map (·.2)=[assign (.Name nx px) X.env]:=by rfl):QS X (.Assign [.Name nx px] (.ListComp elt [⟨tg,iter,ifs,0⟩] scope pos) spos) (zfg (zgp wi g ti te cix) (uA ix)):=⟨λpins s σ H D I h=>zee q B F J L (λ_=>rfl) λU Qp hf=>zbe (Fin:=λacc H=>D.nx (σ.set ix (some (.ref acc))) H) (zeJ c) O hi.run (zmm λC D s H ex=>(Y C D s H ex).run) (zmm λC D s H ex=>(Z C D s H ex).run) (zmm λC D s H ex=>(he C D s H ex).run) hs I h hf⟩
end L2
namespace L2
open PyProof.Rows
def zlF(B:X.calm=true)(c:CompOkC X scope N z cix)(hi:QI X tg iter wi)(F:∀C D s H ex,QG (zB X scope N z C D s H ex) tg g)(J:∀C D s H ex,QTs (zB X scope N z C D s H ex) ifs ti)(L:∀C D s H ex,QE (zB X scope N z C D s H ex) elt te)(O:∀x,foldedSetIterable iter X.env x=pure x:=by intro _;rfl):QE X (.ListComp elt [⟨tg,iter,ifs,0⟩] scope pos) (zgp wi g ti te cix):=⟨λpins s σ H Q I h=>by
 rw[eval_ListComp];exact zbe (Fin:=λacc H=>Q (.ref acc) H) (zeJ c) B hi.run (zmm λC D s H ex=>(F C D s H ex).run) (zmm λC D s H ex=>(J C D s H ex).run) (zmm λC D s H ex=>(L C D s H ex).run) O I h λ_ _ _ _ _ U Y q=>za2 U Y q⟩
def xo:entryFor table "dict.update.loop" = some Builtin.«dict.update.loop»:=entryFor_of_tree (by kernel_rfl)
def z8:plainId "dict.update.loop" = true:=by decide +kernel
section
variable {prog:Aa}{w:Ab}{A:Ae}{E:AA}{s:AZ}{R:Result->AZ->Prop}{Kt:Type}[DecidableEq Kt]{knd:KeyKind prog w Kt}{κ:Int->Kt}
def zdm(B:s.heap.get? a=some o)(q:o.data = .seq xs n)(h:Q (some xs) s):Ag prog w A (seqItems? (.ref a)) Q E s:=by
 obtain⟨c,d,F,I⟩:=o;simp only at q;subst q;unfold seqItems?
 repeat (any_goals (first | assumption | wp_step))
end
end L2
namespace L2
open PyProof.Rows
def uV {X:Cx}{pins:AB}{σ:St}{H:Hp}{s:AZ}{a:Addr}{xs:AT}(I:Inv X pins σ H s)(h:SqL X.K H a xs):∃its:AN,z9 xs its/\s.heap.IsList a its.toArray/\xs.length<=sizeLine:=by obtain⟨its,r,⟨o,n,e,c,_,d⟩,z⟩:=I.list h;exact⟨its,r,⟨o,e,c,n,d⟩,z⟩
def Iel (K:AH)(a:Addr):It:=
 ⟨λi H=>∃xs x,SqL K H a xs/\xs[i]?=some x,λi H v H'=>∃T x,v = .ref T/\H T=none/\H'=upd H T (.tup [.int i,x])/\∀xs,SqL K H a xs->xs[i]?=some x,λi H=>∃xs,SqL K H a xs/\xs.length<=i⟩
def zjW {X:Cx}{pins:AB}{σ:St}{H:Hp}{s:AZ}{e J:Addr}{i n:Nat}{U:Value}{fp:AY}{P:Nat->Value->Prop}{St:Nat->Heap->Prop}{x:V}{elts:AO}{x1}{tpos:Pos}{E:AA}(I:Inv X pins σ H s)(hf:∀b∈[e,J],zdE X pins H b)(av:e≠J)(he:IsEnum s.heap e J i U)
  (D:Draws X.prog X.w X.A.in1 J fp n P St) (Y:St i s.heap) (hi:i<n) (Z:e∉fp) (hx:∀y,P i y->yG x y) :
  Af X (pyNext (.ref e)) (λr s1=>∃u,r=some u/\Af X (letOwnedTupleGo (.Tuple elts x1 tpos) (.ref e) u) (λ_ s2=>∃T,Inv X pins σ (upd H T (.tup [.int i,x])) s2/\u = .ref T/\H T=none/\(∃U,IsEnum s2.heap e J ((i+1:Nat):Int) U)/\St (i+1) s2.heap/\∀b∈[e,J],upd H T (.tup [.int i,x]) b=none) E s1) E s:=by
 obtain⟨f0,f1,f2,f3,f4,f5⟩:=hf e (by simp);obtain⟨g0,g1,g2,g3,g4,g5⟩:=hf J (by simp);obtain⟨o0,a0⟩:=D.live _ _ Y;show wpAny_pyNext_enum_itemD D he Y hi av Z λy h' tk hy ho ad hT a3 hk=>⟨_,rfl,wpAny_letOwnedTupleGo_enum ho λO ag L=>?_⟩;have ru:=hx y hy;have al:s.heap.objs.size≠e:=dw (ay he);have a1:s.heap.objs.size≠J:=dw (ay a0);have B:=I.hok.fresh (af s.heap.objs.size);have kp:∀b o,b≠e->b≠J->s.heap.get? b=some o->O.get? b=some o:=λb o h1 h2 F=>(L.2 b h1).trans (hk b o h1 h2 F);have an:O.get? s.heap.objs.size=some { cls:=.type "tuple",data:=.seq #[.int i tk,y] }:=(L.2 _ al).trans hT;have a4:∀b u',H b=some u'->b≠e/\b≠J:=λb u' F=>⟨zc F f0,zc F g0⟩
 have ap:HOk X.prog X.w (upd H s.heap.objs.size (.tup [.int i,x])) O:=by
  intro b u' F;by_cases as:b=s.heap.objs.size;subst as;rw[zj] at F;cases F;exact⟨by change 2<=sizeLine;decide,[.int i tk,y],.cons ⟨tk,rfl⟩ (.cons ru .nil),_,an,rfl,⟨0,rfl⟩,rfl⟩;rw[zf as] at F;show (I.hok b u' F).stay (λc v a5 q=>?_) (λc q=>?_) (λc ys q=>?_);grind;rw[zf (zc q B)];exact q;rw[zf (zc q B)];exact q
 have I1:Inv X pins σ (upd H s.heap.objs.size (.tup [.int i,x])) { s with heap:=O,toks:=tk+1 }:=by
  show Inv.step (ch:=[e,J]) (g':=s.gens) (d':=s.drawn) (t':=tk+1) I (λb F=>?_) (λb o h1 h2 h3 h4 h5=>?_) (λb o h1 h2 h3 h4 h5=>?_) (λb o h3 h4 h5=>?_) (λb o h3 h4=>?_) (λb ys q=>?_) (λb o u' q=>?_) (λb ps q=>?_) (λm hm=>?_) ap I.bare;rcases aJ.mp F with rfl | F;exact⟨f3,f1,f4,f5⟩;rw[aD.mp F];exact⟨g3,g1,g4,g5⟩;right;exact⟨o.slots,kp b o (λz=>h3 (by simp[z])) (λz=>h3 (by simp[z])) h4⟩;rw[zf (aR (ay h4))];exact h5;right;rw[zf (zc q B)];exact q;rw[zf (zc q B)];exact q;exact⟨#[],by rw[zf (zc q B),eF];exact q⟩;obtain⟨o,es,ep,a2,r1⟩:=hm;exact⟨o,es,ep,kp _ o (Ne.symm f1) (Ne.symm g1) a2,r1⟩
 show⟨s.heap.objs.size,I1,rfl,B,⟨y,by have:=ag;push_cast;exact this⟩,D.frame _ _ _ ad λb F o z=>(L.2 b λq=>Z (q ▸ F)).trans z,λb F=>?_⟩;rcases aJ.mp F with rfl | F;rw[zf (Ne.symm al)];exact f0;rw[aD.mp F,zf (Ne.symm a1)];exact g0
def zmQ{i:Int}(F:∃B,IsEnum h e q i B)(hi:∃o,h.get? q=some o/\∀v,o.data≠.cell v):∀b∈[e,q],∃o,h.get? b=some o/\∀v,o.data≠.cell v:=by grind
def zi7{P:Aa}{w:Ab}{K:AH}{elts:AO}{x1}(a J e:Addr)(O:e≠J) :
  Turn P w K (.Tuple elts x1 tpos) (Iel K a) [e,J] e (λi h=>(∃q,IsEnum h e J i q)/\h.IsListIter J a i) where
 mem:=by simp
 obj:=λi h st=>zmQ st.1 (by obtain⟨_,o,e,c,d⟩:=st;exact⟨o,e,by grind⟩)
 keep:=λi h h' st k=>by obtain⟨⟨q,L⟩,o,U,r⟩:=st;exact⟨⟨q,k e (by simp) _ L⟩,o,k J (by simp) _ U,r⟩
 item:=by
  intro X Z hw hK hc i pins s σ H E I hf st hg;subst Z hw hK;obtain⟨xs,x,Y,hx⟩:=hg;obtain⟨its,rv,p,hz⟩:=uV I Y;obtain⟨u,hu,ru⟩:=rv.get hx;obtain⟨⟨q,L⟩,B⟩:=st
  have ad:a≠J:=by
   intro z;obtain⟨o,U,ag,_⟩:=p;obtain⟨o',a1,a0,_⟩:=B;grind
  have al:e≠a:=by
   intro z;obtain⟨o,U,ag,_⟩:=p;grind
  show thn (zjW (x:=x) (elts:=elts) (x1:=x1) (tpos:=tpos) I hf O L (Draws.list (A:=X.A.in1) (I.ok.hd hc) J a ad its.toArray) ⟨B,p⟩ (by simpa using (ac.mp hu).1) (by simp[O,al]) λy hy=>?_) ?_;right;rintro r s1 ⟨u2,rfl,h2⟩;show⟨_,rfl,thn h2 ?_⟩;rintro _ s2 ⟨T,h3,rfl,h4,h5,h6,h7⟩;exact⟨.ref T,_,h3,rfl,⟨T,x,rfl,h4,rfl,λys an=>by rw[I.list_inj an Y];exact hx⟩,⟨h5,h6.1⟩,h7⟩
 done:=by
  intro X Z hw hK hc i pins s σ H E I hf st hg;subst Z hw hK;obtain⟨xs,Y,hx⟩:=hg;obtain⟨its,rv,p,hz⟩:=uV I Y;obtain⟨f0,f1,f2,f3,f4,f5⟩:=hf J (by simp);obtain⟨⟨q,L⟩,B⟩:=st;have hl:=rv.length;have hT:s.TypeIs (.ref e) "enumerate" := ⟨_,L,rfl⟩;unfold pyNext
  show aa (cR (wpAny_callSpecial?_slot (name:=Str.ofString "__next__") hT F.slot_enumerate_next
   (bf F.slot_enumerate_next hT F.entry_enumerate_next ?_ (F.args_enumerate_next_1 _))))
  change wpAny _ _ (field (.ref e) 2 >>= _) _ _ _;show aa (wpAny_field L rfl (x:=.ref J) rfl ?_);show aa (wpAny_nextOf_list_end (A:=X.A.in1) (I.ok.hd hc) B p (by simp;lia) λh' x ap as=>?_);obtain⟨o,U,av⟩:=as;show aa (cK (T := "StopIteration") (b:=true) ⟨o,U,av⟩ dv ?_);exact ae ⟨rfl,I.turned (t':=s.toks) (λb o hb e=>ap b o hb e) f0 f1 f3 f4 f5⟩
 self:=λA i s Q E st h=>by obtain⟨⟨q,L⟩,B⟩:=st;exact wpAny_pyIter_enum L h
def zoJ (K:AH)(ta:TA):TI:=λσ H R=>ta σ H λvs H1=>∃a,vs=[.ref a]/\(∃xs,SqL K H1 a xs)/\R (Iel K a) H1
def znH{x1}(O:Gl X "enumerate")(U:X.mg "enumerate" = none)(Y:PA X [a] ta)(Z:starEach [a] X.env=[(false,eval a X.env)]:=by rfl) :
  PI X (.Tuple elts x1 tpos) (.Call (.Name "enumerate" p) [a] [] pos) (zoJ X.K ta):=by
 intro pins s σ H R I h;show Call_ (zcS I O U boot_enumerate (ci (thn (Y pos pins s σ H _ I h) λus B ⟨vs,H1,I1,r1,q1⟩=>?_) Z rfl));obtain⟨b,rfl,⟨xs,hq⟩,q⟩:=q1;obtain⟨u,rfl,ru⟩:=zaf r1;cases ru;obtain⟨its,rv,pt,hz⟩:=uV I1 hq;show call_enumerate_list (show B.heap.IsList b its.toArray from pt) λh' L F hsz hk=>?_;have I2:Inv X pins σ H1 { B with heap:=h',toks:=B.toks }:=I1.kept (t':=B.toks) hk;show wpAny_pyIter_enum L ?_;show⟨B.heap.objs.size+1,[B.heap.objs.size+1,B.heap.objs.size],_,_,H1,rfl,I2,zi7 b B.heap.objs.size (B.heap.objs.size+1) (Nat.succ_ne_self _),⟨⟨_,L⟩,F⟩,λc J=>?_,q⟩;rcases aJ.mp J with rfl | J;exact I1.fpOk (dX _) (I1.hok.fresh (dX _));rw[aD.mp J];exact I1.fpOk (af _) (I1.hok.fresh (af _))
def znT{x1}(q:Gl X "enumerate")(B:X.mg "enumerate" = none)(F:QA X [a] ta)(I:starEach [a] X.env=[(false,eval a X.env)]:=by rfl) :
  QI X (.Tuple elts x1 tpos) (.Call (.Name "enumerate" p) [a] [] pos) (zoJ X.K ta):=⟨znH q B F.run I⟩
def Izl (K:AH)(a b:Addr):It:=
 ⟨λi H=>∃xs ys x y,SqL K H a xs/\SqL K H b ys/\xs[i]?=some x/\ys[i]?=some y,λi H v H'=>∃T x y,v = .ref T/\H T=none/\H'=upd H T (.tup [x,y])/\(∀xs,SqL K H a xs->xs[i]?=some x)/\∀ys,SqL K H b ys->ys[i]?=some y,λi H=>∃xs ys,SqL K H a xs/\SqL K H b ys/\(xs.length<=i\/ys.length<=i)⟩
def zmh{P:Aa}{w:Ab}{K:AH}{elts:AO}{x1}(z TI TO U Y a b:Addr)(D:ZipApart z TI TO U Y a b) :
  Turn P w K (.Tuple elts x1 tpos) (Izl K a b) [z,TI,TO,U,Y] z (λi h=>IsZip h z TI TO .none/\IsPair h TI (.ref U) (.ref Y)/\(∃c d,IsPair h TO c d)/\h.IsListIter U a i/\h.IsListIter Y b i) where
 mem:=by simp
 obj:=λi h st c L=>by
  obtain⟨hz,Z,⟨u,v,ag⟩,⟨o1,e1,c1,d1⟩,⟨o2,e2,c2,d2⟩⟩:=st;grind
 keep:=λi h h' st k=>by obtain⟨hz,Z,⟨u,v,ag⟩,⟨o1,e1,r1⟩,⟨o2,e2,r2⟩⟩:=st;exact⟨k z (by simp) _ hz,k TI (by simp) _ Z,⟨u,v,k TO (by simp) _ ag⟩,⟨o1,k U (by simp) _ e1,r1⟩,⟨o2,k Y (by simp) _ e2,r2⟩⟩
 item:=by
  intro X hP hw hK L i pins s σ H E I hf st hg;subst hP hw hK;obtain⟨xs,ys,x,y,ap,as,hx,hy⟩:=hg;obtain⟨a5,a1,p1,cp⟩:=uV I ap;obtain⟨a7,a2,p2,cs⟩:=uV I as;obtain⟨u1,bx,b0⟩:=a1.get hx;obtain⟨u2,b1,b2⟩:=a2.get hy;have fz:=hf z (by simp);have B:=hf TO (by simp);have f1:=hf U (by simp);have f2:=hf Y (by simp);obtain⟨hz,Z,⟨c0,d0,ag⟩,av,a0⟩:=st;have hT:s.TypeIs (.ref z) "zip" := ⟨_,hz,rfl⟩;unfold pyNext
  show aa (cR (wpAny_callSpecial?_slot (name:=Str.ofString "__next__") hT ei
   (bf ei hT F.entry_zip_next (zip_next_item (A:=X.A.in1) D hz Z ag av a0 p1 p2 (x:=u1) (y:=u2) (by simpa using bx) (by simpa using b1) λh' gz b3 b4 ca gT dd hk=>?_) (F.args_zip_next_1 _))))
  show ae ⟨_,rfl,?_⟩;show wpAny_letOwnedTupleGo_zip (s:={ s with heap:=h' }) gz λan a8 ad=>?_;have nz:∀b' o',s.heap.get? b'=some o'->s.heap.objs.size≠b':=λb' o' e=>dw (ay e);have bb:s.heap.objs.size≠z:=nz z _ hz;have bd:s.heap.objs.size≠TO:=nz TO _ ag;have cc:s.heap.objs.size≠U:=by obtain⟨o,ho,_⟩:=av;exact nz U _ ho
  have cd:s.heap.objs.size≠Y:=by obtain⟨o,ho,_⟩:=a0;exact nz Y _ ho
  have bk:s.heap.objs.size≠TI:=nz TI _ Z;have J:=I.hok.fresh (af s.heap.objs.size);have kp:∀c o,c≠z->c≠TO->c≠U->c≠Y->s.heap.get? c=some o->an.get? c=some o:=λc o h1 h2 h3 h4 hb=>(ad.2 c h1).trans (hk c o h1 h2 h3 h4 hb);have bl:an.get? s.heap.objs.size=some { cls:=.type "tuple",data:=.seq #[u1,u2] }:=(ad.2 _ bb).trans gT;have cn:∀b' u',H b'=some u'->b'≠z/\b'≠TO/\b'≠U/\b'≠Y:=λb' u' hb=>⟨zc hb fz.1,zc hb B.1,zc hb f1.1,zc hb f2.1⟩
  have bo:HOk X.prog X.w (upd H s.heap.objs.size (.tup [x,y])) an:=by
   intro b' u' hb;by_cases bs:b'=s.heap.objs.size;subst bs;rw[zj] at hb;cases hb;exact⟨by change 2<=sizeLine;decide,[u1,u2],.cons b0 (.cons b2 .nil),_,bl,rfl,⟨0,rfl⟩,rfl⟩
   ·rw[zf bs] at hb;show (I.hok b' u' hb).stay (λc v O q=>?_) (λc q=>?_) (λc ys q=>?_)
    ·have:c≠z/\c≠TO/\c≠U/\c≠Y:=by
      rcases O with rfl | O
      all_goals right
     right
    rw[zf (zc q J)];exact q;rw[zf (zc q J)];exact q
  have al:∀c o,c∉[z,TO,U,Y]->s.heap.get? c=some o->an.get? c=some o:=λc o L e=>kp c o (λq=>L (by simp[q])) (λq=>L (by simp[q])) (λq=>L (by simp[q])) (λq=>L (by simp[q])) e
  have I1:Inv X pins σ (upd H s.heap.objs.size (.tup [x,y])) { s with heap:=an,toks:=s.toks }:=by
   show Inv.step (ch:=[z,TO,U,Y]) (g':=s.gens) (d':=s.drawn) (t':=s.toks) I (λc L=>?_) (λc o h1 h2 h3 h4 h5=>?_) (λc o h1 h2 h3 h4 h5=>?_) (λc o h3 h4 h5=>?_) (λc o h3 h4=>?_) (λc ys q=>?_) (λc o u' q=>?_) (λc ps q=>?_) (λm hm=>?_) bo I.bare;simp only[aJ,b8,or_false] at L;rcases L with rfl | rfl | rfl | rfl;exact⟨fz.2.2.2.1,fz.2.1,fz.2.2.2.2.1,fz.2.2.2.2.2⟩;exact⟨B.2.2.2.1,B.2.1,B.2.2.2.2.1,B.2.2.2.2.2⟩;exact⟨f1.2.2.2.1,f1.2.1,f1.2.2.2.2.1,f1.2.2.2.2.2⟩;exact⟨f2.2.2.2.1,f2.2.1,f2.2.2.2.2.1,f2.2.2.2.2.2⟩;exact al c o h3 h4;exact⟨o.slots,al c o h3 h4⟩;rw[zf (aR (ay h4))];exact h5;exact⟨o,al c o h3 h4⟩;rw[zf (zc q J)];exact q;rw[zf (zc q J)];exact q;exact⟨#[],by rw[zf (zc q J),eF];exact q⟩;obtain⟨o,es,ep,a3,r1⟩:=hm;exact⟨o,es,ep,kp _ o (Ne.symm fz.2.1) (Ne.symm B.2.1) (Ne.symm f1.2.1) (Ne.symm f2.2.1) a3,r1⟩
  show⟨.ref s.heap.objs.size,_,I1,rfl,⟨s.heap.objs.size,x,y,rfl,J,rfl,λzs a4=>by rw[I.list_inj a4 ap];exact hx,λzs a4=>by rw[I.list_inj a4 as];exact hy⟩,⟨a8,?_,⟨_,_,(ad.2 TO D.TOz).trans b3⟩,?_,?_⟩,λc L=>?_⟩;exact kp TI _ D.TIz D.TITO D.TIi1 D.TIi2 Z;obtain⟨o,ho,r⟩:=b4;exact⟨o,(ad.2 U D.i1z).trans ho,r⟩;obtain⟨o,ho,r⟩:=ca;exact⟨o,(ad.2 Y D.i2z).trans ho,r⟩;simp only[aJ,b8,or_false] at L;rcases L with rfl | rfl | rfl | rfl | rfl;rw[zf (Ne.symm bb)];exact fz.1;rw[zf (Ne.symm bk)];exact (hf _ (by simp)).1;rw[zf (Ne.symm bd)];exact B.1;rw[zf (Ne.symm cc)];exact f1.1;rw[zf (Ne.symm cd)];exact f2.1
 done:=by
  intro X hP hw hK L i pins s σ H E I hf st hg;subst hP hw hK;obtain⟨xs,ys,ap,as,hx⟩:=hg;obtain⟨a5,a1,p1,df⟩:=uV I ap;obtain⟨a7,a2,p2,co⟩:=uV I as;have fz:=hf z (by simp);have B:=hf TO (by simp);have f1:=hf U (by simp);have f2:=hf Y (by simp);obtain⟨hz,Z,⟨c0,d0,ag⟩,av,a0⟩:=st;have dk:=a1.length;have dm:=a2.length;have hT:s.TypeIs (.ref z) "zip" := ⟨_,hz,rfl⟩;unfold pyNext
  show aa (cR (wpAny_callSpecial?_slot (name:=Str.ofString "__next__") hT ei
   (bf ei hT F.entry_zip_next (zip_next_end (A:=X.A.in1) (I.ok.hd L) D hz Z ag av a0 p1 p2 (hx.elim (λz=>.inl (by simp;lia)) λz=>.inr (by simp;lia)) λh' e ko he=>?_) (F.args_zip_next_1 _))))
  obtain⟨o,ho,cl⟩:=he;show aa (cK (T := "StopIteration") (b:=true) ⟨o,ho,cl⟩ dv ?_);show ae ⟨rfl,?_⟩;have al:∀c o,c∉[z,TO,U,Y]->s.heap.get? c=some o->h'.get? c=some o:=λc o L e=>ko c o (λq=>L (by simp[q])) (λq=>L (by simp[q])) (λq=>L (by simp[q])) (λq=>L (by simp[q])) e;show Inv.step (ch:=[z,TO,U,Y]) (g':=s.gens) (d':=s.drawn) (t':=s.toks) I (λc L=>?_) (λc o h1 h2 h3 h4 h5=>al c o h3 h4) (λc o h1 h2 h3 h4 h5=>⟨o.slots,al c o h3 h4⟩) (λc o h3 h4 h5=>h5) (λc o h3 h4=>⟨o,al c o h3 h4⟩) (λc ys q=>q) (λc o u' q=>q) (λc ps q=>⟨#[],by right⟩) (λm hm=>?_) (λb' u' hb=>?_) I.bare;simp only[aJ,b8,or_false] at L;rcases L with rfl | rfl | rfl | rfl;exact⟨fz.2.2.2.1,fz.2.1,fz.2.2.2.2.1,fz.2.2.2.2.2⟩;exact⟨B.2.2.2.1,B.2.1,B.2.2.2.2.1,B.2.2.2.2.2⟩;exact⟨f1.2.2.2.1,f1.2.1,f1.2.2.2.2.1,f1.2.2.2.2.2⟩;exact⟨f2.2.2.2.1,f2.2.1,f2.2.2.2.2.1,f2.2.2.2.2.2⟩;obtain⟨o,es,ep,a3,r1⟩:=hm;exact⟨o,es,ep,ko _ o (Ne.symm fz.2.1) (Ne.symm B.2.1) (Ne.symm f1.2.1) (Ne.symm f2.2.1) a3,r1⟩;show (I.hok b' u' hb).stay (λc v O q=>?_) (λc q=>q) (λc ys q=>q)
  have:c≠z/\c≠TO/\c≠U/\c≠Y:=by
   rcases O with rfl | O;exact⟨zc hb fz.1,zc hb B.1,zc hb f1.1,zc hb f2.1⟩;exact⟨zc O fz.1,zc O B.1,zc O f1.1,zc O f2.1⟩
  exact ko c v this.1 this.2.1 this.2.2.1 this.2.2.2 q
 self:=λA i s Q E st h=>by obtain⟨hz,_⟩:=st;exact wpAny_pyIter_zip hz h
def zsX (K:AH)(ta:TA):TI:=λσ H R=>ta σ H λvs H1=>∃a b,vs=[.ref a,.ref b]/\(∃xs,SqL K H1 a xs)/\(∃ys,SqL K H1 b ys)/\R (Izl K a b) H1
def zqU {X:Cx}{elts:AO}{x1}{tpos:Pos}{a b:Expr}{ta:TA}{p pos:Pos}(hg:Gl X "zip")(hm:X.mg "zip" = none)(ha:PA X [a,b] ta)(hs:starEach [a,b] X.env=[(false,eval a X.env),(false,eval b X.env)]:=by rfl)(F:starEach [b] X.env=[(false,eval b X.env)]:=by rfl) :
  PI X (.Tuple elts x1 tpos) (.Call (.Name "zip" p) [a,b] [] pos) (zsX X.K ta):=by
 intro pins s σ H R I h;show Call_ (zcS I hg hm boot_zip (ci (thn (ha pos pins s σ H _ I h) λus B ⟨vs,H1,I1,r1,q1⟩=>?_) (by rw[hs,F]) (by rw[F];rfl)));obtain⟨c,d,e,⟨xs,O⟩,⟨ys,U⟩,q⟩:=q1;subst e
 cases r1 with
 | cons r Y=>
  cases Y with
  | cons r' Y=>
   cases Y;cases r;cases r';obtain⟨J,as,p1,av⟩:=uV I1 O;obtain⟨L,a0,p2,a1⟩:=uV I1 U;have Z:c<B.heap.objs.size:=by obtain⟨o,ho,_⟩:=id p1;exact ay ho
   have ad:d<B.heap.objs.size:=by obtain⟨o,ho,_⟩:=id p2;exact ay ho
   show call_zip_2 (show B.heap.IsList c J.toArray from p1) (show B.heap.IsList d L.toArray from p2) λh' gz ag al an ap hsz hk=>?_;have I2:Inv X pins σ H1 { B with heap:=h',toks:=B.toks }:=I1.kept (t':=B.toks) hk;show wpAny_pyIter_zip gz ?_;show⟨B.heap.objs.size+4,[B.heap.objs.size+4,B.heap.objs.size+2,B.heap.objs.size+3,B.heap.objs.size,B.heap.objs.size+1],_,_,H1,rfl,I2,zmh _ _ _ _ _ c d (zipApart_new Z ad),⟨gz,ag,⟨_,_,al⟩,an,ap⟩,λe he=>?_,q⟩;simp only[aJ,b8,or_false] at he;rcases he with rfl | rfl | rfl | rfl | rfl;exact I1.fpOk (by lia) (I1.hok.fresh (by lia));exact I1.fpOk (by lia) (I1.hok.fresh (by lia));exact I1.fpOk (by lia) (I1.hok.fresh (by lia));exact I1.fpOk (af _) (I1.hok.fresh (af _));exact I1.fpOk (by lia) (I1.hok.fresh (by lia))
def zrm {X:Cx}{elts:AO}{x1}{tpos:Pos}{a b:Expr}{ta:TA}{p pos:Pos}(B:Gl X "zip")(F:X.mg "zip" = none)(I:QA X [a,b] ta)(J:starEach [a,b] X.env=[(false,eval a X.env),(false,eval b X.env)]:=by rfl)(q:starEach [b] X.env=[(false,eval b X.env)]:=by rfl) :
  QI X (.Tuple elts x1 tpos) (.Call (.Name "zip" p) [a,b] [] pos) (zsX X.K ta):=⟨zqU B F I.run J q⟩
abbrev nmS (b:Bool):String:=match b with | true => "tuple" | false => "list"
abbrev nmI (b:Bool):String:=match b with | true => "tuple_iterator" | false => "list_iterator"
abbrev SqV (b:Bool) (K:AH) (H:Hp) (a:Addr) (xs:AT):Prop:=match b with | true=>SqT K H a xs | false=>SqL K H a xs
section
variable {prog:Aa}{w:Ab}{A:Ae}{E:AA}{s:AZ}
variable {X:Cx}
def zrs:V->AT->Hp->VK->Prop:=λx vs H Q=>∃l xs k y,x = .ref l/\vs=[.int k,y]/\H l=some (.lst xs)/\0<=k/\k<=xs.length/\xs.length<sizeLine/\Q .non (upd H l (.lst (xs.take k.toNat++y::xs.drop k.toNat)))
def zk8:MtM X "list.insert" zrs:=by
 intro pins s σ H x vs v us Q I J L h;obtain⟨l,xs,k,y,rfl,rfl,B,h0,h1,O,q⟩:=h;cases J
 cases L with
 | cons U Y=>
  cases Y with
  | cons Z rn=>
   cases rn;obtain⟨t,rfl⟩:=U;obtain⟨z,its,n,r,hl,e⟩:=I.lstM B
   have hk:k<2 ^ 63:=by
    have:(xs.length:Int)<=2 ^ 40:=by have h2:xs.length<=2 ^ 40:=ar (cb O) (by ext);lia
    lia
   show c9 PySem.F.slot_list_insert ⟨_,e,rfl⟩ PySem.F.entry_list_insert (PySem.F.args_list_insert_3 _ _ _)
    (AutoSeq1.list_insert_list_int_val_1 l its.toArray n k t _ (by rw[fitsIndex_both (by lia) hk];decide) (by grind)) ⟨e,?_⟩
   show⟨.non,_,I.lset (its':=its.take k.toNat++_::its.drop k.toNat) B e ?_ ((r.take _).append (.cons Z (r.drop _))) ?_,rfl,q⟩;change (its.toArray.extract 0 (if k<0 then (k+(its.toArray.size:Int)).toNat else min k.toNat its.toArray.size)).push _++its.toArray.extract (if k<0 then (k+(its.toArray.size:Int)).toNat else min k.toNat its.toArray.size)=_;rw[if_neg (by lia),aS,Nat.min_eq_left (by lia)];apply Array.toList_inj.mp;simp;rw[ck (by simp)];grind
def zdX{T:String}{name:Str}{id:String}{r:V->AT->Hp->VK->Prop}{es:AO}{to:TE}{t:TA}{apos cpos:Pos}(O:PlainAttrs T)(I:Slot T name id)(L:typeOf (.builtin id)=pure (.type "method_descriptor"))(U:MtR X id r)(Y:QE X o to)(Z:QA X (e::es) t)(B:attributeBase o name X.env (eval o X.env)=eval o X.env:=by rfl)(J:((backTo cpos (starEach (e::es) X.env)).all (λx=>!x.1)&&(backToKw cpos (keywordEach [] X.env)).all (λx=>x.1.isSome)
   && decide ((e::es).length+([]:List Keyword).length+(if ([]:List Keyword).isEmpty then 0 else 1)<30))=true:=by rfl)(F:(apos.endLine==cpos.line)=true:=by rfl)(hs:starEach (e::es) X.env=(false,eval e X.env)::starEach es X.env:=by rfl)(q:(backTo cpos (starEach es X.env)).any (·.1)=false:=by rfl) :
  QE X (.Call (.Attribute o name apos) (e::es) [] cpos) (tBM X.K T r to t):=⟨ztY O I L U Y.run Z.run B J F hs q⟩
def zlN:AT->Hp->VK->Prop:=λxs H Q=>∃ (l:Addr) (ns:AG),xs=[.ref l]/\H l=some (.lst (ns.map V.int))/\ns.length<64/\∀q:AG,q.Perm ns->q.Pairwise (·<=·)->New H (.lst (q.map V.int)) Q
def za5:∀ {ns:AG} {its:AN},z9 (ns.map V.int) its->IntsAre its ns
 | [],_,h=>by cases h;exact .nil
 | n::ns,_,h=>by
  cases h with
  | cons q B=>
   obtain⟨t,rfl⟩:=q;exact .cons _ _ (za5 B)
def zmz{ns:AG}(h:IntsAre its ns):z9 (ns.map V.int) its:=by
 induction h with
 | nil=>exact .nil
 | cons _ _ _ q=>exact .cons ⟨_,rfl⟩ q
def zmK:CallQ X (.builtin "sorted") zlN:=⟨by
 intro pins s σ H xs us Q I r h;obtain⟨l,ns,rfl,hl,Z,q⟩:=h;obtain⟨u,rfl,ru⟩:=zaf r;cases ru;obtain⟨its,rv,pl,hz⟩:=I.list (.of hl);obtain⟨m0,B,_⟩:=id I.loc;show PySem.W.kso_sorted (h₀:=(⟨#[],{}⟩:Heap)) (L:=X.env.locals) (m:=m0) (news:=zbp s.heap X.env.locals) ⟨B,λb o e=>?_,aG _⟩ (λp hp=>?_) pl.isList (za5 rv) Z λD ap J c h' F N O hi an hp hs _=>?_;have:=ay e;simp at this;obtain⟨b,o⟩:=p;have:=zY.mp hp;show⟨this.2,this.1,?_⟩
 cases e:(⟨#[],{}⟩:Heap).get? b with
 | none=>rfl
 | some o'=>
  have:=ay e;simp at this
 have ad:∀b o,b≠X.env.locals->s.heap.get? b=some o->h'.get? b=some o:=λb o hb e=>(N (b,o) (am _ (zY.mpr ⟨hb,e⟩))).1;have ag:D≠X.env.locals:=(N (D,_) ak).2.1
 have al:s.heap.get? D=none:=by
  cases e:s.heap.get? D with
  | none=>rfl
  | some o=>exact absurd (O (D,o) (zY.mpr ⟨ag,e⟩)) (bO _)
 have U:H D=none:=by
  cases e:H D with
  | none=>rfl
  | some o=>
   obtain⟨o',as⟩:=zbh (I.hok D o e);grind
 have Y:=(N (D,_) ak).1;have I':=zep I B (ys:=J.map V.int) ad F.ns al U Y (zmz hi) (by grind) s.toks;exact⟨.ref D,_,I',rfl,(q J hp hs).at U⟩⟩
end
end L2
namespace L3
open L2
abbrev zvW:=Addr×Addr×List Int
abbrev imm:HO->Bool
 | .lst _=>false
 | .dK _=>false
 | .dT _=>false
 | .ext _=>false
 | _=>true
def Mt (o:HO):Prop:=imm o=false
def Mt.tup(h:Mt o):∀xs,o≠.tup xs:=λ_ e=>by subst e;cases h
def NP (o:HO):Prop:=∀kvs,pnK o=some kvs->zaI kvs (Sum.inr "at" : Key)=none
def NP.lst:NP (.lst xs):=λ_ e=>by cases e
structure Jv where
 K:(AL)->Hp->Prop
 same:∀ {A:AL} {H H':Hp},K A H->y4 H H'->K A H'
 grow:∀ {A A':AL} {H:Hp},K A' H->(∀a,A a->A' a\/∃o,H a=some o/\NP o/\Mt o)->K A H
 upd:∀ {A:AL} {H:Hp} {p:Addr} {o:HO},K A H->A p->K A (L2.upd H p o)
 frz:∀ {A:AL} {H:Hp} {p:Addr} {o o':HO},K A H->H p=some o->NP o->Mt o->K A (L2.upd H p o')
structure PN where
 pn:Option zvW
 J:Jv
def J0:Jv:=⟨λ_ _=>True,λ_ _=>trivial,λ_ _=>trivial,λ_ _=>trivial,λ_ _ _ _=>trivial⟩
inductive W where
 | d (x:Dt) | pen (p:Addr) | dk (kvs:List (Key×Dt)) | dt (kvs:List (AG×Dt)) | ss (P:Aa) (w:Ab) (ks:AF) | df (kvs:List (AG×Dt)) | kf (kvs:List (Key×Dt)) | fl (l:AS) | ad (a:Addr) (x:Dt)
abbrev AV:=W->Nat->Prop
abbrev AU:=List W
abbrev Mo (α:Type):=Nat->(α->Nat->Prop)->Prop
abbrev Ev:=List (Option W)
abbrev AD:=Ev->Mo W
abbrev AC:=Ev->Mo AU
open Classical in
noncomputable def zM (A:AL)(H:Hp):Hp:=λb=>if A b then none else H b
section
variable {A A0:AL}{H H' G G' T T':Hp}{a b:Addr}{o:HO}
def zE:zM A H b=some o↔¬ A b/\H b=some o:=by
 unfold zM;grind
def zv (h:¬ A b)(e:H b=some o):zM A H b=some o:=zE.mpr ⟨h,e⟩
def zp:y4 (zM A H) H:=λb o e=>(zE.mp e).2
def zH (s:zu H H'):zu (zM A H) (zM A H'):=λb o e n=>zv (zE.mp e).1 (s b o (zE.mp e).2 n)
def zcJ (s:y4 H H'):y4 (zM A H) (zM A H'):=λb o e=>zv (zE.mp e).1 (s b o (zE.mp e).2)
def yK (h:∀b,A0 b->A b):y4 (zM A H) (zM A0 H):=λb o e=>zv (λz=>(zE.mp e).1 (h b z)) (zE.mp e).2
def yg (h:A a):zM A (upd H a o)=zM A H:=by
 funext b;unfold zM;by_cases q:A b;simp[q];have:b≠a:=λe=>q (e ▸ h);simp[q,zf this]
end
def DAt (T G:Hp):Dt->V->Prop
 | .lst l,v=>∃a xs,v = .ref a/\T a=some (.lst xs)/\IsL G l xs
 | .dct,v=>∃a kvs,v = .ref a/\T a=some (.dK kvs)/\zaI kvs (Sum.inr "at" : Key)=none
 | .non,v=>Is G .non v
 | .bl b,v=>Is G (.bl b) v
 | .int i,v=>Is G (.int i) v
 | .str x,v=>Is G (.str x) v
 | .tup l,v=>Is G (.tup l) v
def DAt.is(h:DAt G G x v):Is G x v:=by cases x <;> exact h
def DAt.of(h:Is G x v):DAt G G x v:=by cases x <;> exact h
def DAt.up(t:zu T T')(g:zu G G')(h:DAt T G x v):DAt T' G' x v:=by
 cases x with
 | lst l=>obtain⟨a,xs,e,h1,h2⟩:=h;exact⟨a,xs,e,t.lst h1,h2.stay g⟩
 | dct=>obtain⟨a,kvs,e,h1,h2⟩:=h;exact⟨a,kvs,e,t _ _ h1 λk q=>by cases q;exact h2,h2⟩
 | _=>exact Is.stay g h
def DAt.full(t:y4 T H)(g:y4 G H)(h:DAt T G x v):Is H x v:=(DAt.up (zu.same t) (zu.same g) h).is
def uw {κ:Type}(G:Hp):List (κ×Dt)->List (κ×V)->Prop
 | [],ks=>ks=[]
 | q::r,ks=>∃v s,ks=(q.1,v)::s/\Is G q.2 v/\uw G r s
def uw.stay {κ:Type}{G G':Hp}(s:zu G G'):∀ {kvs:List (κ×Dt)} {ks:List (κ×V)},uw G kvs ks->uw G' kvs ks
 | [],_,h=>h
 | q::r,ks,⟨v,t,e,h1,h2⟩=>⟨v,t,e,h1.stay s,uw.stay s h2⟩
def SIs (G:Hp)(ks:AF)(xs:AE):Prop:=ks=xs.map (·.1)/\(∀q∈xs,G q.2=some (.tup (q.1.map V.int)))/\ks.Nodup
def SIs.stay{ks:AF}{xs:AE}(h:SIs G ks xs)(s:zu G G'):SIs G' ks xs:=⟨h.1,λq B=>s _ _ (h.2.1 q B) (λ_ e=>by cases e),h.2.2⟩
noncomputable def zdz (a:Addr)(H:Hp):Hp:=zM (λb=>b≠a/\∃xs,H b=some (.lst xs)) H
def zf7:y4 (zdz a H) H:=zp
def ziY(s:zu H H'):zu (zdz a H) (zdz a H'):=λb o e n=>by obtain⟨h1,h2⟩:=zE.mp e;have q:=s b o h2 n;show zv (λz=>h1 ⟨z.1,?_⟩) q;obtain⟨xs,B⟩:=z.2;rw[q] at B;cases B;exact⟨_,h2⟩
def WAt (T G:Hp):W->V->Prop
 | .d x,v=>DAt T G x v
 | .pen p,v=>v = .ref p
 | .dk kvs,v=>∃a ks,v = .ref a/\T a=some (.dK ks)/\uw G kvs ks/\zaI ks (Sum.inr "at" : Key)=none
 | .dt kvs,v=>∃a ks,v = .ref a/\T a=some (dtO ks)/\uw G kvs ks
 | .ss P w ks,v=>∃a xs,v = .ref a/\T a=some (zgx P w a (zad xs))/\SIs G ks xs
 | .df kvs,v=>∃a ob ks,v = .ref a/\T a=some (.frz ob (dtO ks))/\uw G kvs ks
 | .kf kvs,v=>∃a ob ks,v = .ref a/\T a=some (.frz ob (.dK ks))/\uw G kvs ks
 | .fl l,v=>∃a ob xs,v = .ref a/\T a=some (.frz ob (.lst xs))/\IsL G l xs
 | .ad a x,v=>(∃b,v = .ref b)/\Is (zdz a G) x v
def WAt.up(t:zu T T')(g:zu G G')(h:WAt T G w v):WAt T' G' w v:=by
 cases w with
 | d x=>exact DAt.up t g h
 | pen p=>exact h
 | dk kvs=>
  obtain⟨a,ks,e,h1,h2,B⟩:=h;exact⟨a,ks,e,t _ _ h1 λk q=>by cases q;exact B,h2.stay g,B⟩
 | dt kvs=>
  obtain⟨a,ks,e,h1,h2⟩:=h;exact⟨a,ks,e,t _ _ h1 (λk q=>by cases q),h2.stay g⟩
 | ss P w kvs=>
  obtain⟨a,ks,e,h1,h2⟩:=h;exact⟨a,ks,e,t _ _ h1 zh4,h2.stay g⟩
 | df kvs=>
  obtain⟨a,ob,ks,e,h1,h2⟩:=h;exact⟨a,ob,ks,e,t _ _ h1 (λk q=>by cases q),h2.stay g⟩
 | kf kvs=>
  obtain⟨a,ob,ks,e,h1,h2⟩:=h;exact⟨a,ob,ks,e,t _ _ h1 (λk q=>by cases q),h2.stay g⟩
 | fl kvs=>
  obtain⟨a,ob,ks,e,h1,h2⟩:=h;exact⟨a,ob,ks,e,t _ _ h1 (λk q=>by cases q),h2.stay g⟩
 | ad a x=>exact⟨h.1,Is.stay (ziY g) h.2⟩
abbrev W.mut:W->Bool
 | .d (.lst _)=>true
 | .d .dct=>true
 | .dk _=>true
 | .dt _=>true
 | .ss _ _ _=>true
 | _=>false
abbrev Val (A:AL)(H:Hp)(w:W)(v:V):Prop:=WAt (zM A H) (zM A H) w v
abbrev Bor (A:AL)(H:Hp)(w:W)(v:V):Prop:=WAt H (zM A H) w v
def Val.bor(h:Val A H w v):Bor A H w v:=WAt.up (zu.same zp) (zu.refl _) h
def Val.stay(h:Val A H w v)(s:zu H H'):Val A H' w v:=WAt.up (zH s) (zH s) h
def Bor.stay(h:Bor A H w v)(s:zu H H'):Bor A H' w v:=WAt.up s (zH s) h
def Bor.is(h:Bor A H (.d x) v):Is H x v:=DAt.full (zl1 _) zp h
def Val.is(h:Val A H (.d x) v):Is (zM A H) x v:=DAt.is h
def Val.of(h:Is (zM A H) x v):Val A H (.d x) v:=DAt.of h
mutual
def zhV {A:AL}{H:Hp}(hA:∀a xs,A a->H a≠some (.tup xs)):∀ {x:Dt} {v:V},x.noL=true->Is H x v->Is (zM A H) x v
 | .non,_,_,h=>h
 | .bl _,_,_,h=>h
 | .int _,_,_,h=>h
 | .str _,_,_,h=>h
 | .tup l,_,n,h=>by obtain⟨p,xs,e,hp,hl⟩:=h;exact⟨p,xs,e,zv (λz=>hA p xs z hp) hp,uP hA (by simpa [Dt.noL] using n) hl⟩
 | .lst l,_,n,_=>by simp[Dt.noL] at n
 | .dct,_,n,_=>by simp[Dt.noL] at n
def uP {A:AL}{H:Hp}(hA:∀a xs,A a->H a≠some (.tup xs)):∀ {ds:AS} {xs:AT},Dt.noLs ds=true->IsL H ds xs->IsL (zM A H) ds xs
 | [],_,_,h=>h
 | d::ds,xs,n,h=>by
  obtain⟨x,r,e,h1,h2⟩:=h;have n':(d.noL&&Dt.noLs ds)=true:=by simpa [Dt.noLs] using n
  rw[aQ] at n';exact⟨x,r,e,zhV hA n'.1 h1,uP hA n'.2 h2⟩
end
def xQ (Pn:PN)(A:AL)(n:Nat)(H:Hp):Prop:=
 (match Pn.pn with
 | none=>True
 | some (p,c,ns)=>Pen H p c ns n/\¬ A c/\¬ A p)/\Pn.J.K A H
def Own (A:AL)(H:Hp)(w:W)(v:V):Prop:=∃a,v = .ref a/\A a/\Bor A H w v/\w.mut=true
def Al (A:AL)(H:Hp):Prop:=∀a,A a->∃o,H a=some o/\NP o/\Mt o
structure EnvR (A:AL)(M:AR)(σ:St)(H:Hp)(ρ:Ev):Prop where
 len:σ.length=ρ.length
 val:∀i w,ρ[i]?=some (some w)->∃v,σ[i]?=some (some v)/\(i∉M->Val A H w v)/\(i∈M->Own A H w v)
 dis:∀i j w u a,i∈M->j∈M->i≠j->ρ[i]?=some (some w)->ρ[j]?=some (some u)->σ[i]?=some (some (.ref a))->σ[j]?≠some (some (.ref a))
 al:Al A H
def EnvR.stay(E:EnvR A M σ H ρ)(s:zu H H'):EnvR A M σ H' ρ where
 len:=E.len
 val:=λi w e=>by obtain⟨v,h1,h2,q⟩:=E.val i w e;show⟨v,h1,λz=>(h2 z).stay s,λz=>?_⟩;obtain⟨a,e,B,F,I⟩:=q z;exact⟨a,e,B,F.stay s,I⟩
 dis:=E.dis
 al:=λa h=>by obtain⟨o,h1,h2,q⟩:=E.al a h;exact⟨o,s _ _ h1 h2,h2,q⟩
def EnvR.alT(E:EnvR A M σ H ρ):∀a xs,A a->H a≠some (.tup xs):=λa xs h e=>by
 obtain⟨o,h1,_,q⟩:=E.al a h;have:=q.tup;grind
def EnvR.new(E:EnvR A M σ H ρ)(h:H p=none):¬ A p:=λz=>by
 obtain⟨o,h1,_⟩:=E.al p z;grind
def Fr (H:Hp)(a:Addr):Prop:=∀o,H a=some o->¬ NP o
def Fr.of(h:H a=none):Fr H a:=λo e=>by rw[h] at e;cases e
def Fr.back(h:Fr H1 a)(s:zu H H1):Fr H a:=λo e n=>h o (s _ _ e n) n
def FrV (A:AL)(H H':Hp)(w:W)(v:V):Prop:=∃a,v = .ref a/\Fr H a/\WAt H' (zM (λb=>A b\/b=a) H') w v
def FrV.back(h:FrV A H1 H' w v)(s:zu H H1):FrV A H H' w v:=let ⟨a,e,f,g⟩:=h;⟨a,e,f.back s,g⟩
def FrV.less(h:FrV A H H' w v)(s:∀a,A0 a->A a):FrV A0 H H' w v:=let ⟨a,e,f,g⟩:=h;⟨a,e,f,WAt.up (zu.refl _) (zu.same (yK λb z=>z.elim (λz=>.inl (s b z)) .inr)) g⟩
def EnvR.newF(E:EnvR A M σ H ρ)(h:Fr H p):¬ A p:=λz=>by obtain⟨o,h1,h2,_⟩:=E.al p z;exact h o h1 h2
def yC(s:zu H H')(n:Fr H p):zu (zM A H) (zM (λb=>A b\/b=p) H'):=λb o e q=>by obtain⟨h1,h2⟩:=zE.mp e;exact zv (λz=>z.elim h1 λz=>by subst z;exact n o h2 q) (s b o h2 q)
structure Go (Pn:PN)(A:AL)(H:Hp)(n:Nat)(H':Hp):Prop where
 st:zu H H'
 pn:xQ Pn A n H'
def Go.trans(a:Go Pn A H n H1)(b:Go Pn A H1 m H2):Go Pn A H m H2:=⟨a.st.trans b.st,b.pn⟩
structure RE (Pn:PN)(M:AR)(fr:Bool)(te:TE)(f:AD):Prop where
 run:∀A σ H ρ n Q R,EnvR A M σ H ρ->xQ Pn A n H->f ρ n R->(∀w m v H',R w m->Val A H' w v->Go Pn A H m H'->(fr=true->FrV A H H' w v)->Q v H')->te σ H Q
structure RB (Pn:PN)(M:AR)(te:TE)(f:AD):Prop where
 run:∀A σ H ρ n Q R,EnvR A M σ H ρ->xQ Pn A n H->f ρ n R->(∀w m v H',R w m->Bor A H' w v->Go Pn A H m H'->Q v H')->te σ H Q
structure RT (Pn:PN)(M:AR)(te:TT)(f:Ev->Mo Bool):Prop where
 run:∀A σ H ρ n Q R,EnvR A M σ H ρ->xQ Pn A n H->f ρ n R->(∀b m H',R b m->Go Pn A H m H'->Q b H')->te σ H Q
def zsh (A:AL)(H:Hp):AU->AT->Prop
 | [],vs=>vs=[]
 | w::q,vs=>∃v r,vs=v::r/\Bor A H w v/\zsh A H q r
def zdG (A:AL)(H:Hp):AU->AT->Prop
 | [],vs=>vs=[]
 | w::q,vs=>∃v r,vs=v::r/\Val A H w v/\zdG A H q r
def zdG.bor:∀ {q:AU} {vs:AT},zdG A H q vs->zsh A H q vs
 | [],_,h=>h
 | _::_,_,⟨v,r,e,h1,h2⟩=>⟨v,r,e,h1.bor,zdG.bor h2⟩
structure RA (Pn:PN)(M:AR)(ta:TA)(f:AC):Prop where
 run:∀A σ H ρ n Q R,EnvR A M σ H ρ->xQ Pn A n H->f ρ n R->(∀ws m vs H',R ws m->zdG A H' ws vs->Go Pn A H m H'->Q vs H')->ta σ H Q
structure RAB (Pn:PN)(M:AR)(ta:TA)(f:AC):Prop where
 run:∀A σ H ρ n Q R,EnvR A M σ H ρ->xQ Pn A n H->f ρ n R->(∀ws m vs H',R ws m->zsh A H' ws vs->Go Pn A H m H'->Q vs H')->ta σ H Q
structure Kt where
 nx:Ev->Nat->Prop
 rt:AV
 bk:Ev->Nat->Prop:=λ_ _=>False
 ct:Ev->Nat->Prop:=λ_ _=>False
abbrev Ms:=Ev->Nat->Kt->Prop
def StX (q:AL)(H0 H:Hp):Prop:=∀b o,H0 b=some o->NP o->¬ q b->H b=some o
def StX.of(s:zu H0 H):StX q H0 H:=λb o e n _=>s b o e n
def StX.stay(s:StX (λ_=>False) H0 H):zu H0 H:=λb o e n=>s b o e n λz=>z
structure Frm (A0:AL)(H0:Hp)(ca:AL)(A:AL)(H:Hp):Prop where
 sub:∀a,A0 a->A a
 new:∀a,A a->A0 a\/Fr H0 a\/ca a
 st:StX ca H0 H
 al:Al A0 H0
 cn:∀a,ca a->¬ A0 a
 cs:∀a,ca a->∃o,H a=some o/\NP o
def Frm.back(f:Frm A0 H0 B A H)(h:Fr H a)(n:¬ A a):Fr H0 a:=λo e q=>h o (f.st a o e q λz=>let ⟨o2,e2,n2⟩:=f.cs a z;h o2 e2 n2) q
structure Bs where
 ca:AL:=λ_=>False
 A0:AL
 H0:Hp
 G0:Hp
 σ0:St
def NoL (G:Hp):Prop:=∀a xs,G a≠some (.lst xs)
structure At3 (Pn:PN)(B:Bs)(S M:AR)(A:AL)(σ:St)(H:Hp)(ρ:Ev)(n:Nat):Prop where
 env:EnvR A M σ H ρ
 frm:Frm B.A0 B.H0 B.ca A H
 pn:xQ Pn A n H
 prot:zu B.G0 (zM A H)
 fix:(∀i∈S,σ[i]?=B.σ0[i]?)/\(9999∈S->NoL B.G0/\NoL B.H0)
 mine:∀i w a,i∈M->ρ[i]?=some (some w)->σ[i]?=some (some (.ref a))->Fr B.H0 a\/B.ca a
structure KOk (Pn:PN)(B:Bs)(S M:AR)(fr:Bool)(k:Kt)(D:Ends):Prop where
 nx:∀A σ H ρ n,At3 Pn B S M A σ H ρ n->k.nx ρ n->D.nx σ H
 bk:∀A σ H ρ n,At3 Pn B S M A σ H ρ n->k.bk ρ n->D.bk σ H
 ct:∀A σ H ρ n,At3 Pn B S M A σ H ρ n->k.ct ρ n->D.ct σ H
 fc:∀a,¬ B.ca a
 rt:∀w n v H,Val B.A0 H w v->StX B.ca B.H0 H->xQ Pn B.A0 n H->(fr=true->FrV B.A0 B.H0 H w v)->k.rt w n->D.rt v H
structure RS (Pn:PN)(S M:AR)(fr:Bool)(ts:TS)(fs:Ms):Prop where
 run:∀B A σ H ρ n k D,At3 Pn B S M A σ H ρ n->KOk Pn B S M fr k D->fs ρ n k->ts D σ H
structure RG (S M:AR)(g:TG)(mg:W->Ev->(Ev->Prop)->Prop):Prop where
 run:∀A σ H ρ v w Q R,EnvR A M σ H ρ->Val A H w v->mg w ρ R->(∀ σ' ρ',R ρ'->EnvR A M σ' H ρ'->(∀i∈S,σ'[i]?=σ[i]?/\ρ'[i]?=ρ[i]?)->Q σ' H)->g v σ H Q
structure RGs (S M:AR)(g:TGs)(mg:AS->Ev->(Ev->Prop)->Prop):Prop where
 run:∀A σ H ρ vs ds Q R,EnvR A M σ H ρ->IsL (zM A H) ds vs->mg ds ρ R->(∀ σ' ρ',R ρ'->EnvR A M σ' H ρ'->(∀i∈S,σ'[i]?=σ[i]?/\ρ'[i]?=ρ[i]?)->Q σ' H)->g vs σ H Q
structure ItV (ow:Bool)(A:AL)(H:Hp)(J:It)(l:AU):Prop where
 one:∀i w A2 H2,l[i]?=some w->zu (zM A H) (zM A2 H2)->(ow=true->zu H H2)->(∀p,H2 p=none->¬ A2 p)->J.go i H2/\∀x H3,J.yld i H2 x H3->y4 H2 H3/\Val A2 H3 w x
 stop:∀A2 H2,zu (zM A H) (zM A2 H2)->(ow=true->zu H H2)->J.stop l.length H2
structure RI (Pn:PN)(M:AR)(ow:Bool)(wi:TI)(f:AC):Prop where
 run:∀A σ H ρ n Q R,EnvR A M σ H ρ->xQ Pn A n H->f ρ n R->(∀l m J H',R l m->ItV ow A H' J l->Go Pn A H m H'->Q J H')->wi σ H Q
def RE.rb(h:RE Pn M fr te f):RB Pn M te f:=
 ⟨λA σ H ρ n Q R E P q k=>h.run A σ H ρ n Q R E P q λw m v H' r a g _=>k w m v H' r a.bor g⟩
def RA.rab(h:RA Pn M te f):RAB Pn M te f:=
 ⟨λA σ H ρ n Q R E P q k=>h.run A σ H ρ n Q R E P q λw m v H' r a g=>k w m v H' r a.bor g⟩
def xQ.same(h:xQ Pn A n H)(s:y4 H H'):xQ Pn A n H':=by
 show⟨?_,Pn.J.same h.2 s⟩;have h:=h.1;split at h;trivial;exact⟨h.1.same s,h.2⟩
def Go.same(h:xQ Pn A n H)(s:y4 H H'):Go Pn A H n H':=⟨zu.same s,h.same s⟩
def Go.refl(h:xQ Pn A n H):Go Pn A H n H:=⟨zu.refl _,h⟩
structure JE (X:Cx)(Pn:PN)(M:AR)(fr:Bool)(e:Expr)(f:AD):Prop where
 ex:∃te,QE X e te/\RE Pn M fr te f
structure JB (X:Cx)(Pn:PN)(M:AR)(e:Expr)(f:AD):Prop where
 ex:∃te,QE X e te/\RB Pn M te f
structure JT (X:Cx)(Pn:PN)(M:AR)(e:Expr)(f:Ev->Mo Bool):Prop where
 ex:∃te,QT X e te/\RT Pn M te f
structure JW (X:Cx)(Pn:PN)(M:AR)(e:Expr)(f:Ev->Mo Bool):Prop where
 ex:∃te,QW X e te/\RT Pn M te f
structure JA (X:Cx)(Pn:PN)(M:AR)(es:AO)(f:AC):Prop where
 ex:∃te,QA X es te/\RA Pn M te f
structure JAB (X:Cx)(Pn:PN)(M:AR)(es:AO)(f:AC):Prop where
 ex:∃te,QA X es te/\RAB Pn M te f
structure JO (X:Cx)(Pn:PN)(M:AR)(e:Option Expr)(f:Ev->Mo AQ):Prop where
 ex:∃t,QO X e t/\∀A σ H ρ n Q R,EnvR A M σ H ρ->xQ Pn A n H->f ρ n R->(∀o m H',R o m->Go Pn A H m H'->Q o H')->t σ H Q
section
variable {X:Cx}{Pn:PN}{M:AR}{fr:Bool}{e a b c:Expr}{es:AO}{f fa fb fc:AD}{pos p:Pos}
def ztx (i:Nat):AD:=λρ n Q=>∃w,ρ[i]?=some (some w)/\Q w n
abbrev mC (w:W):AD:=λ_ n Q=>Q w n
abbrev zse (F:W->W->Mo W) (fa fb:AD):AD:=λρ n Q=>fa ρ n λx q=>fb ρ q λy B=>F x y B Q
abbrev mUn (F:W->Mo W) (fa:AD):AD:=λρ n Q=>fa ρ n λx q=>F x q Q
def zmo (fa:AD):Ev->Mo Bool:=λρ n Q=>fa ρ n λx q=>∃c,x = .d (.bl c)/\Q c q
def zvz (t u:Ev->Mo Bool):Ev->Mo Bool:=λρ n Q=>t ρ n λc q=>if c=true then u ρ q Q else Q false q
def mOr (t u:Ev->Mo Bool):Ev->Mo Bool:=λρ n Q=>t ρ n λc q=>if c=true then Q true q else u ρ q Q
def zwQ (t:Ev->Mo Bool):Ev->Mo Bool:=λρ n Q=>t ρ n λc q=>Q (!c) q
abbrev zwP:AC:=λ_ n Q=>Q [] n
abbrev zqi (fa:AD) (fr:AC):AC:=λρ n Q=>fa ρ n λx q=>fr ρ q λxs B=>Q (x::xs) B
abbrev zwJ (F:AU->Mo W) (fa:AC):AD:=λρ n Q=>fa ρ n λxs q=>F xs q Q
def JE.bo (h:JE X Pn M fr e f):JB X Pn M e f:=let ⟨te,h1,h2⟩:=h.ex;⟨te,h1,h2.rb⟩
def JA.bo {f:AC}(h:JA X Pn M es f):JAB X Pn M es f:=let ⟨te,h1,h2⟩:=h.ex;⟨te,h1,h2.rab⟩
def zs6 (h:JE X Pn M true e f):JE X Pn M false e f:=let ⟨te,h1,h2⟩:=h.ex;⟨te,h1,⟨λA σ H ρ n Q R E P q k=>h2.run A σ H ρ n Q R E P q λw m v H' r a g _=>k w m v H' r a g λz=>by cases z⟩⟩
def zuC(hi:i∉M):RE Pn M false (zmd i) (ztx i):=⟨λA σ H ρ n Q R E P q k=>by obtain⟨w,e,r⟩:=q;obtain⟨v,h1,h2,_⟩:=E.val i w e;exact⟨v,h1,k w n v H r (h2 hi) (Go.refl P) λz=>by cases z⟩⟩
def zuw:RB Pn M (zmd i) (ztx i):=⟨λA σ H ρ n Q R E P q k=>by
 obtain⟨w,e,r⟩:=q;obtain⟨v,h1,h2,B⟩:=E.val i w e;show⟨v,h1,k w n v H r ?_ (Go.refl P)⟩;by_cases hi:i∈M;obtain⟨a,_,_,h,_⟩:=B hi;exact h;exact (h2 hi).bor⟩
def zwE (i:Nat){x:Str}(hi:i∉M:=by ext)(B:X.N[i]?=some x:=by rfl)(F:Vis X.env.scope x:=by walk_at "v")(I:Ah x:=by ext)
  (q:(x==("__classdict__" : Str))=false:=by ext):JE X Pn M false (.Name x pos) (ztx i):=⟨_,qv i B F I q,zuC hi⟩
def zwD(i:Nat)(B:X.N[i]?=some x:=by rfl)(F:Vis X.env.scope x:=by walk_at "v")(I:Ah x:=by ext)(q:(x==("__classdict__" : Str))=false:=by ext):JB X Pn M (.Name x pos) (ztx i):=⟨_,qv i B F I q,zuw⟩
def zvN(h:∀G,Is G x v):RE Pn M false (tC v) (mC (.d x)):=⟨λA σ H ρ n Q R E P q k=>k _ n v H q (Val.of (h _)) (Go.refl P) λz=>by cases z⟩
def zt{i:Int}:JE X Pn M false (.Constant (.int i) j pos) (mC (.d (.int i))):=⟨_,yu,zvN λ_=>rfl⟩
def zmn:JE X Pn M false (.Constant (.bool k) j pos) (mC (.d (.bl k))):=⟨_,zxf,zvN λ_=>rfl⟩
def zs7:JE X Pn M false (.Constant .none j pos) (mC (.d .non)):=⟨_,zul,zvN λ_=>rfl⟩
def znb:JE X Pn M false (.Constant (.str x) j pos) (mC (.d (.str x))):=⟨_,ue,zvN λ_=>rfl⟩
def Al.new {A:AL}{H:Hp}(h:Al A H){p:Addr}(e:H p=none):¬ A p:=λz=>by
 obtain⟨o,h1,_⟩:=h p z;grind
def Al.stay(h:Al A H)(s:zu H H'):Al A H':=λa z=>by obtain⟨o,h1,h2,q⟩:=h a z;exact⟨o,s _ _ h1 h2,h2,q⟩
def Al.noT(h:Al A H):∀a xs,A a->H a≠some (.tup xs):=λa xs z e=>by
 obtain⟨o,h1,_,q⟩:=h a z;have:=q.tup;grind
def Al.noT' {A:AL}{H H':Hp}(h:Al A H)(s:zu H H'){p:Addr}{xs:AT}(e:H' p=some (.tup xs)):¬ A p:=λz=>(h.stay s).noT p xs z e
structure F2 (Pn:PN)(fr:Bool)(r:R2)(F:W->W->Mo W):Prop where
 run:∀A H x y wx wy n Q R,Al A H->Bor A H wx x->Bor A H wy y->xQ Pn A n H->F wx wy n R->(∀w m v H',R w m->Val A H' w v->Go Pn A H m H'->(fr=true->FrV A H H' w v)->Q v H')->r x y H Q
structure FL (Pn:PN)(fr:Bool)(r:AT->Hp->VK->Prop)(F:AU->Mo W):Prop where
 run:∀A H xs ws n Q R,Al A H->zsh A H ws xs->xQ Pn A n H->F ws n R->(∀w m v H',R w m->Val A H' w v->Go Pn A H m H'->(fr=true->FrV A H H' w v)->Q v H')->r xs H Q
def zn1(B:F2 Pn fr r F)(I:RB Pn M ta fa)(J:RB Pn M tb fb):RE Pn M fr (tOp r ta tb) (zse F fa fb):=⟨λA σ H ρ n Q R E P L k=>by show I.run A σ H ρ n _ _ E P L λx O U H1 Y Z q=>?_;show J.run A σ H1 ρ O _ _ (E.stay q.st) q.pn Y λy n2 v2 H2 r2 b2 g2=>?_;have g:=q.trans g2;exact B.run A H2 U v2 x y n2 _ _ (E.stay g.st).al (Z.stay g2.st) b2 g2.pn r2 λw m v H' h1 h2 h3 h4=>k w m v H' h1 h2 (g.trans h3) λz=>(h4 z).back g.st⟩
def zuA {r:AT->Hp->VK->Prop}{F:AU->Mo W}{ta:TA}{fa:AC}(B:FL Pn fr r F)(I:RAB Pn M ta fa):RE Pn M fr (tCB r ta) (zwJ F fa):=⟨λA σ H ρ n Q R E P J k=>by show I.run A σ H ρ n _ _ E P J λx L O H1 U Y q=>?_;exact B.run A H1 O x L _ _ (E.stay q.st).al Y q.pn U λw m v H' h1 h2 Z h4=>k w m v H' h1 h2 (q.trans Z) λz=>(h4 z).back q.st⟩
def zac(B:OpQ X (binaryOp q) r)(I:F2 Pn fr r F)(J:JB X Pn M a fa)(L:JB X Pn M b fb):JE X Pn M fr (.BinOp a q b pos) (zse F fa fb):=by obtain⟨ta,O,U⟩:=J.ex;obtain⟨tb,Y,Z⟩:=L.ex;exact⟨_,y9 B O Y,zn1 I U Z⟩
def zpZ(B:OpQ X (compareOp q) r)(I:F2 Pn fr r F)(J:JB X Pn M a fa)(L:JB X Pn M b fb)(O:behindInMarks q b=false):JE X Pn M fr (.Compare a [q] [b] pos) (zse F fa fb):=by obtain⟨ta,U,Y⟩:=J.ex;obtain⟨tb,Z,rb⟩:=L.ex;exact⟨_,zq9 B U Z O,zn1 I Y rb⟩
def zlX(h:RB Pn M ta fa):RT Pn M (zmc ta) (zmo fa):=⟨λA σ H ρ n Q R E P B k=>by show h.run A σ H ρ n _ _ E P B  ?_;rintro x F I H1 ⟨c,e,r⟩ J L;subst e;have q:I = .bl c:=J;exact⟨c,q,k c F H1 r L⟩⟩
def zw(B:OpQ X (compareOp q) r)(I:F2 Pn fr r F)(J:JB X Pn M a fa)(L:JB X Pn M b fb)(O:behindInMarks q b=false):JT X Pn M (.Compare a [q] [b] pos) (zmo (zse F fa fb)):=by obtain⟨ta,U,Y⟩:=J.ex;obtain⟨tb,Z,rb⟩:=L.ex;exact⟨_,zc7 B U Z O,zlX (zn1 I Y rb).rb⟩
def zba (h:JB X Pn M e f)(he:∀whole,isTrue e X.env whole=(do let v <- whole;standAt e.pos;holding [v] (truthy v)):=by intro _;rfl):JT X Pn M e (zmo f):=by obtain⟨ta,qa,ra⟩:=h.ex;exact⟨_,zup qa he,zlX ra⟩
def zbQ(h:JT X Pn M a t):JT X Pn M (.UnaryOp .Not a pos) (zwQ t):=by obtain⟨ta,q,B⟩:=h.ex;exact⟨_,zuo q,⟨λA σ H ρ n Q R E P F k=>B.run A σ H ρ n _ _ E P F λb m H' r g=>k _ m H' r g⟩⟩
def xC(B:q = .And\/q = .Or)(h:JT X Pn M a t):JW X Pn M (.BoolOp q [a] pos) t:=by
 obtain⟨ta,F,I⟩:=h.ex;rcases B with rfl | rfl;exact⟨_,zlK F,I⟩;exact⟨_,zuq F,I⟩
def zuM(h:RT Pn M t q)(h':RT Pn M u B):RT Pn M (zxu t u) (zvz q B):=⟨λA σ H ρ n Q R E P F k=>by
 show h.run A σ H ρ n _ _ E P F λc m H1 r g=>?_
 cases c with
 | true=>exact h'.run A σ H1 ρ m _ _ (E.stay g.st) g.pn (by simpa using r) λb I H' J g'=>k b I H' J (g.trans g')
 | false=>exact k false m H1 (by simpa using r) g⟩
def zxp(h:RT Pn M t q)(h':RT Pn M u B):RT Pn M (tOr t u) (mOr q B):=⟨λA σ H ρ n Q R E P F k=>by
 show h.run A σ H ρ n _ _ E P F λc m H1 r g=>?_
 cases c with
 | false=>exact h'.run A σ H1 ρ m _ _ (E.stay g.st) g.pn (by simpa using r) λb I H' J g'=>k b I H' J (g.trans g')
 | true=>exact k true m H1 (by simpa using r) g⟩
def zal {z4:AO}{t u:Ev->Mo Bool}(h:JT X Pn M a t)(h':JW X Pn M (.BoolOp .And (b::z4) pos) u):JW X Pn M (.BoolOp .And (a::b::z4) pos) (zvz t u):=by obtain⟨ta,q,B⟩:=h.ex;obtain⟨tb,F,I⟩:=h'.ex;exact⟨_,zo1 q F,zuM B I⟩
def zfN {z4:AO}{t u:Ev->Mo Bool}(h:JT X Pn M a t)(h':JW X Pn M (.BoolOp .Or (b::z4) pos) u):JW X Pn M (.BoolOp .Or (a::b::z4) pos) (mOr t u):=by obtain⟨ta,q,B⟩:=h.ex;obtain⟨tb,F,I⟩:=h'.ex;exact⟨_,zxh q F,zxp B I⟩
def JW.t {t:Ev->Mo Bool}(h:JW X Pn M e t):JT X Pn M e t:=let ⟨te,h1,h2⟩:=h.ex;⟨te,h1.pt,h2⟩
abbrev isNon:W->Bool
 | .d .non=>true
 | _=>false
def Bor.isNon(h:Bor A H w v):decide (v = .non)=isNon w:=by
 cases w with
 | d x=>
  cases x with
  | non=>have:v = .non:=h;subst this;rfl
  | bl c=>have:v = .bl c:=h;subst this;rfl
  | int c=>have:v = .int c:=h;subst this;rfl
  | str c=>have:v = .str c:=h;subst this;rfl
  | tup l=>obtain⟨a,_,rfl,_⟩:=h;rfl
  | lst l=>obtain⟨a,_,rfl,_⟩:=h;rfl
  | dct=>obtain⟨a,_,rfl,_⟩:=h;rfl
 | pen p=>have:v = .ref p:=h;subst this;rfl
 | dk k=>obtain⟨a,_,rfl,_⟩:=h;rfl
 | dt k=>obtain⟨a,_,rfl,_⟩:=h;rfl
 | ss P w k=>obtain⟨a,_,rfl,_⟩:=h;rfl
 | df k=>obtain⟨a,_,_,rfl,_⟩:=h;rfl
 | kf k=>obtain⟨a,_,_,rfl,_⟩:=h;rfl
 | fl k=>obtain⟨a,_,_,rfl,_⟩:=h;rfl
 | ad a x=>obtain⟨⟨b,rfl⟩,_⟩:=h;rfl
abbrev mIsN (fa:AD):AD:=λρ n Q=>fa ρ n λx q=>Q (.d (.bl (isNon x))) q
abbrev zts (fa:AD):AD:=λρ n Q=>fa ρ n λx q=>Q (.d (.bl (!isNon x))) q
def zuB(h:RB Pn M ta fa):RE Pn M false (zxy ta) (mIsN fa):=⟨λA σ H ρ n Q R E P q k=>by show h.run A σ H ρ n _ _ E P q λx m v H1 r B g=>?_;exact k _ m _ H1 r (Val.of (by rw[B.isNon];rfl)) g λz=>by cases z⟩
def zrw(h:RB Pn M ta fa):RE Pn M false (zrT ta) (zts fa):=⟨λA σ H ρ n Q R E P q k=>by show h.run A σ H ρ n _ _ E P q λx m v H1 r B g=>?_;exact k _ m _ H1 r (Val.of (by rw[B.isNon];rfl)) g λz=>by cases z⟩
def zuN(h:RB Pn M ta fa):RT Pn M (tB ta) (zmo fa):=⟨λA σ H ρ n Q R E P B k=>by show h.run A σ H ρ n _ _ E P B  ?_;rintro x F I H1 ⟨c,e,r⟩ J L;subst e;have q:I = .bl c:=J;exact⟨c,q,k c F H1 r L⟩⟩
def ztg(h:JB X Pn M a fa):JT X Pn M (.Compare a [.Is] [.Constant .none j pos'] pos) (zmo (mIsN fa)):=by obtain⟨ta,q,B⟩:=h.ex;exact⟨_,zo0 (zuj q),zuN (zuB B).rb⟩
def zp8(h:JB X Pn M a fa):JT X Pn M (.Compare a [.IsNot] [.Constant .none j pos'] pos) (zmo (zts fa)):=by obtain⟨ta,q,B⟩:=h.ex;exact⟨_,zo0 (zq7 q),zuN (zrw B).rb⟩
def zd:JA X Pn M [] zwP:=⟨_,yc,⟨λA σ H ρ n Q R E P q k=>k [] n [] H q rfl (Go.refl P)⟩⟩
def za(B:JE X Pn M fr e f)(F:JA X Pn M es fs)(I:starEach (e::es) X.env=(false,eval e X.env)::starEach es X.env:=by rfl):JA X Pn M (e::es) (zqi f fs):=by obtain⟨ta,J,L⟩:=B.ex;obtain⟨tb,O,U⟩:=F.ex;show⟨_,zD J O I,⟨λA σ H ρ n Q R E P Y k=>?_⟩⟩;show L.run A σ H ρ n _ _ E P Y λx Z v1 H1 r1 b1 q _=>?_;exact U.run A σ H1 ρ Z _ _ (E.stay q.st) q.pn r1 λxs n2 vs H2 r2 b2 g2=>k _ n2 _ H2 r2 ⟨v1,vs,rfl,b1.stay g2.st,b2⟩ (q.trans g2)
def zl:JAB X Pn M [] zwP:=zd.bo
def zh(B:JB X Pn M e f)(F:JAB X Pn M es fs)(I:starEach (e::es) X.env=(false,eval e X.env)::starEach es X.env:=by rfl):JAB X Pn M (e::es) (zqi f fs):=by obtain⟨ta,J,L⟩:=B.ex;obtain⟨tb,O,U⟩:=F.ex;show⟨_,zD J O I,⟨λA σ H ρ n Q R E P Y k=>?_⟩⟩;show L.run A σ H ρ n _ _ E P Y λx Z v1 H1 r1 b1 q=>?_;exact U.run A σ H1 ρ Z _ _ (E.stay q.st) q.pn r1 λxs n2 vs H2 r2 b2 g2=>k _ n2 _ H2 r2 ⟨v1,vs,rfl,b1.stay g2.st,b2⟩ (q.trans g2)
def lim:Nat:=500000
def zcU(h:n<=lim):n<=sizeLine:=ar h (by ext)
def zdO(h:n<=lim):n<sizeLine:=aO h (by ext)
def dts:AU->Option AS
 | []=>some []
 | .d x::r=>(dts r).map (x::·)
 | _::_=>none
def zdG.dts:∀ {q:AU} {vs:AT} {l:AS},zdG A H q vs->dts q=some l->IsL (zM A H) l vs
 | [],vs,l,h,e=>by cases e;exact h
 | .d x::q,vs,l,⟨v,r,B,h1,h2⟩,e=>by obtain⟨l',F,rfl⟩:=aC.mp e;exact⟨v,r,B,h1.is,zdG.dts h2 F⟩
 | .pen _::_,_,_,_,e=>by cases e
 | .dk _::_,_,_,_,e=>by cases e
 | .dt _::_,_,_,_,e=>by cases e
 | .ss _ _ _::_,_,_,_,e=>by cases e
 | .df _::_,_,_,_,e=>by cases e
 | .kf _::_,_,_,_,e=>by cases e
 | .fl _::_,_,_,_,e=>by cases e
 | .ad _ _::_,_,_,_,e=>by cases e
def zdG.len:∀ {q:AU} {vs:AT},zdG A H q vs->vs.length=q.length
 | [],_,h=>by cases h;rfl
 | _::q,vs,⟨v,r,e,_,h2⟩=>by rw[e,aV,aV,zdG.len h2]
def zfb {A:AL}{H H':Hp}{p:Addr}{xs:AT}{l:AS}(q:IsL (zM A H) l xs)(s:zu H H')(n:¬ A p)(g:H' p=some (.tup xs)):Val A H' (.d (.tup l)) (.ref p):=
 Val.of ⟨p,xs,rfl,zv n g,q.stay (zH s)⟩
def xP {A:AL}{H H':Hp}{p:Addr}{xs:AT}{l:AS}(q:IsL (zM A H) l xs)(s:zu H H')(n:¬ A p)(g:H' p=some (.lst xs)):Val A H' (.d (.lst l)) (.ref p):=
 Val.of ⟨p,xs,rfl,zv n g,q.stay (zH s)⟩
def x4 {A:AL}{H H':Hp}{p:Addr}{xs:AT}{l:AS}(q:IsL (zM A H) l xs)(s:y4 H H')(n:H p=none)(g:H' p=some (.lst xs)):FrV A H H' (.d (.lst l)) (.ref p):=
 ⟨p,rfl,.of n,p,xs,rfl,g,q.stay (yC (zu.same s) (.of n))⟩
abbrev zvF:Nat->AU->(AS->Prop)->Prop
 | _,[],P=>P []
 | k+1,.d x::r,P=>zvF k r λl=>P (x::l)
 | _,_,_=>False
def zeH:∀ {k:Nat} {l:AU} {P:AS->Prop},zvF k l P->∃ds,dts l=some ds/\P ds/\l.length<=k
 | 0,[],P,h=>⟨[],rfl,h,aG _⟩
 | k+1,[],P,h=>⟨[],rfl,h,aG _⟩
 | 0,.d x::r,P,h=>h.elim
 | k+1,.d x::r,P,h=>by obtain⟨ds,e,h2,q⟩:=zeH (k:=k) (l:=r) (P:=λl=>P (x::l)) h;exact⟨x::ds,by simp[dts,e],h2,Nat.succ_le_succ q⟩
 | 0,.pen _::r,P,h=>h.elim
 | k+1,.pen _::r,P,h=>h.elim
 | 0,.dk _::r,P,h=>h.elim
 | k+1,.dk _::r,P,h=>h.elim
 | 0,.dt _::r,P,h=>h.elim
 | 0,.ss _ _ _::r,P,h=>h.elim
 | 0,.df _::r,P,h=>h.elim
 | 0,.kf _::r,P,h=>h.elim
 | 0,.fl _::r,P,h=>h.elim
 | 0,.ad _ _::r,P,h=>h.elim
 | k+1,.dt _::r,P,h=>h.elim
 | k+1,.ss _ _ _::r,P,h=>h.elim
 | k+1,.df _::r,P,h=>h.elim
 | k+1,.kf _::r,P,h=>h.elim
 | k+1,.fl _::r,P,h=>h.elim
 | k+1,.ad _ _::r,P,h=>h.elim
abbrev ztw (fa:AC):AD:=λρ n Q=>fa ρ n λq m=>zvF 200 q λl=>Q (.d (.tup l)) m
def yP{x1}(h:JA X Pn M es fs):JE X Pn M false (.Tuple es x1 pos) (ztw fs):=by obtain⟨ta,q,B⟩:=h.ex;show⟨_,zeQ q,⟨λA σ H ρ n Q R E P F k=>?_⟩⟩;show B.run A σ H ρ n _ _ E P F λU m vs H1 I b g=>?_;obtain⟨l,e,r,J⟩:=zeH I;show⟨zcU (by rw[b.len];exact ar J (by ext)),λp H2 L O S=>?_⟩;exact k _ m _ H2 r (zfb (b.dts e) (zu.same S) ((E.stay g.st).new L) O) (g.trans (Go.same g.pn S)) λz=>by cases z
abbrev zwO (fa:AC):AD:=λρ n Q=>fa ρ n λq m=>zvF 200 q λl=>Q (.d (.lst l)) m
def xB(h:JA X Pn M es fs):JE X Pn M true (.List es pos) (zwO fs):=by obtain⟨ta,F,I⟩:=h.ex;show⟨_,zlG F,⟨λA σ H ρ n Q R E P J k=>?_⟩⟩;show I.run A σ H ρ n _ _ E P J λU m vs H1 L b g=>?_;obtain⟨l,e,r,O⟩:=zeH L;show⟨zcU (by rw[b.len];exact ar O (by ext)),λp H2 q B S=>?_⟩;exact k _ m _ H2 r (xP (b.dts e) (zu.same S) ((E.stay g.st).new q) B) (g.trans (Go.same g.pn S)) λ_=>(x4 (b.dts e) S q B).back g.st
def zF {id:String}{r:AT->Hp->VK->Prop}{F:AU->Mo W}{x:Str}{fs:AC}(I:CallQ X (.builtin id) r)(J:FL Pn fr r F)(L:Gl X x)(O:X.mg x=none)(U:bootBuiltins x=some (.builtin id))(Y:JAB X Pn M (e::es) fs)(Z:x ≠ "__name__" := by ext)(q:Ah x:=by ext)
  (he:starEach (e::es) X.env=(false,eval e X.env)::starEach es X.env:=by rfl) (B:(backTo pos (starEach es X.env)).any (·.1)=false:=by rfl):JE X Pn M fr (.Call (.Name x p) (e::es) [] pos) (zwJ F fs):=by
 obtain⟨ta,qa,ra⟩:=Y.ex;exact⟨_,xk I L O U qa Z q he B,zuA J ra⟩
def xT(I:CallQ X (.type T) r)(J:FL Pn fr r F)(L:Gl X x)(O:X.mg x=none)(U:bootBuiltins x=some (.type T))(Y:JAB X Pn M (e::es) fs)(Z:x ≠ "__name__" := by ext)(q:Ah x:=by ext)(he:starEach (e::es) X.env=(false,eval e X.env)::starEach es X.env:=by rfl)(B:(backTo pos (starEach es X.env)).any (·.1)=false:=by rfl):JE X Pn M fr (.Call (.Name x p) (e::es) [] pos) (zwJ F fs):=by
 obtain⟨ta,qa,ra⟩:=Y.ex;exact⟨_,zat I L O U qa Z q he B,zuA J ra⟩
end
section
variable {Pn:PN}{K:AH}{A:AL}{H:Hp}
def yJ{i:Int}(h:Bor A H (.d (.int i)) v):v = .int i:=h
def zsu(h:Bor A H (.d (.bl i)) v):v = .bl i:=h
def xM(h:Bor A H (.d (.tup l)) v):∃a xs,v = .ref a/\H a=some (.tup xs)/\IsL (zM A H) l xs:=by obtain⟨a,xs,e,h1,h2⟩:=h;exact⟨a,xs,e,zp _ _ h1,h2⟩
def yT(h:Bor A H (.d (.lst l)) v):∃a xs,v = .ref a/\H a=some (.lst xs)/\IsL (zM A H) l xs:=h
def zjr(h:Bor A H (.d (.lst l)) v\/Bor A H (.d (.tup l)) v):∃a xs,v = .ref a/\(SqL K H a xs\/SqT K H a xs)/\IsL (zM A H) l xs:=by
 rcases h with h | h;obtain⟨a,xs,e,h1,h2⟩:=yT h;exact⟨a,xs,e,.inl (.of h1),h2⟩;obtain⟨a,xs,e,h1,h2⟩:=xM h;exact⟨a,xs,e,.inr (.of h1),h2⟩
def fI (C:Int->Int->Prop)(g:Int->Int->Dt):W->W->Mo W:=λx y n Q=>∃i j,x = .d (.int i)/\y = .d (.int j)/\C i j/\Q (.d (g i j)) n
def fI0 (g:Int->Int->Dt):W->W->Mo W:=λx y n Q=>∃i j,x = .d (.int i)/\y = .d (.int j)/\Q (.d (g i j)) n
def f2_I {C:Int->Int->Prop}{g:Int->Int->V}{g':Int->Int->Dt}(B:∀i j G,Is G (g' i j) (g i j)):F2 Pn false (rI C g) (fI C g'):=⟨by
 rintro A H x y L O n Q R U F q P ⟨i,j,I,J,c,r⟩ k;subst I J;exact⟨i,j,yJ F,yJ q,c,k _ n _ H r (Val.of (B _ _ _)) (Go.refl P) λz=>by cases z⟩⟩
def zj0 {g:Int->Int->V}{g':Int->Int->Dt}(B:∀i j G,Is G (g' i j) (g i j)):F2 Pn false (rI0 g) (fI0 g'):=⟨by
 rintro A H x y L O n Q R U F q P ⟨i,j,I,J,r⟩ k;subst I J;exact⟨i,j,yJ F,yJ q,k _ n _ H r (Val.of (B _ _ _)) (Go.refl P) λz=>by cases z⟩⟩
abbrev fAdd:=fI0 λi j=>.int (i+j)
abbrev fSub:=fI0 λi j=>.int (i - j)
abbrev fDiv:=fI zsc λi j=>.int (i / j)
abbrev fMod:=fI (λ_ j=>0<j) λi j=>.int (i % j)
abbrev fLt:=fI0 λi j=>.bl (decide (i<j))
abbrev fLe:=fI0 λi j=>.bl (decide (i<=j))
abbrev fGt:=fI0 λi j=>.bl (decide (j<i))
def zxE:F2 Pn false (rI0 λi j=>.int (i+j)) fAdd:=zj0 λ_ _ _=>rfl
def zxO:F2 Pn false (rI0 λi j=>.int (i - j)) fSub:=zj0 λ_ _ _=>rfl
def zvg:F2 Pn false (rI zsc λi j=>.int (i / j)) fDiv:=f2_I λ_ _ _=>rfl
def zxM:F2 Pn false (rI (λ_ j=>0<j) λi j=>.int (i % j)) fMod:=f2_I λ_ _ _=>rfl
def v_lt:F2 Pn false (rI0 λi j=>.bl (decide (i<j))) fLt:=zj0 λ_ _ _=>rfl
def v_le:F2 Pn false (rI0 λi j=>.bl (decide (i<=j))) fLe:=zj0 λ_ _ _=>rfl
def v_gt:F2 Pn false (rI0 λi j=>.bl (decide (j<i))) fGt:=zj0 λ_ _ _=>rfl
abbrev sEq:Dt->Dt->Option Bool
 | .int i,.int j=>some (decide (i=j))
 | .bl i,.bl j=>some (decide (i=j))
 | .str i,.str j=>some (decide (i=j))
 | .non,.non=>some true
 | .non,.int _=>some false
 | .int _,.non=>some false
 | .non,.bl _=>some false
 | .bl _,.non=>some false
 | .non,.str _=>some false
 | .str _,.non=>some false
 | .int _,.str _=>some false
 | .str _,.int _=>some false
 | _,_=>none
def plain:Dt->Option V
 | .int i=>some (.int i)
 | .bl i=>some (.bl i)
 | .str i=>some (.str i)
 | .non=>some .non
 | _=>none
def zo6(h:sEq a b=some r):∃x y,plain a=some x/\plain b=some y/\zxq x y=true/\decide (x=y)=r:=by cases a <;> cases b <;> cases h <;> show⟨_,_,rfl,rfl,rfl,?_⟩ <;> first | rfl | exact aU (by lia) | exact decide_eq_decide.mpr (by simp)
def zaZ(h:Bor A H (.d a) v)(e:plain a=some x):v=x:=by cases a <;> cases e <;> exact h
def fEq:W->W->Mo W:=λx y n Q=>∃a b r,x = .d a/\y = .d b/\sEq a b=some r/\Q (.d (.bl r)) n
def fNe:W->W->Mo W:=λx y n Q=>∃a b r,x = .d a/\y = .d b/\sEq a b=some r/\Q (.d (.bl (!r))) n
def v_eq:F2 Pn false rEq fEq:=⟨by
 rintro A H x y L O n Q R U B q P ⟨a,b,r,F,I,e,h⟩ k;subst F I;obtain⟨Y,Z,J,p2,s,d⟩:=zo6 e;obtain rfl:=zaZ B J;obtain rfl:=zaZ q p2;exact⟨s,k _ n _ H h (Val.of (by rw[d];rfl)) (Go.refl P) λz=>by cases z⟩⟩
def v_ne:F2 Pn false rNe fNe:=⟨by
 rintro A H x y L O n Q R U B q P ⟨a,b,r,F,I,e,h⟩ k;subst F I;obtain⟨Y,Z,J,p2,s,d⟩:=zo6 e;obtain rfl:=zaZ B J;obtain rfl:=zaZ q p2;exact⟨s,k _ n _ H h (Val.of (by rw[d];rfl)) (Go.refl P) λz=>by cases z⟩⟩
def zwp:W->W->Mo W:=λx y n Q=>∃a b,x = .d a/\y = .d b/\a.eqOk/\b.eqOk/\∀r:Bool,(r=true↔a=b)->Q (.d (.bl r)) n
def zwv:W->W->Mo W:=λx y n Q=>∃a b,x = .d a/\y = .d b/\a.eqOk/\b.eqOk/\∀r:Bool,(r=true↔a=b)->Q (.d (.bl (!r))) n
def zxG:F2 Pn false zvI zwp:=⟨by
 rintro A H x y U Y n Q R Z B q P ⟨a,b,F,I,J,L,h⟩ k;subst F I;exact⟨a,b,B.is,q.is,J,L,λr O=>k _ n _ H (h r O) (Val.of rfl) (Go.refl P) λz=>by cases z⟩⟩
def zxN:F2 Pn false zvL zwv:=⟨by
 rintro A H x y U Y n Q R Z B q P ⟨a,b,F,I,J,L,h⟩ k;subst F I;exact⟨a,b,B.is,q.is,J,L,λr O=>k _ n _ H (h r O) (Val.of rfl) (Go.refl P) λz=>by cases z⟩⟩
def zwr:W->W->Mo W:=λx y n Q=>∃ (b:Int) (ns:AG),x = .d (.int b)/\(y = .d (.lst (ns.map .int))\/y = .d (.tup (ns.map .int)))/\Q (.d (.bl (ns.contains b))) n
def zgO:W->W->Mo W:=λx y n Q=>∃ (b:Int) (ns:AG),x = .d (.int b)/\(y = .d (.lst (ns.map .int))\/y = .d (.tup (ns.map .int)))/\Q (.d (.bl (!ns.contains b))) n
def zxI:F2 Pn false (rIn K false) zwr:=⟨by
 rintro A H x y O U n Q R Y q B P ⟨b,ns,F,Z,h⟩ k;subst F;have I:Bor A H (.d (.lst (ns.map .int))) y\/Bor A H (.d (.tup (ns.map .int))) y:=by grind
 obtain⟨a,xs,e,J,L⟩:=zjr (K:=K) I;obtain rfl:=L.of_ints;obtain rfl:=yJ q;exact⟨a,_,e,J,rfl,zfz ns,k _ n _ H h (Val.of (by rw[zhQ];rfl)) (Go.refl P) λz=>by cases z⟩⟩
def zoh:F2 Pn false (rIn K true) zgO:=⟨by
 rintro A H x y O U n Q R Y q B P ⟨b,ns,F,Z,h⟩ k;subst F;have I:Bor A H (.d (.lst (ns.map .int))) y\/Bor A H (.d (.tup (ns.map .int))) y:=by grind
 obtain⟨a,xs,e,J,L⟩:=zjr (K:=K) I;obtain rfl:=L.of_ints;obtain rfl:=yJ q;exact⟨a,_,e,J,rfl,zfz ns,k _ n _ H h (Val.of (by rw[zhQ];rfl)) (Go.refl P) λz=>by cases z⟩⟩
def zwq (q:Bool):W->W->Mo W:=λx y n Q=>∃d ds,x = .d d/\(y = .d (.lst ds)\/y = .d (.tup ds))/\d.eqOk/\(Dt.lst ds).eqOk/\∀b:Bool,(b=true↔d∈ds)->Q (.d (.bl (if q then !b else b))) n
def zxH:F2 Pn false (zvJ q) (zwq q):=⟨by
 rintro A H x y Y Z n Q R al F B P ⟨d,ds,I,J,L,O,h⟩ k;subst I;show⟨d,ds,F.is,?_,L,O,λb U=>k _ n _ H (h b U) (Val.of rfl) (Go.refl P) λz=>by cases z⟩;rcases J with rfl | rfl;exact .inl B.is;exact .inr B.is⟩
def zoL{i:Int}(h:IsL G l xs)(e:atI l i=some d):∃v,atI xs i=some v/\Is G d v:=by
 unfold atI at e ⊢;rw[h.length];obtain⟨j,h1,h2⟩:=Option.bind_eq_some_iff.mp e;obtain⟨v,q,B⟩:=h.getD h2;right
def zwt:W->W->Mo W:=λx y n Q=>∃l i d,x = .d (.tup l)/\y = .d (.int i)/\atI l i=some d/\Q (.d d) n
def zws:W->W->Mo W:=λx y n Q=>∃l i d,x = .d (.lst l)/\y = .d (.int i)/\atI l i=some d/\Q (.d d) n
def zxK:F2 Pn false (zus K) zwt:=⟨by
 rintro A H x y U Y n Q R Z B q P ⟨l,i,d,F,I,e,h⟩ k;subst F I;obtain⟨a,xs,J,L,O⟩:=xM B;obtain⟨v,h1,h2⟩:=zoL O e;exact⟨a,xs,i,v,J,yJ q,.of L,h1,k _ n _ H h (Val.of h2) (Go.refl P) λz=>by cases z⟩⟩
def zxJ:F2 Pn false (zvK K) zws:=⟨by
 rintro A H x y U Y n Q R Z B q P ⟨l,i,d,F,I,e,h⟩ k;subst F I;obtain⟨a,xs,J,L,O⟩:=yT B;obtain⟨v,h1,h2⟩:=zoL O e;exact⟨a,xs,i,v,J,yJ q,.of L,h1,k _ n _ H h (Val.of h2) (Go.refl P) λz=>by cases z⟩⟩
def zgN:W->W->Mo W:=λx y n Q=>∃l m,x = .d (.tup l)/\y = .d (.tup m)/\l.length+m.length<=lim/\Q (.d (.tup (l++m))) n
def zvf:F2 Pn false (zlL K) zgN:=⟨by
 rintro A H x y wx wy n Q R I J q P ⟨l,m,L,O,z,h⟩ k;subst L O;obtain⟨a,xs,U,Y,B⟩:=xM J;obtain⟨b,ys,Z,hb,F⟩:=xM q;show⟨a,b,xs,ys,U,Z,Y,hb,zcU (by rw[B.length,F.length];exact z),λp H' g S=>?_⟩;exact k _ n _ H' h (zfb (B.append F) (zu.same S) (I.noT' (zu.same S) g) g) (Go.same P S) λz=>by cases z⟩
def zpC:W->W->Mo W:=λx y n Q=>∃l m,x = .d (.lst l)/\y = .d (.lst m)/\l.length+m.length<=lim/\Q (.d (.lst (l++m))) n
def zve:F2 Pn true zrq zpC:=⟨by
 rintro A H x y wx wy n Q R J L q P ⟨l,m,O,U,z,h⟩ k;subst O U;obtain⟨a,xs,Y,Z,B⟩:=yT L;obtain⟨b,ys,eb,hb,F⟩:=yT q;show⟨a,b,xs,ys,Y,eb,Z,hb,zcU (by rw[B.length,F.length];exact z),λp H' I g S=>?_⟩;exact k _ n _ H' h (xP (B.append F) (zu.same S) (J.new I) g) (Go.same P S) λz=>x4 (B.append F) S I g⟩
def zgX(h:IsL G l xs):∀k:Nat,IsL G (List.replicate k l).flatten (List.replicate k xs).flatten
 | 0=>rfl
 | k+1=>by rw[cG,cG,dq,dq];exact h.append (zgX h k)
abbrev lenD:W->Option Nat
 | .d (.lst l)=>some l.length
 | .d (.tup l)=>some l.length
 | _=>none
def zwu:AU->Mo W:=λq n Q=>∃x k,q=[x]/\lenD x=some k/\Q (.d (.int (k:Int))) n
def zaY(h:zsh A H [w] vs):∃v,vs=[v]/\Bor A H w v:=by obtain⟨v,r,e,h1,h2⟩:=h;cases h2;exact⟨v,e,h1⟩
def zxL:FL Pn false (λxs H Q=>∃x n,xs=[x]/\zsk K x H n/\Q (.int n) H) zwu:=⟨by
 rintro A H xs L n Q R O b P ⟨x,j,J,q,h⟩ k;subst J;obtain⟨v,rfl,I⟩:=zaY b;show⟨v,j,rfl,?_,k _ n _ H h (Val.of rfl) (Go.refl P) λz=>by cases z⟩
 cases x with
 | d x=>
  cases x with
  | lst l=>
   cases q;obtain⟨a,ys,rfl,B,F⟩:=yT I;exact .inl ⟨ys,.of B,F.length.symm⟩
  | tup l=>
   cases q;obtain⟨a,ys,rfl,B,F⟩:=xM I;exact .inr ⟨ys,.of B,F.length.symm⟩
  | _=>cases q
 | _=>cases q⟩
def zkm:∀ {q:List Bool} {xs:AT},IsL G (q.map .bl) xs->xs=q.map V.bl
 | [],_,h=>h
 | b::q,xs,h=>by obtain⟨y,r,rfl,h1,h2⟩:=h;cases h1;rw[zkm h2];rfl
def zwo:AU->Mo W:=λB n Q=>∃q:List Bool,B=[.d (.lst (q.map .bl))]/\Q (.d (.bl (q.all id))) n
def zxF:FL Pn false (λxs H Q=>∃ (p:Addr) (q:List Bool),xs=[.ref p]/\H p=some (.lst (q.map V.bl))/\Q (.bl (q.all id)) H) zwo:=⟨by
 rintro A H xs L n Q R O b P ⟨q,B,h⟩ k;subst B;obtain⟨v,rfl,F⟩:=zaY b;obtain⟨a,ys,rfl,I,J⟩:=yT F;obtain rfl:=zkm J;exact⟨a,q,rfl,I,k _ n _ H h (Val.of rfl) (Go.refl P) λz=>by cases z⟩⟩
def zoF:AU->Mo W:=λq n Q=>∃l,(q=[.d (.lst l)]\/q=[.d (.tup l)])/\Q (.d (.tup l)) n
def zsa:FL Pn false (zhk K) zoF:=⟨by
 rintro A H xs O n Q R I b P ⟨l,J,h⟩ k;rcases J with rfl | rfl;obtain⟨v,rfl,B⟩:=zaY b;obtain⟨a,ys,rfl,q,F⟩:=yT B;exact⟨a,ys,rfl,.inl ⟨.of q,λp H' L g S=>k _ n _ H' h (zfb F (zu.same S) (I.new L) g) (Go.same P S) λz=>by cases z⟩⟩;obtain⟨v,rfl,B⟩:=zaY b;obtain⟨a,ys,e,q,F⟩:=id B;subst e;exact⟨a,ys,rfl,.inr ⟨.of (zp _ _ q),k _ n _ H h (Val.of ⟨a,ys,rfl,q,F⟩) (Go.refl P) λz=>by cases z⟩⟩⟩
def xY {α:Type}(xs:List α)(lo hi:AQ):List α:=(xs.drop (HT.sIx xs.length 0 lo)).take (HT.sIx xs.length xs.length hi - HT.sIx xs.length 0 lo)
def zgW{lo hi:AQ}(h:IsL G l xs):IsL G (xY l lo hi) (zdq xs lo hi):=by unfold xY zdq;rw[h.length];exact (h.drop _).take _
def yZ {κ:Type}[DecidableEq κ](kvs:List (κ×Dt))(k:κ):Option Dt:=(kvs.find? λq=>decide (q.1=k)).map (·.2)
def uw.look {κ:Type}[DecidableEq κ]{G:Hp}{k:κ}:∀ {kvs:List (κ×Dt)} {ks:List (κ×V)},uw G kvs ks->(yZ kvs k=none->zaI ks k=none)/\∀d,yZ kvs k=some d->∃v,zaI ks k=some v/\Is G d v
 | [],_,h=>by cases h;exact⟨λ_=>rfl,λd e=>by cases e⟩
 | q::r,ks,⟨v,s,e,h1,h2⟩=>by
  subst e;have F:=uw.look (k:=k) h2;by_cases B:q.1=k;show⟨λz=>?_,λd z=>?_⟩;simp[yZ,bt,B] at z;simp[yZ,bt,B] at z;subst z;exact⟨v,xA B,h1⟩;have I:yZ (q::r) k=yZ r k:=by simp[yZ,bt,B]
  rw[I,xW B];exact F
end
section
variable {X:Cx}{Pn:PN}{M S:AR}{fr:Bool}{e a b c:Expr}{es:AO}{f fa fb fc:AD}{pos p:Pos}
def zab(q:IxQ X r)(B:F2 Pn fr r F)(I:JB X Pn M a fa)(J:JB X Pn M b fb)(L:zgy b):JE X Pn M fr (.Subscript a b pos) (zse F fa fb):=by obtain⟨ta,O,U⟩:=I.ex;obtain⟨tb,Y,Z⟩:=J.ex;exact⟨_,zrd q O Y L,zn1 B U Z⟩
abbrev zqp:Ev->Mo AQ:=λ_ n Q=>Q none n
def zqq (fa:AD):Ev->Mo AQ:=λρ n Q=>fa ρ n λx m=>∃i,x = .d (.int i)/\Q (some i) m
def yd:JO X Pn M none zqp:=⟨_,zlH,λA σ H ρ n Q R E P q k=>k none n H q (Go.refl P)⟩
def ye (h:JB X Pn M e f):JO X Pn M (some e) (zqq f):=by obtain⟨te,q,r⟩:=h.ex;show⟨_,zlI q,λA σ H ρ n Q R E P B k=>?_⟩;show r.run A σ H ρ n _ _ E P B  ?_;rintro w m v H' ⟨i,e,r⟩ F g;subst e;exact⟨i,yJ F,k (some i) m H' r g⟩
def zwT (fa:AD)(fl q:Ev->Mo AQ):AD:=λρ n Q=>fa ρ n λx B=>fl ρ B λlo F=>q ρ F λhi I=>∃l,x = .d (.tup l)/\Q (.d (.tup (xY l lo hi))) I
def zwS (fa:AD)(fl q:Ev->Mo AQ):AD:=λρ n Q=>fa ρ n λx B=>fl ρ B λlo F=>q ρ F λhi I=>∃l,x = .d (.lst l)/\Q (.d (.lst (xY l lo hi))) I
def za8{fl I:Ev->Mo AQ}(L:JB X Pn M e f)(B:JO X Pn M lo fl)(O:JO X Pn M hi I):JE X Pn M false (.Subscript e (.Slice lo hi none p2) pos) (zwT f fl I):=by obtain⟨te,U,Y⟩:=L.ex;obtain⟨tl,Z,rl⟩:=B.ex;obtain⟨th,qh,rh⟩:=O.ex;show⟨_,zeP zrP U Z qh,⟨λA σ H ρ n Q R E P hf k=>?_⟩⟩;show Y.run A σ H ρ n _ _ E P hf λw m v H1 r1 bb q=>?_;show rl A σ H1 ρ m _ _ (E.stay q.st) q.pn r1 λo m2 H2 r2 g2=>?_;show rh A σ H2 ρ m2 _ _ ((E.stay q.st).stay g2.st) g2.pn r2  ?_;rintro o3 m3 H3 ⟨l,e,r3⟩ F;subst e;have g:=(q.trans g2).trans F;obtain⟨ad,xs,rfl,ha,B⟩:=xM (bb.stay (g2.trans F).st);exact⟨ad,xs,rfl,ha,λp H' J S=>k _ m3 _ H' r3 (zfb (zgW B) (zu.same S) (Al.noT' (E.stay g.st).al (zu.same S) J) J) (g.trans (Go.same F.pn S)) λz=>by cases z⟩
def zfM{fl J:Ev->Mo AQ}(L:JB X Pn M e f)(q:JO X Pn M lo fl)(O:JO X Pn M hi J):JE X Pn M true (.Subscript e (.Slice lo hi none p2) pos) (zwS f fl J):=by obtain⟨te,U,Y⟩:=L.ex;obtain⟨tl,Z,rl⟩:=q.ex;obtain⟨th,qh,rh⟩:=O.ex;show⟨_,zeP zl7 U Z qh,⟨λA σ H ρ n Q R E P hf k=>?_⟩⟩;show Y.run A σ H ρ n _ _ E P hf λw m v H1 r1 bb B=>?_;show rl A σ H1 ρ m _ _ (E.stay B.st) B.pn r1 λo m2 H2 r2 g2=>?_;show rh A σ H2 ρ m2 _ _ ((E.stay B.st).stay g2.st) g2.pn r2  ?_;rintro o3 m3 H3 ⟨l,e,r3⟩ F;subst e;have g:=(B.trans g2).trans F;obtain⟨ad,xs,rfl,ha,q⟩:=yT (bb.stay (g2.trans F).st);show⟨ad,xs,rfl,.of ha,λp I=>?_⟩;have S:=y4.upd (o:=.lst (zdq xs o o3)) I;exact k _ m3 _ _ r3 (xP (zgW q) (zu.same S) ((E.stay g.st).new I) zj) (g.trans (Go.same F.pn S)) λz=>(x4 (zgW q) S I zj).back g.st
def zgY:∀ {ds:AS} {xs:AT},IsL G ds xs->IsL G ds.reverse xs.reverse
 | [],_,h=>by cases h;rfl
 | d::ds,xs,h=>by obtain⟨x,r,rfl,h1,h2⟩:=h;rw[cQ,cQ];exact (zgY h2).append (IsL.one h1)
def zqt (fa:AD):AD:=λρ n Q=>fa ρ n λx m=>∃l,x = .d (.lst l)/\Q (.d (.lst l.reverse)) m
def zs8(I:JB X Pn M e f):JE X Pn M true (.Subscript e (.Slice none none (some (.UnaryOp .USub (.Constant (.int 1) j p4) p3)) p2) pos) (zqt f):=by obtain⟨te,J,L⟩:=I.ex;show⟨_,zrf J,⟨λA σ H ρ n Q R E P O k=>?_⟩⟩;show L.run A σ H ρ n _ _ E P O  ?_;rintro w m v H1 ⟨l,e,r⟩ U g;subst e;obtain⟨Y,xs,rfl,Z,q⟩:=yT U;exact⟨Y,xs,rfl,Z,λp H' B F S=>k _ m _ H' r (xP (zgY q) (zu.same S) ((E.stay g.st).new B) F) (g.trans (Go.same g.pn S)) λz=>(x4 (zgY q) S B F).back g.st⟩
abbrev zth:W->Option Key
 | .d (.int i)=>some (Sum.inl i)
 | .d (.str x)=>some (Sum.inr x)
 | _=>none
def zti(h:Bor A H w v)(e:zth w=some k):v=kV k:=by
 cases w with
 | d x=>
  cases x with
  | int i=>cases e;exact h
  | str i=>cases e;exact h
  | _=>cases e
 | _=>cases e
def zqj (fd fk:AD):AD:=λρ n Q=>fd ρ n λx q=>fk ρ q λy B=>∃kvs k d,x = .dk kvs/\zth y=some k/\yZ kvs k=some d/\Q (.d d) B
def zjq(h:Bor A H (.dk kvs) v):∃a ks,v = .ref a/\H a=some (.dK ks)/\uw (zM A H) kvs ks/\zaI ks (Sum.inr "at" : Key)=none:=h
def zkw (F:X.A.units+1<cLine)(I:JB X Pn M a fa)(J:JB X Pn M b fb)(L:zpd b):JE X Pn M false (.Subscript a b pos) (zqj fa fb):=by obtain⟨ta,O,U⟩:=I.ex;obtain⟨tb,Y,Z⟩:=J.ex;show⟨_,xO F O Y L,⟨λA σ H ρ n Q R E P hf k=>?_⟩⟩;show U.run A σ H ρ n _ _ E P hf λw1 m1 v1 H1 r1 b1 q=>?_;show Z.run A σ H1 ρ m1 _ _ (E.stay q.st) q.pn r1  ?_;rintro w2 m2 v2 H2 ⟨kvs,ky,d,e1,e2,e3,r⟩ b2 g2;subst e1;obtain⟨ad,ks,rfl,B,hk,_⟩:=zjq (b1.stay g2.st);obtain⟨v,h1,h2⟩:=(hk.look (k:=ky)).2 d e3;show⟨ad,v,rfl,?_,k _ m2 _ H2 r (Val.of h2) (q.trans g2) λz=>by cases z⟩;rw[zti b2 e2,<- h1];exact zch.k B
abbrev prD (q:Int×Dt):Dt:=.tup [.int q.1,q.2]
def kvD (q:Int×Dt):Key×Dt:=(Sum.inl q.1,q.2)
def spV (k:Nat)(fr:Bool)(F:PN->AU->Mo W):Sp:=λvs H Q _=>∃Pn A q n R,Al A H/\zdG A H q vs/\q.length=k/\xQ Pn A n H/\F Pn q n R/\∀w m v H',R w m->Val A H' w v->Go Pn A H m H'->(fr=true->FrV A H H' w v)->Q v H'
def mFn (k:Nat)(F:AU->Mo W)(fa:AC):AD:=λρ n Q=>fa ρ n λq m=>q.length=k/\F q m Q
def zxn(q:RA Pn M ta fs):RE Pn M fr (zhr (spV k fr F) [] E0 ta) (mFn k (F Pn) fs):=⟨λA σ H ρ n Q R E P B I=>by show q.run A σ H ρ n _ _ E P B  ?_;rintro J m vs H1 ⟨L,r⟩ b g;rw[dU];exact⟨Pn,A,J,m,R,(E.stay g.st).al,b,L,g.pn,r,λw O v H' h1 h2 U Y=>I w O v H' h1 h2 (g.trans U) λz=>(Y z).back g.st⟩⟩
def yV(D:Dfn X.K X.mg x st ps fA fd)(G:FnOk X.prog X.w X.K X.mg X.base CX0 j fA fd ps (spV k fr F))(L:Room J X.A)(O:JA X Pn M (e::es) fs)(q:j<=J:=by ext)(U:Gl X x:=by rfl)(B:Ah x:=by ext)(Y:starEach (e::es) X.env=(false,eval e X.env)::starEach es X.env:=by rfl)(I:(backTo pos (starEach es X.env)).any (·.1)=false:=by rfl) :
  JE X Pn M fr (.Call (.Name x p) (e::es) [] pos) (mFn k (F Pn) fs):=by
 obtain⟨ta,Z,ra⟩:=O.ex;exact⟨_,znQ D G L Z q U B Y I,zxn ra⟩
abbrev W.flat (fr:Bool):W->Bool
 | .d (.lst l)=>fr&&Dt.noLs l
 | .d x=>x.noL
 | .pen _=>true
 | .dk _=>false
 | .dt _=>false
 | .ss _ _ _=>false
 | .df _=>false
 | .kf _=>false
 | .fl _=>false
 | .ad _ _=>false
def xQ.less(h:xQ Pn A n H)(s:∀a,A' a->A a):xQ Pn A' n H:=by
 show⟨?_,Pn.J.grow h.2 λa z=>.inl (s a z)⟩;have h:=h.1;split at h;trivial;exact⟨h.1,λz=>h.2.1 (s _ z),λz=>h.2.2 (s _ z)⟩
end
structure JG (X:Cx)(S M:AR)(e:Expr)(mg:W->Ev->(Ev->Prop)->Prop):Prop where
 ex:∃g,QG X e g/\RG S M g mg
structure JGs (X:Cx)(S M:AR)(es:AO)(mg:AS->Ev->(Ev->Prop)->Prop):Prop where
 ex:∃g,QGs X es g/\RGs S M g mg
structure JI (X:Cx)(Pn:PN)(M:AR)(ow:Bool)(tg e:Expr)(f:AC):Prop where
 ex:∃wi,QI X tg e wi/\RI Pn M ow wi f
structure JTs (X:Cx)(Pn:PN)(M:AR)(es:AO)(f:Ev->Mo Bool):Prop where
 ex:∃t,QTs X es t/\RT Pn M t f
section
variable {X:Cx}{Pn:PN}{M S:AR}{fr:Bool}{e a b c:Expr}{es:AO}{f fa fb fc:AD}{pos p:Pos}
def gN (i:Nat):W->Ev->(Ev->Prop)->Prop:=λw ρ Q=>Q (ρ.set i (some w))
def gNl:AS->Ev->(Ev->Prop)->Prop:=λds ρ Q=>ds=[]/\Q ρ
def gCn (g:W->Ev->(Ev->Prop)->Prop)(u:AS->Ev->(Ev->Prop)->Prop):AS->Ev->(Ev->Prop)->Prop:=λds ρ Q=>∃d r,ds=d::r/\g (.d d) ρ λq=>u r q Q
def gTp (n:Nat)(u:AS->Ev->(Ev->Prop)->Prop):W->Ev->(Ev->Prop)->Prop:=λw ρ Q=>∃ds,w = .d (.tup ds)/\ds.length=n/\u ds ρ Q
def EnvR.set(E:EnvR A M σ H ρ)(hi:i∉M)(h:Val A H w v):EnvR A M (σ.set i (some v)) H (ρ.set i (some w)) where
 len:=by rw[bc,bc];exact E.len
 val:=λj u e=>by
  by_cases q:j=i;subst q
  have J:j<ρ.length:=by
   have:=(ac.mp e).1;right
  rw[aL J] at e;cases e;exact⟨v,aL (by rw[E.len];exact J),λ_=>h,λz=>absurd z hi⟩;rw[au (Ne.symm q)] at e ⊢;exact E.val j u e
 dis:=λj k u Z ad q L B O U Y=>by have F:i≠j:=λz=>hi (z ▸ q);have I:i≠k:=λz=>hi (z ▸ L);rw[au F] at O Y;rw[au I] at U ⊢;exact E.dis j k u Z ad q L B O U Y
 al:=E.al
def zc9(hi:i∉M)(q:i∉S):RG S M (uA i) (gN i):=⟨λA σ H ρ v w Q R E h r k=>k _ _ r (E.set hi h) λj B=>⟨au λ(z:i=j)=>q (by rw[z];exact B),au λ(z:i=j)=>q (by rw[z];exact B)⟩⟩
def zi(q:X.N.Nodup)(B:X.N[i]?=some x:=by rfl)(F:Loc X.env.scope x:=by first | exact Or.inl rfl | exact Or.inr rfl)(hi:i∉M:=by ext)(I:i∉S:=by ext)(J:X.fn x=true\/X.env.scope.names.lookup x=some .local:=by walk_at "l"):JG X S M (.Name x pos) (gN i):=⟨_,zc6 q B F J,zc9 hi I⟩
def yY:JGs X S M [] gNl:=⟨_,zrj,⟨by
 rintro A σ H ρ vs ds Q R E h ⟨e,r⟩ k;subst e;exact⟨h,k σ ρ r E λ_ _=>⟨rfl,rfl⟩⟩⟩⟩
def zr(h1:JG X S M e g)(h2:JGs X S M es u)(O:(assignEach (e::es) X.env).map (·.2)=assign e X.env::(assignEach es X.env).map (·.2):=by rfl):JGs X S M (e::es) (gCn g u):=by obtain⟨t1,U,Y⟩:=h1.ex;obtain⟨t2,Z,r2⟩:=h2.ex;show⟨_,znR U Z O,⟨ ?_⟩⟩;rintro A σ H ρ vs ds Q R E h ⟨d,r,e,hg⟩ k;subst e;obtain⟨v,s,rfl,hv,hr⟩:=h;show⟨v,s,rfl,?_⟩;show Y.run A σ H ρ v _ _ _ E (Val.of hv) hg λq B hu E' J=>?_;exact r2.run A q H B s _ _ _ E' hr hu λF I hR E2 L=>k F I hR E2 λi hi=>⟨(L i hi).1.trans (J i hi).1,(L i hi).2.trans (J i hi).2⟩
def x8 {k n:Nat}{u:AS->Ev->(Ev->Prop)->Prop}(K:AH)(I:X.K=K)(J:X.calm=true)(h:JGs X S M es u)(L:(assignEach es X.env).length=n:=by rfl)(q:(assignEach es X.env).findIdx? (·.1)=none:=by rfl):JG X S M (.Tuple es k pos) (gTp n u):=by obtain⟨t1,O,U⟩:=h.ex;show⟨_,zri K I J O L q,⟨ ?_⟩⟩;rintro A σ H ρ v w Q R E h ⟨ds,e,Y,Z⟩ kk;subst e;obtain⟨ad,xs,rfl,B,F⟩:=h;exact⟨ad,xs,rfl,.of (zp _ _ B),by rw[F.length];exact Y,U.run A σ H ρ xs ds _ _ E F Z kk⟩
def ztr (fa:AD):AC:=λρ n Q=>fa ρ n λx m=>∃l,x = .d (.lst l)/\Q (l.map W.d) m
def zvD (fa:AD):AC:=λρ n Q=>fa ρ n λx m=>∃l,x = .d (.tup l)/\Q (l.map W.d) m
def zgZ {G G':Hp}{l:AS}{xs:AT}{i:Nat}{w:W}(h:IsL G l xs)(e:(l.map W.d)[i]?=some w)(s:zu G G'):∃d x,w = .d d/\xs[i]?=some x/\Is G' d x:=by rw[aq] at e;obtain⟨d,h1,rfl⟩:=aC.mp e;obtain⟨x,h2,q⟩:=h.getD h1;exact⟨d,x,rfl,h2,q.stay s⟩
def zm6(h:zM A H q=some (.lst xs))(B:IsL (zM A H) l xs):ItV false A H (Itl K q) (l.map W.d) where
 one:=λi w A2 H2 e s _ _=>by obtain⟨d,x,rfl,F,I⟩:=zgZ B e s;have g:=zp _ _ (s.lst h);show⟨⟨xs,x,.of g,F⟩,?_⟩;rintro y H3 ⟨J,L⟩;subst J;have:=L xs (.of g);rw[F] at this;cases this;exact⟨λ_ _ z=>z,Val.of I⟩
 stop:=λA2 H2 s _=>⟨xs,.of (zp _ _ (s.lst h)),by rw[ab,B.length];exact af _⟩
def zpX(h:zM A H q=some (.tup xs))(B:IsL (zM A H) l xs):ItV false A H (Itt K q) (l.map W.d) where
 one:=λi w A2 H2 e s _ _=>by obtain⟨d,x,rfl,F,I⟩:=zgZ B e s;have g:=zp _ _ (s.tup h);show⟨⟨xs,x,.of g,F⟩,?_⟩;rintro y H3 ⟨J,L⟩;subst J;have:=L xs (.of g);rw[F] at this;cases this;exact⟨λ_ _ z=>z,Val.of I⟩
 stop:=λA2 H2 s _=>⟨xs,.of (zp _ _ (s.tup h)),by rw[ab,B.length];exact af _⟩
def yz(K:AH)(F:X.K=K)(h:JE X Pn M fr e f):JI X Pn M false tg e (ztr f):=by obtain⟨te,q,r⟩:=h.ex;show⟨_,zeS K F q,⟨λA σ H ρ n Q R E P I k=>?_⟩⟩;show r.run A σ H ρ n _ _ E P I  ?_;rintro w m v H1 ⟨l,e,r⟩ J g _;subst e;obtain⟨L,xs,rfl,B,O⟩:=J;exact⟨L,rfl,⟨xs,.of (zp _ _ B)⟩,k _ m _ H1 r (zm6 B O) g⟩
def za9(K:AH)(F:X.K=K)(h:JE X Pn M fr e f):JI X Pn M false tg e (zvD f):=by obtain⟨te,q,r⟩:=h.ex;show⟨_,zrl K F q,⟨λA σ H ρ n Q R E P I k=>?_⟩⟩;show r.run A σ H ρ n _ _ E P I  ?_;rintro w m v H1 ⟨l,e,r⟩ J g _;subst e;obtain⟨L,xs,rfl,B,O⟩:=J;exact⟨L,rfl,⟨xs,.of (zp _ _ B)⟩,k _ m _ H1 r (zpX B O) g⟩
def zpV(h:H B=some (.lst xs))(F:IsL (zM A H) l xs):ItV true A H (Itl K B) (l.map W.d) where
 one:=λi w A2 H2 e s q _=>by obtain⟨d,x,rfl,I,J⟩:=zgZ F e s;have g:=(q rfl).lst h;show⟨⟨xs,x,.of g,I⟩,?_⟩;rintro y H3 ⟨L,O⟩;subst L;have:=O xs (.of g);rw[I] at this;cases this;exact⟨λ_ _ z=>z,Val.of J⟩
 stop:=λA2 H2 s q=>⟨xs,.of ((q rfl).lst h),by rw[ab,F.length];exact af _⟩
def ztb(K:AH)(F:X.K=K)(h:JB X Pn M e f):JI X Pn M true tg e (ztr f):=by obtain⟨te,q,r⟩:=h.ex;show⟨_,zeS K F q,⟨λA σ H ρ n Q R E P I k=>?_⟩⟩;show r.run A σ H ρ n _ _ E P I  ?_;rintro w m v H1 ⟨l,e,r⟩ J g;subst e;obtain⟨L,xs,rfl,B,O⟩:=J;exact⟨L,rfl,⟨xs,.of B⟩,k _ m _ H1 r (zpV B O) g⟩
def zff (lo:Int)(n:Nat):AU:=(List.range n).map λi:Nat=>W.d (.int (lo+i))
def zpW{lo:Int}:ItV false A H (Itr lo n) (zff lo n) where
 one:=λi w A2 H2 e s _ _=>by unfold zff at e;rw[aq] at e;obtain⟨j,h1,rfl⟩:=aC.mp e;obtain⟨hi,h2⟩:=ac.mp h1;rw[bF] at h2;subst h2;rw[aw] at hi;show⟨hi,?_⟩;rintro y H3 ⟨q,B⟩;subst q B;exact⟨λ_ _ z=>z,Val.of rfl⟩
 stop:=λA2 H2 s _=>by
  change n<=(zff lo n).length;unfold zff;right
def zvC (fa:AC):AC:=λρ n Q=>fa ρ n λq m=>∃j:Int,q=[.d (.int j)]/\j<=1000000/\-1000000<=j/\Q (zff 0 j.toNat) m
def zP(B:Gl X "range")(F:X.mg "range" = none)(I:JAB X Pn M [a] fs)(J:starEach [a] X.env=[(false,eval a X.env)]:=by rfl):JI X Pn M false tg (.Call (.Name "range" p) [a] [] pos) (zvC fs):=by obtain⟨te,q,r⟩:=I.ex;show⟨_,zge B F q J,⟨λA σ H ρ n Q R E P L k=>?_⟩⟩;show r.run A σ H ρ n _ _ E P L  ?_;rintro Y m vs H1 ⟨j,e,Z,j2,r⟩ O g;subst e;obtain⟨v,rfl,U⟩:=zaY O;obtain rfl:=yJ U;exact⟨j,rfl,by lia,by lia,k _ m _ H1 r zpW g⟩
def enW:Nat->AS->AU
 | _,[]=>[]
 | k,x::r=>.d (.tup [.int k,x])::enW (k+1) r
def zel:∀ (l:AS) (k i:Nat),(enW k l)[i]?=(l[i]?).map λx=>W.d (.tup [.int ((k+i:Nat):Int),x])
 | [],_,_=>by simp[enW]
 | x::r,k,0=>by simp[enW]
 | x::r,k,i+1=>by have:=zel r (k+1) i;simp only[enW,bC,this];rw[show k+1+i=k+(i+1) by lia]
def zjU:∀ (l:AS) (k:Nat),(enW k l).length=l.length
 | [],_=>rfl
 | x::r,k=>by rw[enW,aV,aV,zjU r]
def ziW:AS->AS->AU
 | x::r,y::s=>.d (.tup [x,y])::ziW r s
 | _,_=>[]
def zbx (ρ:Ev)(cix:List (Option Nat)):Ev:=cix.map λo=>match o with
 | none=>none
 | some i=>(ρ[i]?).join
def ya (M:AR)(cix:List (Option Nat)):AR:=(List.range cix.length).filter λk=>match cix[k]? with
 | some (some i)=>M.contains i
 | _=>false
def zcp:k∈ya M cix↔∃i,cix[k]?=some (some i)/\i∈M:=by
 unfold ya;rw[aN,aX];constructor;rintro⟨h1,h2⟩;rw[ah h1] at h2 ⊢
 cases e:cix[k] with
 | none=>rw[e] at h2;cases h2
 | some i=>rw[e] at h2;exact⟨i,rfl,by simpa using h2⟩
 rintro⟨i,h1,h2⟩;exact⟨(ac.mp h1).1,by right⟩
def zby {α:Type}{l:List (Option α)}{cix:List (Option Nat)}{k:Nat}{x:α}:(cix.map λo=>match o with | none=>none | some i=>(l[i]?).join)[k]?=some (some x)↔∃i,cix[k]?=some (some i)/\l[i]?=some (some x):=by
 rw[aq]
 cases e:cix[k]? with
 | none=>simp
 | some o=>
  cases o with
  | none=>simp
  | some i=>
   simp only[Option.map_some,Option.some.injEq];constructor;intro h;show⟨i,rfl,?_⟩
   cases q:l[i]? with
   | none=>rw[q] at h;cases h
   | some z=>rw[q] at h;cases z with
    | none=>cases h
    | some y=>cases h;rfl
   right
def EnvR.cap(E:EnvR A M σ H ρ)(U:(cix.filterMap id).Nodup):EnvR A (ya M cix) (u4 σ cix) H (zbx ρ cix) where
 len:=by unfold u4 zbx;rw[ab,ab]
 val:=λk w e=>by
  obtain⟨i,h1,h2⟩:=zby.mp e;obtain⟨v,Y,Z,s3⟩:=E.val i w h2;show⟨v,zby.mpr ⟨i,h1,Y⟩,λz=>Z λy=>z (zcp.mpr ⟨i,h1,y⟩),λz=>?_⟩;obtain⟨j,h3,h4⟩:=zcp.mp z;right
 dis:=λk k' w u ad hk ag an e1 e2 Y Z=>by
  obtain⟨i,h1,h2⟩:=zby.mp e1;obtain⟨i',q,ap⟩:=zby.mp e2;obtain⟨j,h3,h4⟩:=zby.mp Y;obtain⟨j',F,as⟩:=zby.mp Z;rw[h1] at h3;cases h3;rw[q] at F;cases F;obtain⟨m,m1,m2⟩:=zcp.mp hk;rw[h1] at m1;cases m1;obtain⟨m',I,av⟩:=zcp.mp ag;rw[q] at I;cases I;show E.dis _ _ w u ad m2 av (λz=>?_) h2 ap h4 as;subst z
  have key:∀ (l:List (Option Nat)) (a b:Nat) (x:Nat),(l.filterMap id).Nodup->l[a]?=some (some x)->l[b]?=some (some x)->a=b:=by
   intro l
   induction l with
   | nil=>intro a b x _ h;simp at h
   | cons o l ih=>
    intro a b x U J L;have O:∀ (l:List (Option Nat)) (a:Nat),l[a]?=some (some x)->x∈l.filterMap id:=λl a h=>cO.mpr ⟨some x,aA h,rfl⟩
    cases o with
    | none=>
     have a0:(l.filterMap id).Nodup:=by simpa using U
     cases a with
     | zero=>simp at J
     | succ a=>
      cases b with
      | zero=>simp at L
      | succ b=>rw[ih a b x a0 (by simpa using J) (by simpa using L)]
    | some y=>
     have B:y∉l.filterMap id/\(l.filterMap id).Nodup:=by right
     cases a with
     | zero=>
      have a1:y=x:=by simpa using J
      subst a1
      cases b with
      | zero=>rfl
      | succ b=>exact absurd (O l b (by simpa using L)) B.1
     | succ a=>
      cases b with
      | zero=>
       have a2:y=x:=by simpa using L
       subst a2;exact absurd (O l a (by simpa using J)) B.1
      | succ b=>rw[ih a b x B.2 (by simpa using J) (by simpa using L)]
  exact an (key cix k k' _ U h1 q)
 al:=E.al
def EnvR.more {A:AL}{σ:St}{H H':Hp}{ρ:Ev}(E:EnvR A M σ H ρ){p:Addr}{o:HO}(s:zu H H')(n:Fr H p)(g:H' p=some o)(B:NP o)(F:Mt o):EnvR (λb=>A b\/b=p) M σ H' ρ where
 len:=E.len
 val:=λi w e=>by obtain⟨v,h1,h2,q⟩:=E.val i w e;show⟨v,h1,λz=>WAt.up (yC s n) (yC s n) (h2 z),λz=>?_⟩;obtain⟨a,e,I,J,L⟩:=q z;exact⟨a,e,.inl I,WAt.up s (yC s n) J,L⟩
 dis:=E.dis
 al:=λa h=>by
  rcases h with h | h;obtain⟨o,h1,h2,q⟩:=E.al a h;exact⟨o,s _ _ h1 h2,h2,q⟩;subst h;exact⟨o,g,B,F⟩
def EnvR.upd{A:AL}{σ:St}{H:Hp}{ρ:Ev}(E:EnvR A M σ H ρ){p:Addr}(Y:A p)(hn:∀i w,i∈M->ρ[i]?=some (some w)->σ[i]?≠some (some (.ref p)))(np:NP o)(nt:Mt o):EnvR A M σ (L2.upd H p o) ρ where
 len:=E.len
 val:=λi w e=>by
  obtain⟨v,h1,h2,h3⟩:=E.val i w e;show⟨v,h1,λz=>?_,λz=>?_⟩;change WAt _ _ _ _;rw[yg Y];exact h2 z;obtain⟨a,F,h4,L,U⟩:=h3 z;have J:a≠p:=λq=>hn i w z e (by rw[h1,F,q]);show⟨a,F,h4,?_,U⟩;change WAt _ _ _ _;rw[yg Y]
  cases w with
  | d x=>
   cases x with
   | lst l=>obtain⟨O,xs,B,I,g2⟩:=L;rw[F] at B;cases B;exact⟨a,xs,F,by rw[zf J];exact I,g2⟩
   | dct=>obtain⟨O,xs,B,I,g2⟩:=L;rw[F] at B;cases B;exact⟨a,xs,F,by rw[zf J];exact I,g2⟩
   | _=>cases U
  | pen p=>cases U
  | dk k=>obtain⟨O,xs,B,I,g2⟩:=L;rw[F] at B;cases B;exact⟨a,xs,F,by rw[zf J];exact I,g2⟩
  | dt k=>obtain⟨O,xs,B,I,g2⟩:=L;rw[F] at B;cases B;exact⟨a,xs,F,by rw[zf J];exact I,g2⟩
  | ss P w k=>obtain⟨O,xs,B,I,g2⟩:=L;rw[F] at B;cases B;exact⟨a,xs,F,by rw[zf J];exact I,g2⟩
  | df k=>obtain⟨O,ob,xs,B,I,g2⟩:=L;rw[F] at B;cases B;exact⟨a,ob,xs,F,by right,g2⟩
  | kf k=>obtain⟨O,ob,xs,B,I,g2⟩:=L;rw[F] at B;cases B;exact⟨a,ob,xs,F,by right,g2⟩
  | ad a x=>cases U
  | fl k=>obtain⟨O,ob,xs,B,I,g2⟩:=L;rw[F] at B;cases B;exact⟨a,ob,xs,F,by right,g2⟩
 dis:=E.dis
 al:=λa h=>by
  by_cases Z:a=p;subst Z;exact⟨o,zj,np,nt⟩;rw[zf Z];exact E.al a h
def xQ.upd{A:AL}{H:Hp}{p:Addr}(h:xQ Pn A n H)(B:A p):xQ Pn A n (L2.upd H p o):=by
 show⟨?_,Pn.J.upd h.2 B⟩;have h:=h.1;split at h;trivial
 ·show⟨?_,h.2⟩;rename_i q c ns _;obtain⟨h1,h2,F⟩:=h;have I:c≠p:=λz=>h2 (z ▸ B);have L:q≠p:=λz=>F (z ▸ B);obtain⟨a,l,O,g2,U,Y⟩:=h1.ob;exact⟨⟨a,l,by rw[zf L];exact O,g2,U,Y⟩,let ⟨ob,e⟩:=h1.ls;⟨ob,by rw[zf I];exact e⟩,h1.len⟩
end
structure JS (X:Cx)(Pn:PN)(S M:AR)(fr:Bool)(st:Stmt)(fs:Ms):Prop where
 ex:∃ts,QS X st ts/\RS Pn S M fr ts fs
structure JSs (X:Cx)(Pn:PN)(S M:AR)(fr:Bool)(st:List Stmt)(fs:Ms):Prop where
 ex:∃ts,QSs X st ts/\RS Pn S M fr ts fs
section
variable {X:Cx}{Pn:PN}{M S:AR}{fr fr':Bool}{e a b c:Expr}{es:AO}{f fa fb fc:AD}{pos p:Pos}
def xQ.grow'(h:xQ Pn A n H)(h':xQ Pn A m H')(F:Fr H q)(g:H' q=some o)(B:NP o)(I:Mt o):xQ Pn (λb=>A b\/b=q) m H':=by
 show⟨?_,Pn.J.grow h'.2 λa z=>z.imp_right λe=>⟨o,by rw[e];exact g,B,I⟩⟩;have h:=h.1;have h':=h'.1;revert h h'
 cases Pn.pn with
 | none=>exact λ_ _=>trivial
 | some x=>
  obtain⟨p,c,ns⟩:=x;intro h h';show⟨h'.1,λz=>z.elim h'.2.1 λz=>?_,λz=>z.elim h'.2.2 λz=>?_⟩;subst z;obtain⟨ob,e⟩:=h.1.ls;exact F _ e (λ_ z=>by cases z);subst z;obtain⟨a,l,e,_⟩:=h'.1.ob;rw[e] at g;cases g;have:=B _ rfl;rw[znE] at this;cases this
def zoe(h:∀C s H ex,JE (zA X scope N C s H ex) Pn M fr e f):∃te,(∀C s H ex,QE (zA X scope N C s H ex) e te)/\RE Pn M fr te f:=
 ⟨λσ H Q=>∀C s H0 ex,(h C s H0 ex).ex.choose σ H Q,λC s H0 ex=>⟨λpins s' σ H Q I z=>(h C s H0 ex).ex.choose_spec.1.run pins s' σ H Q I (z C s H0 ex)⟩,
  ⟨λA σ H ρ n Q R E P q k C s H0 ex=>(h C s H0 ex).ex.choose_spec.2.run A σ H ρ n Q R E P q k⟩⟩
def zog(h:∀C s H ex,JTs (zA X scope N C s H ex) Pn M es q):∃te,(∀C s H ex,QTs (zA X scope N C s H ex) es te)/\RT Pn M te q:=
 ⟨λσ H Q=>∀C s H0 ex,(h C s H0 ex).ex.choose σ H Q,λC s H0 ex=>⟨λpins s' σ H Q I z=>(h C s H0 ex).ex.choose_spec.1.run pins s' σ H Q I (z C s H0 ex)⟩,
  ⟨λA σ H ρ n Q R E P B k C s H0 ex=>(h C s H0 ex).ex.choose_spec.2.run A σ H ρ n Q R E P B k⟩⟩
def zof(h:∀C s H ex,JG (zA X scope N C s H ex) S M e mg):∃g,(∀C s H ex,QG (zA X scope N C s H ex) e g)/\RG S M g mg:=
 ⟨λv σ H Q=>∀C s H0 ex,(h C s H0 ex).ex.choose v σ H Q,λC s H0 ex=>⟨λpins s' σ H v u Q I q z=>(h C s H0 ex).ex.choose_spec.1.run pins s' σ H v u Q I q (z C s H0 ex)⟩,
  ⟨λA σ H ρ v w Q R E B F k C s H0 ex=>(h C s H0 ex).ex.choose_spec.2.run A σ H ρ v w Q R E B F k⟩⟩
def zfq (mg:W->Ev->(Ev->Prop)->Prop)(O:Ev->Mo Bool)(U:AD)(J:Ev)(Q:AV):AU->Nat->Prop:=λl Y=>l.length<=lim/\∃I:Nat->Ev->Nat->AS->Prop,I 0 J Y []/\
 (∀i w q F acc,l[i]?=some w->I i q F acc->mg w q λB=>O B F λb L=>if b=true then U B L λx Z=>∃d,x = .d d/\I (i+1) B Z (acc++[d]) else I (i+1) B L acc)/\
 ∀ q F acc,I l.length q F acc->Q (.d (.lst acc)) F
abbrev zkU (q:AC) (mg:W->Ev->(Ev->Prop)->Prop) (B:Ev->Mo Bool) (F:AD) (cix:List (Option Nat)):AD:=λρ n Q=>q ρ n (zfq mg B F (zbx ρ cix) Q)
def zeY(hn:(cix.filterMap id).Nodup)(hi:RI Pn M ow wi fi)(hg:RG (ya M cix) (ya M cix) g mg)(ht:RT Pn (ya M cix) ti ft)(he:RE Pn (ya M cix) fr' te fe):RE Pn M true (zgp wi g ti te cix) (zkU fi mg ft fe cix):=⟨λA σ H ρ n Q R E P hf k=>by
 show hi.run A σ H ρ n _ _ E P hf λl m J H1 ⟨hz,I,i0,it,ie⟩ iv g1=>λacc B=>?_;have E1:=E.stay g1.st;have E2:=(E1.cap hn).more (zu.upd (o:=.lst []) B) (Fr.of B) zj NP.lst rfl;have P2:xQ Pn (λb=>A b\/b=acc) m (L2.upd H1 acc (.lst [])):=g1.pn.grow' (g1.pn.same (y4.upd B)) (Fr.of B) zj NP.lst rfl;have a2:∀k w,k∈ya M cix->(zbx ρ cix)[k]?=some (some w)->(u4 σ cix)[k]?≠some (some (.ref acc)):=λk w hk hw z=>by obtain⟨v,s1,_,s3⟩:=(E1.cap hn).val k w hw;obtain⟨a,e,hA,_⟩:=s3 hk;rw[z] at s1;cases s1;cases e;exact E1.new B hA
 have key:∀ L F H',EnvR (λb=>A b\/b=acc) (ya M cix) L H' F->(∀k∈ya M cix,L[k]?=(u4 σ cix)[k]?/\F[k]?=(zbx ρ cix)[k]?)->∀k w,k∈ya M cix->F[k]?=some (some w)->L[k]?≠some (some (.ref acc)):=λL F H' E' ap k w hk hw z=>by right
 show⟨λi mm L H'=>mm=l.length - i/\i<=l.length/\∃ F n' q xs,EnvR (λb=>A b\/b=acc) (ya M cix) L H' F/\xQ Pn (λb=>A b\/b=acc) n' H'/\I i F n' q/\H' acc=some (.lst xs)/\IsL (zM (λb=>A b\/b=acc) H') q xs/\q.length<=i/\zu (zM A H1) (zM (λb=>A b\/b=acc) H')/\zu H1 H'/\(∀k∈ya M cix,L[k]?=(u4 σ cix)[k]?/\F[k]?=(zbx ρ cix)[k]?),
  ⟨l.length,by simp,aG _,_,m,[],[],E2,P2,i0,zj,rfl,af _,yC (zu.upd B) (Fr.of B),zu.upd B,λk hk=>⟨rfl,rfl⟩⟩,?_⟩
 rintro i mm L H' ⟨rfl,a3,F,n',q,xs,E',P',hI,ad,U,a4,st,s1,ap⟩;by_cases av:i<l.length
 show Or.inr ?_;have an:l[i]?=some l[i]:=ah av;obtain⟨go,yl⟩:=iv.one i l[i] _ H' an st (λ_=>s1) λp hp=>E'.new hp
 show⟨go,λas H2=>∃ F n' q xs,EnvR (λb=>A b\/b=acc) (ya M cix) as H2 F/\xQ Pn (λb=>A b\/b=acc) n' H2/\I (i+1) F n' q/\H2 acc=some (.lst xs)/\IsL (zM (λb=>A b\/b=acc) H2) q xs/\q.length<=i+1/\zu (zM A H1) (zM (λb=>A b\/b=acc) H2)/\zu H1 H2/\(∀k∈ya M cix,as[k]?=(u4 σ cix)[k]?/\F[k]?=(zbx ρ cix)[k]?),
  λas H2 h=>⟨l.length - (i+1),by lia,rfl,av,h⟩,λx H2 hy=>?_⟩
 obtain⟨S2,V2⟩:=yl x H2 hy;show hg.run _ L H2 F x l[i] _ _ (E'.stay (zu.same S2)) V2 (it i l[i] F n' q an hI) λag O r3 E3 f3=>?_;have Y:∀k∈ya M cix,ag[k]?=(u4 σ cix)[k]?/\O[k]?=(zbx ρ cix)[k]?:=λk hk=>⟨(f3 k hk).1.trans (ap k hk).1,(f3 k hk).2.trans (ap k hk).2⟩;show ht.run _ ag H2 O n' _ _ E3 (P'.same S2) r3 λb m3 H4 r4 g4=>?_;have Z:=(zu.same S2).trans g4.st
 cases b with
 | false=>
  rw[if_neg (by ext)] at r4 ⊢;exact⟨O,m3,q,xs,E3.stay g4.st,g4.pn,r4,Z.lst ad,U.stay (zH Z),by lia,st.trans (zH Z),s1.trans Z,Y⟩
 | true=>
  rw[if_pos rfl] at r4 ⊢;show he.run _ ag H4 O m3 _ _ (E3.stay g4.st) g4.pn r4  ?_;rintro w5 m5 v5 H5 ⟨d,e5,r5⟩ V5 g5 _;subst e5;have al:=Z.trans g5.st;have E5:=(E3.stay g4.st).stay g5.st;have a0:=al.lst ad;show⟨xs,a0,zdO (by rw[U.length];lia),O,m5,q++[d],xs++[v5],E5.upd (.inr rfl) (key ag O H5 E5 Y) NP.lst rfl,g5.pn.upd (.inr rfl),r5,zj,?_,by right,?_,?_,Y⟩;rw[yg (.inr rfl)];exact (U.stay (zH al)).append (IsL.one V5.is);rw[yg (.inr rfl)];exact st.trans (zH al);exact λb o e nn=>by rw[zf (zc e B)];exact s1.trans al b o e nn
 show Or.inl ?_;have a1:i=l.length:=by lia
 subst a1;show⟨iv.stop _ H' st (λ_=>s1),k _ n' _ H' (ie F n' q hI) (Val.of ⟨acc,xs,rfl,zv (E1.new B) ad,U.stay (zu.same (yK λb z=>.inl z))⟩) (g1.trans ⟨s1,P'.less λa z=>.inl z⟩) λ_=>⟨acc,rfl,(Fr.of B).back g1.st,acc,xs,rfl,ad,U⟩⟩⟩
abbrev zvE:Ev->Mo Bool:=λ_ n Q=>Q true n
def yU:JTs X Pn M [] zvE:=⟨_,zeW,⟨λA σ H ρ n Q R E P q k=>k true n H q (Go.refl P)⟩⟩
def xg(h:JT X Pn M c q):JTs X Pn M [c] q:=let ⟨t,h1,h2⟩:=h.ex;⟨t,zrp h1,h2⟩
def xc(J:X.calm=true)(L:CompOk X scope N cix)(hi:JI X Pn M I tg iter q)(O:∀C s H ex,JG (zA X scope N C s H ex) (ya M cix) (ya M cix) tg mg)(U:∀C s H ex,JTs (zA X scope N C s H ex) Pn (ya M cix) ifs B)(Y:∀C s H ex,JE (zA X scope N C s H ex) Pn (ya M cix) fr' elt F)(Z:(cix.filterMap id).Nodup:=by ext)(hs:∀x,foldedSetIterable iter X.env x=pure x:=by intro _;rfl):JE X Pn M true (.ListComp elt [⟨tg,iter,ifs,0⟩] scope pos) (zkU q mg B F cix):=by
 obtain⟨ti,qi,ri⟩:=hi.ex;obtain⟨g,qg,rg⟩:=zof O;obtain⟨tt,qt,rt⟩:=zog U;obtain⟨te,qe,re⟩:=zoe Y;exact⟨_,zig J L qi qg qt qe hs,zeY Z ri rg rt re⟩
def zcm{ifs:AO}{scope:Scope}{N:AM}{cix:List (Option Nat)}{L:AC}{mg:W->Ev->(Ev->Prop)->Prop}{O:Ev->Mo Bool}{U:AD}{nx:Str}{px spos:Pos}(q:X.N.Nodup)(B:X.N[ix]?=some nx)(F:X.env.scope.names.lookup nx=some .local)(Z:X.calm=true)(cc:CompOk X scope N cix)(hi:JI X Pn M Y tg iter L)(hg:∀C s H ex,JG (zA X scope N C s H ex) (ya M cix) (ya M cix) tg mg)(ht:∀C s H ex,JTs (zA X scope N C s H ex) Pn (ya M cix) ifs O)(he:∀C s H ex,JE (zA X scope N C s H ex) Pn (ya M cix) fr' elt U)(hn:(cix.filterMap id).Nodup:=by ext)(I:swapsWithSole [.Name nx px] (.ListComp elt [⟨tg,iter,ifs,0⟩] scope pos) spos.line X.env=pure true:=by rfl)(hs:∀x,foldedSetIterable iter X.env x=pure x:=by intro _;rfl)(J:(assignEach [.Name nx px] X.env).map (·.2)=[assign (.Name nx px) X.env]:=by rfl):∃te,QS X (.Assign [.Name nx px] (.ListComp elt [⟨tg,iter,ifs,0⟩] scope pos) spos) (zfg te (uA ix))/\RE Pn M true te (zkU L mg O U cix):=by
 obtain⟨ti,qi,ri⟩:=hi.ex;obtain⟨g,qg,rg⟩:=zof hg;obtain⟨tt,qt,rt⟩:=zog ht;obtain⟨te,qe,re⟩:=zoe he;exact⟨_,zro q B F Z cc qi qg qt qe I hs J,zeY hn ri rg rt re⟩
def At3.step(h:At3 Pn B S M A σ H ρ n)(g:Go Pn A H m H'):At3 Pn B S M A σ H' ρ m where
 env:=h.env.stay g.st
 frm:=⟨h.frm.sub,h.frm.new,λb o e n c=>g.st b o (h.frm.st b o e n c) n,h.frm.al,h.frm.cn,λa z=>let ⟨o,e,n⟩:=h.frm.cs a z;⟨o,g.st a o e n,n⟩⟩
 pn:=g.pn
 prot:=h.prot.trans (zH g.st)
 fix:=h.fix
 mine:=h.mine
abbrev mRet (f:AD):Ms:=λρ n k=>f ρ n k.rt
def zuK(h:RE Pn M fr te f):RS Pn S M fr (zvQ te) (mRet f):=⟨λB A σ H ρ n k D a F I=>by
 show h.run A σ H ρ n _ _ a.env a.pn I λw m v H' r J g L=>?_;have O:=a.step g;exact F.rt w m v H' (WAt.up (zu.same (yK a.frm.sub)) (zu.same (yK a.frm.sub)) J) O.frm.st (g.pn.less a.frm.sub) (λz=>by obtain⟨b,e,q,U⟩:=L z;exact FrV.less ⟨b,e,a.frm.back q (a.env.newF q),U⟩ a.frm.sub) r⟩
def zV (h:JE X Pn M fr e f):JS X Pn S M fr (.Return (some e) pos) (mRet f):=let ⟨te,q,r⟩:=h.ex;⟨_,zbo q,zuK r⟩
def zqs (i:Nat):Ms:=λρ n k=>∃w,ρ[i]?=some (some w)/\k.rt w n
def zrF(hi:i∈M):RS Pn S M fr (zvQ (zmd i)) (zqs i):=⟨by
 rintro B A σ H ρ n k D a kk ⟨w,e,r⟩;obtain⟨v,s1,_,s3⟩:=a.env.val i w e;obtain⟨ad,rfl,hA,J,Z⟩:=s3 hi;have Y:=a.mine i w ad hi e s1
 have L:¬ B.A0 ad:=λz=>by
  rcases Y with Y | Y;obtain⟨o,o1,o2,_⟩:=a.frm.al ad z;exact Y o o1 o2;exact a.frm.cn ad Y z
 have q:y4 (zM A H) (zM B.A0 H):=yK a.frm.sub;have O:y4 (zM A H) (zM (λb=>B.A0 b\/b=ad) H):=yK λb z=>z.elim (a.frm.sub b) λz=>z ▸ hA;show⟨.ref ad,s1,kk.rt w n (.ref ad) H ?_ a.frm.st (a.pn.less a.frm.sub) (λz=>⟨ad,rfl,Y.resolve_right (kk.fc ad),WAt.up (zu.refl _) (zu.same O) J⟩) r⟩
 cases w with
 | d x=>
  cases x with
  | lst l=>obtain⟨U,xs,F,I,g2⟩:=J;cases F;exact⟨ad,xs,rfl,zv L I,g2.stay (zu.same q)⟩
  | dct=>obtain⟨U,xs,F,I,g2⟩:=J;cases F;exact⟨ad,xs,rfl,zv L I,g2⟩
  | _=>cases Z
 | pen p=>cases Z
 | dk kvs=>obtain⟨U,xs,F,I,g2,g3⟩:=J;cases F;exact⟨ad,xs,rfl,zv L I,g2.stay (zu.same q),g3⟩
 | dt kvs=>obtain⟨U,xs,F,I,g2⟩:=J;cases F;exact⟨ad,xs,rfl,zv L I,g2.stay (zu.same q)⟩
 | ss P w kvs=>obtain⟨U,xs,F,I,g2⟩:=J;cases F;exact⟨ad,xs,rfl,zv L I,g2.stay (zu.same q)⟩
 | kf kvs=>obtain⟨U,ob,xs,F,I,g2⟩:=J;cases F;exact⟨ad,ob,xs,rfl,zv L I,g2.stay (zu.same q)⟩
 | ad a x=>cases Z
 | fl kvs=>obtain⟨U,ob,xs,F,I,g2⟩:=J;cases F;exact⟨ad,ob,xs,rfl,zv L I,g2.stay (zu.same q)⟩
 | df kvs=>obtain⟨U,ob,xs,F,I,g2⟩:=J;cases F;exact⟨ad,ob,xs,rfl,zv L I,g2.stay (zu.same q)⟩⟩
def zaU (i:Nat){x:Str}(hi:i∈M:=by ext)(B:X.N[i]?=some x:=by rfl)(F:Vis X.env.scope x:=by walk_at "v")(I:Ah x:=by ext)
  (q:(x==("__classdict__" : Str))=false:=by ext) {pos':Pos}:JS X Pn S M fr (.Return (some (.Name x pos)) pos') (zqs i):=⟨_,zbo (qv i B F I q),zrF hi⟩
abbrev zqh (f:AD) (mg:W->Ev->(Ev->Prop)->Prop):Ms:=λρ n k=>f ρ n λw m=>mg w ρ λq=>k.nx q m
def EnvR.mineG(a:At3 Pn B S M A σ H ρ n)(E:EnvR A M q H F)(f:∀i∈S++M,q[i]?=σ[i]?/\F[i]?=ρ[i]?):At3 Pn B S M A q H F n where
 env:=E
 frm:=a.frm
 pn:=a.pn
 prot:=a.prot
 fix:=⟨λi hi=>(f i (a9.mpr (.inl hi))).1.trans (a.fix.1 i hi),a.fix.2⟩
 mine:=λi w I hi e s=>by obtain⟨J,L⟩:=f i (a9.mpr (.inr hi));rw[J] at s;rw[L] at e;exact a.mine i w I hi e s
def zlW(h:RE Pn M fr' te f)(J:RG (S++M) M g mg):RS Pn S M fr (zfg te g) (zqh f mg):=⟨λB A σ H ρ n k D a L O=>by show h.run A σ H ρ n _ _ a.env a.pn O λw m v H' r U g' _=>?_;have I:=a.step g';exact J.run A σ H' ρ v w _ _ I.env U r λq F Y E2 Z=>L.nx A q H' F m (EnvR.mineG I E2 Z) Y⟩
def zC {i:Nat}{x:Str}{pos':Pos}(I:X.N.Nodup)(J:JE X Pn M fr' e f)(hi:X.N[i]?=some x:=by rfl)(L:Loc X.env.scope x:=by first | exact Or.inl rfl | exact Or.inr rfl)(B:i∉M:=by ext)(F:i∉S++M:=by ext)(O:swapsWith e (some (.Name x pos')) pos.line X.env=pure false:=by rfl)(U:X.fn x=true\/X.env.scope.names.lookup x=some .local:=by walk_at "l") :
  JS X Pn S M fr (.Assign [.Name x pos'] e pos) (zqh f (gN i)):=let ⟨te,q,r⟩:=J.ex;⟨_,xR I hi L q O U,zlW r (zc9 B F)⟩
def zes{st:Stmt}(h:∃te,QS X st (zfg te (uA i))/\RE Pn M true te f)(B:i∉M:=by ext)(F:i∉S++M:=by ext):JS X Pn S M fr st (zqh f (gN i)):=let ⟨te,q,r⟩:=h;⟨_,q,zlW r (zc9 B F)⟩
def zkA(B:JE X Pn M fr' e f)(F:JG X (S++M) M tg mg)(I:swapsWithSole [tg] e pos.line X.env=pure false:=by rfl)(J:swappedStores [tg] e X.env=pure none:=by rfl)(h1:(assignEach [tg] X.env).map (·.2)=[assign tg X.env]:=by rfl):JS X Pn S M fr (.Assign [tg] e pos) (zqh f mg):=let ⟨te,q,r⟩:=B.ex;let ⟨g,q2,r2⟩:=F.ex;⟨_,zoZ q q2 I J h1,zlW r r2⟩
def ztt (i:Nat)(f:AD):Ms:=λρ n k=>f ρ n λw m=>w.mut=true/\k.nx (ρ.set i (some w)) m
def zla(h:WAt T G w v)(hm:w.mut=true):∃a o,v = .ref a/\T a=some o/\NP o/\Mt o:=by
 cases w with
 | d x=>
  cases x with
  | lst l=>obtain⟨a,xs,e,g1,_⟩:=h;exact⟨a,_,e,g1,NP.lst,rfl⟩
  | dct=>obtain⟨a,xs,e,g1,g2⟩:=h;exact⟨a,_,e,g1,λk z=>by cases z;exact g2,rfl⟩
  | _=>cases hm
 | pen p=>cases hm
 | dk kvs=>obtain⟨a,xs,e,g1,_,g3⟩:=h;exact⟨a,_,e,g1,λk z=>by cases z;exact g3,rfl⟩
 | dt kvs=>obtain⟨a,xs,e,g1,_⟩:=h;exact⟨a,_,e,g1,(λk z=>by cases z),rfl⟩
 | ss P w kvs=>obtain⟨a,xs,e,g1,_⟩:=h;exact⟨a,_,e,g1,zh4,rfl⟩
 | df kvs=>cases hm
 | kf kvs=>cases hm
 | ad a x=>cases hm
 | fl kvs=>cases hm
def zo4(h:RE Pn M true te f)(hi:i∈M)(hs:i∉S):RS Pn S M fr (zfg te (uA i)) (ztt i f):=⟨λB A σ H ρ n k D a kk hf=>by
 show h.run A σ H ρ n _ _ a.env a.pn hf  ?_;rintro w m v H' ⟨hm,r⟩ hv g' ag;obtain⟨Y,rfl,O,hb⟩:=ag rfl;obtain⟨a2,o,U,ho,np,nt⟩:=zla hb hm;cases U;have E1:=a.env.more g'.st O ho np nt;have Z:¬ A Y:=a.env.newF O;show kk.nx (λb=>A b\/b=Y) _ H' _ m ⟨⟨?_,?_,?_,E1.al⟩,⟨λb z=>.inl (a.frm.sub b z),λb z=>?_,λb o e n c=>g'.st b o (a.frm.st b o e n c) n,a.frm.al,a.frm.cn,λb z=>let ⟨o,e,n⟩:=a.frm.cs b z;⟨o,g'.st b o e n,n⟩⟩,a.pn.grow' g'.pn O ho np nt,a.prot.trans (yC g'.st O),⟨λj I=>?_,a.fix.2⟩,λj u b I e s=>?_⟩ r;rw[bc,bc];exact a.env.len;intro j u e;by_cases I:j=i;subst I
 have J:j<ρ.length:=by
  have:=(ac.mp e).1;right
 rw[aL J] at e;cases e;exact⟨.ref Y,aL (by rw[a.env.len];exact J),λz=>absurd hi z,λ_=>⟨Y,rfl,.inr rfl,hb,hm⟩⟩;rw[au (Ne.symm I)] at e ⊢;exact E1.val j u e;intro j l u u' b I J L e1 U s1 s2
 have an:∀q u,q∈M->q≠i->ρ[q]?=some (some u)->σ[q]?≠some (some (.ref Y)):=λq u hq av eq sq=>by
  obtain⟨v,s,_,s3⟩:=a.env.val q u eq;obtain⟨c,ec,hc,_⟩:=s3 hq;right
 have ap:∀q (u:W),(ρ.set i (some w))[q]?=some (some u)->q<σ.length:=λq u e=>by have:=(ac.mp e).1;rw[bc] at this;rw[a.env.len];exact this
 by_cases F:j=i;subst F;rw[aL (ap _ _ e1)] at s1;cases s1;rw[au L] at U s2;exact an l u' J (Ne.symm L) U s2;rw[au (Ne.symm F)] at e1 s1;by_cases as:l=i;right;rw[au (Ne.symm as)] at U s2;exact a.env.dis j l u u' b I J L e1 U s1 s2;rcases z with z | z;exact a.frm.new b z;subst z;exact .inr (.inl (a.frm.back O Z));rw[au λ(z:i=j)=>hs (by rw[z];exact I)];exact a.fix.1 j I;by_cases F:j=i;subst F
 have J:j<σ.length:=by
  have:=(ac.mp s).1;right
 rw[aL J] at s;cases s;exact .inl (a.frm.back O Z);rw[au (Ne.symm F)] at e s;exact a.mine j u b I e s⟩
def xf {i:Nat}{x:Str}{pos':Pos}(I:X.N.Nodup)(J:JE X Pn M true e f)(hi:X.N[i]?=some x:=by rfl)(L:Loc X.env.scope x:=by first | exact Or.inl rfl | exact Or.inr rfl)(B:i∈M:=by ext)(F:i∉S:=by ext)(O:swapsWith e (some (.Name x pos')) pos.line X.env=pure false:=by rfl)(U:X.fn x=true\/X.env.scope.names.lookup x=some .local:=by walk_at "l") :
  JS X Pn S M fr (.Assign [.Name x pos'] e pos) (ztt i f):=let ⟨te,q,r⟩:=J.ex;⟨_,xR I hi L q O U,zo4 r B F⟩
def zp3{st:Stmt}(h:∃te,QS X st (zfg te (uA i))/\RE Pn M true te f)(B:i∈M:=by ext)(F:i∉S:=by ext):JS X Pn S M fr st (ztt i f):=let ⟨te,q,r⟩:=h;⟨_,q,zo4 r B F⟩
variable {st:Stmt}{sts:List Stmt}{fs gs:Ms}
abbrev mNx:Ms:=λρ n k=>k.nx ρ n
structure blk (g:Ms)(ρ:Ev)(n:Nat)(k:Kt):Prop where
 go:g ρ n k
def zst(h:g ρ n k):blk g ρ n k:=⟨h⟩
def zss:blk g ρ n k=g ρ n k:=propext ⟨λh=>h.go,λh=>⟨h⟩⟩
abbrev mSeq (f g:Ms):Ms:=λρ n k=>f ρ n { k with nx:=λq B=>blk g q B k }
def zwL (t:Ev->Mo Bool)(f g:Ms):Ms:=λρ n k=>t ρ n λc m=>if c=true then blk f ρ m k else blk g ρ m k
def zJ:JSs X Pn S M fr [] mNx:=⟨_,zeV,⟨λB A σ H ρ n k D a q F=>q.nx A σ H ρ n a F⟩⟩
def zuL(h1:RS Pn S M fr t fs)(h2:RS Pn S M fr u gs):RS Pn S M fr (zxz t u) (mSeq fs gs):=⟨λB A σ H ρ n k D a F L=>
 h1.run B A σ H ρ n { k with nx:=λq I=>blk gs q I k } _ a ⟨λA' J H' q I O r=>h2.run B A' J H' q I k D O F r.go,F.bk,F.ct,F.fc,F.rt⟩ L⟩
def zb (h1:JS X Pn S M fr st fs)(h2:JSs X Pn S M fr sts gs):JSs X Pn S M fr (st::sts) (mSeq fs gs):=let ⟨t,q,r⟩:=h1.ex;let ⟨u,q2,r2⟩:=h2.ex;⟨_,yh q q2,zuL r r2⟩
def ze (h1:JS X Pn S M fr st fs):JSs X Pn S M fr [st] fs:=let ⟨t,q,r⟩:=h1.ex;⟨_,uW q,r⟩
def yQ(I:JT X Pn M c t)(J:JSs X Pn S M fr body fs)(L:JSs X Pn S M fr q gs):JS X Pn S M fr (.If c body q pos) (zwL t fs gs):=by
 obtain⟨tc,O,U⟩:=I.ex;obtain⟨ta,Y,Z⟩:=J.ex;obtain⟨tb,qb,rb⟩:=L.ex;show⟨_,znU O Y qb,⟨λB A σ H ρ n k D a F hf=>?_⟩⟩;show U.run A σ H ρ n _ _ a.env a.pn hf λc m H1 r g=>?_
 cases c with
 | true=>rw[if_pos rfl] at r ⊢;exact Z.run B A σ H1 ρ m k D (a.step g) F r.go
 | false=>rw[if_neg (by ext)] at r ⊢;exact rb.run B A σ H1 ρ m k D (a.step g) F r.go
abbrev mDrop (f:AD):Ms:=λρ n k=>f ρ n λ_ m=>k.nx ρ m
def At3.wr(h:At3 Pn B S M A σ H ρ n)(hi:i∈M)(e:ρ[i]?=some (some w))(s:σ[i]?=some (some (.ref ad)))(hl:IsL (zM A H) l xs):At3 Pn B S M A σ (L2.upd H ad (.lst xs)) (ρ.set i (some (.d (.lst l)))) n:=by
 obtain⟨v,s1,_,s3⟩:=h.env.val i w e;rw[s] at s1;cases s1;obtain⟨U,F,hA,_,_⟩:=s3 hi;cases F;have ag:i<ρ.length:=(ac.mp e).1
 have hE:EnvR A M σ (L2.upd H ad (.lst xs)) (ρ.set i (some (.d (.lst l)))):=by
  show⟨by rw[bc];exact h.env.len,λj u Y=>?_,λj q u u' b Z hq I e1 F=>?_,λb hb=>?_⟩;by_cases Z:j=i;subst Z;rw[aL ag] at Y;cases Y;exact⟨.ref ad,s,λz=>absurd hi z,λ_=>⟨ad,rfl,hA,⟨ad,xs,rfl,zj,by rw[yg hA];exact hl⟩,rfl⟩⟩;rw[au (Ne.symm Z)] at Y;obtain⟨v,t1,t2,t3⟩:=h.env.val j u Y;show⟨v,t1,λz=>?_,λz=>?_⟩;change WAt _ _ _ _;rw[yg hA];exact t2 z;obtain⟨b,rfl,hb,J,hm⟩:=t3 z;have I:b≠ad:=λq=>h.env.dis i j w u ad hi z (Ne.symm Z) e Y s (by rw[t1,q]);show⟨b,rfl,hb,?_,hm⟩;change WAt _ _ _ _;rw[yg hA]
  cases u with
  | d x=>
   cases x with
   | lst l=>obtain⟨U,xs,F,L,g2⟩:=J;cases F;exact⟨b,xs,rfl,by rw[zf I];exact L,g2⟩
   | dct=>obtain⟨U,xs,F,L,g2⟩:=J;cases F;exact⟨b,xs,rfl,by rw[zf I];exact L,g2⟩
   | _=>cases hm
  | pen p=>cases hm
  | dk k=>obtain⟨U,xs,F,L,g2⟩:=J;cases F;exact⟨b,xs,rfl,by rw[zf I];exact L,g2⟩
  | dt k=>obtain⟨U,xs,F,L,g2⟩:=J;cases F;exact⟨b,xs,rfl,by rw[zf I];exact L,g2⟩
  | ss P w k=>obtain⟨U,xs,F,L,g2⟩:=J;cases F;exact⟨b,xs,rfl,by rw[zf I];exact L,g2⟩
  | df k=>obtain⟨U,ob,xs,F,L,g2⟩:=J;cases F;exact⟨b,ob,xs,rfl,by right,g2⟩
  | kf k=>obtain⟨U,ob,xs,F,L,g2⟩:=J;cases F;exact⟨b,ob,xs,rfl,by right,g2⟩
  | ad a x=>cases hm
  | fl k=>obtain⟨U,ob,xs,F,L,g2⟩:=J;cases F;exact⟨b,ob,xs,rfl,by right,g2⟩
  have an:∀q (u:W),(ρ.set i (some (.d (.lst l))))[q]?=some (some u)->∃u',ρ[q]?=some (some u'):=λq u z=>by
   by_cases hq:q=i;subst hq;exact⟨w,e⟩;rw[au (Ne.symm hq)] at z;exact⟨u,z⟩
  obtain⟨v1,f1⟩:=an j u e1;obtain⟨v2,f2⟩:=an q u' F;exact h.env.dis j q v1 v2 b Z hq I f1 f2;by_cases O:b=ad;subst O;exact⟨_,zj,NP.lst,rfl⟩;rw[zf O];exact h.env.al b hb
 show⟨hE,⟨h.frm.sub,h.frm.new,λb o eb nn nc=>?_,h.frm.al,h.frm.cn,λb z=>(by
  by_cases O:b=ad;subst O;exact⟨_,zj,NP.lst⟩;rw[zf O];exact h.frm.cs b z)⟩,h.pn.upd hA,by rw[yg hA];exact h.prot,h.fix,λj u b Z Y sj=>?_⟩
 have I:b≠ad:=λq=>by
  subst q;rcases h.mine i w b hi e s with z | z;exact z o eb nn;exact nc z
 rw[zf I];exact h.frm.st b o eb nn nc;by_cases ap:j=i;subst ap;exact h.mine j w b Z e sj;rw[au (Ne.symm ap)] at Y;exact h.mine j u b Z Y sj
def zvA (i:Nat)(f:AD):Ms:=λρ n k=>(∃l,ρ[i]?=some (some (.d (.lst l))))/\f ρ n λw m=>∃l d,ρ[i]?=some (some (.d (.lst l)))/\w = .d d/\l.length<lim/\k.nx (ρ.set i (some (.d (.lst (l++[d]))))) m
def zuH(h:RE Pn M fr' te f)(hi:i∈M):RS Pn S M fr (zl9 (tBM K "list" zeX (zmd i) (zbL te zja))) (zvA i f):=⟨by
 rintro B A σ H ρ n k D a U ⟨⟨l0,Y⟩,Z⟩;obtain⟨v,q,_,s3⟩:=a.env.val i _ Y;obtain⟨I,rfl,hA,hb,_⟩:=s3 hi;obtain⟨a2,ag,e2,g0,_⟩:=hb;cases e2;show⟨.ref I,q,.inl ⟨rfl,_,SqL.of g0⟩,?_⟩;show h.run A σ H ρ n _ _ a.env a.pn Z  ?_;rintro w m v H' ⟨l,d,e,ed,hz,r⟩ hv g _;subst ed;have J:=a.step g;obtain⟨v2,L,_,t3⟩:=J.env.val i _ e;rw[q] at L;cases L;obtain⟨a3,e3,al,F,_⟩:=t3 hi;cases e3;obtain⟨a4,xs,e4,g4,O⟩:=F;cases e4;exact⟨I,xs,v,rfl,rfl,g4,zdO (by rw[O.length];exact cb hz),U.nx A σ _ _ m (J.wr hi e q (O.append (IsL.one hv.is))) r⟩⟩
def zak (i:Nat){x:Str}{Y J sp L:Pos}(he:JE X Pn M fr' e f)(hi:i∈M:=by ext)(hN:X.N[i]?=some x:=by rfl)(hv:Vis X.env.scope x:=by walk_at "v")(hd:Ah x:=by ext)
  (Z:(x==("__classdict__" : Str))=false:=by ext) (O:starEach (e::[]) X.env=(false,eval e X.env)::starEach [] X.env:=by rfl) (hs:swapsWith (.Call (.Attribute (.Name x L) "append" Y) [e] [] J) none sp.line X.env=pure false:=by rfl) (F:attributeBase (.Name x L) "append" X.env (eval (.Name x L) X.env)=eval (.Name x L) X.env:=by rfl) (I:(Y.endLine==J.line)=true:=by rfl)
  (U:((backTo J (starEach [e] X.env)).all (λx=>!x.1)&&(backToKw J (keywordEach [] X.env)).all (λx=>x.1.isSome)&&decide (([e]:AO).length+([]:List Keyword).length+(if ([]:List Keyword).isEmpty then 0 else 1)<30))=true:=by rfl) (B:(backTo J (starEach [] X.env)).any (·.1)=false:=by rfl) :
  JS X Pn S M fr (.Expr (.Call (.Attribute (.Name x L) "append" Y) [e] [] J) sp) (zvA i f):=by
 obtain⟨te,q,r⟩:=he.ex;exact⟨_,zaX (zoY (qv i hN hv hd Z) (zD q yc O) F U I O B) hs,zuH r hi⟩
def zsT (mg:W->Ev->(Ev->Prop)->Prop)(fb:Ms)(ρ:Ev)(k:Kt):AU->Nat->Prop:=λl J=>∃I:Nat->Ev->Nat->Prop,I 0 ρ J/\
 (∀i w q B,l[i]?=some w->I i q B->mg w q λF=>fb F B { k with nx:=I (i+1),ct:=I (i+1),bk:=k.nx })/\∀ q B,I l.length q B->k.nx q B
abbrev zvB (q:AC) (mg:W->Ev->(Ev->Prop)->Prop) (fb:Ms):Ms:=λρ n k=>q ρ n (zsT mg fb ρ k)
def zuI {wi:TI}{g:TG}{tb:TS}{fi:AC}{mg:W->Ev->(Ev->Prop)->Prop}{fb:Ms}(hi:RI Pn M false wi fi)(hg:RG (S++M) M g mg)(hb:RS Pn S M fr tb fb)(hS:9999∉S):RS Pn S M fr (zvP wi g tb) (zvB fi mg fb):=⟨λB A σ H ρ n k D a kk hf=>by
 show hi.run A σ H ρ n _ _ a.env a.pn hf  ?_;rintro l m J H1 ⟨I,i0,it,ie⟩ iv g1;have Z:=a.step g1;have ag:∀ {A':AL} {L:St} {H':Hp} {F:Ev} {O:Nat},At3 Pn { B with G0:=zM A H1 } S M A' L H' F O->At3 Pn B S M A' L H' F O:=λ{A' L H' F O} q=>⟨q.env,q.frm,q.pn,Z.prot.trans q.prot,⟨q.fix.1,Z.fix.2⟩,q.mine⟩;show⟨λi mm L H'=>mm=l.length - i/\i<=l.length/\∃A' F O,At3 Pn { B with G0:=zM A H1 } S M A' L H' F O/\I i F O,⟨l.length,by simp,aG _,A,ρ,m,⟨Z.env,Z.frm,Z.pn,zu.refl _,⟨Z.fix.1,λz=>absurd z hS⟩,Z.mine⟩,i0⟩,?_⟩;rintro i mm L H' ⟨rfl,a0,A',F,O,a',hI⟩;by_cases al:i<l.length
 show Or.inr ?_;have Y:l[i]?=some l[i]:=ah al;obtain⟨go,yl⟩:=iv.one i l[i] A' H' Y a'.prot (λz=>by cases z) λp hp=>a'.env.new hp;show⟨go,λan H2=>∃A' F O,At3 Pn { B with G0:=zM A H1 } S M A' an H2 F O/\I (i+1) F O,λan H2 h=>⟨l.length - (i+1),by lia,rfl,al,h⟩,λx H2 hy=>?_⟩;obtain⟨S2,V2⟩:=yl x H2 hy;have a2:=a'.step (Go.same a'.pn S2);show hg.run A' L H2 F x l[i] _ _ a2.env V2 (it i l[i] F O Y hI) λap as r3 E3 f3=>?_;show hb.run { B with G0:=zM A H1 } A' ap H2 as O _ _ (EnvR.mineG a2 E3 f3) ⟨?_,?_,?_,kk.fc,?_⟩ r3
 exact λA4 ad H4 U n4 a4 r4=>⟨A4,U,n4,a4,r4⟩;exact λA4 ad H4 U n4 a4 r4=>kk.nx A4 ad H4 U n4 (ag a4) r4;exact λA4 ad H4 U n4 a4 r4=>⟨A4,U,n4,a4,r4⟩;exact kk.rt;show Or.inl ?_;have av:i=l.length:=by lia
 subst av;exact⟨iv.stop A' H' a'.prot (λz=>by cases z),kk.nx A' L H' F O (ag a') (ie F O hI)⟩⟩
def yD {tg iter:Expr}{body:List Stmt}{q:AC}{mg:W->Ev->(Ev->Prop)->Prop}{fb:Ms}(B:PassesOwn (model X.prog X.w) X.A X.env X.xe)(F:X.calm=true)(hi:JI X Pn M false tg iter q)(I:JG X (S++M) M tg mg)(J:JSs X Pn S M fr body fb)(L:∀x,foldedSetIterable iter X.env x=pure x:=by intro _;rfl)(O:9999∉S:=by ext) :
  JS X Pn S M fr (.For tg iter body [] pos) (zvB q mg fb):=by
 obtain⟨ti,U,Y⟩:=hi.ex;obtain⟨Z,qg,rg⟩:=I.ex;obtain⟨tb,qb,rb⟩:=J.ex;exact⟨_,zlJ B F U qg qb L,zuI Y rg rb O⟩
def xL (N:AM)(q:AU):Ev:=q.map some++List.replicate (N.length - q.length) none
def zdG.get:∀ {q:AU} {vs:AT} {i:Nat} {w:W},zdG A H q vs->q[i]?=some w->∃v,vs[i]?=some v/\Val A H w v
 | [],_,_,_,_,e=>by simp at e
 | x::q,vs,0,w,⟨v,r,B,h1,_⟩,e=>by right
 | x::q,vs,i+1,w,⟨v,r,B,_,h2⟩,e=>by
  subst B;obtain⟨u,F,I⟩:=zdG.get (i:=i) h2 (by simpa using e);right
def zjX {A:AL}{H:Hp}{N:AM}{ws:AU}{vs:AT}(al:Al A H)(h:zdG A H ws vs)(hM:∀i∈M,ws.length<=i):EnvR A M (L2.xy N vs) H (xL N ws) where
 len:=by unfold L2.xy xL;rw[aj,aj,ab,ab,List.length_replicate,List.length_replicate,h.len]
 val:=λi w e=>by
  unfold xL at e
  have hi:i<ws.length:=by
   apply bv;intro z;rw[bh (by right)] at e;obtain⟨_,q⟩:=ac.mp e;right
  rw[be (by right),aq] at e;obtain⟨w',e1,e2⟩:=aC.mp e;cases e2;obtain⟨v,h1,h2⟩:=h.get e1;show⟨v,?_,λ_=>h2,λz=>absurd (hM i z) (by lia)⟩;unfold L2.xy;have hi':i<vs.length:=by rw[h.len];exact hi
  rw[be (by right),aq,h1];rfl
 dis:=λi j w u ad hi hj hne e1=>by
  unfold xL at e1;have:=hM i hi;rw[bh (by right)] at e1;obtain⟨_,q⟩:=ac.mp e1;right
 al:=al
def ztC{P:Aa}{w:Ab}{K:AH}{mg:AI}{base:Heap}{J:Str}{f:Addr}{fd:Ac}{N ps:AM}{F:PN->AU->Mo W}(M:AR)(Z:(∀vs H Q E,spV m fr F vs H Q E->vs.length=ps.length)->(∀ (I:Value) (A:Ae) (B:List Env) (s:AZ) (H:Hp) (vs:AT) (Q:VK) (E:XK),Room k (A.deeper (PyProof.Rows.envOfC J (zg st) s.heap.objs.size f I))->spV m fr F vs H Q E->
   ∃t,QSs (zek CX0 P w K mg base N J (zg st) f I A B s H E).nox (yy st) t/\t { nx:=λ_ H'=>Q .non H',rt:=Q } (L2.xy N vs) H)->FnOk P w K mg base CX0 (k+1) f fd ps (spV m fr F))(hm:m=ps.length)(hM:∀i∈M,m<=i)(L:∀ (I:Value) (A:Ae) (B:List Env) (s:AZ) (H:Hp) (E:XK) (Pn:PN),Room k (A.deeper (PyProof.Rows.envOfC J (zg st) s.heap.objs.size f I))->
   ∃fs,JSs (zek CX0 P w K mg base N J (zg st) f I A B s H E).nox Pn [] M fr (yy st) fs/\∀O n R,O.length=m->F Pn O n R->fs (xL N O) n { nx:=λ_ Y=>fr=false/\R (.d .non) Y,rt:=R }):FnOk P w K mg base CX0 (k+1) f fd ps (spV m fr F):=by
 show Z (λvs H Q E h=>?_) (λI A B s H vs Q E hr h=>?_);obtain⟨Pn,A,O,n,R,_,hv,hl,_⟩:=h;rw[hv.len,hl,hm];obtain⟨Pn,A3,O,n,R,al,hv,hl,hp,hF,q⟩:=h;obtain⟨fs,⟨t,qs,rs⟩,ad⟩:=L I A B s H E Pn hr;show⟨t,qs,rs.run { A0:=A3,H0:=H,G0:=zM A3 H,σ0:=L2.xy N vs } A3 (L2.xy N vs) H (xL N O) n _ _ ⟨zjX al hv (λi hi=>by right),⟨λ_ z=>z,λ_ z=>.inl z,.of (zu.refl _),al,λ_ z=>z.elim,λ_ z=>z.elim⟩,hp,zu.refl _,⟨λi hi=>rfl,λz=>by cases z⟩,λi w a hi e=>?_⟩ ⟨?_,?_,?_,λ_ z=>z,?_⟩ (ad O n R hl hF)⟩;exact absurd e (by unfold xL;have:=hM i hi;rw[bh (by right)];intro z;obtain⟨_,q⟩:=ac.mp z;rw[List.getElem_replicate] at q;cases q);intro A' an H' ap Y a' ⟨U,r⟩;exact q _ Y .non H' r (Val.of (show Is _ .non .non from rfl)) ⟨a'.frm.st.stay,a'.pn.less a'.frm.sub⟩ λz=>by rw[U] at z;cases z
 right;right;intro w Y v H' ag st pn U r;exact q w Y v H' r ag ⟨st.stay,pn⟩ U
end
section
variable {X:Cx}{Pn:PN}{M S:AR}{fr fr':Bool}{e a b c:Expr}{es:AO}{f fa fb fc:AD}{pos p p2:Pos}
def zoP (B:Dt->Bool)(f:AD):AD:=λρ n Q=>f ρ n λw m=>∃d,w = .d d/\Q (.d (.bl (B d))) m
def zlR(q:∀d:Dt,PySem.W.kitOne K (.type d.ty) (.type T)=some (B d))(h:RB Pn M te f):RE Pn M false (tCB (λxs H Q=>∃x T t b,xs=[x,.ty T]/\TyOf K H x t/\PySem.W.kitOne K t (.type T)=some b/\Q (.bl b) H) (zbL te (zbL (tC (.ty T)) zja))) (zoP B f):=⟨λA σ H ρ n Q R E P F k=>by show h.run A σ H ρ n _ _ E P F  ?_;rintro w m v H' ⟨d,e,r⟩ I g;subst e;exact⟨v,T,_,_,rfl,I.is.ty,q d,k _ m _ H' r (Val.of rfl) g λz=>by cases z⟩⟩
abbrev isStr:Dt->Bool
 | .str _=>true
 | _=>false
abbrev isDct:Dt->Bool
 | .dct=>true
 | _=>false
def zm8(U:∀d:Dt,PySem.W.kitOne X.K (.type d.ty) (.type T)=some (B d))(Y:bootBuiltins x=some (.type T))(I:Gl X x)(Z:x ≠ "__name__")(hd:(x==("__debug__" : Str))=false)(hg:Gl X "isinstance")(hm:X.mg "isinstance" = none)(J:X.mg x=none)(h:JB X Pn M e f)(F:starEach (e::[.Name x p2]) X.env=(false,eval e X.env)::starEach [.Name x p2] X.env)(L:starEach (.Name x p2::[]) X.env=(false,eval (.Name x p2) X.env)::starEach [] X.env)(O:(backTo pos (starEach [.Name x p2] X.env)).any (·.1)=false):JE X Pn M false (.Call (.Name "isinstance" p) [e,.Name x p2] [] pos) (zoP B f):=by
 obtain⟨te,q,r⟩:=h.ex;exact⟨_,xk zjC hg hm PyProof.Rows.boot_isinstance (zD q (zD (zq8 (v:=.ty T) I J Y rfl Z hd) yc L) F) (by ext) (by ext) F O,zlR U r⟩
def zdt (L:Gl X "isinstance")(O:X.mg "isinstance" = none)(q:X.mg "tuple" = none)(h:JB X Pn M e f)(B:Gl X "tuple" := by rfl)(F:starEach (e::[.Name "tuple" p2]) X.env=(false,eval e X.env)::starEach [.Name "tuple" p2] X.env:=by rfl)(I:starEach (.Name "tuple" p2::[]) X.env=(false,eval (.Name "tuple" p2) X.env)::starEach [] X.env:=by rfl)(J:(backTo pos (starEach [.Name "tuple" p2] X.env)).any (·.1)=false:=by rfl) :
  JE X Pn M false (.Call (.Name "isinstance" p) [e,.Name "tuple" p2] [] pos) (zoP Dt.isTup f):=zm8 (zqc _) bE B (by ext) (by ext) L O q h F I J
def za7 (L:Gl X "isinstance")(O:X.mg "isinstance" = none)(q:X.mg "list" = none)(h:JB X Pn M e f)(B:Gl X "list" := by rfl)(F:starEach (e::[.Name "list" p2]) X.env=(false,eval e X.env)::starEach [.Name "list" p2] X.env:=by rfl)(I:starEach (.Name "list" p2::[]) X.env=(false,eval (.Name "list" p2) X.env)::starEach [] X.env:=by rfl)(J:(backTo pos (starEach [.Name "list" p2] X.env)).any (·.1)=false:=by rfl) :
  JE X Pn M false (.Call (.Name "isinstance" p) [e,.Name "list" p2] [] pos) (zoP Dt.isLst f):=zm8 (zqb _) cm B (by ext) (by ext) L O q h F I J
def zfL (L:Gl X "isinstance")(O:X.mg "isinstance" = none)(q:X.mg "int" = none)(h:JB X Pn M e f)(B:Gl X "int" := by rfl)(F:starEach (e::[.Name "int" p2]) X.env=(false,eval e X.env)::starEach [.Name "int" p2] X.env:=by rfl)(I:starEach (.Name "int" p2::[]) X.env=(false,eval (.Name "int" p2) X.env)::starEach [] X.env:=by rfl)(J:(backTo pos (starEach [.Name "int" p2] X.env)).any (·.1)=false:=by rfl) :
  JE X Pn M false (.Call (.Name "isinstance" p) [e,.Name "int" p2] [] pos) (zoP Dt.isInt f):=zm8 (zqa _) PyProof.Rows.boot_int B (by ext) (by ext) L O q h F I J
def za6 (L:Gl X "isinstance")(O:X.mg "isinstance" = none)(q:X.mg "bool" = none)(h:JB X Pn M e f)(B:Gl X "bool" := by rfl)(F:starEach (e::[.Name "bool" p2]) X.env=(false,eval e X.env)::starEach [.Name "bool" p2] X.env:=by rfl)(I:starEach (.Name "bool" p2::[]) X.env=(false,eval (.Name "bool" p2) X.env)::starEach [] X.env:=by rfl)(J:(backTo pos (starEach [.Name "bool" p2] X.env)).any (·.1)=false:=by rfl) :
  JE X Pn M false (.Call (.Name "isinstance" p) [e,.Name "bool" p2] [] pos) (zoP Dt.isBl f):=zm8 (ztn _) PyProof.Rows.boot_bool B (by ext) (by ext) L O q h F I J
def zgw (n:Nat):AS:=(List.range n).map λi:Nat=>Dt.int i
def zko(n:Nat):IsL G (zgw n) ((List.range n).map λi:Nat=>V.int i):=by
 have q:zgw n=(((List.range n).map λi:Nat=>(i:Int))).map Dt.int:=by unfold zgw;rw[ao];rfl
 have B:((List.range n).map λi:Nat=>V.int i)=(((List.range n).map λi:Nat=>(i:Int))).map V.int:=by rw[ao];rfl
 rw[q,B];exact IsL.ints
def zey (fa:AC):AD:=λρ n Q=>fa ρ n λq m=>∃j:Nat,q=[.d (.int (j:Int))]/\j<=1000/\Q (.d (.lst (zgw j))) m
def zaj{q:Pos}{J:Pos}(hm:X.mg "list" = none)(L:X.mg "range" = none)(ha:JAB X Pn M [a] fs)(hc:X.calm=true:=by rfl)(hg:Gl X "list" := by rfl)(O:Gl X "range" := by rfl)(hs:starEach (a::[]) X.env=(false,eval a X.env)::starEach [] X.env:=by rfl)(F:starEach (.Call (.Name "range" J) [a] [] q::[]) X.env=(false,eval (.Call (.Name "range" J) [a] [] q) X.env)::starEach [] X.env:=by rfl)(U:(backTo q (starEach [] X.env)).any (·.1)=false:=by rfl)(Y:(backTo pos (starEach [] X.env)).any (·.1)=false:=by rfl):JE X Pn M true (.Call (.Name "list" p) [.Call (.Name "range" J) [a] [] q] [] pos) (zey fs):=by
 obtain⟨ta,qa,ra⟩:=ha.ex;show⟨_,zat (zgF hc) hg hm cm (zD (zat zmJ O L PyProof.Rows.boot_range qa (by ext) (by ext) hs U) yc F) (by ext) (by ext) F Y,⟨λA σ H ρ n Q R E P hf k=>?_⟩⟩;show ra.run A σ H ρ n _ _ E P hf  ?_;rintro ws m vs H1 ⟨j,e,hj,r⟩ bb g;subst e;obtain⟨v,rfl,b1⟩:=zaY bb;obtain rfl:=yJ b1;show⟨_,rfl,λp1 H2 np g2 S2=>⟨p1,j,rfl,g2,hj,λp3 H3 I Z S3=>?_⟩⟩;have B:=g.trans (Go.same g.pn S2);exact k _ m _ H3 r (xP (H:=H2) (zko j) (zu.same S3) ((E.stay B.st).new I) Z) (B.trans (Go.same B.pn S3)) λ_=>(x4 (H:=H2) (zko j) S3 I Z).back B.st
abbrev truD:W->Option Bool
 | .d (.lst l)=>some (!l.isEmpty)
 | .d (.tup l)=>some (!l.isEmpty)
 | .d (.bl b)=>some b
 | .d (.int i)=>some (i != 0)
 | .d .non=>some false
 | _=>none
def zwU (f:AD):Ev->Mo Bool:=λρ n Q=>f ρ n λw m=>∃b,truD w=some b/\Q b m
def zfv(h:IsL G l xs):xs.isEmpty=l.isEmpty:=by have:=h.length;cases l <;> cases xs <;> right
def zet (h:JB X Pn M e f)(he:∀whole,isTrue e X.env whole=(do let v <- whole;standAt e.pos;holding [v] (truthy v)):=by intro _;rfl):JT X Pn M e (zwU f):=by
 obtain⟨te,q,r⟩:=h.ex;show⟨_,znY q he,⟨λA σ H ρ n Q R E P hf k=>?_⟩⟩;show r.run A σ H ρ n _ _ E P hf λw m v H1 ⟨b,e,r⟩ bb g=>⟨b,?_,k b m H1 r g⟩
 cases w with
 | d x=>
  cases x with
  | lst l=>cases e;obtain⟨ad,xs,rfl,h1,h2⟩:=yT bb;exact .inl ⟨xs,.of h1,by rw[zfv h2]⟩
  | tup l=>cases e;obtain⟨ad,xs,rfl,h1,h2⟩:=xM bb;exact .inr (.inl ⟨xs,.of h1,by rw[zfv h2]⟩)
  | bl b=>cases e;obtain rfl:=zsu bb;rfl
  | int b=>cases e;obtain rfl:=yJ bb;rfl
  | non=>cases e;have:v = .non:=bb;subst this;rfl
  | str _=>cases e
  | dct=>cases e
 | _=>cases e
def zfY (F G:W->W->Mo W)(fa fb fc:AD):AD:=λρ n Q=>fa ρ n λx B=>fb ρ B λy I=>F x y I λz q=>∃k,z = .d (.bl k)/\if k=true then fc ρ q λu J=>G y u J Q else Q (.d (.bl false)) q
def zn0(Z:F2 Pn false r F)(I:F2 Pn false L G)(ha:RB Pn M ta fa)(hb:RB Pn M tb fb)(hc:RB Pn M tc fc):RE Pn M false (zl8 r L ta tb tc) (zfY F G fa fb fc):=⟨λA σ H ρ n Q R E P hf k=>by
 show ha.run A σ H ρ n _ _ E P hf λx n1 v1 H1 r1 b1 J=>?_;show hb.run A σ H1 ρ n1 _ _ (E.stay J.st) J.pn r1 λy n2 O H2 r2 U g2=>?_;have g:=J.trans g2;show Z.run A H2 v1 O x y n2 _ _ (E.stay g.st).al (b1.stay g2.st) U g2.pn r2  ?_;rintro w m v H' ⟨c,e,h1⟩ h2 Y h4;subst e;have hv:v = .bl c:=h2;show⟨c,hv,?_⟩;have q:=g.trans Y
 cases c with
 | false=>rw[if_neg (by ext)] at h1 ⊢;exact k _ m _ H' h1 (Val.of rfl) q λz=>by cases z
 | true=>
  rw[if_pos rfl] at h1 ⊢;show hc.run A σ H' ρ m _ _ (E.stay q.st) q.pn h1 λu n4 v4 H4 r4 b4 B=>?_;exact I.run A H4 O v4 y u n4 _ _ (E.stay (q.trans B).st).al (U.stay (Y.trans B).st) b4 B.pn r4 λw5 m5 v5 H5 a1 a2 a3 a4=>k w5 m5 v5 H5 a1 a2 ((q.trans B).trans a3) λz=>by cases z⟩
def zne(O:OpQ X (compareOp B) r)(I:OpQ X (compareOp q) L)(U:F2 Pn false r F)(J:F2 Pn false L G)(Y:JB X Pn M a fa)(Z:JB X Pn M b fb)(hc:JB X Pn M c fc)(hm:lastMarks [B,q] [b,c]=false:=by with_unfolding_all rfl):JT X Pn M (.Compare a [B,q] [b,c] pos) (zmo (zfY F G fa fb fc)):=by obtain⟨ta,qa,ra⟩:=Y.ex;obtain⟨tb,qb,rb⟩:=Z.ex;obtain⟨tc,qc,rc⟩:=hc.ex;exact⟨_,znX O I qa qb qc hm,zlX (zn0 U J ra rb rc).rb⟩
def At3.own(h:At3 Pn B S M A σ H ρ n)(hi:i∈M)(e:ρ[i]?=some (some (.d (.lst l)))):∃q xs,σ[i]?=some (some (.ref q))/\A q/\H q=some (.lst xs)/\IsL (zM A H) l xs:=by
 obtain⟨v,J,_,F⟩:=h.env.val i _ e;obtain⟨q,rfl,L,I,_⟩:=F hi;obtain⟨O,xs,U,Y,Z⟩:=I;right
def zkp(q:Is G d v):∀ {ds:AS} {xs:AT} (k:Nat),IsL G ds xs->IsL G (ds.set k d) (xs.set k v)
 | [],_,_,h=>by cases h;rfl
 | x::ds,xs,0,⟨y,r,e,h1,h2⟩=>by subst e;exact⟨v,r,rfl,q,h2⟩
 | x::ds,xs,k+1,⟨y,r,e,h1,h2⟩=>by subst e;exact⟨y,_,rfl,h1,zkp q k h2⟩
def zwR (i:Nat)(fk f:AD):Ms:=λρ n k=>(∃l,ρ[i]?=some (some (.d (.lst l))))/\f ρ n λw m=>fk ρ m λy q=>∃l d j,ρ[i]?=some (some (.d (.lst l)))/\w = .d d/\y = .d (.int j)/\0<=j/\j<l.length/\k.nx (ρ.set i (some (.d (.lst (l.set j.toNat d))))) q
def zoM (i:Nat){x:Str}{np sp:Pos}(hk:JB X Pn M c fc)(he:JE X Pn M fr' e f)(hi:i∈M:=by ext)(hN:X.N[i]?=some x:=by rfl)(hv:Vis X.env.scope x:=by walk_at "v")(hd:Ah x:=by ext)
  (hcd:(x==("__classdict__" : Str))=false:=by ext) (hs:swapsWithSole [.Subscript (.Name x np) c p] e sp.line X.env=pure false:=by rfl) (hw:swappedStores [.Subscript (.Name x np) c p] e X.env=pure none:=by rfl)
  (h1:(assignEach [.Subscript (.Name x np) c p] X.env).map (·.2)=[assign (.Subscript (.Name x np) c p) X.env]:=by rfl) (ha:∀v,assign (.Subscript (.Name x np) c p) X.env v=(do
   let ov <- holding [v] (eval (.Name x np) X.env)
   let iv <- holding [v,ov] (eval c X.env)
   standAt p
   holding [v,ov,iv] (setItem ov iv v)
   release [v,ov,iv] []):=by intro _;rfl) :
  JS X Pn S M fr (.Assign [.Subscript (.Name x np) c p] e sp) (zwR i fc f):=by
 obtain⟨te,q,r⟩:=he.ex;obtain⟨tk,qk,rk⟩:=hk.ex;show⟨_,zoZ q (zrh (qv i hN hv hd hcd) qk ha) hs hw h1,⟨ ?_⟩⟩;rintro B A σ H ρ n k D a kk ⟨⟨l0,e0⟩,hf⟩;obtain⟨ad,xs0,s0,hA,_⟩:=a.own hi e0;show r.run A σ H ρ n _ _ a.env a.pn hf λw m v H1 r1 hv1 g1 _=>⟨.ref ad,s0,?_⟩;have a1:=a.step g1;show rk.run A σ H1 ρ m _ _ a1.env a1.pn r1  ?_;rintro y m2 v2 H2 ⟨l,d,j,e,ed,ey,j0,j1,r2⟩ b2 g2;subst ed ey;have a2:=a1.step g2;obtain⟨ad2,xs,s2,_,g,hl⟩:=a2.own hi e;rw[s0] at s2;cases s2;exact⟨ad,xs,j,rfl,yJ b2,g,j0,by rw[hl.length];exact j1,kk.nx A σ _ _ m2 (a2.wr hi e s0 (zkp (hv1.stay g2.st).is _ hl)) r2⟩
end
section
variable {A:AL}{H:Hp}
def zvi(h:zdG A H [w] vs):∃v,vs=[v]/\Val A H w v:=by obtain⟨v,r,e,h1,h2⟩:=h;cases h2;exact⟨v,e,h1⟩
def zvj(h:zdG A H [w,u] vs):∃v y,vs=[v,y]/\Val A H w v/\Val A H u y:=by obtain⟨v,r,e,h1,h2⟩:=h;obtain⟨y,rfl,q⟩:=zvi h2;exact⟨v,y,e,h1,q⟩
def zvk{st:AG}(h:Val A H (.d (stD st)) v):∃a,v = .ref a/\H a=some (.tup (st.map V.int)):=by obtain⟨a,xs,e,h1,h2⟩:=h;obtain rfl:=h2.of_ints;exact⟨a,e,zp _ _ h1⟩
def zh6 (st:AG):(stD st).noL=true:=by have:=xU [st];simpa [Dt.noLs] using this
end
structure RoomOk (rm:AG):Prop where
 ne:rm≠[]
 few:rm.length<=8
 box:∀r∈rm,2<=r/\r<=4
def RoomOk.pos {rm:AG}(h:RoomOk rm):1<=rm.length:=by
 cases rm with
 | nil=>exact absurd rfl h.ne
 | cons _ _=>simp
abbrev FV:=PN->AU->Mo W
def zvt (k:Nat)(fr:Bool)(F:FV)(sp:Sp):Prop:=∀vs H Q E,spV k fr F vs H Q E->sp vs H Q E
def FnOk.lift(h:FnOk P w K mg base CX j f fd ps sp)(l:zvt k fr F sp):FnOk P w K mg base CX j f fd ps (spV k fr F):=h.imp l
def zjb:FV:=λPn q n R=>∃p c ns yt,Pn=⟨some (p,c,ns),J0⟩/\q=[.pen p,.d (.int yt)]/\n<=1000000/\1<=yt/\yt<1073741824/\∀r,0<=r->r<yt->R (.d (.int r)) (n+1)
def zkL:zvt 2 false zjb zl5:=by rintro vs H Q E ⟨Pn,A,ws,n,R,al,F,hl,B,⟨p,c,ns,yt,rfl,rfl,h1,h2,I,J⟩,q⟩;obtain⟨v,y,rfl,L,O⟩:=zvj F;have U:v = .ref p:=L;have Y:y = .int yt:=O;subst U Y;exact⟨p,c,ns,n,yt,rfl,B.1.1,h1,h2,I,λr H' Z r1 P' S'=>q _ (n+1) _ H' (J r Z r1) (Val.of rfl) ⟨S',⟨P',B.1.2⟩,trivial⟩ λz=>by cases z⟩
abbrev zvq:FV:=λPn B n R=>∃p c ns q,Pn=⟨some (p,c,ns),J0⟩/\B=[.pen p,.d (.int q)]/\n+20<=1000000/\4<=q/\q<=256/\∀rm,RoomOk rm->yH rm<=q->R (.d (stD rm)) (n+10)
abbrev zok:FV:=λPn q n R=>∃p c ns rm,Pn=⟨some (p,c,ns),J0⟩/\q=[.pen p,.d (stD rm)]/\n+20<=1000000/\RoomOk rm/\∀st,st.length=rm.length->(∀b:Int,0<=b->b<rm.length->0<=yt st b/\yt st b<yt rm b)->R (.d (stD st)) (n+10)
def zqv (g:List (Int×Int)):(Dt.tup (g.map zQ)).noL=true:=by
 have:∀g:List (Int×Int),Dt.noLs (g.map zQ)=true:=by
  intro g
  induction g with
  | nil=>rfl
  | cons q g B=>simp only[ax,Dt.noLs,B,cv];rfl
 exact this g
abbrev zfc (g:List (Int×Int)):Dt:=.tup (g.map zQ)
abbrev zsj:FV:=λPn F n R=>∃p c ns rm B,Pn=⟨some (p,c,ns),J0⟩/\F=[.pen p,.d (stD rm),.d (.int B)]/\n+40<=1000000/\RoomOk rm/\∀g,Giv rm g->(∀q∈g,q.1≠B)->g.length<=8->R (.d (zfc g)) (n+30)
abbrev zvU:FV:=λ_ q n R=>∃d,q=[.d d]/\R (.d (.bl d.isWhole)) n
abbrev zvT:FV:=λ_ q n R=>∃a b,q=[.d (.bl a),.d (.bl b)]/\R (.d (.bl (a==b))) n
abbrev F_prod:FV:=λ_ q n R=>∃ns:AG,q=[.d (stD ns)]/\(∀n∈ns,2<=n/\n<=4)/\R (.d (.int (yH ns))) n
abbrev zvS:FV:=λ_ B n R=>∃st g,B=[.d (stD st),.d (zfc g)]/\(∀q∈g,0<=q.1/\q.1<st.length)/\R (.d (.bl (xD st g))) n
abbrev uu (sts:AF):Dt:=.lst (sts.map stD)
def zrQ{sts:AF}(F:Al A H)(s:y4 H H')(n:H a=none)(h:H' a=some (.lst ys))(I:IsL H' (sts.map stD) ys):Val A H' (.d (uu sts)) (.ref a)/\FrV A H H' (.d (uu sts)) (.ref a):=by
 have q:=F.stay (zu.same s);have B:=uP q.noT (xU sts) I;show⟨Val.of ⟨a,ys,rfl,zv (F.new n) h,B⟩,a,rfl,.of n,a,ys,rfl,h,uP (λb xs z e=>?_) (xU sts) I⟩;rcases z with z | z;exact q.noT b xs z e;grind
abbrev F_all:FV:=λ_ q n R=>∃rm,q=[.d (stD rm)]/\RoomOk rm/\yH rm<=256/\R (.d (uu (xn (rm.map zk)))) n
abbrev lsD (c:AG):Dt:=.lst (c.map .int)
abbrev zdC:FV:=λ_ q n R=>∃cs:AF,q=[.d (.lst (cs.map lsD))]/\cs.length<=8/\(∀c∈cs,c.length<=4)/\R (.d (uu (xn cs))) n
def znm(s:y4 G H):∀ {cs:AF} {xs:AT},IsL G (cs.map lsD) xs->zsl H xs cs:=λ{cs xs} h=>by show⟨by rw[h.length,ab],λi c F=>?_⟩;obtain⟨v,h1,h2⟩:=h.getD (i:=i) (d:=lsD c) (by right);obtain⟨a,ys,rfl,q,B⟩:=h2;obtain rfl:=B.of_ints;exact⟨a,h1,s _ _ q⟩
def zew:zvt 1 true zdC (zd6 K):=by rintro vs H Q E ⟨Pn,A,ws,n,R,I,J,hl,L,⟨cs,rfl,h1,h2,O⟩,q⟩;obtain⟨v,rfl,U⟩:=zvi J;obtain⟨a,xs,rfl,Y,Z⟩:=U;show⟨a,xs,cs,rfl,zp _ _ Y,znm zp Z,h1,h2,λa ys H' na B F S=>?_⟩;obtain⟨z1,z2⟩:=zrQ I S na B F;exact q _ n _ H' O z1 (Go.same L S) λ_=>z2
def zwX {P:Aa}{w:Ab}{K:AH}{mg:AI}{base:Heap}{x F:Str}{st:Stmt}{f:Addr}{fd:Ac}{N ps:AM}{k r:Nat}{S:AR}(M:AR)(Fu:Fun K x F st f fd)(Sc:FnScope N ps (zg st))(ag:ps.length=1)(hN:N.length=r+2)(hM:∀i∈M,2<=i)
  (U:∀ (J:Value) (A:Ae) (B:List Env) (s:AZ) (H:Hp) (E:XK) (Pn:PN),Room k (A.deeper (PyProof.Rows.envOfC F (zg st) s.heap.objs.size f J))->
   ∃O z4 fs,yy st=O::z4/\QS (zek CX0 P w K mg base N F (zg st) f J A B s H E).nox O (zfg (zhr (zob K) [] E0 (zbL (zmd 0) zja)) (uA 1))/\
    JSs (zek CX0 P w K mg base N F (zg st) f J A B s H E).nox Pn S M false z4 fs/\∀p c ns,Pn=⟨some (p,c,ns),J0⟩->fs (none::some (.pen p)::List.replicate r none) 0 { nx:=λ_ _=>False,rt:=λw _=>w = .d (.bl true) }):FnOk P w K mg base CX0 (k+1) f fd ps (zl6 K):=by
 show Fun.okQ Fu Sc (λvs H Q E h=>?_) (λJ A B s H vs Q E hr h=>?_);obtain⟨a,ns,rfl,_⟩:=h;exact ag.symm;obtain⟨a,ns,rfl,hS,hl,q⟩:=h;have Y:=λ(Pn:PN)=>U J A B s H E Pn hr;have ad:L2.xy N [.ref a]=some (.ref a)::none::List.replicate r none:=by unfold L2.xy;rw[hN];rfl
 have hd:∃O z4,yy st=O::z4:=let ⟨O,z4,_,e,_⟩:=Y ⟨none,J0⟩;⟨O,z4,e⟩;obtain⟨O,z4,e0⟩:=hd;rw[e0];have c2:∀Pn,∃fs,JSs (zek CX0 P w K mg base N F (zg st) f J A B s H E).nox Pn S M false z4 fs/\∀p c ns,Pn=⟨some (p,c,ns),J0⟩->fs (none::some (.pen p)::List.replicate r none) 0 { nx:=λ_ _=>False,rt:=λw _=>w = .d (.bl true) }:=λPn=>by obtain⟨al,Z,fs,e,_,h1,h2⟩:=Y Pn;rw[e0] at e;cases e;exact⟨fs,h1,h2⟩
 have q1:QS (zek CX0 P w K mg base N F (zg st) f J A B s H E).nox O (zfg (zhr (zob K) [] E0 (zbL (zmd 0) zja)) (uA 1)):=by
  obtain⟨al,Z,fs,e,h0,_⟩:=Y ⟨none,J0⟩;right
 show⟨_,yh q1 (u:=λD σ H=>∃Pn,(c2 Pn).choose_spec.1.ex.choose D σ H) ⟨λpins s' σ H D I ⟨Pn,z⟩=>(c2 Pn).choose_spec.1.ex.choose_spec.1.run pins s' σ H D I z⟩,?_⟩;show⟨.ref a,by rw[ad];rfl,a,ns,rfl,hS,hl,λp c H1 P1 S1=>⟨⟨some (p,c,ns),J0⟩,?_⟩⟩;have hs:=(c2 ⟨some (p,c,ns),J0⟩).choose_spec.2 p c ns rfl;have e1:(L2.xy N [.ref a]).set 1 (some (.ref p))=some (.ref a)::some (.ref p)::List.replicate r none:=by rw[ad];rfl
 rw[e1]
 have L:∀i (u:W),(none::some (.pen p)::List.replicate r none:Ev)[i]?=some (some u)->i=1/\u = .pen p:=λi u e=>by
  match i,e with
  | 0,e=>simp at e
  | 1,e=>exact⟨rfl,by simpa using e.symm⟩
  | i+2,e=>
   simp only[bC] at e;obtain⟨_,q⟩:=ac.mp e;right
 show (c2 ⟨some (p,c,ns),J0⟩).choose_spec.1.ex.choose_spec.2.run { A0:=λ_=>False,H0:=λ_=>none,G0:=λ_=>none,σ0:=some (.ref a)::some (.ref p)::List.replicate r none } (λ_=>False) _ H1 _ 0 _ _ ⟨⟨?_,?_,?_,λ_ z=>z.elim⟩,⟨λ_ z=>z,λ_ z=>z.elim,(λb o (z:(none:Option HO)=some o)=>nomatch z),λ_ z=>z.elim,λ_ z=>z.elim,λ_ z=>z.elim⟩,⟨⟨P1,λz=>z,λz=>z⟩,trivial⟩,(λb o (z:(none:Option HO)=some o)=>nomatch z),⟨λi hi=>rfl,λ_=>⟨λb xs (z:(none:Option HO)=some (.lst xs))=>(nomatch z),λb xs (z:(none:Option HO)=some (.lst xs))=>(nomatch z)⟩⟩,?_⟩ ⟨?_,?_,?_,λ_ z=>z,?_⟩ hs;simp;intro i u e;obtain⟨rfl,rfl⟩:=L i u e;exact⟨.ref p,rfl,λ_=>rfl,λz=>absurd (hM 1 z) (by lia)⟩;intro i j u u' b hi hj an e1;obtain⟨rfl,rfl⟩:=L i u e1;exact absurd (hM 1 hi) (by lia);intro i u b hi e;obtain⟨rfl,rfl⟩:=L i u e;exact absurd (hM 1 hi) (by lia);intro _ _ _ _ _ _ z;exact z.elim;intro _ _ _ _ _ _ z;exact z.elim;intro _ _ _ _ _ _ z;exact z.elim;intro w n' v H' hv st pn _ r;have r':w = .d (.bl true):=r;subst r';have:v = .bl true:=hv;subst this;exact q H'
def zjy {α:Type}{l:AU}{F:Ev}{n:Nat}{mg:W->Ev->(Ev->Prop)->Prop}{Y:Ev->Mo Bool}{Z:AD}{Q:AV}(xs:List α)(I:α->W)(hl:l=xs.map I)(J:Ev->Prop)(P:α->Bool)(E:α->Dt)(ad:xs.length<=lim)(j0:J F)
  (h:∀a∈xs,∀ B,J B->∀C:Ev->Nat->Option Dt->Prop,(∀ q,J q->C q n (if P a then some (E a) else none))->mg (I a) B λq=>Y q n λb n2=>if b=true then Z q n2 λx L=>∃d,x = .d d/\C q L (some d) else C q n2 none)
  (fin:Q (.d (.lst ((xs.filter P).map E))) n):zfq mg Y Z F Q l n:=by
 subst hl;show⟨by right,λi B O acc=>J B/\O=n/\acc=((xs.take i).filter P).map E,⟨j0,rfl,by simp⟩,?_,?_⟩;rintro i w B O acc hw ⟨hj,rfl,rfl⟩;rw[aq] at hw;obtain⟨a,ha,rfl⟩:=aC.mp hw
 have:=h a (aA ha) B hj (λq L o=>match o with
  | some d=>J q/\L=O/\((xs.take i).filter P).map E++[d]=((xs.take (i+1)).filter P).map E
  | none=>J q/\L=O/\((xs.take i).filter P).map E=((xs.take (i+1)).filter P).map E) (λq U=>by
   rw[zn ha,bR,az];by_cases hp:P a=true;right;rw[if_neg hp];exact⟨U,rfl,by simp[hp]⟩)
 exact this;grind
def zmG {α:Type}{l:AU}{F:Ev}{n:Nat}{mg:W->Ev->(Ev->Prop)->Prop}{Y:AD}{Q:AV}(xs:List α)(I:α->W)(hl:l=xs.map I)(J:Ev->Prop)(E:α->Dt)(Z:xs.length<=lim)(j0:J F)
  (h:∀a∈xs,∀ B,J B->∀C:Ev->Nat->Dt->Prop,(∀ q,J q->C q n (E a))->mg (I a) B λq=>Y q n λx L=>∃d,x = .d d/\C q L d)
  (fin:Q (.d (.lst (xs.map E))) n):zfq mg zvE Y F Q l n:=by
 subst hl;show⟨by right,λi B O acc=>J B/\O=n/\acc=(xs.take i).map E,⟨j0,rfl,by simp⟩,?_,?_⟩;rintro i w B O acc hw ⟨hj,rfl,rfl⟩;rw[aq] at hw;obtain⟨a,ha,rfl⟩:=aC.mp hw;exact h a (aA ha) B hj (λq L d=>J q/\L=O/\(xs.take i).map E++[d]=(xs.take (i+1)).map E) λq U=>⟨U,rfl,by rw[zn ha,az];rfl⟩;grind
def zpL(I:Nat->Ev->Nat->Prop)(O:I 0 ρ n)(h:∀i q B,i<r->I i q B->mg (.d (.int (i:Int))) q λF=>fb F B { k with nx:=I (i+1),ct:=I (i+1),bk:=k.nx })(U:∀ q B,I r q B->k.nx q B):zsT mg fb ρ k (zff 0 r) n:=by
 show⟨I,O,λi w q B J L=>?_,λq B L=>U q B ?_⟩;unfold zff at J;rw[aq] at J;obtain⟨j,h1,rfl⟩:=aC.mp J;obtain⟨hi,h2⟩:=ac.mp h1;rw[bF] at h2;right;unfold zff at L;right
def zj6{α:Type}(xs:List α)(F:α->W)(U:l=xs.map F)(I:Nat->Ev->Nat->Prop)(Y:I 0 ρ n)(h:∀i a q B,xs[i]?=some a->I i q B->mg (F a) q λJ=>fb J B { k with nx:=I (i+1),ct:=I (i+1),bk:=k.nx })(Z:∀ q B,I xs.length q B->k.nx q B):zsT mg fb ρ k l n:=by
 subst U;show⟨I,Y,λi w q B L O=>?_,λq B O=>Z q B (by right)⟩;rw[aq] at L;obtain⟨a,ha,rfl⟩:=aC.mp L;exact h i a q B ha O
def u6(I:Nat->Ev->Nat->Prop)(L:I 0 ρ n)(h:∀i q F,i<r->I i q F->∀ (C B:Ev->Nat->Prop) (E:AV),(∀ {ρ m},I (i+1) ρ m->C ρ m)->(∀ {ρ m},k.nx ρ m->B ρ m)->(∀ {w m},k.rt w m->E w m)->mg (.d (.int (i:Int))) q λJ=>fb J F { rt:=E,nx:=C,ct:=C,bk:=B })(O:∀ q F,I r q F->k.nx q F):zsT mg fb ρ k (zff 0 r) n:=
 zpL I L (λi q F hi U=>h i q F hi U (I (i+1)) k.nx k.rt (λz=>z) (λz=>z) λz=>z) O
def yk{α:Type}(xs:List α)(F:α->W)(O:l=xs.map F)(I:Nat->Ev->Nat->Prop)(U:I 0 ρ n)(h:∀i a q J,xs[i]?=some a->I i q J->∀ (C B:Ev->Nat->Prop) (E:AV),(∀ {ρ m},I (i+1) ρ m->C ρ m)->(∀ {ρ m},k.nx ρ m->B ρ m)->(∀ {w m},k.rt w m->E w m)->mg (F a) q λL=>fb L J { rt:=E,nx:=C,ct:=C,bk:=B })(Y:∀ q J,I xs.length q J->k.nx q J):zsT mg fb ρ k l n:=
 zj6 xs F O I U (λi a q J Z hI=>h i a q J Z hI (I (i+1)) k.nx k.rt (λz=>z) (λz=>z) λz=>z) Y
def zmF{α:Type}(xs:List α)(L:α->W)(hl:l=xs.map L)(Y:xs.length<=lim)(I:Nat->Ev->Nat->AS->Prop)(h0:I 0 J n [])(h:∀i a q B acc,xs[i]?=some a->I i q B acc->∀C:Ev->Nat->AS->Prop,(∀ {ρ m l},I (i+1) ρ m l->C ρ m l)->mg (L a) q λF=>O F B λb Z=>if b=true then U F Z λx n3=>∃d,x = .d d/\C F n3 (acc++[d]) else C F Z acc)(fin:∀ q B acc,I xs.length q B acc->Q (.d (.lst acc)) B):zfq mg O U J Q l n:=by
 subst hl;show⟨by right,I,h0,λi w q B acc hw hI=>?_,λq B acc hI=>fin q B acc (by right)⟩;rw[aq] at hw;obtain⟨a,ha,rfl⟩:=aC.mp hw;exact h i a q B acc ha hI (I (i+1)) λz=>z
def zbP {α:Type}{l:List α}{i:Nat}{x:α}(h:l[i]?=some x):atI l (i:Int)=some x:=by
 have:=(ac.mp h).1;unfold atI ixN;right
def zsp {α:Type}{l:List α}{i:Int}(B:0<=i)(h1:i<l.length):∃d,atI l i=some d/\d∈l:=by
 obtain⟨j,rfl⟩:∃j:Nat,i=j:=⟨i.toNat,by lia⟩;have q:j<l.length:=by lia
 exact⟨l[j],zbP (ah q),b6 q⟩
def zph {st:AG}{b:Int}(B:0<=b)(h1:b<st.length):atI (st.map Dt.int) b=some (.int (yt st b)):=by
 obtain⟨j,rfl⟩:∃j:Nat,b=j:=⟨b.toNat,by lia⟩;have q:j<st.length:=by lia
 show zbP ?_;rw[aq,ah q,ym];simp[q]
def gw (g:List (Int×Int))(i:Nat):AQ:=(g.find? λq=>decide (q.1=(i:Int))).map (·.2)
def zpA (rm:AG):enW 0 (rm.map Dt.int)=(List.range rm.length).map λi:Nat=>W.d (.tup [.int (i:Int),.int (rm.getD i 0)]):=by
 apply dr;intro i;rw[zel,aq,aq];by_cases h:i<rm.length
 all_goals right
def cho (rm:AG)(g:List (Int×Int))(i:Nat):AG:=match gw g i with
 | some w=>[w]
 | none=>zk (rm.getD i 0)
def chs (rm:AG)(g:List (Int×Int)):AF:=(List.range rm.length).map (cho rm g)
def zwI (rm:AG)(g:List (Int×Int)):AF:=xn (chs rm g)
section
variable {X:Cx}{Pn:PN}{M S:AR}{fr fr':Bool}{e a b c:Expr}{es:AO}{f fa fb fc:AD}{pos p p2:Pos}
def zql (fa:AC):AC:=λρ n Q=>fa ρ n λq m=>∃l,q=[.d (.lst l)]/\Q (enW 0 l) m
def zkt(h:zM A H q=some (.lst xs))(B:IsL (zM A H) l xs):ItV false A H (Iel K q) (enW 0 l) where
 one:=λi w A2 H2 e s _ J=>by rw[zel] at e;obtain⟨d,h1,rfl⟩:=aC.mp e;obtain⟨x,F,L⟩:=B.getD h1;have g:=zp _ _ (s.lst h);show⟨⟨xs,x,.of g,F⟩,?_⟩;rintro y H3 ⟨T,z,O,I,U,Y⟩;subst O U;have:=Y xs (.of g);rw[F] at this;cases this;have S:=y4.upd (o:=.tup [.int i,x]) I;show⟨S,Val.of ⟨T,_,rfl,zv (J T I) zj,_,_,rfl,?_,_,_,rfl,(L.stay s).stay (zu.same (zcJ S)),rfl⟩⟩;change V.int (i:Int)=V.int ((0+i:Nat):Int);rw[Nat.zero_add]
 stop:=λA2 H2 s _=>⟨xs,.of (zp _ _ (s.lst h)),by rw[zjU,B.length];exact af _⟩
def zcl{x1}(I:Gl X "enumerate")(J:X.mg "enumerate" = none)(L:JA X Pn M [a] fs)(F:starEach [a] X.env=[(false,eval a X.env)]:=by rfl):JI X Pn M false (.Tuple elts x1 tpos) (.Call (.Name "enumerate" p) [a] [] pos) (zql fs):=by obtain⟨te,q,r⟩:=L.ex;show⟨_,znT I J q F,⟨λA σ H ρ n Q R E P O k=>?_⟩⟩;show r.run A σ H ρ n _ _ E P O  ?_;rintro ws m vs H1 ⟨l,e,r⟩ U g;subst e;obtain⟨v,s,rfl,⟨Y,xs,rfl,B,Z⟩,F⟩:=U;cases F;exact⟨Y,rfl,⟨xs,.of (zp _ _ B)⟩,k _ m _ H1 r (zkt B Z) g⟩
def ziu:∀ (l k:AS) (i:Nat),(ziW l k)[i]?=(l[i]?).bind λx=>(k[i]?).map λy=>W.d (.tup [x,y])
 | [],_,_=>by simp[ziW]
 | _::_,[],_=>by simp[ziW]
 | x::r,y::s,0=>by simp[ziW]
 | x::r,y::s,i+1=>by have:=ziu r s i;simp only[ziW,bC,this]
def ziv:∀ (l k:AS),(ziW l k).length=min l.length k.length
 | [],_=>by simp[ziW]
 | _::_,[]=>by simp[ziW]
 | x::r,y::s=>by rw[ziW,aV,aV,aV,ziv r s];lia
def zqn (fa:AC):AC:=λρ n Q=>fa ρ n λq m=>∃l k,q=[.d (.lst l),.d (.lst k)]/\Q (ziW l k) m
def zm7(h:zM A H I=some (.lst xs))(L:IsL (zM A H) l xs)(h':zM A H J=some (.lst ys))(O:IsL (zM A H) k ys):ItV false A H (Izl K I J) (ziW l k) where
 one:=λi w A2 H2 e s _ hA=>by rw[ziu] at e;obtain⟨d,h1,e⟩:=Option.bind_eq_some_iff.mp e;obtain⟨d',q,rfl⟩:=aC.mp e;obtain⟨x,U,hd⟩:=L.getD h1;obtain⟨y,Y,B⟩:=O.getD q;have g:=zp _ _ (s.lst h);have g':=zp _ _ (s.lst h');show⟨⟨xs,ys,x,y,.of g,.of g',U,Y⟩,?_⟩;rintro v H3 ⟨T,z,z',e1,Z,e3,hz,F⟩;subst e1 e3;have q1:=hz xs (.of g);have q2:=F ys (.of g');rw[U] at q1;rw[Y] at q2;cases q1;cases q2;have S:=y4.upd (o:=.tup [x,y]) Z;exact⟨S,Val.of ⟨T,_,rfl,zv (hA T Z) zj,_,_,rfl,(hd.stay s).stay (zu.same (zcJ S)),_,_,rfl,(B.stay s).stay (zu.same (zcJ S)),rfl⟩⟩
 stop:=λA2 H2 s _=>⟨xs,ys,.of (zp _ _ (s.lst h)),.of (zp _ _ (s.lst h')),by rw[ziv,L.length,O.length];lia⟩
def zkz {elts:AO}{x1}{tpos:Pos}{fs:AC}(L:Gl X "zip")(O:X.mg "zip" = none)(U:JA X Pn M [a,b] fs)(I:starEach [a,b] X.env=[(false,eval a X.env),(false,eval b X.env)]:=by rfl)(J:starEach [b] X.env=[(false,eval b X.env)]:=by rfl):JI X Pn M false (.Tuple elts x1 tpos) (.Call (.Name "zip" p) [a,b] [] pos) (zqn fs):=by obtain⟨te,q,r⟩:=U.ex;show⟨_,zrm L O q I J,⟨λA σ H ρ n Q R E P Y k=>?_⟩⟩;show r.run A σ H ρ n _ _ E P Y  ?_;rintro ws m vs H1 ⟨l,kk,e,r⟩ Z g;subst e;obtain⟨v,s,rfl,⟨ad,xs,rfl,B,hl⟩,v2,s2,rfl,⟨bd,ys,rfl,F,hk⟩,I⟩:=Z;cases I;exact⟨ad,bd,rfl,⟨xs,.of (zp _ _ B)⟩,⟨ys,.of (zp _ _ F)⟩,k _ m _ H1 r (zm7 B hl F hk) g⟩
def zwK (i:Nat)(f:AD):Ms:=λρ n k=>(∃l,ρ[i]?=some (some (.d (.lst l))))/\f ρ n λw m=>∃l q,ρ[i]?=some (some (.d (.lst l)))/\w = .d (.lst q)/\l.length+q.length<=lim/\k.nx (ρ.set i (some (.d (.lst (l++q))))) m
def zkC (i:Nat){x:Str}{ap O sp U:Pos}(he:JE X Pn M fr' e f)(hi:i∈M:=by ext)(hN:X.N[i]?=some x:=by rfl)(hv:Vis X.env.scope x:=by walk_at "v")(hd:Ah x:=by ext)
  (al:(x==("__classdict__" : Str))=false:=by ext) (Y:starEach (e::[]) X.env=(false,eval e X.env)::starEach [] X.env:=by rfl) (hs:swapsWith (.Call (.Attribute (.Name x U) "extend" ap) [e] [] O) none sp.line X.env=pure false:=by rfl) (J:attributeBase (.Name x U) "extend" X.env (eval (.Name x U) X.env)=eval (.Name x U) X.env:=by rfl) (L:(ap.endLine==O.line)=true:=by rfl)
  (Z:((backTo O (starEach [e] X.env)).all (λx=>!x.1)&&(backToKw O (keywordEach [] X.env)).all (λx=>x.1.isSome)&&decide (([e]:AO).length+([]:List Keyword).length+(if ([]:List Keyword).isEmpty then 0 else 1)<30))=true:=by rfl) (I:(backTo O (starEach [] X.env)).any (·.1)=false:=by rfl) :
  JS X Pn S M fr (.Expr (.Call (.Attribute (.Name x U) "extend" ap) [e] [] O) sp) (zwK i f):=by
 obtain⟨te,q,r⟩:=he.ex;show⟨_,zaX (zdX bB PySem.F.slot_list_extend PySem.F.type_list_extend zk7 (qv i hN hv hd al) (zD q yc Y) J Z L Y I) hs,⟨ ?_⟩⟩;rintro B A σ H ρ n k D a kk ⟨⟨l0,e0⟩,hf⟩;obtain⟨ad,as,s1,hA,g0,_⟩:=a.own hi e0;show⟨.ref ad,s1,.inl ⟨rfl,_,SqL.of g0⟩,?_⟩;show r.run A σ H ρ n _ _ a.env a.pn hf  ?_;rintro w m v H' ⟨l,l2,e,ed,hz,r⟩ hv g _;subst ed;have a':=a.step g;obtain⟨av,xs,s2,_,g4,hl⟩:=a'.own hi e;rw[s1] at s2;cases s2;obtain⟨b2,ys,rfl,an,ag⟩:=hv;exact⟨ad,b2,xs,ys,rfl,rfl,g4,zp _ _ an,zcU (by rw[hl.length,ag.length];exact hz),kk.nx A σ _ _ m (a'.wr hi e s1 (hl.append ag)) r⟩
def zoK {α:Type}(l:List α)(k:Nat)(x:α):List α:=l.take k++x::l.drop k
def zwM (i:Nat)(fk f:AD):Ms:=λρ n k=>(∃l,ρ[i]?=some (some (.d (.lst l))))/\fk ρ n λy m=>f ρ m λw q=>∃l d j,ρ[i]?=some (some (.d (.lst l)))/\w = .d d/\y = .d (.int j)/\0<=j/\j<=l.length/\l.length<lim/\k.nx (ρ.set i (some (.d (.lst (zoK l j.toNat d))))) q
def zte(i:Nat){x:Str}{ap O sp U:Pos}(hc:JE X Pn M ag c fc)(he:JE X Pn M fr' e f)(hi:i∈M:=by ext)(hN:X.N[i]?=some x:=by rfl)(hv:Vis X.env.scope x:=by walk_at "v")(hd:Ah x:=by ext)(al:(x==("__classdict__" : Str))=false:=by ext)(Y:starEach (c::[e]) X.env=(false,eval c X.env)::starEach [e] X.env:=by rfl)(an:starEach (e::[]) X.env=(false,eval e X.env)::starEach [] X.env:=by rfl)(hs:swapsWith (.Call (.Attribute (.Name x U) "insert" ap) [c,e] [] O) none sp.line X.env=pure false:=by rfl)(J:attributeBase (.Name x U) "insert" X.env (eval (.Name x U) X.env)=eval (.Name x U) X.env:=by rfl)(L:(ap.endLine==O.line)=true:=by rfl)(Z:((backTo O (starEach [c,e] X.env)).all (λx=>!x.1)&&(backToKw O (keywordEach [] X.env)).all (λx=>x.1.isSome)&&decide (([c,e]:AO).length+([]:List Keyword).length+(if ([]:List Keyword).isEmpty then 0 else 1)<30))=true:=by rfl)(I:(backTo O (starEach [e] X.env)).any (·.1)=false:=by rfl) :
  JS X Pn S M fr (.Expr (.Call (.Attribute (.Name x U) "insert" ap) [c,e] [] O) sp) (zwM i fc f):=by
 obtain⟨te,q,r⟩:=he.ex;obtain⟨tc,qc,rc⟩:=hc.ex;show⟨_,zaX (zdX bB PySem.F.slot_list_insert PySem.F.type_list_insert zk8 (qv i hN hv hd al) (zD qc (zD q yc an) Y) J Z L Y I) hs,⟨ ?_⟩⟩;rintro B A σ H ρ n k D a kk ⟨⟨l0,e0⟩,hf⟩;obtain⟨ad,av,s1,hA,g0,_⟩:=a.own hi e0;show⟨.ref ad,s1,.inl ⟨rfl,_,SqL.of g0⟩,?_⟩;show rc.run A σ H ρ n _ _ a.env a.pn hf λw1 m1 v1 H1 r1 as g1 _=>?_;have a1:=a.step g1;show r.run A σ H1 ρ m1 _ _ a1.env a1.pn r1  ?_;rintro w m v H' ⟨l,d,j,e,ed,ey,j0,j1,hz,r⟩ hv g _;subst ed ey;have e1:v1 = .int j:=as;subst e1;have a':=a1.step g;obtain⟨a0,xs,s2,_,g4,hl⟩:=a'.own hi e;rw[s1] at s2;cases s2;show⟨ad,xs,j,v,rfl,rfl,g4,j0,by rw[hl.length];exact j1,zdO (by rw[hl.length];exact cb hz),kk.nx A σ _ _ m (a'.wr hi e s1 ?_) r⟩;exact (hl.take _).append ⟨v,_,rfl,hv.is,hl.drop _⟩
def zfJ:∀ {ds:AS} {xs:AT} (k:Nat),IsL G ds xs->IsL G (ds.eraseIdx k) (xs.eraseIdx k)
 | [],_,_,h=>by cases h;rfl
 | x::ds,xs,0,⟨y,r,e,h1,h2⟩=>by subst e;exact h2
 | x::ds,xs,k+1,⟨y,r,e,h1,h2⟩=>by subst e;exact⟨y,_,rfl,h1,zfJ k h2⟩
def zqr (i:Nat)(fk:AD):Ms:=λρ n k=>(∃l,ρ[i]?=some (some (.d (.lst l))))/\fk ρ n λy m=>∃l j,ρ[i]?=some (some (.d (.lst l)))/\y = .d (.int j)/\0<=j/\j<l.length/\l.length<=lim/\k.nx (ρ.set i (some (.d (.lst (l.eraseIdx j.toNat))))) m
def zo7 {n:Nat}{j:Int}(q:0<=j)(h1:j<n):seqIndex? j n=some j.toNat:=(zg0 (by unfold ixN;rw[if_pos q,if_pos h1])).1
def zp4 (i:Nat){x:Str}{Z L sp O:Pos}(hc:JB X Pn M c fc)(hi:i∈M:=by ext)(hN:X.N[i]?=some x:=by rfl)(hv:Vis X.env.scope x:=by walk_at "v")(hd:Ah x:=by ext)
  (ag:(x==("__classdict__" : Str))=false:=by ext) (U:starEach (c::[]) X.env=(false,eval c X.env)::starEach [] X.env:=by rfl) (hs:swapsWith (.Call (.Attribute (.Name x O) "pop" Z) [c] [] L) none sp.line X.env=pure false:=by rfl) (I:attributeBase (.Name x O) "pop" X.env (eval (.Name x O) X.env)=eval (.Name x O) X.env:=by rfl) (J:(Z.endLine==L.line)=true:=by rfl)
  (Y:((backTo L (starEach [c] X.env)).all (λx=>!x.1)&&(backToKw L (keywordEach [] X.env)).all (λx=>x.1.isSome)&&decide (([c]:AO).length+([]:List Keyword).length+(if ([]:List Keyword).isEmpty then 0 else 1)<30))=true:=by rfl) (q:(backTo L (starEach [] X.env)).any (·.1)=false:=by rfl) :
  JS X Pn S M fr (.Expr (.Call (.Attribute (.Name x O) "pop" Z) [c] [] L) sp) (zqr i fc):=by
 obtain⟨tc,qc,rc⟩:=hc.ex;show⟨_,zaX (zdX bB PySem.F.slot_list_pop PySem.F.type_list_pop zh3 (qv i hN hv hd ag) (zD qc yc U) I Y J U q) hs,⟨ ?_⟩⟩;rintro B A σ H ρ n k D a kk ⟨⟨l0,e0⟩,hf⟩;obtain⟨ad,as,s1,hA,g0,_⟩:=a.own hi e0;show⟨.ref ad,s1,.inl ⟨rfl,_,SqL.of g0⟩,?_⟩;show rc.run A σ H ρ n _ _ a.env a.pn hf  ?_;rintro w m v H' ⟨l,j,e,ey,j0,j1,hz,r⟩ hv g;subst ey;have e1:v = .int j:=hv;subst e1;have a':=a.step g;obtain⟨av,xs,s2,_,g4,hl⟩:=a'.own hi e;rw[s1] at s2;cases s2;have al:=hl.length;have an:(l.length:Int)<=500000:=by have:l.length<=500000:=hz;lia
 exact⟨ad,xs,j,j.toNat,xs[j.toNat]'(by lia),rfl,rfl,g4,by lia,by lia,zo7 j0 (by lia),ah _,kk.nx A σ _ _ m (a'.wr hi e s1 (zfJ _ hl)) r⟩
def zpK:W->W->Mo W:=λx y n Q=>∃l j,x = .d (.lst l)/\y = .d (.int j)/\0<=j/\j<=1000000/\l.length * j.toNat<=lim/\Q (.d (.lst (List.replicate j.toNat l).flatten)) n
def zvh:F2 Pn true zvM zpK:=⟨by
 rintro A H x y Z wy n Q R I J q P ⟨l,j,L,O,j1,j2,z,h⟩ k;subst L O;obtain⟨a,xs,U,Y,B⟩:=yT J;show⟨a,j,xs,U,yJ q,Y,by lia,by lia,zcU (by rw[B.length];exact z),λp F=>?_⟩;have S:=y4.upd (o:=.lst (List.replicate j.toNat xs).flatten) F;exact k _ n _ _ h (xP (zgX B _) (zu.same S) (I.new F) zj) (Go.same P S) λz=>x4 (zgX B _) S F zj⟩
def zj1:AU->Mo W:=λB n Q=>∃ns:AG,B=[.d (.lst (ns.map .int))]/\ns.length<64/\∀q:AG,q.Perm ns->q.Pairwise (·<=·)->Q (.d (.lst (q.map .int))) n
def zr8:FL Pn true zlN zj1:=⟨by
 rintro A H xs Z n Q R I b P ⟨ns,e,q,h⟩ k;subst e;obtain⟨v,rfl,J⟩:=zaY b;obtain⟨a,ys,rfl,L,O⟩:=yT J;obtain rfl:=O.of_ints;exact⟨a,ns,rfl,L,q,λB U Y p H' F g S=>k _ n _ H' (h B U Y) (xP (H:=H) IsL.ints (zu.same S) (I.new F) g) (Go.same P S) λz=>x4 (H:=H) IsL.ints S F g⟩⟩
def zj3:AU->Mo W:=λB n Q=>∃ (sts:AF) (m:Nat),B=[.d (.lst (sts.map stD))]/\sts.length<64/\1<=m/\(∀st∈sts,st.length=m)/\sts.Nodup/\∀q:AF,q.Perm sts->(q.Pairwise λa b=>HT.lexLt a b=true)->Q (.d (uu q)) n
def zr9:FL Pn true zru zj3:=⟨by
 rintro A H xs ws n Q R L b P ⟨sts,m,e,F,h1,U,I,h⟩ k;subst e;obtain⟨v,rfl,Y⟩:=zaY b;obtain⟨a,ys,rfl,Z,hl⟩:=yT Y;show⟨a,ys,sts,m,rfl,Z,hl.stay (zu.same zp),F,h1,U,I,λJ q hy hp hs p H' O g S=>?_⟩;have B:IsL (zM A H) (q.map stD) J:=uP L.noT (xU q) hy;exact k _ n _ H' (h q hp hs) (xP B (zu.same S) (L.new O) g) (Go.same P S) λz=>x4 B S O g⟩
def zp1:JE X Pn M true (.Dict [] [] pos) (mC (.dt [])):=⟨_,znP,⟨λA σ H ρ n Q R E P B k=>λp H' q g S=>k _ n _ H' B ⟨p,[],rfl,zv (E.new q) g,rfl⟩ (Go.same P S) λ_=>⟨p,rfl,.of q,p,[],rfl,g,rfl⟩⟩⟩
def zkW (fd fk:AD):AD:=λρ n Q=>fd ρ n λx q=>fk ρ q λy B=>∃kvs st d,x = .dt kvs/\y = .d (stD st)/\yZ kvs st=some d/\Q (.d d) B
def zkx (I:X.A.units+1<cLine)(J:JB X Pn M a fa)(L:JB X Pn M b fb)(O:zpd b):JE X Pn M false (.Subscript a b pos) (zkW fa fb):=by obtain⟨ta,U,Y⟩:=J.ex;obtain⟨tb,Z,rb⟩:=L.ex;show⟨_,xO I U Z O,⟨λA σ H ρ n Q R E P hf k=>?_⟩⟩;show Y.run A σ H ρ n _ _ E P hf λw1 m1 v1 H1 r1 b1 q=>?_;show rb.run A σ H1 ρ m1 _ _ (E.stay q.st) q.pn r1  ?_;rintro w2 m2 v2 H2 ⟨kvs,st,d,e1,e2,e3,r⟩ b2 g2;subst e1 e2;obtain⟨ad,ks,rfl,B,hk⟩:=b1.stay g2.st;obtain⟨bd,xs,rfl,F,hx⟩:=xM b2;obtain rfl:=hx.of_ints;obtain⟨v,h1,h2⟩:=(hk.look (k:=st)).2 d e3;show⟨ad,v,rfl,?_,k _ m2 _ H2 r (Val.of h2) (q.trans g2) λz=>by cases z⟩;rw[<- h1];exact zch.i B F
def zfe {κ:Type}[DecidableEq κ](kvs:List (κ×Dt))(k:κ)(d:Dt):List (κ×Dt):=
 if (kvs.any λkv=>decide (kv.1=k))=true then kvs.map (λkv=>if kv.1=k then (kv.1,d) else kv) else kvs++[(k,d)]
def uw.any {κ:Type}[DecidableEq κ]{G:Hp}{k:κ}:∀ {kvs:List (κ×Dt)} {ks:List (κ×V)},uw G kvs ks->(ks.any λkv=>decide (kv.1=k))=kvs.any λkv=>decide (kv.1=k)
 | [],_,h=>by cases h;rfl
 | q::r,ks,⟨v,s,e,h1,h2⟩=>by subst e;rw[cr,cr,uw.any h2]
def uw.map1 {κ:Type}[DecidableEq κ]{G:Hp}{k:κ}{d:Dt}{x:V}(F:Is G d x):∀ {kvs:List (κ×Dt)} {ks:List (κ×V)},uw G kvs ks->uw G (kvs.map λkv=>if kv.1=k then (kv.1,d) else kv) (ks.map λkv=>if kv.1=k then (kv.1,x) else kv)
 | [],_,h=>by cases h;rfl
 | q::r,ks,⟨v,s,e,h1,h2⟩=>by
  subst e;rw[ax,ax];by_cases B:q.1=k;rw[if_pos B,if_pos B];exact⟨x,_,rfl,F,uw.map1 F h2⟩;rw[if_neg B,if_neg B];exact⟨v,_,rfl,h1,uw.map1 F h2⟩
def uw.snoc {κ:Type}{G:Hp}{k:κ}{d:Dt}{x:V}(B:Is G d x):∀ {kvs:List (κ×Dt)} {ks:List (κ×V)},uw G kvs ks->uw G (kvs++[(k,d)]) (ks++[(k,x)])
 | [],_,h=>by cases h;exact⟨x,[],rfl,B,rfl⟩
 | q::r,ks,⟨v,s,e,h1,h2⟩=>by subst e;exact⟨v,_,rfl,h1,uw.snoc B h2⟩
def uw.put{κ:Type}[DecidableEq κ]{k:κ}{kvs:List (κ×Dt)}{ks:List (κ×V)}(h:uw G kvs ks)(q:Is G d x):uw G (zfe kvs k d) (zae ks k x):=by
 unfold zfe zae;rw[h.any];split;exact h.map1 q;exact h.snoc q
def uw.len {κ:Type}{G:Hp}:∀ {kvs:List (κ×Dt)} {ks:List (κ×V)},uw G kvs ks->ks.length=kvs.length
 | [],_,h=>by cases h;rfl
 | q::r,ks,⟨v,s,e,h1,h2⟩=>by subst e;rw[aV,aV,uw.len h2]
def At3.wrX(h:At3 Pn B S M A σ H ρ n)(hi:i∈M)(e:ρ[i]?=some (some w))(s:σ[i]?=some (some (.ref ad)))(hw:WAt (L2.upd H ad o) (zM A H) w' (.ref ad))(hm':w'.mut=true)(np:NP o)(nt:Mt o):At3 Pn B S M A σ (L2.upd H ad o) (ρ.set i (some w')) n:=by
 obtain⟨v,s1,_,s3⟩:=h.env.val i w e;rw[s] at s1;cases s1;obtain⟨a2,e2,hA,_,_⟩:=s3 hi;cases e2;have hlen:i<ρ.length:=(ac.mp e).1
 have hE:EnvR A M σ (L2.upd H ad o) (ρ.set i (some w')):=by
  show⟨by rw[bc];exact h.env.len,λj u ej=>?_,λj q u u' b hj hq hne e1 e2=>?_,λb hb=>?_⟩;by_cases hj:j=i;subst hj;rw[aL hlen] at ej;cases ej;exact⟨.ref ad,s,λz=>absurd hi z,λ_=>⟨ad,rfl,hA,by change WAt _ _ _ _;rw[yg hA];exact hw,hm'⟩⟩;rw[au (Ne.symm hj)] at ej;obtain⟨v,t1,t2,t3⟩:=h.env.val j u ej;show⟨v,t1,λz=>?_,λz=>?_⟩;change WAt _ _ _ _;rw[yg hA];exact t2 z;obtain⟨b,rfl,hb,hbb,hm⟩:=t3 z;have hne:b≠ad:=λq=>h.env.dis i j w u ad hi z (Ne.symm hj) e ej s (by rw[t1,q]);show⟨b,rfl,hb,?_,hm⟩;change WAt _ _ _ _;rw[yg hA]
  cases u with
  | d x=>
   cases x with
   | lst l=>obtain⟨a2,xs,e2,g1,g2⟩:=hbb;cases e2;exact⟨b,xs,rfl,by rw[zf hne];exact g1,g2⟩
   | dct=>obtain⟨a2,xs,e2,g1,g2⟩:=hbb;cases e2;exact⟨b,xs,rfl,by rw[zf hne];exact g1,g2⟩
   | _=>cases hm
  | pen p=>cases hm
  | dk k=>obtain⟨a2,xs,e2,g1,g2⟩:=hbb;cases e2;exact⟨b,xs,rfl,by rw[zf hne];exact g1,g2⟩
  | dt k=>obtain⟨a2,xs,e2,g1,g2⟩:=hbb;cases e2;exact⟨b,xs,rfl,by rw[zf hne];exact g1,g2⟩
  | ss P w k=>obtain⟨a2,xs,e2,g1,g2⟩:=hbb;cases e2;exact⟨b,xs,rfl,by rw[zf hne];exact g1,g2⟩
  | df k=>obtain⟨a2,ob,xs,e2,g1,g2⟩:=hbb;cases e2;exact⟨b,ob,xs,rfl,by right,g2⟩
  | kf k=>obtain⟨a2,ob,xs,e2,g1,g2⟩:=hbb;cases e2;exact⟨b,ob,xs,rfl,by right,g2⟩
  | ad a x=>cases hm
  | fl k=>obtain⟨a2,ob,xs,e2,g1,g2⟩:=hbb;cases e2;exact⟨b,ob,xs,rfl,by right,g2⟩
  have get:∀q (u:W),(ρ.set i (some w'))[q]?=some (some u)->∃u',ρ[q]?=some (some u'):=λq u z=>by
   by_cases hq:q=i;subst hq;exact⟨w,e⟩;rw[au (Ne.symm hq)] at z;exact⟨u,z⟩
  obtain⟨v1,f1⟩:=get j u e1;obtain⟨v2,f2⟩:=get q u' e2;exact h.env.dis j q v1 v2 b hj hq hne f1 f2;by_cases hb':b=ad;subst hb';exact⟨_,zj,np,nt⟩;rw[zf hb'];exact h.env.al b hb
 show⟨hE,⟨h.frm.sub,h.frm.new,λb o eb nn nc=>?_,h.frm.al,h.frm.cn,λb z=>(by
  by_cases hb':b=ad;subst hb';exact⟨_,zj,np⟩;rw[zf hb'];exact h.frm.cs b z)⟩,h.pn.upd hA,by rw[yg hA];exact h.prot,h.fix,λj u b hj ej sj=>?_⟩
 have hne:b≠ad:=λq=>by
  subst q;rcases h.mine i w b hi e s with z | z;exact z o eb nn;exact nc z
 rw[zf hne];exact h.frm.st b o eb nn nc;by_cases hj':j=i;subst hj';exact h.mine j w b hj e sj;rw[au (Ne.symm hj')] at ej;exact h.mine j u b hj ej sj
def zkX (i:Nat)(fk f:AD):Ms:=λρ n k=>(∃kvs,ρ[i]?=some (some (.dt kvs)))/\f ρ n λw m=>fk ρ m λy q=>∃kvs st d,ρ[i]?=some (some (.dt kvs))/\w = .d d/\y = .d (stD st)/\kvs.length<lim/\k.nx (ρ.set i (some (.dt (zfe kvs st d)))) q
def znc (i:Nat){x:Str}{np sp:Pos}(hu:X.A.units+1<cLine)(hk:JB X Pn M c fc)(he:JE X Pn M fr' e f)(hi:i∈M:=by ext)(hN:X.N[i]?=some x:=by rfl)(hv:Vis X.env.scope x:=by walk_at "v")(hd:Ah x:=by ext)
  (I:(x==("__classdict__" : Str))=false:=by ext) (hs:swapsWith e (some (.Subscript (.Name x np) c p)) sp.line X.env=pure false:=by rfl) :
  JS X Pn S M fr (.Assign [.Subscript (.Name x np) c p] e sp) (zkX i fc f):=by
 obtain⟨te,q,r⟩:=he.ex;obtain⟨tk,qk,rk⟩:=hk.ex;show⟨_,zeU hu (qv i hN hv hd I) qk q hs,⟨ ?_⟩⟩;rintro B A σ H ρ n k D a kk ⟨⟨l0,e0⟩,hf⟩;obtain⟨v0,J,_,o3⟩:=a.env.val i _ e0;obtain⟨L,rfl,hA,ag,_⟩:=o3 hi;show r.run A σ H ρ n _ _ a.env a.pn hf λw m v H1 r1 O g1 _=>⟨.ref L,J,?_⟩;have U:=a.step g1;show rk.run A σ H1 ρ m _ _ U.env U.pn r1  ?_;rintro y m2 v2 H2 ⟨kvs,st,d,e,ed,ey,hz,r2⟩ b2 g2;subst ed ey;have a2:=U.step g2;obtain⟨v3,s3,_,o4⟩:=a2.env.val i _ e;rw[J] at s3;cases s3;obtain⟨al,e4,_,hb,_⟩:=o4 hi;cases e4;obtain⟨a5,ks,e5,Y,F⟩:=hb;cases e5;obtain⟨bd,xs,rfl,Z,hx⟩:=xM b2;obtain rfl:=hx.of_ints;exact⟨L,_,rfl,zdB.i Y Z (zdO (by rw[F.len];exact cb hz)),kk.nx A σ _ _ m2 (a2.wrX (w':=.dt (zfe kvs st d)) hi e J ⟨L,_,rfl,zj,F.put (O.stay g2.st).is⟩ rfl (λk z=>by cases z) rfl) r2⟩
end
def zk6 {a c:Int}{n:Nat}(q:0<=a)(h1:a<=n)(h2:n<=1000000)(B:0<=c)(F:c<2147483549):0<=(c+70009) * (2 * a+1)+6133 * a * a+577 * a/\(c+70009) * (2 * a+1)+6133 * a * a+577 * a<=11000000000000000:=by
 have I:(c+70009) * (2 * a+1)<=2147553558 * 2000001:=cU (by lia) (by lia) (by lia) (by lia);have J:0<=(c+70009) * (2 * a+1):=Int.mul_nonneg (by lia) (by lia);have L:a * a<=1000000 * 1000000:=cU (by lia) (by lia) (by lia) (by lia);have O:0<=a * a:=Int.mul_nonneg q q;grind
def zre{X:Cx}(K:AH)(L:X.K=K){es:AO}{to:TE}{t:TA}{apos cpos:Pos}(O:QE X o to)(U:QA X (e::es) t)(B:attributeBase o "pop" X.env (eval o X.env)=eval o X.env:=by rfl)(J:((backTo cpos (starEach (e::es) X.env)).all (λx=>!x.1)&&(backToKw cpos (keywordEach [] X.env)).all (λx=>x.1.isSome)
   && decide ((e::es).length+([]:List Keyword).length+(if ([]:List Keyword).isEmpty then 0 else 1)<30))=true:=by rfl)(I:(apos.endLine==cpos.line)=true:=by rfl)(Y:starEach (e::es) X.env=(false,eval e X.env)::starEach es X.env:=by rfl)(q:(backTo cpos (starEach es X.env)).any (·.1)=false:=by rfl) :
  QE X (.Call (.Attribute o "pop" apos) (e::es) [] cpos) (tBM K "list" zo3 to t):=by
 subst L;exact zdX bB PySem.F.slot_list_pop PySem.F.type_list_pop zh3 O U B J I Y q
def zo8:Sp:=λvs H Q E=>∃ (p c a:Addr) (ns:AG) (n:Nat) (xs:AT),vs=[.ref p,.ref a]/\Pen H p c ns n/\n+xs.length<=1000000/\xs.length<=100000/\H a=some (.lst xs)/\
 ∀b ys H',H b=none->H' b=some (.lst ys)->ys.Perm xs->Pen H' p c ns (n+xs.length)->zu H H'->Q (.ref b) H'
def zm3(h:ys.Perm xs):∀ {l:AS},IsL G l xs->∃l':AS,l'.Perm l/\IsL G l' ys:=by
 induction h with
 | nil=>intro l h;exact⟨l,.refl _,h⟩
 | cons x _ J=>
  intro l h
  match l,h with
  | [],h=>exact absurd h (by intro z;cases z)
  | d::ds,⟨Z,r,e,h1,h2⟩=>
   cases e;obtain⟨l',p,B⟩:=J h2;exact⟨d::l',p.cons d,x,_,rfl,h1,B⟩
 | swap x y s=>
  intro l h
  match l,h with
  | [],h=>exact absurd h (by intro z;cases z)
  | [_],⟨_,_,e,_,h2⟩=>cases e;exact absurd h2 (by intro z;cases z)
  | d::e::ds,⟨_,_,q,h1,_,_,L,B,O⟩=>
   cases q;cases L;exact⟨e::d::ds,.swap _ _ _,_,_,rfl,B,_,_,rfl,h1,O⟩
 | trans _ _ F I=>
  intro l h;obtain⟨l1,U,h1⟩:=I h;obtain⟨Y,p2,h2⟩:=F h1;exact⟨Y,p2.trans U,h2⟩
def zjf:FV:=λPn q n R=>∃p c ns l,Pn=⟨some (p,c,ns),J0⟩/\q=[.pen p,.d (.lst l)]/\n+l.length<=1000000/\l.length<=100000/\∀l':AS,l'.Perm l->R (.d (.lst l')) (n+l.length)
def zkM:zvt 2 true zjf zo8:=by rintro vs H Q E ⟨Pn,A,ws,n,R,Y,Z,hl,L,⟨p,c,ns,l,rfl,rfl,h1,h2,h4⟩,q⟩;obtain⟨v,y,rfl,b1,b2⟩:=zvj Z;have e1:v = .ref p:=b1;subst e1;obtain⟨a,xs,rfl,ha,O⟩:=b2;have U:=O.length;show⟨p,c,a,ns,n,xs,rfl,L.1.1,by lia,by lia,zp _ _ ha,λb ys H' J F B P' S'=>?_⟩;obtain⟨l',pl,I⟩:=zm3 B O;show q _ _ _ H' (h4 l' pl) (xP I S' (Y.new J) F) ⟨S',⟨by right,L.1.2⟩,trivial⟩ λ_=>⟨b,rfl,.of J,b,ys,rfl,F,I.stay (yC S' (.of J))⟩
def zhC {α:Type}:∀ {l:List α} {k:Nat} (h:k<l.length),(l[k]::l.eraseIdx k).Perm l
 | [],_,h=>absurd h (by simp)
 | x::l,0,_=>.refl _
 | x::l,k+1,h=>by have:=zhC (l:=l) (k:=k) (by simpa using h);simp only[List.getElem_cons_succ,di];exact (List.Perm.swap x _ _).trans (this.cons x)
def ziK{xs ys zs:AT}(q:k<zs.length)(h:(ys++zs).Perm xs):(ys++[zs[k]]++zs.eraseIdx k).Perm xs:=by show .trans ?_ h;rw[bL];exact (zhC q).append_left ys
section
variable {X:Cx}{Pn:PN}{M S:AR}{fr fr':Bool}{e a b c:Expr}{es:AO}{f fa fb fc:AD}{pos p:Pos}
def zxg(h1:QI X tg e q)(h2:QI X tg e B):QI X tg e (λσ H R=>q σ H R\/B σ H R):=⟨λpins s σ H R I h=>h.elim (h1.run pins s σ H R I) (h2.run pins s σ H R I)⟩
def zwN (fa:AD):AC:=λρ n Q=>ztr fa ρ n Q\/zvD fa ρ n Q
def ztc(K:AH)(q:X.K=K)(h:JE X Pn M fr e f):JI X Pn M false tg e (zwN f):=by obtain⟨O,B,F⟩:=(yz (tg:=tg) K q h).ex;obtain⟨U,I,J⟩:=(za9 (tg:=tg) K q h).ex;exact⟨_,zxg B I,⟨λA σ H ρ n Q R E P L k=>L.elim (λz=>.inl (F.run A σ H ρ n Q R E P z k)) λz=>.inr (J.run A σ H ρ n Q R E P z k)⟩⟩
def uw.keys {κ:Type}{G:Hp}:∀ {kvs:List (κ×Dt)} {ks:List (κ×V)},uw G kvs ks->ks.map (·.1)=kvs.map (·.1)
 | [],_,h=>by cases h;rfl
 | q::r,_,⟨v,s,e,_,h⟩=>by subst e;rw[ax,ax,uw.keys h]
def WAt.mv(t:∀o,T ad=some o->T' ad=some o)(g:y4 G G')(m:w.mut=true)(h:WAt T G w (.ref ad)):WAt T' G' w (.ref ad):=by
 cases w with
 | d x=>
  cases x with
  | lst l=>obtain⟨a2,xs,e2,g1,g2⟩:=h;cases e2;exact⟨ad,xs,rfl,t _ g1,g2.stay (zu.same g)⟩
  | dct=>obtain⟨a2,xs,e2,g1,g2⟩:=h;cases e2;exact⟨ad,xs,rfl,t _ g1,g2⟩
  | _=>cases m
 | pen p=>cases m
 | dk k=>obtain⟨a2,xs,e2,g1,g2,g3⟩:=h;cases e2;exact⟨ad,xs,rfl,t _ g1,g2.stay (zu.same g),g3⟩
 | dt k=>obtain⟨a2,xs,e2,g1,g2⟩:=h;cases e2;exact⟨ad,xs,rfl,t _ g1,g2.stay (zu.same g)⟩
 | ss P w k=>obtain⟨a2,xs,e2,g1,g2⟩:=h;cases e2;exact⟨ad,xs,rfl,t _ g1,g2.stay (zu.same g)⟩
 | df k=>obtain⟨a2,ob,xs,e2,g1,g2⟩:=h;cases e2;exact⟨ad,ob,xs,rfl,t _ g1,g2.stay (zu.same g)⟩
 | kf k=>obtain⟨a2,ob,xs,e2,g1,g2⟩:=h;cases e2;exact⟨ad,ob,xs,rfl,t _ g1,g2.stay (zu.same g)⟩
 | ad a x=>cases m
 | fl k=>obtain⟨a2,ob,xs,e2,g1,g2⟩:=h;cases e2;exact⟨ad,ob,xs,rfl,t _ g1,g2.stay (zu.same g)⟩
def At3.move(h:At3 Pn B S M A σ H ρ n)(hj:j∈M)(hi:i∉M)(av:i∉S)(e:ρ[j]?=some (some w))(s:σ[j]?=some (some (.ref I))):At3 Pn B S M (λb=>A b/\b≠I) (σ.set i (some (.ref I))) H ((ρ.set j none).set i (some w)) n:=by
 obtain⟨v,s1,_,s3⟩:=h.env.val j w e;rw[s] at s1;cases s1;obtain⟨a2,e2,hA,an,ap⟩:=s3 hj;cases e2;have a3:i≠j:=λz=>hi (z ▸ hj);have J:∀b,(A b/\b≠I)->A b:=λb z=>z.1;have L:y4 (zM A H) (zM (λb=>A b/\b≠I) H):=yK J
 have Y:∀q (u:W),((ρ.set j none).set i (some w))[q]?=some (some u)->q≠i->q≠j/\ρ[q]?=some (some u):=λq u z hq=>by
  rw[au (Ne.symm hq)] at z;by_cases O:q=j;subst O;rw[List.getElem?_set] at z;right;rw[au (Ne.symm O)] at z;exact⟨O,z⟩
 have Z:¬ B.A0 I:=λz=>by
  rcases h.mine j w I hj e s with q | q;obtain⟨o,o1,o2,_⟩:=h.frm.al I z;exact q o o1 o2;exact h.frm.cn I q z
 have ag:Val (λb=>A b/\b≠I) H w (.ref I):=by exact WAt.mv (λo ho=>zv (λz=>z.2 rfl) ho) L ap an
 show⟨⟨?_,?_,?_,?_⟩,⟨λb z=>⟨h.frm.sub b z,λq=>Z (q ▸ z)⟩,λb z=>h.frm.new b z.1,h.frm.st,h.frm.al,h.frm.cn,h.frm.cs⟩,h.pn.less J,h.prot.trans (zu.same L),⟨λk hk=>?_,h.fix.2⟩,λk u b hk ek sk=>?_⟩;rw[bc,bc,bc];exact h.env.len;intro q u eq;by_cases hq:q=i;subst hq
 have U:q<(ρ.set j none).length:=by
  have:=(ac.mp eq).1;right
 rw[aL U] at eq;cases eq;rw[bc] at U;show⟨.ref I,aL (by rw[h.env.len];exact U),λ_=>ag,λz=>absurd z hi⟩;obtain⟨O,z⟩:=Y q u eq hq;obtain⟨v,t1,t2,t3⟩:=h.env.val q u z;show⟨v,by rw[au (Ne.symm hq)];exact t1,λy=>WAt.up (zu.same L) (zu.same L) (t2 y),λy=>?_⟩;obtain⟨b,rfl,hb,a0,hm⟩:=t3 y;show⟨b,rfl,⟨hb,λq'=>?_⟩,WAt.up (zu.refl _) (zu.same L) a0,hm⟩;subst q';exact h.env.dis j q w u b hj y (Ne.symm O) e z s t1;intro q k u u' b hq hk a1 e1 e2;have as:q≠i:=λz=>hi (z ▸ hq);have F:k≠i:=λz=>hi (z ▸ hk);rw[au (Ne.symm as),au (Ne.symm F)];exact h.env.dis q k u u' b hq hk a1 (Y q u e1 as).2 (Y k u' e2 F).2;exact λb z=>h.env.al b z.1;have F:k≠i:=λz=>av (z ▸ hk);rw[au (Ne.symm F)];exact h.fix.1 k hk;have F:k≠i:=λz=>hi (z ▸ hk);rw[au (Ne.symm F)] at sk;exact h.mine k u b hk (Y k u ek F).2 sk
def zqo (i j:Nat):Ms:=λρ n k=>∃w,ρ[j]?=some (some w)/\k.nx ((ρ.set j none).set i (some w)) n
def zg1(j:Nat){x y:Str}{px L sp:Pos}(Y:X.N.Nodup)(hi:X.N[i]?=some x)(Z:Loc X.env.scope x)(O:j∈M:=by ext)(q:i∉M:=by ext)(F:i∉S:=by ext)(I:X.N[j]?=some y:=by rfl)(hv:Vis X.env.scope y:=by walk_at "v")(hd:Ah y:=by ext)(J:(y==("__classdict__" : Str))=false:=by ext)(hs:swapsWith (.Name y L) (some (.Name x px)) sp.line X.env=pure false:=by rfl)(hf:X.fn x=true\/X.env.scope.names.lookup x=some .local:=by walk_at "l"):JS X Pn S M fr (.Assign [.Name x px] (.Name y L) sp) (zqo i j):=by
 show⟨_,xR (i:=i) Y hi Z (qv j I hv hd J) hs hf,⟨ ?_⟩⟩;rintro B A σ H ρ n k D a kk ⟨w,e,r⟩;obtain⟨v,U,_,s3⟩:=a.env.val j w e;obtain⟨ad,rfl,hA,_,_⟩:=s3 O;exact⟨.ref ad,U,kk.nx _ _ H _ n (a.move O q F e U) r⟩
end
end L3
namespace L3
open L2
structure StOk (rm st:AG):Prop where
 len:st.length=rm.length
 box:∀b:Int,0<=b->b<rm.length->0<=yt st b/\yt st b<yt rm b
def uN:∀ (ns:AG),(∀n∈ns,1<=n)->((xn (ns.map zk)).length:Int)=yH ns:=by
 have:∀ (k:Nat) (ns:AG),ns.length=k->(∀n∈ns,1<=n)->((xn (ns.map zk)).length:Int)=yH ns:=by
  intro k
  induction k with
  | zero=>intro ns e _;rw[bi e];rfl
  | succ k B=>
   intro ns e h
   obtain⟨m,x,rfl⟩:∃m x,ns=m++[x]:=by
    have q:ns≠[]:=by intro z;rw[z] at e;cases e
    exact⟨ns.dropLast,ns.getLast q,(bj q).symm⟩
   rw[aj] at e;rw[az,ax,dz,xa,uz,uH,zK];have h1:=B m (by simpa using e) λn F=>h n (bS _ F);have h2:=h x (aZ _ (by simp));rw[Int.natCast_mul,h1,bX (by lia)]
 right
def zbn:∀ {ns:AG},(∀n∈ns,1<=n)->1<=yH ns:=λ{ns} h=>by
 have h1:=uN ns h
 have:∀ (ns:AG) (a:Int),1<=a->(∀n∈ns,1<=n)->1<=ns.foldl (· * ·) a:=by
  intro ns
  induction ns with
  | nil=>intro a q _;exact q
  | cons n ns F=>
   intro a q B;show F (a * n) ?_ λm I=>B m (am _ I);have:=B n ak;exact Int.le_trans (by ext) (cU q this (by ext) (by lia))
 exact this ns 1 (by ext) h
def zlC {ns:AG}(q:ns≠[])(h:∀n∈ns,2<=n):2<=yH ns:=by
 obtain⟨m,x,rfl⟩:∃m x,ns=m++[x]:=⟨ns.dropLast,ns.getLast q,(bj q).symm⟩;rw[uH];have h1:=zbn (ns:=m) λn B=>by have:=h n (bS _ B);lia
 have h2:=h x (aZ _ (by simp));exact Int.le_trans (by simp) (cU h1 h2 (by ext) (by lia))
def zmW (a b:AG)(k:Nat):Wi:=⟨((List.range a.length).filter λi=>!decide (i=k)).map λi:Nat=>((i:Int),a.getD i 0),(k:Int),b.getD k 0,a.getD k 0⟩
def zmX {rm a b:AG}{k:Nat}(J:StOk rm a)(L:StOk rm b)(O:k<a.length)(F:a.getD k 0≠b.getD k 0):WishOk rm (zmW a b k):=by
 have U:=J.len;have A:∀i:Nat,i<rm.length->0<=a.getD i 0/\a.getD i 0<yt rm (i:Int):=λi hi=>by have:=J.box (i:Int) (by lia) (by lia);rwa[ym] at this
 have Bb:∀i:Nat,i<rm.length->0<=b.getD i 0/\b.getD i 0<yt rm (i:Int):=λi hi=>by have:=L.box (i:Int) (by lia) (by lia);rwa[ym] at this
 have B:k<rm.length:=by lia
 show⟨⟨λq I=>?_,?_⟩,by change (0:Int)<=(k:Int);lia,by change (k:Int)<_;lia,λq I=>?_,(Bb k B).1,(Bb k B).2,(A k B).1,(A k B).2,λz=>F z.symm⟩;obtain⟨i,hi,rfl⟩:=aF.mp I;right;change List.Pairwise (λa b:Int×Int=>a.1<b.1) (((List.range a.length).filter λi=>!decide (i=k)).map λi:Nat=>((i:Int),a.getD i 0));rw[bD];show List.Pairwise.imp (R:=λi j:Nat=>i<j) (λ{i j} h=>?_) (List.Pairwise.filter _ List.pairwise_lt_range);grind;obtain⟨i,hi,rfl⟩:=aF.mp I;have:=(aN.mp hi).2;change (i:Int)≠(k:Int);grind
def zv0 (rm:AG)(bk:AW)(g:List (Int×Int)):AF:=(zwI rm g).filter λst=>decide (zbE bk st (g.map (·.1))=[])
abbrev xp (bk:AW):Dt:=.tup (bk.map zU)
def yS (rm:AG)(bk:AW):Prop:=∀x∈bk,WishOk rm x
def zh7 (x:Wi):(zU x).noL=true:=by have h:=zqv x.g;unfold zU;simp only[Dt.noL,Dt.noLs,cv,Bool.true_and] at h ⊢;exact h
abbrev F_bett:FV:=λ_ B n R=>∃rm bk st q,B=[.d (stD rm),.d (xp bk),.d (stD st),.d (stD q)]/\RoomOk rm/\yS rm bk/\st.length=rm.length/\R (.d (uu (zop bk st q))) n
abbrev zvm:FV:=λ_ q n R=>∃rm bk g,q=[.d (stD rm),.d (xp bk),.d (zfc g)]/\RoomOk rm/\yS rm bk/\Giv rm g/\R (.d (uu (zv0 rm bk g))) n
def xV (r:Nat):zff 0 r=(List.range r).map λk:Nat=>W.d (.int (k:Int)):=by
 unfold zff;right
def zec {ns:AG}(I:ns.length<=8)(q:∀m∈ns,2<=m/\m<=4)(k:Nat):(xn ((ns.take k).map zk)).length<=65536:=by
 have:=zhA (cs:=ns.map zk) (by right) (λc B=>by obtain⟨m,F,rfl⟩:=aF.mp B;have:=q m F;rw[zK];lia) k;right
def zcF{q:AF}(h:i<q.length):q.getD i []∈q:=by right
def zso {L:AS}{a:Int}{G:Dt->Prop}(q:0<=a)(h1:a<L.length)(h:∀x∈L,G x):∃x,atI L a=some x/\G x:=by obtain⟨d,h2,B⟩:=zsp q h1;exact⟨d,h2,h d B⟩
def zbY:∀ {rm:AG},(∀r∈rm,2<=r/\r<=4)->yH rm<=256->rm.length<=8:=λ{rm} B J=>by
 have:∀ (k:Nat) (rm:AG),rm.length=k->(∀r∈rm,2<=r/\r<=4)->(2:Int) ^ k<=yH rm:=by
  intro k
  induction k with
  | zero=>intro rm e _;rw[bi e];decide
  | succ k I=>
   intro rm e B
   obtain⟨m,x,rfl⟩:∃m x,rm=m++[x]:=by
    have q:rm≠[]:=by intro z;rw[z] at e;cases e
    exact⟨rm.dropLast,rm.getLast q,(bj q).symm⟩
   rw[aj] at e;have h1:=I m (by simpa using e) λn F=>B n (bS _ F);have h2:=B x (aZ _ (by simp));rw[uH,Int.pow_succ];have L:(0:Int)<=2 ^ k:=Int.pow_nonneg (by ext);exact cU h1 h2.1 (by ext) (by lia)
 apply bv;intro F;have h1:=this _ rm rfl B
 have h2:(2:Int) ^ 9<=2 ^ rm.length:=by
  have:(2:Nat) ^ 9<=2 ^ rm.length:=cx (by ext) (by lia)
  exact_mod_cast this
 grind
def zjP {a b:AG}(B:a.length=b.length)(q:a≠b):∃k z4,((List.range a.length).filter λk=>!decide (a.getD k 0=b.getD k 0))=k::z4/\k<a.length/\a.getD k 0≠b.getD k 0:=by
 cases h:(List.range a.length).filter λk=>!decide (a.getD k 0=b.getD k 0) with
 | nil=>
  exfalso;apply q;apply cY B;right
 | cons k z4=>
  have F:k∈(List.range a.length).filter λk=>!decide (a.getD k 0=b.getD k 0):=by rw[h];simp
  obtain⟨h1,h2⟩:=aN.mp F;right
def StOk.snoc {rm st:AG}{w v:Int}(h:StOk rm st)(I:0<=v)(J:v<w):StOk (rm++[w]) (st++[v]):=by
 have L:=h.len;show⟨by right,λb q B=>?_⟩;rw[aj] at B;by_cases F:b<(rm.length:Int);rw[zbT q (by lia),zbT q F];exact h.box b q F
 have e:b=(rm.length:Int):=by
  have:b<(rm.length:Int)+1:=by simpa using B
  lia
 subst e;rw[zbS,<- L,zbS];exact⟨I,J⟩
def zi5 {sts q B:AF}{k w:Nat}(I:k<sts.length)(Z:sts.Nodup)(h1:q.Nodup)(h2:∀x∈q,∃a∈sts.take k,∃v:Int,0<=v/\v<w/\x=a++[v])(h3:q.length=k * w)(J:B.Perm ((List.range w).map λv:Nat=>sts.getD k []++[(v:Int)])) :
  (q++B).Nodup/\(∀x∈q++B,∃a∈sts.take (k+1),∃v:Int,0<=v/\v<w/\x=a++[v])/\(q++B).length=(k+1) * w:=by
 have L:sts.getD k []=sts[k]:=by simp[I]
 have ht:sts.take (k+1)=sts.take k++[sts[k]]:=zn (ah I)
 have O:∀x∈B,∃v:Int,0<=v/\v<w/\x=sts[k]++[v]:=λx F=>by
  obtain⟨v,hv,rfl⟩:=aF.mp (J.mem_iff.mp F);right
 have nB:B.Nodup:=by
  show J.nodup_iff.mpr ?_;change List.Pairwise _ _;rw[bD];show List.Pairwise.imp (λ{a b} h e=>h ?_) dJ;have:=List.append_cancel_left e;grind
 have ad:sts[k]∉sts.take k:=λz=>by have U:=Z;rw[<- List.take_append_drop k sts,List.drop_eq_getElem_cons I] at U;exact (cS.mp U).2.2 _ z _ ak rfl
 show⟨cS.mpr ⟨h1,nB,λx F y hy e=>?_⟩,λx F=>?_,?_⟩;obtain⟨a,Y,v,_,_,rfl⟩:=h2 x F;obtain⟨u,_,_,rfl⟩:=O y hy;right;rw[ht];rcases a9.mp F with z | z;obtain⟨a,Y,r⟩:=h2 x z;exact⟨a,bS _ Y,r⟩;obtain⟨v,r⟩:=O x z;exact⟨_,aZ _ (by simp),v,r⟩;rw[aj,h3,J.length_eq,ab,aw,fj]
def xq {α q:Type}(f:α->q)(l:List α)(lo hi:AQ):xY (l.map f) lo hi=(xY l lo hi).map f:=by
 unfold xY;right
def zps {α:Type}{l:List α}{lo hi:AQ}{x:α}(h:x∈xY l lo hi):x∈l:=List.mem_of_mem_drop (bT h)
def zbC {α:Type}(l:List α)(lo hi:AQ):(xY l lo hi).length<=l.length:=by unfold xY;rw[aM,cH];lia
def zsx {st:AG}{b w:Int}(q:0<=b):xY st none (some b)++[w]++xY st (some (b+1)) none=chg st b w:=by
 have h:=zpl st (w:=w) q;have B:zdq (st.map V.int) none (some b)=(xY st none (some b)).map V.int:=by rw[<- xq];rfl
 have F:zdq (st.map V.int) (some (b+1)) none=(xY st (some (b+1)) none).map V.int:=by rw[<- xq];rfl
 rw[B,F] at h;have I:(xY st none (some b)).map V.int++[V.int w]++(xY st (some (b+1)) none).map V.int=(xY st none (some b)++[w]++xY st (some (b+1)) none).map V.int:=by rw[az,az];rfl
 rw[I] at h;exact List.map_inj_right (by grind) |>.mp h
def ziU {l:AF}(h:l.Nodup){k:Nat}(q:k+1<l.length):l.getD k []≠l.getD (k+1) []:=by have:=bY.mp h k (k+1) (by lia) q (by lia);simpa [show k<l.length by lia,q] using this
def yS.cut{rm:AG}(h:yS rm bk)(lo hi:AQ):yS rm (xY bk lo hi):=λx q=>h x (zps q)
def yS.app{rm:AG}(h:yS rm bk)(h':yS rm q):yS rm (bk++q):=λx B=>(a9.mp B).elim (h x) (h' x)
def yS.set{rm:AG}(h:yS rm bk)(q:WishOk rm x)(i:Nat):yS rm (bk.set i x):=λy B=>(List.mem_or_eq_of_mem_set B).elim (h y) λe=>e ▸ q
def yS.ins{rm:AG}(h:yS rm bk)(q:WishOk rm x)(i:Nat):yS rm (zoK bk i x):=λy B=>by
 rcases a9.mp B with z | z;exact h y (bT z);rcases aJ.mp z with rfl | z;exact q;exact h y (List.mem_of_mem_drop z)
def zpT {α q:Type}(f:α->q)(l:List α)(i:Nat)(x:α):zoK (l.map f) i (f x)=(zoK l i x).map f:=by
 unfold zoK;right
def zpS {α:Type}(l:List α)(i:Nat)(x:α):(zoK l i x).length=l.length+1:=by
 unfold zoK;grind
def unI:Dt->Int
 | .int i=>i
 | _=>0
def zci {α:Type}(l:List α)(k:Nat):xY l none (some (k:Int))=l.take k:=by
 unfold xY;rw[HT.sIx_none,HT.sIx_nat,eL,fg];grind
def zbv:∀ (ns st:AG),st∈xn (ns.map zk)->StOk ns st:=by
 have:∀ (k:Nat) (ns:AG),ns.length=k->∀st,st∈xn (ns.map zk)->StOk ns st:=by
  intro k
  induction k with
  | zero=>
   intro ns e st q;rw[bi e] at q ⊢;rw[aD.mp q];exact⟨rfl,λb U F=>absurd F (by simp;lia)⟩
  | succ k I=>
   intro ns e st q
   obtain⟨m,x,rfl⟩:∃m x,ns=m++[x]:=by
    have B:ns≠[]:=by intro z;rw[z] at e;cases e
    exact⟨ns.dropLast,ns.getLast B,(bj B).symm⟩
   rw[aj] at e;rw[az,ax,dz,xa] at q;obtain⟨r,J,q⟩:=List.mem_flatMap.mp q;obtain⟨v,L,rfl⟩:=aF.mp q;obtain⟨j,O,rfl⟩:=aF.mp L;have:=aX.mp O;exact (I m (by simpa using e) r J).snoc (by lia) (by lia)
 right
def ziw:∀ (B st:AG),ziW (B.map Dt.int) (st.map Dt.int)=(B.zip st).map λq=>W.d (zQ q)
 | [],_=>by cases ‹AG› <;> rfl
 | _::_,[]=>rfl
 | q::B,s::st=>by change _::ziW (B.map Dt.int) (st.map Dt.int)=_::_;rw[ziw B st];rfl
def zhi {κ:Type}[DecidableEq κ](kvs:List (κ×Dt))(k:κ)(d:Dt):(zfe kvs k d).length<=kvs.length+1:=by
 unfold zfe;split
 all_goals right
def zdK (bk:AW)(x:Wi)(st q:AG):zbE (bk++[x]) st q=zbE bk st q++(if (zaS st x&&!q.contains x.b)=true then [chg st x.b x.r] else []):=by
 unfold zbE;grind
def zbD {ns:AG}:(Dt.lst (ns.map .int)).eqOk:=zcC (ns:=ns)
def zpk{st:AG}{b x:Int}(q:0<=b)(B:st.length<=1000)(h:Q (.d (stD (chg st b x))) n):zgN (.d (.tup (xY (st.map Dt.int) none (some b)))) (.d (.tup [.int x])) n λw m=>zgN w (.d (.tup (xY (st.map Dt.int) (some (b+1)) none))) m Q:=by
 have F:=zbC st none (some b);have I:=zbC st (some (b+1)) none;rw[xq,xq];show⟨_,_,rfl,rfl,by rw[ab];exact ar (by simp;lia:_<=1001) (by ext),_,_,rfl,rfl,by rw[aj,ab,ab];exact ar (by simp;lia:_<=2001) (by ext),?_⟩;have e:(xY st none (some b)).map Dt.int++[Dt.int x]++(xY st (some (b+1)) none).map Dt.int=(chg st b x).map Dt.int:=by rw[<- zsx q,az,az];rfl
 rw[e];exact h
section
variable {X:Cx}{Pn:PN}{M S:AR}{fr fr':Bool}{e a b c:Expr}{es:AO}{f fa fb fc:AD}{pos p:Pos}
def zk3 (t:Ev->Mo Bool)(fb:Ms):Ms:=λρ n k=>∃I:Nat->Ev->Nat->Prop,(∃m,I m ρ n)/\
 ∀m q L,I m q L->t q L λb O=>if b=true then fb q O { k with nx:=λB J=>∃F,F<m/\I F B J,ct:=λB J=>∃F,F<m/\I F B J,bk:=k.nx } else k.nx q O
def zcn {body:List Stmt}{t:Ev->Mo Bool}{fb:Ms}(hp:PassesOwn (model X.prog X.w) X.A X.env X.xe)(hc:JT X Pn M c t)(hb:JSs X Pn S M fr body fb):JS X Pn S M fr (.While c body [] pos) (zk3 t fb):=by
 obtain⟨tc,qc,rc⟩:=hc.ex;obtain⟨tb,qb,rb⟩:=hb.ex;show⟨_,⟨znK hp qc.run qb.run⟩,⟨ ?_⟩⟩;rintro B A σ H ρ n k D a kk ⟨I,⟨m0,i0⟩,it⟩;show⟨λm F H'=>∃A' q O,At3 Pn B S M A' F H' q O/\I m q O,⟨m0,A,ρ,n,a,i0⟩,?_⟩;rintro m F H' ⟨A',q,O,a',hI⟩;show rc.run A' F H' q O _ _ a'.env a'.pn (it m q O hI) λb n2 H2 r g=>?_;have a2:=a'.step g
 cases b with
 | false=>
  rw[if_neg (by ext)] at r ⊢;exact kk.nx A' F H2 q n2 a2 r
 | true=>
  rw[if_pos rfl] at r ⊢;show⟨λZ H3=>∃A' q O,At3 Pn B S M A' Z H3 q O/\∃L,L<m/\I L q O,λZ H3 ⟨A3,ad,n3,a3,L,hm,h⟩=>⟨L,hm,A3,ad,n3,a3,h⟩,?_⟩;show rb.run B A' F H2 q n2 { k with nx:=λU n3=>∃L,L<m/\I L U n3,ct:=λU n3=>∃L,L<m/\I L U n3,bk:=k.nx } _ a2 ⟨?_,?_,?_,kk.fc,?_⟩ r;exact λA4 Y H4 J n4 a4 r4=>⟨A4,J,n4,a4,r4⟩;exact λA4 Y H4 J n4 a4 r4=>kk.nx A4 Y H4 J n4 a4 r4;exact λA4 Y H4 J n4 a4 r4=>⟨A4,J,n4,a4,r4⟩;exact kk.rt
def zmk{t:Ev->Mo Bool}{fb:Ms}{ρ:Ev}{k:Kt}(I:Nat->Ev->Nat->Prop)(L:Nat)(Y:I L ρ n)(h:∀m q O,I m q O->t q O λb U=>if b=true then fb q U { k with nx:=λB J=>∃F,F<m/\I F B J,ct:=λB J=>∃F,F<m/\I F B J,bk:=k.nx } else k.nx q U):zk3 t fb ρ n k:=⟨I,⟨L,Y⟩,h⟩
end
end L3
namespace L2
open PyProof.Rows
def zaK(ke ve gens scope pos):eval (.DictComp ke ve gens scope pos) env=comprehension (.DictComp ke ve gens scope pos) scope env (firstIterPos gens pos) newDict (firstAsync gens) (firstIter gens env):=rfl
def zej (ke ve target iter:Expr)(ifs:AO)(scope:Scope)(pos:Pos)(it:Value)(d:Addr)(env:Env) :
  compTurn (.DictComp ke ve [⟨target,iter,ifs,0⟩] scope pos) 0 it (.ref d) env=(do
   standAt iter.pos
   match <- pyNext it with
   | none=>pure (.done .next)
   | some v=>
    letOwnedTupleGo target it v
    assign target env v
    let mut ok:=true
    for c in ifs do
     if ok then ok <- isTrue c env (eval c env)
    if ok then
     (do
      let kv <- eval ke env
      let vv <- holding [kv] (eval ve env)
      standAt { ke.pos with endLine:=ve.pos.endLine,endCol:=ve.pos.endCol }
      holding [kv,vv] (dictSet d kv vv))
    again (.compLoop (.DictComp ke ve [⟨target,iter,ifs,0⟩] scope pos) 0 it (.ref d) env)):=by rfl
section
variable {prog:Aa}{w:Ab}{A:Ae}{E:AA}{R:Result->AZ->Prop}{s:AZ}
def zaa {ke ve target iter ifs z4 scope pos it acc env}
  (h0:codeAny (model prog w) A (.compLoop (.DictComp ke ve (⟨target,iter,ifs,0⟩::z4) scope pos) 0 it acc env) R s)
  (h:Ag prog w A (pyIter it) (λit' s'=>codeAny (model prog w) A (.compLoop (.DictComp ke ve (⟨target,iter,ifs,0⟩::z4) scope pos) 0 it' acc env) R s')
   (notedBy (model prog w) A env λx s'=>R (.error x) s') s) :
  codeAny (model prog w) A (.compStart (.DictComp ke ve (⟨target,iter,ifs,0⟩::z4) scope pos) 0 it acc env) R s:=by
 show dh ?_;change wpAny _ _ ((compStart (.DictComp ke ve (⟨target,iter,ifs,0⟩::z4) scope pos) 0 it acc env).onRaise (λx=>do noteFrame x env;standAt theWindowsPlace)) _ _ s;show wpAny_notedAt ?_;unfold compStart;change wpAny _ _ (ask >>= _) _ _ s;show aa (bn (wpAny_ite ?_));split
 first
  | exact aa (by grind)
  | exact ae (And.intro rfl h0)
 first
  | exact aa (by grind)
  | (show aa (fq ?_);change wpAny _ _ (standAt iter.pos >>= _) _ _ s;exact aa (bJ (aa (aW h (λit' s' h'=>ae (And.intro rfl h')) λ_ _ x=>x))))
def zbB(I:Nat->AZ->Prop)(turn:∀n s,I n s->Ag prog w A (pyNext it) (λr s₁=>match r with
   | none=>R (.ok .next) s₁
   | some v=>Ag prog w A (letOwnedTupleGo target it v) (λ_ s₂=>Ag prog w A (assign target env v) (λ_ s₃=>
     Ag prog w A (forIn ifs true λc r=>if r=true then do let ok <- isTrue c env (eval c env);pure (ForInStep.yield ok) else pure (ForInStep.yield r)) (λok s₄=>
      if ok=true then Ag prog w A (eval ke env) (λx s₅=>Ag prog w A (eval ve env) (λy s₆=>
       Ag prog w A (dictSet d x y) (λ_ s₇=>∃m,m<n/\I m s₇) (λ_ _=>False) s₆) (λ_ _=>False) s₅) (λ_ _=>False) s₄
      else ∃m,m<n/\I m s₄) (λ_ _=>False) s₃) (λ_ _=>False) s₂) (λ_ _=>False) s₁) (λ_ _=>False) s)(n:Nat)(h:I n s) :
  codeAny (model prog w) A (.compLoop (.DictComp ke ve [⟨target,iter,ifs,0⟩] scope pos) 0 it (.ref d) env) R s:=by
 show eC rfl I (λn s hI=>?_) n h;change wpAny _ A ((compTurn (.DictComp ke ve [⟨target,iter,ifs,0⟩] scope pos) 0 it (.ref d) env).onRaise (λx=>do noteFrame x env;theTreesLotGoes x)) _ _ s;show eW ?_;rw[zej];show aa (bJ (aa (aW (turn n s hI) (λr s₁ h₁=>?_) λ_ _ h'=>h'.elim)))
 cases r with
 | none=>exact ae h₁
 | some v=>
  show aa (aW h₁ (λ_ s₂ h₂=>?_) λ_ _ h'=>h'.elim);show aa (aW h₂ (λ_ s₃ h₃=>aa (aW h₃ (λok s₄ h₄=>?_) λ_ _ h'=>h'.elim)) λ_ _ h'=>h'.elim)
  cases ok with
  | false=>exact ae ⟨rfl,h₄⟩
  | true=>
   show aa (aa (aW h₄ (λx s₅ h₅=>?_) λ_ _ h'=>h'.elim));show aa (bq (aW h₅ (λy s₆ h₆=>?_) λ_ _ h'=>h'.elim));show aa (bJ (bq (aW h₆ (λ_ s₇ h₇=>?_) λ_ _ h'=>h'.elim)));exact ae ⟨rfl,h₇⟩
def ziT(h:Q (.ref s.heap.objs.size) { s with heap:=s.heap.push { cls:=.type "dict",data:=.dict #[] } }):Ag prog w A (newDict) Q E s:=by simp only[newDict,newObj];exact aa (eZ (ae h))
variable {X:Cx}{pins:AB}{σ:St}{H:Hp}{a:Addr}{y v:V}{u r:Value}{o:Option V}
def zft(hu:A.units+1<cLine)(I:Inv X pins σ H s)(g:zdB H a y v H')(ry:yG y u)(rv:yG v r)(h:∀s',Inv X pins σ H' s'->Q () s') :
  wpAny (model X.prog X.w) A (dictSet a u r) Q E s:=by
 rcases g with ⟨kvs,k,e,ey,l,eH⟩ | ⟨kvs,k,b,e,ey,eb,l,eH⟩;subst ey eH;obtain⟨z,L,vs,B,O⟩:=zpy I.hok e;have U:vs.length<=sizeLine:=by rw[<- B.length];exact z
 have Y:(zae kvs k v).length<=sizeLine:=by have:=x9 kvs k v;lia
 show wpAny_dictSet_pairs (hsz:=U) (ziQ ry) O λh' F Z=>h _ ?_;have he:∃q,h'.get? a=some q:=let ⟨q,_,_,J,_⟩:=F;⟨q,J⟩;exact zcB I (by rw[e];exact True.intro) Z he (zjR Y L (B.put k rv) F);subst ey eH;cases (show u=Value.ref b from ry);obtain⟨z,L,xs,B,O⟩:=zsM I.hok e;have U:xs.length<=sizeLine:=by rw[<- dQ B];exact z
 have Y:(zae kvs k v).length<=sizeLine:=by have:=x9 kvs k v;lia
 show wpAny_dictSet_heap (hsz:=U) (Nat.lt_of_succ_lt hu) (zfQ I.hok eb) O λh' F Z=>h _ ?_;obtain⟨q,es,ep,J,h2,h3,h4,_,h5⟩:=F;show zcB I (by rw[e];exact True.intro) Z ⟨q,J⟩ ⟨Y,L,_,(B.put k eb rv).keeps λc ys ec=>?_,q,es,ep,J,h2,h3,h4,h5⟩;rw[zf (by grind)];exact ec
end
def zwm (g:TG)(ti:TT)(tk tv:TE)(acc:Addr)(N:St->Hp->Prop)(x:V)(σ:St)(H:Hp):Prop:=
 g x σ H λq H3=>ti q H3 λB H4=>if B=true then tk q H4 λy H5=>tv q H5 λv H6=>∃H7,zdB H6 acc y v H7/\N q H7 else N q H4
def zwl (J:It)(g:TG)(ti:TT)(tk tv:TE)(acc:Addr)(Q:VK)(σ:St)(H:Hp):Prop:=∃W:Nat->Nat->St->Hp->Prop,(∃m,W 0 m σ H)/\
 ∀i m q H',W i m q H'->(J.stop i H'/\Q (.ref acc) H')\/(J.go i H'/\∃N:St->Hp->Prop,(∀ B H2,N B H2->∃F,F<m/\W (i+1) F B H2)/\∀x H2,J.yld i H' x H2->zwm g ti tk tv acc N x q H2)
def zgq (o0:HO)(wi:TI)(g:TG)(ti:TT)(tk tv:TE)(cix:List (Option Nat)):TE:=λσ H Q=>wi σ H λJ H1=>∀acc,H1 acc=none->zwl J g ti tk tv acc Q (u4 σ cix) (upd H1 acc o0)
section
variable {X:Cx}{Fam:Cx->Prop}{scope:Scope}{N:AM}{cix:List (Option Nat)}{z:Str}{use:Option (Value->Sem Unit)}{Qp:AA}{elt ke ve tg iter tg2 iter2:Expr}{ifs ifs2:AO}{pos ipos spos px:Pos}{wi wi2:TI}{g g2:TG}{ti ti2:TT}{te tk tv:TE}{pins:AB}{σ:St}{H:Hp}{s:AZ}{Q:VK}{o0:HO}
def zfu (Y:o0 = .dK []\/o0 = .dT [])(hu:X.A.units+1<cLine)(O:Opn X scope cix Fam)(hc:X.calm=true)(hi:PI X tg iter wi)(hg:∀X',Fam X'->PG X' tg g)(ht:∀X',Fam X'->PTs X' ifs ti)(hk:∀X',Fam X'->PE X' ke tk)(hv:∀X',Fam X'->PE X' ve tv)(hs:∀x,foldedSetIterable iter X.env x=pure x)(I:Inv X pins σ H s)
  (h:zgq o0 wi g ti tk tv cix σ H Q) (F:zvR X pins σ use Qp Q) :
  Af X (comprehension (.DictComp ke ve [⟨tg,iter,ifs,0⟩] scope pos) scope X.env ipos newDict false (eval iter X.env) use) Qp X.xe s:=
 za0 (ob:={ cls:=.type "dict",data:=.dict #[] }) (o0:=λ_=>o0) (Fin:=λacc H=>Q (.ref acc) H) (B:=λX' acc P s=>wpAny (model X'.prog X'.w) X'.A (eval ke X'.env) (λx s5=>wpAny (model X'.prog X'.w) X'.A (eval ve X'.env) (λy s6=>wpAny (model X'.prog X'.w) X'.A (dictSet acc x y) (λ_ s7=>P s7) (λ_ _=>False) s6) (λ_ _=>False) s5) (λ_ _=>False) s) (tb:=λacc Nx σ H=>tk σ H λy H5=>tv σ H5 λv H6=>∃H7,zdB H6 acc y v H7/\Nx σ H7) O hc rfl hs (λ_ _ _ _ _ h0 h1=>zaa h0 h1) (λ_ _ _ _ _ _ I L n h=>zbB I L n h) (λs Q h=>ziT h) (λ{_ _ _ s} I _=>by
  rcases Y with rfl | rfl;exact zhK s.heap I.big
  exact zhL s.heap I.big) hi hg ht (λX' hF pX wX AX _ xX acc pl s σ H Nx P I q k=>by
  have e9:=hk X' hF pl s σ H _ I q;rw[xX] at e9;show thn e9 ?_;rintro u2 Z ⟨y,H10,I10,ad,ag⟩;have U:=hv X' hF pl Z σ H10 _ I10 ag;rw[xX] at U;show thn U ?_;rintro u3 an ⟨v,H11,I11,al,H12,dp,nx⟩;exact zft (by rw[AX];exact hu) I11 dp ad al λs' I'=>k _ _ _ I' nx) I h (λJ H1 acc q hn=>q acc hn) F
end
def zhj{X:Cx}{tk tv:TE}{ifs:AO}{scope:Scope}{wi:TI}{g:TG}{ti:TT}{N:AM}{o0:HO}(B:o0 = .dK []\/o0 = .dT [])(F:X.A.units+1<cLine)(J:X.calm=true)(c:CompOk X scope N cix)(hi:QI X tg iter wi)(L:∀C s H ex,QG (zA X scope N C s H ex) tg g)(O:∀C s H ex,QTs (zA X scope N C s H ex) ifs ti)(U:∀C s H ex,QE (zA X scope N C s H ex) ke tk)(Y:∀C s H ex,QE (zA X scope N C s H ex) ve tv)(Z:∀x,foldedSetIterable iter X.env x=pure x:=by intro _;rfl):QE X (.DictComp ke ve [⟨tg,iter,ifs,0⟩] scope pos) (zgq o0 wi g ti tk tv cix):=⟨λpins s σ H Q I h=>by
 rw[zaK];exact zfu B F (zas c) J hi.run (zdJ λC s H ex=>(L C s H ex).run) (zdJ λC s H ex=>(O C s H ex).run) (zdJ λC s H ex=>(U C s H ex).run) (zdJ λC s H ex=>(Y C s H ex).run) Z I h λ_ _ _ _ _ hm hb q=>za2 hm hb q⟩
def zfW:typeLookup (.type "list") "keys" = pure none:=by rw[typeLookup_type,dD];kernel_rfl
def zdn {prog:Aa}{w:Ab}{A:Ae}{E:AA}{s:AZ}{a:Addr}{xs:AK}{k:Nat}{name:Str}{Q:AJ->AZ->Prop}
  (hx:s.heap.get? a=some { cls:=.type "list",data:=.seq xs k }) (hmiss:typeLookup (.type "list") name=pure none) (hname:(["__module__","__name__","__qualname__","__doc__","__annotations__"]:AM).contains name=false) (hA:A.handled=none)
  (h:∀h' tk e,Heap.NewExcOf s.heap h' e "AttributeError" -> Q none { s with heap:=h',toks:=tk }) (hsz:name.length+100<=sizeLine:=by size_fits) :
  Ag prog w A (getAttr? (.ref a) name) Q E s:=by
 obtain⟨hp,g,d,tk,os⟩:=s;have hT:∀tk',(⟨hp,g,d,tk',os⟩:AZ).TypeIs (.ref a) "list" := λ_=>⟨_,hx,rfl⟩;have f1:=sub_AttributeError;have f3:=F.slot_list_getattribute.lookup;have f4:=F.slot_list_getattribute.bind (.ref a);have f5:=am_list_getattr_none;unfold getAttr? getAttrBy? getAttrBy
 repeat (any_goals (first | assumption | exact hT _ | ((with_reducible show wpAny _ _ (call (Value.builtin "list.__getattribute__") _ _) _ _ _);show c9 F.slot_list_getattribute (hT _) am_entry_list_getattribute (F.args_list_getattribute_2 _ _) (meets_getattribute_miss_list a xs k #[] name _ hmiss hname hsz) ⟨hx,hA,λh' tk e hx'=>?_⟩) | wp_step))
 obtain⟨t',u',he⟩:=hx'.there;change wpAny _ _ (getattributeRaised _ _ _ _ _ _ _) _ _ _;unfold getattributeRaised
 repeat (any_goals (first | assumption | wp_step))
 exact h _ _ _ hx'.of
section
variable {X:Cx}{pins:AB}{σ:St}{H:Hp}{A:Ae}
abbrev Pr:=Addr×Addr×List Int×V
structure PrL (H:Hp)(l:Addr)(ps:List Pr):Prop where
 at':H l=some (.lst (ps.map λq=>V.ref q.1))
 one:∀q∈ps,H q.1=some (.tup [.ref q.2.1,q.2.2.2])/\H q.2.1=some (.tup (q.2.2.1.map V.int))
 nd:(ps.map (·.2.2.1)).Nodup
 few:ps.length<=500000
def prK (ps:List Pr):List (AG×V):=ps.map λq=>(q.2.2.1,q.2.2.2)
def zqY(h:q.2.2.1∉ps.map (·.2.2.1)):zae (prK ps) q.2.2.1 q.2.2.2=prK (ps++[q]):=by
 rw[znO];unfold prK;rw[az];rfl;unfold zaI prK;rw[eI.mpr];rfl;intro x B;obtain⟨y,F,rfl⟩:=aF.mp B;intro e;exact h (aF.mpr ⟨y,F,bW e⟩)
def ziG(hh:A.in1.handled=none)(hu:A.in1.units+1<cLine)(J:PrL H l ps)(hD:H D=none)(hf:zdE X pins H F)(L:F≠D) :
  ∀ (k i:Nat) (s:AZ) (j:Int) (Z:Tok),ps.length - i=k->i<=ps.length->s.heap.IsListIter F l i->Inv X pins σ (upd H D (dtO (prK (ps.take i)))) s->
   (∀s',Inv X pins σ (upd H D (dtO (prK ps))) s'->R (.ok (.ret .none)) s')->
   codeAny (model X.prog X.w) A (.builtin "dict.update.loop" ⟨[.ref D,.ref F,.int j Z,.none],[]⟩) R s:=by
 have Y:∀ {b o},H b=some o->b≠D:=λ{b o} e z=>by rw[z,hD] at e;cases e
 obtain⟨f0,f1,f2,f3,f4,f5⟩:=hf;intro k
 induction k with
 | zero=>
  intro i s j Z hk hi hI I hR;have ad:i=ps.length:=by lia
  subst ad;rw[bg] at I;obtain⟨its,rv,p,hz⟩:=I.list (show SqL X.K _ l (ps.map λq=>V.ref q.1) from .of (by rw[zf (Y J.at')];exact J.at'));show el xo ?_;rw[dP z8 _];change wpAny _ A.in1 (pyNext (.ref F) >>= _) _ _ s;have hl:=rv.length;rw[ab] at hl;show aa (wpAny_pyNext_list_end hh hI p.isList (by simp;lia) λh' hx=>?_);change wpAny _ A.in1 (Builtin.Dict.addKeywords D [] >>= _) _ _ _;show aa (ae (ae (hR _ (I.turned (t':=s.toks) (λb o U e=>hx b o U e) (by rw[zf L];exact f0) f1 f3 f4 f5))))
 | succ k ih=>
  intro i s j Z hk hi hI I hR;have B:i<ps.length:=by lia
  have ag:ps[i]∈ps:=b6 B;obtain⟨o1,o2⟩:=J.one _ ag;obtain⟨its,rv,p,hz⟩:=I.list (show SqL X.K _ l (ps.map λq=>V.ref q.1) from .of (by rw[zf (Y J.at')];exact J.at'));have al:(ps.map λq=>V.ref q.1)[i]?=some (V.ref ps[i].1):=by rw[aq,ah B];rfl
  obtain⟨u,an,ru⟩:=rv.get al;cases ru;show el xo ?_;rw[dP z8 _];change wpAny _ A.in1 (pyNext (.ref F) >>= _) _ _ s;show aa (wpAny_pyNext_list_item hI p.isList (x:=.ref ps[i].1) (by simpa using an) λh1 ap as=>?_);have I1:Inv X pins σ (upd H D (dtO (prK (ps.take i)))) { s with heap:=h1 }:=I.turned (t':=s.toks) (λb o U e=>(as.2 b U).trans e) (by rw[zf L];exact f0) f1 f3 f4 f5;obtain⟨_,us,O,ob,ho,hc,⟨n,hd⟩,_⟩:=(show yn X.prog X.w _ h1 ps[i].1 (.tup [.ref ps[i].2.1,ps[i].2.2.2]) from I1.hok _ _ (by rw[zf (Y o1)];exact o1))
  cases O with
  | cons rk O=>
   cases O with
   | @cons _ uv _ _ ru rn=>
    cases rn;cases rk;have hT:Shared.TypeIs { s with heap:=h1 } (.ref ps[i].1) "tuple" := ⟨ob,ho,hc⟩;show aa (bq ?_);show aa (wpAny_tryCatch ?_);unfold Builtin.Dict.pairItems;show aa (cE hT ?_);rw[if_pos (by ext)];show aa (zdm ho hd ?_);show ae ?_;change wpAny _ _ (holding [Value.ref ps[i].2.1,uv] (dictSet D (Value.ref ps[i].2.1) uv)) _ _ _;show bq ?_;have a1:zdE X pins (upd H D (dtO (prK (ps.take i)))) F:=⟨by rw[zf L];exact f0,f1,f2,f3,f4,f5⟩;obtain⟨oi,oe,oc,od⟩:=id ap;have I2:=I1.pinned (fp:=[F]) (λb U=>by right) (λb U=>by right);have av:(prK (ps.take i)).length<sizeLine:=by unfold prK;rw[ab,aM,br];have:=J.few;lia
    show zft hu I2 (zdB.i (st:=ps[i].2.2.1) zj (by rw[zf (Y o2)];exact o2) av) rfl ru λs3 I3=>?_;rw[zr7,zqY (ps:=ps.take i) (q:=ps[i]),<- zn (ah B)] at I3;show ae ⟨plainId_quiet z8 _,ih (i+1) _ (j+1) _ (by lia) B ?_ I3.unpinned hR⟩;exact⟨oi,(I3.pin (F,oi) (aZ _ (aZ _ (zaF (by simp) oe)))).1,oc,od⟩;have:=J.nd;intro z;obtain⟨y,hy,e⟩:=aF.mp z;obtain⟨j,hj,e2⟩:=ba.mp hy;rw[aM] at hj;have a0:j<ps.length:=by lia
    have e3:ps[j]=y:=by rw[<- e2,cC]
    have:=(bI (h₀:=by rw[ab];exact a0) (h₁:=by rw[ab];exact B) J.nd).mp (by right);lia
def zo2:AT->Hp->VK->Prop:=λxs H Q=>∃ (l:Addr) (ps:List Pr),xs=[.ref l]/\PrL H l ps/\New H (dtO (prK ps)) Q
def zmH (hc:X.calm=true)(hu:X.A.units+64<cLine):CallQ X (.type "dict") zo2:=⟨by
 intro pins s σ H xs us Q I rr Y;obtain⟨l,ps,rfl,Z,q⟩:=Y;obtain⟨u,rfl,ru⟩:=zaf rr;cases ru;have hf:H s.heap.objs.size=none:=I.hok.fresh (af _);show callType_codes (Q₁:=λL B=>L = .ref s.heap.objs.size/\B={ s with heap:=s.heap.push { cls:=.type "dict",data:=.dict #[] } }) F.kt_called_dict (F.kt_typeCall_dict_1 _) F.entry_dict_init (kt_code_dict_new _ ⟨rfl,rfl⟩) ?_;rintro L B ⟨rfl,rfl⟩;have J:(s.heap.push { cls:=.type "dict",data:=.dict #[] }).get? s.heap.objs.size=some { cls:=.type "dict",data:=.dict #[] }:=aB _ rfl;have O:Shared.TypeIs { s with heap:=s.heap.push { cls:=.type "dict",data:=.dict #[] } } (.ref s.heap.objs.size) "dict" := ⟨_,J,rfl⟩;have nD:∀ {b o},H b=some o->b≠s.heap.objs.size:=λ{b o} e z=>by rw[z,hf] at e;cases e
 have I1:Inv X pins σ (upd H s.heap.objs.size (dtO [])) { s with heap:=s.heap.push { cls:=.type "dict",data:=.dict #[] } }:=I.laid (t':=s.toks) (λb o e=>ai _ e) (af _) ⟨aG _,dW.mpr (Ne.symm (aR I.big)),[],.nil,_,#[],0,J,⟨rfl,rfl,rfl⟩,rfl,rfl,.nil⟩;obtain⟨hz,its,n,rv,ho⟩:=(show yn X.prog X.w _ _ l (.lst _) from I1.hok l _ (by rw[zf (nD Z.at')];exact Z.at'));have ad:Shared.TypeIs { s with heap:=s.heap.push { cls:=.type "dict",data:=.dict #[] } } (.ref l) "list" := ⟨_,ho,rfl⟩;show⟨O,F.args_dict_init_2 _ _,?_⟩;unfold Builtin.«dict.__init__»;show aa ?_;unfold Builtin.Dict.selfAndRest;show aa (wpAny_notOrdered_dict O ?_);change wpAny _ _ (pure (s.heap.objs.size,[Value.ref l])) _ _ _;show ae ?_;change wpAny _ _ (Builtin.Dict.updateFrom "dict.__init__" s.heap.objs.size (.ref l) [] .none) _ _ _;unfold Builtin.Dict.updateFrom;show aa (cE ad ?_);rw[if_pos (by ext)];have Y:X.A.handled=none:=I.ok.hd hc;show aa (zdn ho zfW (by ext) (by simp[Y]) (λh2 tk e hx=>?_) (by ext));rw[if_pos (by rfl)];show aa (fq ?_);have I2:Inv X pins σ (upd H s.heap.objs.size (dtO [])) { s with heap:=h2,toks:=tk }:=I1.kept (t':=tk) hx.keeps;show aa (eO (s:={ s with heap:=h2,toks:=tk }) (items:=its.toArray) ⟨_,hx.keeps _ _ ho,rfl,n,rfl⟩ ?_);have I3:Inv X pins σ (upd H s.heap.objs.size (dtO (prK (ps.take 0)))) _:=I2.kept (t':=tk) (h':=h2.push { cls:=.type "list_iterator",data:=.fields #[.ref l,.int 0 0] }) λb o e=>ai _ e;have U:s.heap.objs.size<h2.objs.size:=ay (hx.keeps _ _ J);show ae ⟨plainId_quiet z8 _,?_⟩;show ziG (X:=X) (pins:=pins) (σ:=σ) (H:=H) (A:=X.A.in1) (ps:=ps) (l:=l) (by simp[Y]) (by lia) Z hf ?_ (Ne.symm (aR U)) (ps.length - 0) 0 _ _ _ rfl (aG _) ⟨_,aB _ rfl,rfl,rfl⟩ I3 λs' I'=>⟨rfl,?_⟩;have:=I2.fpOk (H':=H) (b:=h2.objs.size) (af _) ?_;exact this;have:=I2.hok.fresh (af h2.objs.size);rwa[zf (Ne.symm (aR U))] at this;exact⟨.ref s.heap.objs.size,_,I',rfl,q.at hf⟩⟩
end
end L2
namespace L3
open L2
section
variable {X:Cx}{Pn:PN}{M S:AR}{fr fr':Bool}{e a b c:Expr}{es:AO}{f fa fb fc:AD}{pos p:Pos}
def ziV (ks:List (AG×V)):NP (dtO ks):=λ_ e=>by cases e
def zoR:NP (.dK []):=λ_ e=>by cases e;rfl
def zlf {ks:List (Key×V)}(h:∀q∈ks,∃j:Int,q.1=Sum.inl j):NP (.dK ks):=λkvs e=>by
 cases e
 induction ks with
 | nil=>rfl
 | cons q r B=>
  obtain⟨j,I⟩:=h q ak;have:=B λq F=>h q (am _ F);unfold zaI at this ⊢;grind
def zlE {ks:List (Key×V)}{i:Int}{v:V}(h:∀q∈ks,∃j:Int,q.1=Sum.inl j):∀q∈zae ks (Sum.inl i:Key) v,∃j:Int,q.1=Sum.inl j:=λq B=>by
 unfold zae at B;grind
def zoB (mg:W->Ev->(Ev->Prop)->Prop)(O:Ev->Mo Bool)(fk fv:AD)(J:Ev)(Q:AV):AU->Nat->Prop:=λl U=>l.length<=lim/\∃I:Nat->Ev->Nat->List (AG×Dt)->Prop,I 0 J U []/\
 (∀i w B F acc,l[i]?=some w->I i B F acc->mg w B λq=>O q F λb L=>if b=true then fk q L λy Y=>fv q Y λx Z=>∃st d,y = .d (stD st)/\x = .d d/\I (i+1) q Z (zfe acc st d) else I (i+1) q L acc)/\
 ∀ B F acc,I l.length B F acc->Q (.dt acc) F
abbrev zkV (q:AC) (mg:W->Ev->(Ev->Prop)->Prop) (B:Ev->Mo Bool) (fk fv:AD) (cix:List (Option Nat)):AD:=λρ n Q=>q ρ n (zoB mg B fk fv (zbx ρ cix) Q)
def zoA (mg:W->Ev->(Ev->Prop)->Prop)(O:Ev->Mo Bool)(fk fv:AD)(J:Ev)(Q:AV):AU->Nat->Prop:=λl U=>l.length<=lim/\∃I:Nat->Ev->Nat->List (Key×Dt)->Prop,I 0 J U []/\
 (∀i w B F acc,l[i]?=some w->I i B F acc->mg w B λq=>O q F λb L=>if b=true then fk q L λy Y=>fv q Y λx Z=>∃ (j:Int) (d:Dt),y = .d (.int j)/\x = .d d/\I (i+1) q Z (zfe acc (Sum.inl j) d) else I (i+1) q L acc)/\
 ∀ B F acc,I l.length B F acc->Q (.dk acc) F
abbrev zg5 (q:AC) (mg:W->Ev->(Ev->Prop)->Prop) (B:Ev->Mo Bool) (fk fv:AD) (cix:List (Option Nat)):AD:=λρ n Q=>q ρ n (zoA mg B fk fv (zbx ρ cix) Q)
def zlQ{wi:TI}{g:TG}{ti:TT}{tk tv:TE}{cix:List (Option Nat)}{fi:AC}{mg:W->Ev->(Ev->Prop)->Prop}{ft:Ev->Mo Bool}{fk fv:AD}(hn:(cix.filterMap id).Nodup)(hi:RI Pn M ow wi fi)(hg:RG (ya M cix) (ya M cix) g mg)(ht:RT Pn (ya M cix) ti ft)(hk:RB Pn (ya M cix) tk fk)(he:RE Pn (ya M cix) fr' tv fv):RE Pn M true (zgq (.dT []) wi g ti tk tv cix) (zkV fi mg ft fk fv cix):=⟨λA σ H ρ n Q R E P hf k=>by
 show hi.run A σ H ρ n _ _ E P hf λl m J H1 ⟨hz,I,i0,it,ie⟩ iv g1=>λacc B=>?_;have E1:=E.stay g1.st;have E2:=(E1.cap hn).more (zu.upd (o:=.dT []) B) (Fr.of B) zj (ziV []) rfl;have P2:xQ Pn (λb=>A b\/b=acc) m (L2.upd H1 acc (.dT [])):=g1.pn.grow' (g1.pn.same (y4.upd B)) (Fr.of B) zj (ziV []) rfl;have a3:∀k w,k∈ya M cix->(zbx ρ cix)[k]?=some (some w)->(u4 σ cix)[k]?≠some (some (.ref acc)):=λk w hk hw z=>by obtain⟨v,s1,_,s3⟩:=(E1.cap hn).val k w hw;obtain⟨a,e,hA,_⟩:=s3 hk;rw[z] at s1;cases s1;cases e;exact E1.new B hA
 have key:∀ L F H',EnvR (λb=>A b\/b=acc) (ya M cix) L H' F->(∀k∈ya M cix,L[k]?=(u4 σ cix)[k]?/\F[k]?=(zbx ρ cix)[k]?)->∀k w,k∈ya M cix->F[k]?=some (some w)->L[k]?≠some (some (.ref acc)):=λL F H' E' ap k w hk hw z=>by right
 show⟨λi mm L H'=>mm=l.length - i/\i<=l.length/\∃ F n' q xs,EnvR (λb=>A b\/b=acc) (ya M cix) L H' F/\xQ Pn (λb=>A b\/b=acc) n' H'/\I i F n' q/\H' acc=some (dtO xs)/\uw (zM (λb=>A b\/b=acc) H') q xs/\q.length<=i/\zu (zM A H1) (zM (λb=>A b\/b=acc) H')/\zu H1 H'/\(∀k∈ya M cix,L[k]?=(u4 σ cix)[k]?/\F[k]?=(zbx ρ cix)[k]?),
  ⟨l.length,by simp,aG _,_,m,[],[],E2,P2,i0,zj,rfl,af _,yC (zu.upd B) (Fr.of B),zu.upd B,λk hk=>⟨rfl,rfl⟩⟩,?_⟩
 rintro i mm L H' ⟨rfl,a4,F,n',q,xs,E',P',hI,ag,U,a5,st,s1,ap⟩;by_cases av:i<l.length
 show Or.inr ?_;have an:l[i]?=some l[i]:=ah av;obtain⟨go,yl⟩:=iv.one i l[i] _ H' an st (λ_=>s1) λp hp=>E'.new hp
 show⟨go,λas H2=>∃ F n' q xs,EnvR (λb=>A b\/b=acc) (ya M cix) as H2 F/\xQ Pn (λb=>A b\/b=acc) n' H2/\I (i+1) F n' q/\H2 acc=some (dtO xs)/\uw (zM (λb=>A b\/b=acc) H2) q xs/\q.length<=i+1/\zu (zM A H1) (zM (λb=>A b\/b=acc) H2)/\zu H1 H2/\(∀k∈ya M cix,as[k]?=(u4 σ cix)[k]?/\F[k]?=(zbx ρ cix)[k]?),
  λas H2 h=>⟨l.length - (i+1),by lia,rfl,av,h⟩,λx H2 hy=>?_⟩
 obtain⟨S2,V2⟩:=yl x H2 hy;show hg.run _ L H2 F x l[i] _ _ (E'.stay (zu.same S2)) V2 (it i l[i] F n' q an hI) λY O r3 E3 f3=>?_;have Z:∀k∈ya M cix,Y[k]?=(u4 σ cix)[k]?/\O[k]?=(zbx ρ cix)[k]?:=λk hk=>⟨(f3 k hk).1.trans (ap k hk).1,(f3 k hk).2.trans (ap k hk).2⟩;show ht.run _ Y H2 O n' _ _ E3 (P'.same S2) r3 λb m3 H4 r4 g4=>?_;have ad:=(zu.same S2).trans g4.st
 cases b with
 | false=>
  rw[if_neg (by ext)] at r4 ⊢;exact⟨O,m3,q,xs,E3.stay g4.st,g4.pn,r4,ad _ _ ag (ziV _),U.stay (zH ad),by lia,st.trans (zH ad),s1.trans ad,Z⟩
 | true=>
  rw[if_pos rfl] at r4 ⊢;show hk.run _ Y H4 O m3 _ _ (E3.stay g4.st) g4.pn r4 λy5 m5 u5 H5 r5 B5 g5=>?_;show he.run _ Y H5 O m5 _ _ ((E3.stay g4.st).stay g5.st) g5.pn r5  ?_;rintro w6 m6 v6 H6 ⟨ky,d,ey,e6,r6⟩ V6 g6 _;subst ey e6;have al:=(ad.trans g5.st).trans g6.st;have E6:=((E3.stay g4.st).stay g5.st).stay g6.st;have a0:H6 acc=some (dtO xs):=al _ _ ag (ziV _);obtain⟨bd,zs,rfl,a1,hx⟩:=xM (B5.stay g6.st);obtain rfl:=hx.of_ints;have a7:=zhi q ky d;show⟨_,zdB.i a0 a1 (zdO (by rw[U.len];lia)),O,m6,zfe q ky d,zae xs ky v6,E6.upd (.inr rfl) (key Y O H6 E6 Z) (ziV _) rfl,g6.pn.upd (.inr rfl),r6,zj,?_,by lia,?_,?_,Z⟩;rw[yg (.inr rfl)];exact (U.stay (zH al)).put V6.is;rw[yg (.inr rfl)];exact st.trans (zH al);exact λb o e nn=>by rw[zf (zc e B)];exact s1.trans al b o e nn
 show Or.inl ?_;have a2:i=l.length:=by lia
 subst a2;show⟨iv.stop _ H' st (λ_=>s1),k _ n' _ H' (ie F n' q hI) ⟨acc,xs,rfl,zv (E1.new B) ag,U.stay (zu.same (yK λb z=>.inl z))⟩ (g1.trans ⟨s1,P'.less λa z=>.inl z⟩) λ_=>⟨acc,rfl,(Fr.of B).back g1.st,acc,xs,rfl,ag,U⟩⟩⟩
def zgf{wi:TI}{g:TG}{ti:TT}{tk tv:TE}{cix:List (Option Nat)}{fi:AC}{mg:W->Ev->(Ev->Prop)->Prop}{ft:Ev->Mo Bool}{fk fv:AD}(hn:(cix.filterMap id).Nodup)(hi:RI Pn M ow wi fi)(hg:RG (ya M cix) (ya M cix) g mg)(ht:RT Pn (ya M cix) ti ft)(hk:RB Pn (ya M cix) tk fk)(he:RE Pn (ya M cix) fr' tv fv):RE Pn M true (zgq (.dK []) wi g ti tk tv cix) (zg5 fi mg ft fk fv cix):=⟨λA σ H ρ n Q R E P hf k=>by
 show hi.run A σ H ρ n _ _ E P hf λl m J H1 ⟨hz,I,i0,it,ie⟩ iv g1=>λacc F=>?_;have E1:=E.stay g1.st;have E2:=(E1.cap hn).more (zu.upd (o:=.dK []) F) (Fr.of F) zj zoR rfl;have P2:xQ Pn (λb=>A b\/b=acc) m (L2.upd H1 acc (.dK [])):=g1.pn.grow' (g1.pn.same (y4.upd F)) (Fr.of F) zj zoR rfl;have a5:∀k w,k∈ya M cix->(zbx ρ cix)[k]?=some (some w)->(u4 σ cix)[k]?≠some (some (.ref acc)):=λk w hk hw z=>by obtain⟨v,s1,_,s3⟩:=(E1.cap hn).val k w hw;obtain⟨a,e,hA,_⟩:=s3 hk;rw[z] at s1;cases s1;cases e;exact E1.new F hA
 have key:∀ O L H',EnvR (λb=>A b\/b=acc) (ya M cix) O H' L->(∀k∈ya M cix,O[k]?=(u4 σ cix)[k]?/\L[k]?=(zbx ρ cix)[k]?)->∀k w,k∈ya M cix->L[k]?=some (some w)->O[k]?≠some (some (.ref acc)):=λO L H' E' a0 k w hk hw z=>by right
 show⟨λi mm O H'=>mm=l.length - i/\i<=l.length/\∃ L n' B xs,EnvR (λb=>A b\/b=acc) (ya M cix) O H' L/\xQ Pn (λb=>A b\/b=acc) n' H'/\I i L n' B/\H' acc=some (.dK xs)/\uw (zM (λb=>A b\/b=acc) H') B xs/\B.length<=i/\(∀q∈xs,∃j:Int,q.1=Sum.inl j)/\zu (zM A H1) (zM (λb=>A b\/b=acc) H')/\zu H1 H'/\(∀k∈ya M cix,O[k]?=(u4 σ cix)[k]?/\L[k]?=(zbx ρ cix)[k]?),
  ⟨l.length,by simp,aG _,_,m,[],[],E2,P2,i0,zj,rfl,af _,by simp,yC (zu.upd F) (Fr.of F),zu.upd F,λk hk=>⟨rfl,rfl⟩⟩,?_⟩
 rintro i mm O H' ⟨rfl,a7,L,n',B,xs,E',P',hI,an,Z,a8,Y,st,s1,a0⟩;by_cases a2:i<l.length
 show Or.inr ?_;have as:l[i]?=some l[i]:=ah a2;obtain⟨go,yl⟩:=iv.one i l[i] _ H' as st (λ_=>s1) λp hp=>E'.new hp
 show⟨go,λa1 H2=>∃ L n' B xs,EnvR (λb=>A b\/b=acc) (ya M cix) a1 H2 L/\xQ Pn (λb=>A b\/b=acc) n' H2/\I (i+1) L n' B/\H2 acc=some (.dK xs)/\uw (zM (λb=>A b\/b=acc) H2) B xs/\B.length<=i+1/\(∀q∈xs,∃j:Int,q.1=Sum.inl j)/\zu (zM A H1) (zM (λb=>A b\/b=acc) H2)/\zu H1 H2/\(∀k∈ya M cix,a1[k]?=(u4 σ cix)[k]?/\L[k]?=(zbx ρ cix)[k]?),
  λa1 H2 h=>⟨l.length - (i+1),by lia,rfl,a2,h⟩,λx H2 hy=>?_⟩
 obtain⟨S2,V2⟩:=yl x H2 hy;show hg.run _ O H2 L x l[i] _ _ (E'.stay (zu.same S2)) V2 (it i l[i] L n' B as hI) λad U r3 E3 f3=>?_;have ag:∀k∈ya M cix,ad[k]?=(u4 σ cix)[k]?/\U[k]?=(zbx ρ cix)[k]?:=λk hk=>⟨(f3 k hk).1.trans (a0 k hk).1,(f3 k hk).2.trans (a0 k hk).2⟩;show ht.run _ ad H2 U n' _ _ E3 (P'.same S2) r3 λb m3 H4 r4 g4=>?_;have al:=(zu.same S2).trans g4.st
 cases b with
 | false=>
  rw[if_neg (by ext)] at r4 ⊢;exact⟨U,m3,B,xs,E3.stay g4.st,g4.pn,r4,al _ _ an (zlf Y),Z.stay (zH al),by lia,Y,st.trans (zH al),s1.trans al,ag⟩
 | true=>
  rw[if_pos rfl] at r4 ⊢;show hk.run _ ad H4 U m3 _ _ (E3.stay g4.st) g4.pn r4 λy5 m5 u5 H5 r5 B5 g5=>?_;show he.run _ ad H5 U m5 _ _ ((E3.stay g4.st).stay g5.st) g5.pn r5  ?_;rintro w6 m6 v6 H6 ⟨ky,d,ey,e6,r6⟩ V6 g6 _;subst ey e6;have ap:=(al.trans g5.st).trans g6.st;have E6:=((E3.stay g4.st).stay g5.st).stay g6.st;have a3:H6 acc=some (.dK xs):=ap _ _ an (zlf Y);have eu:u5 = .int ky:=B5;subst eu;have bb:=zhi B (Sum.inl ky:Key) d;have av:∀q∈zae xs (Sum.inl ky:Key) v6,∃j:Int,q.1=Sum.inl j:=zlE Y;show⟨_,zdB.k (k:=(Sum.inl ky:Key)) a3 (zdO (by rw[Z.len];lia)),U,m6,zfe B (Sum.inl ky) d,zae xs (Sum.inl ky) v6,E6.upd (.inr rfl) (key ad U H6 E6 ag) (zlf av) rfl,g6.pn.upd (.inr rfl),r6,zj,?_,by lia,av,?_,?_,ag⟩;rw[yg (.inr rfl)];exact (Z.stay (zH ap)).put V6.is;rw[yg (.inr rfl)];exact st.trans (zH ap);exact λb o e nn=>by rw[zf (zc e F)];exact s1.trans ap b o e nn
 show Or.inl ?_;have a4:i=l.length:=by lia
 subst a4;show⟨iv.stop _ H' st (λ_=>s1),k _ n' _ H' (ie L n' B hI) ⟨acc,xs,rfl,zv (E1.new F) an,Z.stay (zu.same (yK λb z=>.inl z)),zlf Y _ rfl⟩ (g1.trans ⟨s1,P'.less λa z=>.inl z⟩) λ_=>⟨acc,rfl,(Fr.of F).back g1.st,acc,xs,rfl,an,Z,zlf Y _ rfl⟩⟩⟩
def zxC(h:∀C s H ex,JB (zA X scope N C s H ex) Pn M e f):∃te,(∀C s H ex,QE (zA X scope N C s H ex) e te)/\RB Pn M te f:=
 ⟨λσ H Q=>∀C s H0 ex,(h C s H0 ex).ex.choose σ H Q,λC s H0 ex=>⟨λpins s' σ H Q I z=>(h C s H0 ex).ex.choose_spec.1.run pins s' σ H Q I (z C s H0 ex)⟩,
  ⟨λA σ H ρ n Q R E P q k C s H0 ex=>(h C s H0 ex).ex.choose_spec.2.run A σ H ρ n Q R E P q k⟩⟩
def zhW(I:X.A.units+1<cLine)(J:X.calm=true)(L:CompOk X scope N cix)(hi:JI X Pn M F tg iter q)(O:∀C s H ex,JG (zA X scope N C s H ex) (ya M cix) (ya M cix) tg mg)(U:∀C s H ex,JTs (zA X scope N C s H ex) Pn (ya M cix) ifs B)(Y:∀C s H ex,JB (zA X scope N C s H ex) Pn (ya M cix) ke fk)(Z:∀C s H ex,JE (zA X scope N C s H ex) Pn (ya M cix) fr' ve fv)(hn:(cix.filterMap id).Nodup:=by ext)(hs:∀x,foldedSetIterable iter X.env x=pure x:=by intro _;rfl):JE X Pn M true (.DictComp ke ve [⟨tg,iter,ifs,0⟩] scope pos) (zg5 q mg B fk fv cix):=by
 obtain⟨ti,qi,ri⟩:=hi.ex;obtain⟨g,qg,rg⟩:=zof O;obtain⟨tt,qt,rt⟩:=zog U;obtain⟨tk,qk,rk⟩:=zxC Y;obtain⟨te,qe,re⟩:=zoe Z;exact⟨_,zhj (o0:=.dK []) (by simp) I J L qi qg qt qk qe hs,zgf hn ri rg rt rk re⟩
end
abbrev onI (w:W) (P:Int->Prop):Prop:=match w with | .d (.int i)=>P i | _=>False
abbrev onB (w:W) (P:Bool->Prop):Prop:=match w with | .d (.bl i)=>P i | _=>False
abbrev onT (w:W) (P:AS->Prop):Prop:=match w with | .d (.tup i)=>P i | _=>False
abbrev onL (w:W) (P:AS->Prop):Prop:=match w with | .d (.lst i)=>P i | _=>False
abbrev onS (w:W) (P:AS->Prop):Prop:=match w with | .d (.lst i)=>P i | .d (.tup i)=>P i | _=>False
abbrev onD (w:W) (P:Dt->Prop):Prop:=match w with | .d i=>P i | _=>False
abbrev onK (w:W) (P:List (Key×Dt)->Prop):Prop:=match w with | .dk i=>P i | _=>False
abbrev onE (w:W) (P:List (AG×Dt)->Prop):Prop:=match w with | .dt i=>P i | _=>False
abbrev onO {α:Type} (o:Option α) (P:α->Prop):Prop:=match o with | some i=>P i | none=>False
abbrev onC (c:Bool) (A B:Prop):Prop:=match c with | true=>A | false=>B
abbrev on1 (l:AU) (P:W->Prop):Prop:=match l with | [a]=>P a | _=>False
abbrev on2 (l:AU) (P:W->W->Prop):Prop:=match l with | [a,b]=>P a b | _=>False
abbrev onV:Ev->Nat->(W->Prop)->Prop
 | [],_,_=>False
 | a::_,0,P=>onO a P
 | _::r,i+1,P=>onV r i P
abbrev onP:Ev->Nat->W->(Ev->Prop)->Prop
 | [],_,_,Q=>Q []
 | _::r,0,w,Q=>Q (some w::r)
 | a::r,i+1,w,Q=>onP r i w λq=>Q (a::q)
abbrev onN:Ev->Nat->(Ev->Prop)->Prop
 | [],_,Q=>Q []
 | _::r,0,Q=>Q (none::r)
 | a::r,i+1,Q=>onN r i λq=>Q (a::q)
abbrev zdy {α:Type}:Nat->List α->Prop->Prop
 | 0,[],P=>P
 | k+1,_::r,P=>zdy k r P
 | _,_,_=>False
def xH{P:Int->Prop}:onI w P = ∃i,w = .d (.int i)/\P i:=propext ⟨λh=>by rcases w with (x|x|x|x|_|_) <;> first | exact False.elim h | (cases x <;> first | exact False.elim h | exact⟨_,rfl,h⟩),by right⟩
def zll:onB w P = ∃i,w = .d (.bl i)/\P i:=propext ⟨λh=>by rcases w with (x|x|x|x|_|_) <;> first | exact False.elim h | (cases x <;> first | exact False.elim h | exact⟨_,rfl,h⟩),by rintro⟨i,e,h⟩;subst e;exact h⟩
def zdS:onT w P = ∃i,w = .d (.tup i)/\P i:=propext ⟨λh=>by rcases w with (x|x|x|x|_|_) <;> first | exact False.elim h | (cases x <;> first | exact False.elim h | exact⟨_,rfl,h⟩),by right⟩
def xj:onL w P = ∃i,w = .d (.lst i)/\P i:=propext ⟨λh=>by rcases w with (x|x|x|x|_|_) <;> first | exact False.elim h | (cases x <;> first | exact False.elim h | exact⟨_,rfl,h⟩),by right⟩
def zf6:onS w P = ∃i,(w = .d (.lst i)\/w = .d (.tup i))/\P i:=propext ⟨λh=>by rcases w with (x|x|x|x|_|_) <;> first | exact False.elim h | (cases x <;> first | exact False.elim h | exact⟨_,.inl rfl,h⟩ | exact⟨_,.inr rfl,h⟩),by rintro⟨i,e,h⟩;rcases e with e | e <;> subst e <;> exact h⟩
def xG:onD w P = ∃i,w = .d i/\P i:=propext ⟨λh=>by cases w <;> first | exact False.elim h | exact⟨_,rfl,h⟩,by right⟩
def zib:onK w P = ∃i,w = .dk i/\P i:=propext ⟨λh=>by cases w <;> first | exact False.elim h | exact⟨_,rfl,h⟩,by right⟩
def zlo{P:List (AG×Dt)->Prop}:onE w P = ∃i,w = .dt i/\P i:=propext ⟨λh=>by cases w <;> first | exact False.elim h | exact⟨_,rfl,h⟩,by right⟩
def zaM {α:Type}{w:Option α}{P:α->Prop}:onO w P = ∃i,w=some i/\P i:=propext ⟨λh=>by cases w <;> first | exact False.elim h | exact⟨_,rfl,h⟩,by right⟩
def zar{A B:Prop}:onC c A B=if c=true then A else B:=by cases c <;> simp[onC]
def uE:on1 l P = ∃a,l=[a]/\P a:=propext ⟨λh=>by rcases l with (_|⟨a,_|⟨b,l⟩⟩) <;> first | exact False.elim h | exact⟨_,rfl,h⟩,by right⟩
def ztF:on2 l P = ∃a b,l=[a,b]/\P a b:=propext ⟨λh=>by rcases l with (_|⟨a,_|⟨b,_|⟨c,l⟩⟩⟩) <;> first | exact False.elim h | exact⟨_,_,rfl,h⟩,by right⟩
def uk:∀ {ρ:Ev} {i:Nat} {P:W->Prop},onV ρ i P = ∃w,ρ[i]?=some (some w)/\P w
 | [],i,P=>by simp[onV]
 | some w::r,0,P=>by simp[onV]
 | none::r,0,P=>by simp[onV]
 | some w::r,i+1,P=>by simpa [onV] using uk (ρ:=r) (i:=i) (P:=P)
 | none::r,i+1,P=>by simpa [onV] using uk (ρ:=r) (i:=i) (P:=P)
def ud:∀ {ρ:Ev} {i:Nat} {w:W} {Q:Ev->Prop},onP ρ i w Q=Q (ρ.set i (some w))
 | [],i,w,Q=>rfl
 | a::r,0,w,Q=>rfl
 | a::r,i+1,w,Q=>by rw[onP,ud];rfl
def zoS:∀ {ρ:Ev} {i:Nat} {Q:Ev->Prop},onN ρ i Q=Q (ρ.set i none)
 | [],i,Q=>rfl
 | a::r,0,Q=>rfl
 | a::r,i+1,Q=>by rw[onN,zoS];rfl
def zeI {α:Type}:∀ {k:Nat} {l:List α} {P:Prop},zdy k l P=(l.length=k/\P)
 | 0,[],P=>by simp[zdy]
 | 0,a::r,P=>by simp[zdy]
 | k+1,[],P=>by simp[zdy]
 | k+1,a::r,P=>by simp[zdy,zeI (l:=r)]
def yW {P:Prop}[Decidable P]{A B:Prop}(h1:P->A)(h2:¬ P->B):onC (decide P) A B:=by
 by_cases h:P
 all_goals right
def ziX {P:Prop}[Decidable P]{A B:Prop}(h1:¬ P->A)(h2:P->B):onC (!decide P) A B:=by
 by_cases h:P
 all_goals right
def zcf{A B:Prop}(h1:c=true->A)(h2:c=false->B):onC c A B:=by
 cases c;exact h2 rfl;exact h1 rfl
def zln{A B:Prop}(h1:c=false->A)(h2:c=true->B):onC (!c) A B:=by
 cases c;exact h1 rfl;exact h2 rfl
def zqx{A B:Prop}(h:c=true)(h1:A):onC c A B:=by subst h;exact h1
def zlm{A B:Prop}(h:c=false)(h1:B):onC c A B:=by subst h;exact h1
def y8 {α:Type}{o:Option α}{a:α}{P:α->Prop}(e:o=some a)(h:P a):onO o P:=by subst e;exact h
def onA{st:AG}{b:Int}(q:0<=b)(h1:b<st.length)(h:P (.int (yt st b))):onO (atI (st.map Dt.int) b) P:=y8 (zph q h1) h
def ztG {L:AS}{a:Int}{P:Dt->Prop}(q:0<=a)(h1:a<L.length)(h:∀x∈L,P x):onO (atI L a) P:=by obtain⟨x,e,B⟩:=zso q h1 h;exact y8 e B
section
variable {X:Cx}{Pn:PN}{M S:AR}{fr fr':Bool}{e a b c:Expr}{es:AO}{f fa fb fc g:AD}{pos p:Pos}{t u:Ev->Mo Bool}{fs gs:AC}
def wE (h:f=g)(j:JE X Pn M fr e f):JE X Pn M fr e g:=h ▸ j
def wB (h:f=g)(j:JB X Pn M e f):JB X Pn M e g:=h ▸ j
def wT (h:t=u)(j:JT X Pn M e t):JT X Pn M e u:=h ▸ j
def wW (h:t=u)(j:JW X Pn M e t):JW X Pn M e u:=h ▸ j
def wO {f g:Ev->Mo AQ}{e:Option Expr}(h:f=g)(j:JO X Pn M e f):JO X Pn M e g:=h ▸ j
def wG {f g:W->Ev->(Ev->Prop)->Prop}(h:f=g)(j:JG X S M e f):JG X S M e g:=h ▸ j
def wH {f g:AS->Ev->(Ev->Prop)->Prop}(h:f=g)(j:JGs X S M es f):JGs X S M es g:=h ▸ j
def wI(h:fs=gs)(j:JI X Pn M q tg e fs):JI X Pn M q tg e gs:=h ▸ j
def wS {s:Stmt}{f g:Ms}(h:f=g)(j:JS X Pn S M fr s f):JS X Pn S M fr s g:=h ▸ j
abbrev zsd (i:Nat):AD:=λρ n Q=>onV ρ i λw=>Q w n
def zk2:ztx i=zsd i:=by funext ρ n Q;exact uk.symm
def kv (i:Nat){x:Str}(hi:i∉M:=by ext)(B:X.N[i]?=some x:=by rfl)(F:Vis X.env.scope x:=by walk_at "v")(I:Ah x:=by ext)
  (q:(x==("__classdict__" : Str))=false:=by ext):JE X Pn M false (.Name x pos) (zsd i):=wE zk2 (zwE i hi B F I q)
def kb(i:Nat)(B:X.N[i]?=some x:=by rfl)(F:Vis X.env.scope x:=by walk_at "v")(I:Ah x:=by ext)(q:(x==("__classdict__" : Str))=false:=by ext):JB X Pn M (.Name x pos) (zsd i):=wB zk2 (zwD i B F I q)
abbrev zwj (fa:AD):Ev->Mo Bool:=λρ n Q=>fa ρ n λx m=>onB x λc=>Q c m
def zm:zmo fa=zwj fa:=by funext ρ n Q;simp only[zmo,zwj,zll]
abbrev dAnd (t u:Ev->Mo Bool):Ev->Mo Bool:=λρ n Q=>t ρ n λc m=>onC c (u ρ m Q) (Q false m)
def ua:zvz t u=dAnd t u:=by funext ρ n Q;simp only[zvz,dAnd,zar]
abbrev dOr (t u:Ev->Mo Bool):Ev->Mo Bool:=λρ n Q=>t ρ n λc m=>onC c (Q true m) (u ρ m Q)
def zbR:mOr t u=dOr t u:=by funext ρ n Q;simp only[mOr,dOr,zar]
abbrev dNot (t:Ev->Mo Bool):Ev->Mo Bool:=λρ n Q=>t ρ n λc m=>onC c (Q false m) (Q true m)
def zao:zwQ t=dNot t:=by funext ρ n Q;simp only[zwQ,dNot];congr 1;funext c m;cases c <;> rfl
abbrev dAndV (fa fb:AD):AD:=λρ n Q=>fa ρ n λx m=>onB x λc=>onC c (fb ρ m Q) (Q (.d (.bl false)) m)
abbrev dOrV (fa fb:AD):AD:=λρ n Q=>fa ρ n λx m=>onB x λc=>onC c (Q (.d (.bl true)) m) (fb ρ m Q)
abbrev dNotV (fa:AD):AD:=λρ n Q=>fa ρ n λx m=>onB x λc=>Q (.d (.bl (!c))) m
abbrev dIf (t:Ev->Mo Bool) (fa fb:AD):AD:=λρ n Q=>t ρ n λc m=>onC c (fa ρ m Q) (fb ρ m Q)
abbrev dI (C:Int->Int->Prop) (g:Int->Int->Dt):W->W->Mo W:=λx y n Q=>onI x λi=>onI y λj=>C i j/\Q (.d (g i j)) n
def zsR {C:Int->Int->Prop}{g:Int->Int->Dt}:fI C g=dI C g:=by funext x y n Q;simp only[dI,xH];exact propext ⟨by rintro⟨i,j,q,B,h⟩;exact⟨i,q,j,B,h⟩,by rintro⟨i,q,j,B,h⟩;exact⟨i,j,q,B,h⟩⟩
abbrev dI0 (g:Int->Int->Dt):W->W->Mo W:=λx y n Q=>onI x λi=>onI y λj=>Q (.d (g i j)) n
def zfy {g:Int->Int->Dt}:fI0 g=dI0 g:=by funext x y n Q;simp only[dI0,xH];exact propext ⟨by rintro⟨i,j,q,B,h⟩;exact⟨i,q,j,B,h⟩,by rintro⟨i,q,j,B,h⟩;exact⟨i,j,q,B,h⟩⟩
def zbN:F2 Pn false (rI0 λi j=>.int (i+j)) (dI0 λi j=>.int (i+j)):=zfy ▸ zxE
def zvb:F2 Pn false (rI0 λi j=>.int (i - j)) (dI0 λi j=>.int (i - j)):=zfy ▸ zxO
def zu8:F2 Pn false (rI zsc λi j=>.int (i / j)) (dI zsc λi j=>.int (i / j)):=zsR ▸ zvg
def zva:F2 Pn false (rI (λ_ j=>0<j) λi j=>.int (i % j)) (dI (λ_ j=>0<j) λi j=>.int (i % j)):=zsR ▸ zxM
def zsg:F2 Pn false (rI0 λi j=>.bl (decide (i<j))) (dI0 λi j=>.bl (decide (i<j))):=zfy ▸ v_lt
def zxB:F2 Pn false (rI0 λi j=>.bl (decide (i<=j))) (dI0 λi j=>.bl (decide (i<=j))):=zfy ▸ v_le
def u_gt:F2 Pn false (rI0 λi j=>.bl (decide (i > j))) (dI0 λi j=>.bl (decide (j<i))):=zfy ▸ v_gt
abbrev dNeg:W->Mo W:=λx n Q=>onI x λi=>Q (.d (.int (-i))) n
abbrev dEq:W->W->Mo W:=λx y n Q=>onD x λa=>onD y λb=>onO (sEq a b) λr=>Q (.d (.bl r)) n
def zsQ:fEq=dEq:=by
 funext x y n Q;simp only[fEq,dEq,xG,zaM];right
abbrev dNe:W->W->Mo W:=λx y n Q=>onD x λa=>onD y λb=>onO (sEq a b) λr=>Q (.d (.bl (!r))) n
def zsS:fNe=dNe:=by
 funext x y n Q;simp only[fNe,dNe,xG,zaM];right
def zb6:F2 Pn false rEq dEq:=zsQ ▸ v_eq
def zpa:F2 Pn false rNe dNe:=zsS ▸ v_ne
abbrev zv3:W->W->Mo W:=λx y n Q=>onD x λa=>onD y λb=>a.eqOk/\b.eqOk/\∀r:Bool,(r=true↔a=b)->Q (.d (.bl r)) n
abbrev zwg:W->W->Mo W:=λx y n Q=>onD x λa=>onD y λb=>a.eqOk/\b.eqOk/\∀r:Bool,(r=true↔a=b)->Q (.d (.bl (!r))) n
def zpD:zwp=zv3:=by
 funext x y n Q;simp only[zwp,zv3,xG];right
def zpJ:zwv=zwg:=by
 funext x y n Q;simp only[zwv,zwg,xG];right
def zrZ:F2 Pn false zvI zv3:=zpD ▸ zxG
def zmi:F2 Pn false zvL zwg:=zpJ ▸ zxN
abbrev dIsB:W->W->Mo W:=λx y n Q=>onB x λa=>onB y λb=>Q (.d (.bl (a==b))) n
abbrev zv9:W->W->Mo W:=λx y n Q=>onB x λa=>onB y λb=>Q (.d (.bl (a != b))) n
abbrev zv7:W->W->Mo W:=λx y n Q=>onI x λb=>onS y λl=>∃ns:AG,l=ns.map .int/\Q (.d (.bl (ns.contains b))) n
abbrev zgH:W->W->Mo W:=λx y n Q=>onI x λb=>onS y λl=>∃ns:AG,l=ns.map .int/\Q (.d (.bl (!ns.contains b))) n
def zpF:zwr=zv7:=by funext x y n Q;simp only[zwr,zv7,xH,zf6];exact propext ⟨by rintro⟨a,b,q,B,h⟩;exact⟨a,q,_,B,b,rfl,h⟩,by rintro⟨a,q,l,B,b,e,h⟩;subst e;exact⟨a,b,q,B,h⟩⟩
def ziL:zgO=zgH:=by funext x y n Q;simp only[zgO,zgH,xH,zf6];exact propext ⟨by rintro⟨a,b,q,B,h⟩;exact⟨a,q,_,B,b,rfl,h⟩,by rintro⟨a,q,l,B,b,e,h⟩;subst e;exact⟨a,b,q,B,h⟩⟩
def zr1:F2 Pn false (rIn K false) zv7:=zpF ▸ zxI
def zio:F2 Pn false (rIn K true) zgH:=ziL ▸ zoh
abbrev xr:Bool->Bool->Bool
 | false,b=>b
 | true,b=>!b
abbrev zv6 (q:Bool):W->W->Mo W:=λx y n Q=>onD x λd=>onS y λds=>d.eqOk/\(Dt.lst ds).eqOk/\∀b:Bool,(b=true↔d∈ds)->Q (.d (.bl (xr q b))) n
def zxQ {q b:Bool}:(if q then !b else b)=xr q b:=by cases q <;> rfl
def zpE:zwq q=zv6 q:=by
 funext x y n Q;simp only[zwq,zv6,xG,zf6,zxQ];right
def zr0:F2 Pn false (zvJ q) (zv6 q):=zpE ▸ zxH
abbrev zwe:W->W->Mo W:=λx y n Q=>onT x λl=>onI y λi=>onO (atI l i) λd=>Q (.d d) n
abbrev zwd:W->W->Mo W:=λx y n Q=>onL x λl=>onI y λi=>onO (atI l i) λd=>Q (.d d) n
def zpH:zwt=zwe:=by
 funext x y n Q;simp only[zwt,zwe,zdS,xH,zaM];right
def zpG:zws=zwd:=by
 funext x y n Q;simp only[zws,zwd,xj,xH,zaM];right
def ug:F2 Pn false (zus K) zwe:=zpH ▸ zxK
def zbu:F2 Pn false (zvK K) zwd:=zpG ▸ zxJ
abbrev zmM:W->W->Mo W:=λx y n Q=>onT x λl=>onT y λm=>l.length+m.length<=lim/\Q (.d (.tup (l++m))) n
abbrev zpu:W->W->Mo W:=λx y n Q=>onL x λl=>onL y λm=>l.length+m.length<=lim/\Q (.d (.lst (l++m))) n
def zmS:zgN=zmM:=by
 funext x y n Q;simp only[zgN,zmM,zdS];right
def zmR:zpC=zpu:=by
 funext x y n Q;simp only[zpC,zpu,xj];right
def xS:F2 Pn false (zlL K) zmM:=zmS ▸ zvf
def zu7:F2 Pn true zrq zpu:=zmR ▸ zve
abbrev dRepT:W->W->Mo W:=λx y n Q=>onT x λl=>onI y λj=>(1<=j/\j<=1000000/\l.length * j.toNat<=lim)/\Q (.d (.tup (List.replicate j.toNat l).flatten)) n
abbrev zpw:W->W->Mo W:=λx y n Q=>onL x λl=>onI y λj=>(0<=j/\j<=1000000/\l.length * j.toNat<=lim)/\Q (.d (.lst (List.replicate j.toNat l).flatten)) n
def zmT:zpK=zpw:=by
 funext x y n Q;simp only[zpK,zpw,xj,xH,and_assoc];right
def zpb:F2 Pn true zvM zpw:=zmT ▸ zvh
abbrev zwf:AU->Mo W:=λq n Q=>on1 q λx=>onO (lenD x) λk=>Q (.d (.int (k:Int))) n
def zpI:zwu=zwf:=by
 funext ws n Q;simp only[zwu,zwf,uE,zaM];right
def xz:FL Pn false (λxs H Q=>∃x n,xs=[x]/\zsk K x H n/\Q (.int n) H) zwf:=zpI ▸ zxL
abbrev dAbs:AU->Mo W:=λq n Q=>on1 q λx=>onI x λi=>Q (.d (.int (if i<0 then -i else i))) n
abbrev dMin:AU->Mo W:=λq n Q=>on2 q λx y=>onI x λi=>onI y λj=>Q (.d (.int (if j<i then j else i))) n
abbrev dMax:AU->Mo W:=λq n Q=>on2 q λx y=>onI x λi=>onI y λj=>Q (.d (.int (if j > i then j else i))) n
abbrev zv2:AU->Mo W:=λB n Q=>on1 B λx=>onL x λl=>∃q:List Bool,l=q.map .bl/\Q (.d (.bl (q.all id))) n
def zpB:zwo=zv2:=by funext ws n Q;simp only[zwo,zv2,uE,xj];exact propext ⟨by rintro⟨x,e,h⟩;exact⟨_,e,_,rfl,x,rfl,h⟩,by right⟩
def zrX:FL Pn false (λxs H Q=>∃ (p:Addr) (q:List Bool),xs=[.ref p]/\H p=some (.lst (q.map V.bl))/\Q (.bl (q.all id)) H) zv2:=zpB ▸ zxF
abbrev dList:AU->Mo W:=λq n Q=>on1 q λx=>onS x λl=>Q (.d (.lst l)) n
abbrev zoz:AU->Mo W:=λq n Q=>on1 q λx=>onS x λl=>Q (.d (.tup l)) n
def zxr:(∃l,(q=[.d (.lst l)]\/q=[.d (.tup l)])/\P l)=on1 q λx=>onS x P:=by
 simp only[uE,zf6];grind
def zbO:FL Pn false (zhk K) zoz:=(show zoF=zoz by funext ws n Q;exact zxr) ▸ zsa
abbrev dDictT:AU->Mo W:=λq n Q=>on1 q λx=>onT x λl=>∃ps:List (Int×Dt),l=ps.map prD/\(ps.map (·.1)).Nodup/\ps.length<=1000/\Q (.dk (ps.map kvD)) n
abbrev dInt1:AU->Mo W:=λq n Q=>on1 q λx=>match x with
 | .d (.int i)=>Q (.d (.int i)) n
 | .d (.bl b)=>Q (.d (.int (if b then 1 else 0))) n
 | _=>False
abbrev zjI:AU->Mo W:=λB n Q=>on1 B λx=>onL x λl=>∃ns:AG,l=ns.map .int/\ns.length<64/\∀q:AG,q.Perm ns->q.Pairwise (·<=·)->Q (.d (.lst (q.map .int))) n
def zj2:zj1=zjI:=by funext ws n Q;simp only[zj1,zjI,uE,xj];exact propext ⟨by rintro⟨x,e,h⟩;exact⟨_,e,_,rfl,x,rfl,h⟩,by right⟩
def zr4:FL Pn true zlN zjI:=zj2 ▸ zr8
abbrev zjJ:AU->Mo W:=λB n Q=>on1 B λx=>onL x λl=>∃ (sts:AF) (m:Nat),l=sts.map stD/\sts.length<64/\1<=m/\(∀st∈sts,st.length=m)/\sts.Nodup/\∀q:AF,q.Perm sts->(q.Pairwise λa b=>HT.lexLt a b=true)->Q (.d (uu q)) n
def zj4:zj3=zjJ:=by funext ws n Q;simp only[zj3,zjJ,uE,xj];exact propext ⟨by rintro⟨x,m,e,h⟩;exact⟨_,e,_,rfl,x,m,rfl,h⟩,by right⟩
def zr6:FL Pn true zru zjJ:=zj4 ▸ zr9
abbrev dListD:AU->Mo W:=λq n Q=>on1 q λx=>onE x λkvs=>((kvs.map (·.1)).Nodup->Q (.d (.lst ((kvs.map (·.1)).map stD))) n)
end
section
variable {fa fb fc f fk fd fv:AD}{t u:Ev->Mo Bool}{fs gs:AC}
abbrev zsG (fa:AD):Ev->Mo AQ:=λρ n Q=>fa ρ n λx m=>onI x λi=>Q (some i) m
def zO:zqq fa=zsG fa:=by funext ρ n Q;simp only[zqq,zsG,xH]
abbrev dSlT (fa:AD) (fl q:Ev->Mo AQ):AD:=λρ n Q=>fa ρ n λx B=>fl ρ B λlo F=>q ρ F λhi I=>onT x λl=>Q (.d (.tup (xY l lo hi))) I
def xh {fl q:Ev->Mo AQ}:zwT fa fl q=dSlT fa fl q:=by funext ρ n Q;simp only[zwT,dSlT,zdS]
abbrev dSlL (fa:AD) (fl q:Ev->Mo AQ):AD:=λρ n Q=>fa ρ n λx B=>fl ρ B λlo F=>q ρ F λhi I=>onL x λl=>Q (.d (.lst (xY l lo hi))) I
def zap {fl q:Ev->Mo AQ}:zwS fa fl q=dSlL fa fl q:=by funext ρ n Q;simp only[zwS,dSlL,xj]
abbrev dRevT (fa:AD):AD:=λρ n Q=>fa ρ n λx m=>onT x λl=>Q (.d (.tup l.reverse)) m
abbrev zsI (fa:AD):AD:=λρ n Q=>fa ρ n λx m=>onL x λl=>Q (.d (.lst l.reverse)) m
def znp:zqt fa=zsI fa:=by funext ρ n Q;simp only[zqt,zsI,xj]
abbrev zsy (fd fk:AD):AD:=λρ n Q=>fd ρ n λx q=>fk ρ q λy B=>onK x λkvs=>onO (zth y) λk=>onO (yZ kvs k) λd=>Q (.d d) B
def zex:zqj fd fk=zsy fd fk:=by
 funext ρ n Q;simp only[zqj,zsy,zib,zaM];right
abbrev dDIn (q:Bool) (fk fd:AD):AD:=λρ n Q=>fk ρ n λy B=>fd ρ B λx F=>onK x λkvs=>onO (zth y) λk=>Q (.d (.bl (xr q (yZ kvs k).isSome))) F
abbrev dFn (k:Nat) (F:AU->Mo W) (fs:AC):AD:=λρ n Q=>fs ρ n λq m=>zdy k q (F q m Q)
def zq:mFn k F fs=dFn k F fs:=by funext ρ n Q;simp only[mFn,dFn,zeI]
abbrev dFnB (k:Nat) (fr:Bool) (F:AU->Mo W) (fs:AC):AD:=λρ n Q=>fs ρ n λq m=>zdy k q (F q m λw B=>W.flat fr w=true/\Q w B)
abbrev eN (i:Nat):W->Ev->(Ev->Prop)->Prop:=λw ρ Q=>onP ρ i w Q
def zx:gN i=eN i:=by funext w ρ Q;exact ud.symm
abbrev eNl:AS->Ev->(Ev->Prop)->Prop:=λds ρ Q=>match ds with | []=>Q ρ | _=>False
def x5:gNl=eNl:=by
 funext ds ρ Q
 cases ds with
 | nil=>simp[gNl,eNl]
 | cons _ _=>simp[gNl,eNl]
abbrev eCn (g:W->Ev->(Ev->Prop)->Prop) (u:AS->Ev->(Ev->Prop)->Prop):AS->Ev->(Ev->Prop)->Prop:=λds ρ Q=>match ds with | d::r=>g (.d d) ρ λq=>u r q Q | []=>False
def zS {g:W->Ev->(Ev->Prop)->Prop}{u:AS->Ev->(Ev->Prop)->Prop}:gCn g u=eCn g u:=by
 funext ds ρ Q
 cases ds with
 | nil=>simp[gCn,eCn]
 | cons d r=>exact propext ⟨by rintro⟨d',q,e,h⟩;cases e;exact h,λh=>⟨d,r,rfl,h⟩⟩
abbrev eTp (n:Nat) (u:AS->Ev->(Ev->Prop)->Prop):W->Ev->(Ev->Prop)->Prop:=λw ρ Q=>onT w λds=>zdy n ds (u ds ρ Q)
def x6 {n:Nat}{u:AS->Ev->(Ev->Prop)->Prop}:gTp n u=eTp n u:=by funext w ρ Q;simp only[gTp,eTp,zdS,zeI]
abbrev zwa (fa:AD):AC:=λρ n Q=>fa ρ n λx m=>onL x λl=>Q (l.map W.d) m
abbrev zwc (fa:AD):AC:=λρ n Q=>fa ρ n λx m=>onT x λl=>Q (l.map W.d) m
def yp:ztr fa=zwa fa:=by funext ρ n Q;simp only[ztr,zwa,xj]
def uR:zvD fa=zwc fa:=by funext ρ n Q;simp only[zvD,zwc,zdS]
abbrev zwb (fs:AC):AC:=λρ n Q=>fs ρ n λq m=>on1 q λx=>onI x λj=>(j<=1000000/\-1000000<=j)/\Q (zff 0 j.toNat) m
def yA:zvC fs=zwb fs:=by funext ρ n Q;simp only[zvC,zwb,uE,xH];congr 1;funext ws m;exact propext ⟨by right,by right⟩
abbrev dItR2 (fs:AC):AC:=λρ n Q=>fs ρ n λq m=>on2 q λx y=>onI x λi=>onI y λj=>(j<=1000000/\-1000000<=j/\i<=1000000/\-1000000<=i)/\Q (zff i (j - i).toNat) m
abbrev dItE (fs:AC):AC:=λρ n Q=>fs ρ n λq m=>on1 q λx=>onT x λl=>Q (enW 0 l) m
abbrev zsC (fs:AC):AC:=λρ n Q=>fs ρ n λq m=>on1 q λx=>onL x λl=>Q (enW 0 l) m
def zco:zql fs=zsC fs:=by funext ρ n Q;simp only[zql,zsC,uE,xj];congr 1;funext ws m;exact propext ⟨by right,by right⟩
abbrev dItZ (fs:AC):AC:=λρ n Q=>fs ρ n λq m=>on2 q λx y=>onT x λl=>onT y λk=>l.length=k.length/\Q (ziW l k) m
abbrev dItZM (fs:AC):AC:=λρ n Q=>fs ρ n λq m=>on2 q λx y=>onL x λl=>onT y λk=>l.length=k.length/\Q (ziW l k) m
abbrev zsD (fs:AC):AC:=λρ n Q=>fs ρ n λq m=>on2 q λx y=>onL x λl=>onL y λk=>Q (ziW l k) m
def zh2:zqn fs=zsD fs:=by funext ρ n Q;simp only[zqn,zsD,ztF,xj];congr 1;funext ws m;exact propext ⟨by rintro⟨i,j,e,h⟩;exact⟨_,_,e,i,rfl,j,rfl,h⟩,by rintro⟨x,y,e,i,q,j,B,h⟩;subst q B;exact⟨i,j,e,h⟩⟩
abbrev dIfS (t:Ev->Mo Bool) (f g:Ms):Ms:=λρ n k=>t ρ n λc m=>onC c (blk f ρ m k) (blk g ρ m k)
def zG {f g:Ms}:zwL t f g=dIfS t f g:=by funext ρ n k;simp only[zwL,dIfS,zar]
abbrev zwh (i:Nat):Ms:=λρ n k=>onV ρ i λw=>k.rt w n
def uS:zqs i=zwh i:=by funext ρ n k;exact uk.symm
abbrev dSet (i:Nat) (f:AD):Ms:=λρ n k=>f ρ n λw m=>onP ρ i w λq=>k.nx q m
def zo:zqh f (gN i)=dSet i f:=by change zqh f (gN i)=zqh f (eN i);rw[zx]
abbrev dOwn (i:Nat) (f:AD):Ms:=λρ n k=>f ρ n λw m=>onC (W.mut w) (onP ρ i w λρ'=>k.nx ρ' m) False
def yq:ztt i f=dOwn i f:=by funext ρ n k;simp only[ztt,dOwn,ud (Q:=λρ'=>k.nx ρ' _)];congr 1;funext w m;cases h:W.mut w <;> simp
abbrev dApp (i:Nat) (f:AD):Ms:=λρ n k=>onV ρ i λv=>onL v λl=>f ρ n λw m=>onD w λd=>l.length<lim/\onP ρ i (.d (.lst (l++[d]))) λq=>k.nx q m
def zcV:(onV ρ i λv=>onL v P) = ∃l,ρ[i]?=some (some (.d (.lst l)))/\P l:=by simp only[uk,xj];exact propext ⟨by right,by right⟩
def zsN{P:List (AG×Dt)->Prop}:(onV ρ i λv=>onE v P) = ∃l,ρ[i]?=some (some (.dt l))/\P l:=by simp only[uk,zlo];exact propext ⟨by right,by right⟩
def ub:zvA i f=dApp i f:=by
 funext ρ n k;simp only[zvA,dApp,zcV,xG,ud (Q:=λq=>k.nx q _)];show propext ⟨λ⟨⟨l,e⟩,h⟩=>⟨l,e,?_⟩,λ⟨l,e,h⟩=>⟨⟨l,e⟩,?_⟩⟩
 all_goals
  right
abbrev dExt (i:Nat) (f:AD):Ms:=λρ n k=>onV ρ i λv=>onL v λl=>f ρ n λw m=>onL w λB=>l.length+B.length<=lim/\onP ρ i (.d (.lst (l++B))) λq=>k.nx q m
def zg6:zwK i f=dExt i f:=by
 funext ρ n k;simp only[zwK,dExt,zcV];simp only[xj,ud (Q:=λq=>k.nx q _)];show propext ⟨λ⟨⟨l,e⟩,h⟩=>⟨l,e,?_⟩,λ⟨l,e,h⟩=>⟨⟨l,e⟩,?_⟩⟩
 all_goals
  right
abbrev dIns (i:Nat) (fk f:AD):Ms:=λρ n k=>onV ρ i λv=>onL v λl=>fk ρ n λy m=>f ρ m λw B=>onD w λd=>onI y λj=>(0<=j/\j<=l.length/\l.length<lim)/\onP ρ i (.d (.lst (zoK l j.toNat d))) λq=>k.nx q B
def zqk:zwM i fk f=dIns i fk f:=by
 funext ρ n k;simp only[zwM,dIns,zcV,xG,xH,ud (Q:=λq=>k.nx q _)];show propext ⟨λ⟨⟨l,e⟩,h⟩=>⟨l,e,?_⟩,λ⟨l,e,h⟩=>⟨⟨l,e⟩,?_⟩⟩
 all_goals
  show (congrArg (fk ρ n) ?_).mp h;funext y m;show congrArg (f ρ m) ?_;funext w m2;show propext ?_;simp[e,and_assoc]
abbrev zsH (i:Nat) (fk:AD):Ms:=λρ n k=>onV ρ i λv=>onL v λl=>fk ρ n λy m=>onI y λj=>(0<=j/\j<l.length/\l.length<=lim)/\onP ρ i (.d (.lst (l.eraseIdx j.toNat))) λq=>k.nx q m
def zno:zqr i fk=zsH i fk:=by
 funext ρ n k;simp only[zqr,zsH,zcV,xH,ud (Q:=λq=>k.nx q _)];show propext ⟨λ⟨⟨l,e⟩,h⟩=>⟨l,e,?_⟩,λ⟨l,e,h⟩=>⟨⟨l,e⟩,?_⟩⟩
 all_goals
  show (congrArg (fk ρ n) ?_).mp h;funext y m;show propext ?_;simp[e,and_assoc]
abbrev zvv (i:Nat):Ms:=λρ n k=>onV ρ i λv=>onL v λl=>onP ρ i (.d (.lst l.reverse)) λq=>k.nx q n
abbrev dPut (i:Nat) (fk f:AD):Ms:=λρ n k=>onV ρ i λv=>onL v λl=>f ρ n λw m=>fk ρ m λy B=>onD w λd=>onI y λj=>(0<=j/\j<l.length)/\onP ρ i (.d (.lst (l.set j.toNat d))) λq=>k.nx q B
def zk0:zwR i fk f=dPut i fk f:=by
 funext ρ n k;simp only[zwR,dPut,zcV,xG,xH,ud (Q:=λq=>k.nx q _)];show propext ⟨λ⟨⟨l,e⟩,h⟩=>⟨l,e,?_⟩,λ⟨l,e,h⟩=>⟨⟨l,e⟩,?_⟩⟩
 all_goals
  show (congrArg (f ρ n) ?_).mp h;funext y m;show congrArg (fk ρ m) ?_;funext w m2;show propext ?_;simp[e,and_assoc]
abbrev onSt (w:W) (P:AG->Prop):Prop:=∃st,w = .d (stD st)/\P st
abbrev zot (fd fk:AD):AD:=λρ n Q=>fd ρ n λx q=>fk ρ q λy B=>onE x λkvs=>∃st,y = .d (stD st)/\onO (yZ kvs st) λd=>Q (.d d) B
def zfZ:zkW fd fk=zot fd fk:=by
 funext ρ n Q;simp only[zkW,zot,zlo,zaM];grind
abbrev zou (i:Nat) (fk f:AD):Ms:=λρ n k=>onV ρ i λv=>onE v λkvs=>f ρ n λw m=>fk ρ m λy B=>onD w λd=>∃st,y = .d (stD st)/\kvs.length<lim/\onP ρ i (.dt (zfe kvs st d)) λq=>k.nx q B
def zkY:zkX i fk f=zou i fk f:=by
 funext ρ n k;simp only[zkX,zou,zsN,xG,ud (Q:=λB=>k.nx B _)];show propext ⟨λ⟨⟨l,e⟩,h⟩=>⟨l,e,?_⟩,λ⟨l,e,h⟩=>⟨⟨l,e⟩,?_⟩⟩
 all_goals
  show (congrArg (f ρ n) ?_).mp h;funext y m;show congrArg (fk ρ m) ?_;funext w m2;show propext ?_;constructor
 rintro⟨kvs,st,d,q,F,I,h1,h2⟩;rw[e] at q;cases q;exact⟨d,F,st,I,h1,h2⟩;right;right;rintro⟨kvs,st,d,q,F,I,h1,h2⟩;rw[e] at q;cases q;exact⟨d,F,st,I,h1,h2⟩
abbrev zsF (i j:Nat):Ms:=λρ n k=>onV ρ j λw=>onN ρ j λq=>onP q i w λB=>k.nx B n
def zez:zqo i j=zsF i j:=by funext ρ n k;simp only[zqo,zsF,uk,ud (Q:=λq=>k.nx q _),zoS (Q:=λB=>k.nx (B.set i (some _)) n)]
abbrev dPar (i j:Nat) (fs:AC):Ms:=λρ n k=>fs ρ n λF m=>on2 F λw u=>onP ρ i w λq=>onP q j u λB=>k.nx B m
abbrev dIsi (B:Dt->Bool) (f:AD):AD:=λρ n Q=>f ρ n λw m=>onD w λd=>Q (.d (.bl (B d))) m
def zbG:zoP B f=dIsi B f:=by funext ρ n Q;simp only[zoP,dIsi,xG]
abbrev zhI (fs:AC):AD:=λρ n Q=>fs ρ n λq m=>on1 q λx=>onI x λj=>(0<=j/\j<=1000)/\Q (.d (.lst (zgw j.toNat))) m
abbrev zsJ (fs:AC):AD:=λρ n Q=>fs ρ n λq m=>on1 q λx=>onI x λj=>(0<=j/\j<=1000)/\Q (.d (.tup (zgw j.toNat))) m
def zuG {q:AU}{P:Nat->Prop}:(∃j:Nat,q=[.d (.int (j:Int))]/\j<=1000/\P j)=on1 q λx=>onI x λj=>(0<=j/\j<=1000)/\P j.toNat:=by simp only[uE,xH];exact propext ⟨by rintro⟨j,e,h1,h⟩;exact⟨_,e,_,rfl,⟨by lia,by lia⟩,by simpa using h⟩,by rintro⟨x,e,j,B,⟨h1,h2⟩,h⟩;exact⟨j.toNat,by grind,by lia,h⟩⟩
def uc:zey fs=zhI fs:=by funext ρ n Q;simp only[zey,zhI];congr 1;funext ws m;exact zuG (P:=λj=>Q (.d (.lst (zgw j))) m)
abbrev dTru (f:AD):Ev->Mo Bool:=λρ n Q=>f ρ n λw m=>onO (truD w) λb=>Q b m
def zg7:zwU f=dTru f:=by funext ρ n Q;simp only[zwU,dTru,zaM]
abbrev zjH (F G:W->W->Mo W) (fa fb fc:AD):AD:=λρ n Q=>fa ρ n λx B=>fb ρ B λy I=>F x y I λz q=>onB z λk=>onC k (fc ρ q λu J=>G y u J Q) (Q (.d (.bl false)) q)
def zkT:zfY F G fa fb fc=zjH F G fa fb fc:=by funext ρ n Q;simp only[zfY,zjH,zll,zar]
def znq:zmo (zfY F G fa fb fc)=zwj (zjH F G fa fb fc):=by rw[zkT,zm]
def zhE{α:Type}(xs:List α)(F:α->W)(hl:l=xs.map F)(O:xs.length<=lim)(I:Nat->Ev->Nat->AS->Prop)(h0:I 0 L n [])(h:∀i a q J acc,xs[i]?=some a->I i q J acc->∀C:Ev->Nat->AS->Prop,(∀ {ρ m l},I (i+1) ρ m l->C ρ m l)->mg (F a) q λB=>U B J λb Z=>onC b (Y B Z λx n3=>onD x λd=>C B n3 (acc++[d])) (C B Z acc))(fin:∀ q J acc,I xs.length q J acc->Q (.d (.lst acc)) J):zfq mg U Y L Q l n:=by
 show zmF xs F hl O I h0 (λi a q J acc ha hI C hC=>?_) fin;have:=h i a q J acc ha hI C hC;simp only[zar,xG] at this;exact this
def xZ{α:Type}(xs:List α)(F:α->W)(Z:l=xs.map F)(J:Ev->Prop)(P:α->Bool)(E:α->Dt)(L:xs.length<=lim)(j0:J I)(h:∀a∈xs,∀ B,J B->∀C:Ev->Nat->Option Dt->Prop,(∀ {q},P a=true->J q->C q n (some (E a)))->(∀ {q},P a=false->J q->C q n none)->mg (F a) B λq=>O q n λb Y=>onC b (U q Y λx n3=>onD x λd=>C q n3 (some d)) (C q Y none))(fin:Q (.d (.lst ((xs.filter P).map E))) n):zfq mg O U I Q l n:=by
 show zjy xs F Z J P E L j0 (λa ha B hj C hC=>?_) fin;have:=h a ha B hj C (λ{q} e z=>by right) λ{q} e z=>by have:=hC q z;rwa[if_neg (by rw[e];decide)] at this
 simp only[zar,xG] at this;exact this
def zah{α:Type}(xs:List α)(F:α->W)(U:l=xs.map F)(J:Ev->Prop)(E:α->Dt)(L:xs.length<=lim)(Y:J I)(h:∀a∈xs,∀ B,J B->∀C:Ev->Nat->Dt->Prop,(∀ {q},J q->C q n (E a))->mg (F a) B λq=>O q n λx Z=>onD x λd=>C q Z d)(fin:Q (.d (.lst (xs.map E))) n):zfq mg zvE O I Q l n:=by
 show zmG xs F U J E L Y (λa ha B hj C hC=>?_) fin;have:=h a ha B hj C λ{q} z=>hC q z;simp only[xG] at this;exact this
def zit{t:Ev->Mo Bool}{fb:Ms}{ρ:Ev}{k:Kt}(I:Nat->Ev->Nat->Prop)(O:Nat)(Y:I O ρ n)(h:∀m q J,I m q J->∀ (C B:Ev->Nat->Prop) (E:AV),(∀ {ρ n} (F:Nat),F<m->I F ρ n->C ρ n)->(∀ {ρ n},k.nx ρ n->B ρ n)->(∀ {w n},k.rt w n->E w n)->t q J λb U=>onC b (blk fb q U { rt:=E,nx:=C,ct:=C,bk:=B }) (B q U)):zk3 t fb ρ n k:=by
 show zmk I O Y λm q J Z=>?_;have:=h m q J Z (λL n3=>∃F,F<m/\I F L n3) k.nx k.rt (λF a b=>⟨F,a,b⟩) (λz=>z) λz=>z;simp only[zar,zss] at this;exact this
end
abbrev rep:Nat->(Ev->Prop)->Prop
 | 0,Q=>Q []
 | k+1,Q=>rep k λρ=>Q (none::ρ)
abbrev beg:AU->Nat->(Ev->Prop)->Prop
 | [],r,Q=>rep r Q
 | w::q,r,Q=>beg q r λρ=>Q (some w::ρ)
def zlT:∀ {r:Nat} {Q:Ev->Prop},rep r Q=Q (List.replicate r none)
 | 0,Q=>rfl
 | r+1,Q=>by rw[rep,zlT];rfl
def zjn:∀ {q:AU} {r:Nat} {Q:Ev->Prop},beg q r Q=Q (q.map some++List.replicate r none)
 | [],r,Q=>by rw[beg,zlT];rfl
 | w::q,r,Q=>by rw[beg,zjn];rfl
def ztD {P:Aa}{w:Ab}{K:AH}{mg:AI}{base:Heap}{I:Str}{st:Stmt}{f:Addr}{fd:Ac}{N ps:AM}{k m:Nat}{fr:Bool}{F:PN->AU->Mo W}(M:AR)(r:Nat)(O:(∀vs H Q E,spV m fr F vs H Q E->vs.length=ps.length)->(∀ (B:Value) (A:Ae) (q:List Env) (s:AZ) (H:Hp) (vs:AT) (Q:VK) (E:XK),Room k (A.deeper (PyProof.Rows.envOfC I (zg st) s.heap.objs.size f B))->spV m fr F vs H Q E->
   ∃t,QSs (zek CX0 P w K mg base N I (zg st) f B A q s H E).nox (yy st) t/\t { nx:=λ_ H'=>Q .non H',rt:=Q } (L2.xy N vs) H)->FnOk P w K mg base CX0 (k+1) f fd ps (spV m fr F)) (U:m=ps.length) (Y:∀i∈M,m<=i) (Z:N.length=m+r)
  (J:∀ (B:Value) (A:Ae) (q:List Env) (s:AZ) (H:Hp) (E:XK) (Pn:PN),Room k (A.deeper (PyProof.Rows.envOfC I (zg st) s.heap.objs.size f B))->
   ∃fs,JSs (zek CX0 P w K mg base N I (zg st) f B A q s H E).nox Pn [] M fr (yy st) fs/\∀L n R,F Pn L n R->beg L r λρ=>fs ρ n { nx:=λ_ n'=>onC fr False (R (.d .non) n'),rt:=R }):FnOk P w K mg base CX0 (k+1) f fd ps (spV m fr F):=by
 show ztC M O U Y λB A q s H E Pn hr=>?_;obtain⟨fs,h1,h2⟩:=J B A q s H E Pn hr;show⟨fs,h1,λL n R hl hF=>?_⟩;have:=h2 L n R hF;rw[zjn] at this;have e:xL N L=L.map some++List.replicate r none:=by unfold xL;rw[Z,hl,Nat.add_sub_cancel_left]
 grind
def Fun.okW(M:AR)(r:Nat)(Fu:Fun K x q st f fd)(S:FnScope N ps (zg st))(O:m=ps.length)(U:∀i∈M,m<=i)(Y:N.length=m+r)(B:∀ (J:Value) (A:Ae) (I:List Env) (s:AZ) (H:Hp) (E:XK) (Pn:PN),Room k (A.deeper (PyProof.Rows.envOfC q (zg st) s.heap.objs.size f J))->
   ∃fs,JSs (zek CX0 P w K mg base N q (zg st) f J A I s H E).nox Pn [] M fr (yy st) fs/\∀L n R,F Pn L n R->beg L r λρ=>fs ρ n { nx:=λ_ Z=>onC fr False (R (.d .non) Z),rt:=R }):FnOk P w K mg base CX0 (k+1) f fd ps (spV m fr F):=ztD M r (λl b=>Fun.okQ Fu S l b) O U Y B
abbrev dItS (i:Nat):AC:=λρ n Q=>onV ρ i λx=>onS x λl=>Q (l.map W.d) n
def zqm:zwN (zsd i)=dItS i:=by
 funext ρ n Q;simp only[zwN,yp,uR,zwa,zwc,dItS,uk,zf6,xj,zdS];grind
def zuD{fs:Ms}(h:rep r λρ=>fs (a::b::ρ) n k):fs (a::b::List.replicate r none) n k:=by rw[zlT] at h;exact h
def zwW {G:Prop}(P:W->Prop)(h:(∀a,P a)->G)(r:∀a,P a):G:=h r
def len1 {st:AG}{x:Dt}(h:st.length<=1000):(st.map Dt.int).length+[x].length<=lim:=by rw[ab];exact ar (by simp;lia:_<=1001) (by ext)
def cat1 {st:AG}{x:Int}:st.map Dt.int++[Dt.int x]=(st++[x]).map Dt.int:=by right
def zbz {st:AG}{b x:Int}(q:0<=b)(B:st.length<=1000):xY (st.map Dt.int) none (some b)++[Dt.int x]++xY (st.map Dt.int) (some (b+1)) none=(chg st b x).map Dt.int:=by
 have key:∀z:W,zgN (.d (.tup (xY (st.map Dt.int) none (some b)))) (.d (.tup [.int x])) 0 (λw m=>zgN w (.d (.tup (xY (st.map Dt.int) (some (b+1)) none))) m λw' _=>w' = .d (stD (chg st b x))):=λz=>zpk q B rfl;obtain⟨l,m,F,I,_,J,L,O,U,_,h⟩:=key (.d .non);grind
def zaB {st:AG}{b:Int}{x:Dt}(q:st.length<=1000):(xY (st.map Dt.int) none (some b)).length+[x].length<=lim:=by have:=zbC (st.map Dt.int) none (some b);rw[ab] at this;exact ar (by simp;lia:_<=1001) (by ext)
def zaC{st:AG}{b c:Int}(q:st.length<=1000):(xY (st.map Dt.int) none (some b)++[x]).length+(xY (st.map Dt.int) (some c) none).length<=lim:=by have h1:=zbC (st.map Dt.int) none (some b);have h2:=zbC (st.map Dt.int) (some c) none;rw[ab] at h1 h2;rw[aj];exact ar (by simp;lia:_<=2001) (by ext)
def scR (mg:W->Ev->(Ev->Prop)->Prop)(O:Ev->Mo Bool)(U:AD)(J:Ev)(Q:AF->Nat->Prop):AU->Nat->Prop:=λl Y=>∃I:Nat->Ev->Nat->AF->Prop,I 0 J Y []/\
 (∀i w q F acc,l[i]?=some w->I i q F acc->mg w q λB=>O B F λb L=>if b=true then U B L λx Z=>∃st,x = .d (stD st)/\I (i+1) B Z (acc++[st]) else I (i+1) B L acc)/\
 (∀i q F acc ks,I i q F acc->List.Nodup ks->(∀z∈ks,z∈acc)->ks.length<300)/\
 ∀ q F acc ks,I l.length q F acc->List.Nodup ks->(∀z,z∈ks↔z∈acc)->Q ks F
abbrev zk1 (q:AC) (mg:W->Ev->(Ev->Prop)->Prop) (B:Ev->Mo Bool) (F:AD) (cix:List (Option Nat)):AD:=λρ n Q=>q ρ n (scR mg B F (zbx ρ cix) λks I=>∃m,ks.length<64/\1<=m/\(∀st∈ks,st.length=m)/\∀l':AF,l'.Perm ks->(l'.Pairwise λa b=>HT.lexLt a b=true)->Q (.d (uu l')) I)
def zlg:NP (zgx P w a xs):=zh4
def zho{ks:AF}(S:zdF P w (upd H acc o) acc ks):NP o/\Mt o:=by obtain⟨xs,h1,_⟩:=S;rw[zj] at h1;cases h1;exact⟨zlg,rfl⟩
section
variable {X:Cx}{Pn:PN}{M S:AR}{fr fr':Bool}{pos p:Pos}
def zlS{P:Aa}{w:Ab}{wi:TI}{g:TG}{ti:TT}{te:TE}{cix:List (Option Nat)}{fi:AC}{mg:W->Ev->(Ev->Prop)->Prop}{ft:Ev->Mo Bool}{fe:AD}(hn:(cix.filterMap id).Nodup)(hi:RI Pn M ow wi fi)(hg:RG (ya M cix) (ya M cix) g mg)(ht:RT Pn (ya M cix) ti ft)(he:RE Pn (ya M cix) fr' te fe):RE Pn M true (tCB (zlO P w) (zbL (zrU P w wi g ti te cix) zja)) (zk1 fi mg ft fe cix):=⟨λA σ H ρ n Q R E Pp hf k=>by
 show hi.run A σ H ρ n _ _ E Pp hf λl m J H1 ⟨I,i0,it,ib,ie⟩ iv g1=>λacc F S0=>?_;have E1:=E.stay g1.st;have E2:=(E1.cap hn).more (zu.upd (o:=zgx P w acc []) F) (Fr.of F) zj zlg rfl;have P2:xQ Pn (λb=>A b\/b=acc) m (L2.upd H1 acc (zgx P w acc [])):=g1.pn.grow' (g1.pn.same (y4.upd F)) (Fr.of F) zj zlg rfl;have bx:∀k w,k∈ya M cix->(zbx ρ cix)[k]?=some (some w)->(u4 σ cix)[k]?≠some (some (.ref acc)):=λk w hk hw z=>by obtain⟨v,s1,_,s3⟩:=(E1.cap hn).val k w hw;obtain⟨a,e,hA,_⟩:=s3 hk;rw[z] at s1;cases s1;cases e;exact E1.new F hA
 have key:∀ L q H',EnvR (λb=>A b\/b=acc) (ya M cix) L H' q->(∀k∈ya M cix,L[k]?=(u4 σ cix)[k]?/\q[k]?=(zbx ρ cix)[k]?)->∀k w,k∈ya M cix->q[k]?=some (some w)->L[k]?≠some (some (.ref acc)):=λL q H' E' ap k w hk hw z=>by right
 show⟨λi mm L H'=>mm=l.length - i/\i<=l.length/\∃ q U B ks,EnvR (λb=>A b\/b=acc) (ya M cix) L H' q/\xQ Pn (λb=>A b\/b=acc) U H'/\I i q U B/\zdF P w H' acc ks/\(∀z,z∈ks↔z∈B)/\zu (zM A H1) (zM (λb=>A b\/b=acc) H')/\zu H1 H'/\(∀k∈ya M cix,L[k]?=(u4 σ cix)[k]?/\q[k]?=(zbx ρ cix)[k]?),
  ⟨l.length,by simp,aG _,_,m,[],[],E2,P2,i0,S0,λ_=>Iff.rfl,yC (zu.upd F) (Fr.of F),zu.upd F,λk hk=>⟨rfl,rfl⟩⟩,?_⟩
 rintro i mm L H' ⟨rfl,b0,q,U,B,ks,E',P',hI,hS,hm,st,s1,ap⟩;have a0:ks.Nodup:=hS.choose_spec.2.2.2;by_cases a1:i<l.length
 show Or.inr ?_;have an:l[i]?=some l[i]:=ah a1;obtain⟨go,yl⟩:=iv.one i l[i] _ H' an st (λ_=>s1) λp hp=>E'.new hp
 show⟨go,λas H2=>∃ q U B ks,EnvR (λb=>A b\/b=acc) (ya M cix) as H2 q/\xQ Pn (λb=>A b\/b=acc) U H2/\I (i+1) q U B/\zdF P w H2 acc ks/\(∀z,z∈ks↔z∈B)/\zu (zM A H1) (zM (λb=>A b\/b=acc) H2)/\zu H1 H2/\(∀k∈ya M cix,as[k]?=(u4 σ cix)[k]?/\q[k]?=(zbx ρ cix)[k]?),
  λas H2 h=>⟨l.length - (i+1),by lia,rfl,a1,h⟩,λx H2 hy=>?_⟩
 obtain⟨S2,V2⟩:=yl x H2 hy;show hg.run _ L H2 q x l[i] _ _ (E'.stay (zu.same S2)) V2 (it i l[i] q U B an hI) λad O r3 E3 f3=>?_;have Y:∀k∈ya M cix,ad[k]?=(u4 σ cix)[k]?/\O[k]?=(zbx ρ cix)[k]?:=λk hk=>⟨(f3 k hk).1.trans (ap k hk).1,(f3 k hk).2.trans (ap k hk).2⟩;show ht.run _ ad H2 O U _ _ E3 (P'.same S2) r3 λb m3 H4 r4 g4=>?_;have ag:=(zu.same S2).trans g4.st
 cases b with
 | false=>
  rw[if_neg (by ext)] at r4 ⊢;exact⟨O,m3,B,ks,E3.stay g4.st,g4.pn,r4,hS.stay ag,hm,st.trans (zH ag),s1.trans ag,Y⟩
 | true=>
  rw[if_pos rfl] at r4 ⊢;show he.run _ ad H4 O m3 _ _ (E3.stay g4.st) g4.pn r4  ?_;rintro w5 m5 v5 H5 ⟨d,e5,r5⟩ V5 g5 _;subst e5;have av:=ag.trans g5.st;have E5:=(E3.stay g4.st).stay g5.st;obtain⟨b,rfl,hb⟩:=zvk V5;show⟨b,d,ks,rfl,hb,hS.stay av,ib i q U B ks hI a0 λz hz=>(hm z).mp hz,λo a7 S' a8 b1=>?_⟩;obtain⟨np,nt⟩:=zho S';show⟨O,m5,B++[d],a7,E5.upd (.inr rfl) (key ad O H5 E5 Y) np nt,g5.pn.upd (.inr rfl),r5,S',λz=>?_,?_,?_,Y⟩;rw[a8 z,a9,aD,hm z,or_comm];rw[yg (.inr rfl)];exact st.trans (zH av);exact λb o e nn=>by rw[zf (zc e F)];exact s1.trans av b o e nn
 show Or.inl ?_;have bb:i=l.length:=by lia
 subst bb;show⟨iv.stop _ H' st (λ_=>s1),?_⟩;obtain⟨ml,bd,h1,bk,hq⟩:=ie q U B ks hI a0 hm;show⟨acc,ks,ml,rfl,hS,bd,h1,bk,λys Z bl hp hu=>λp H3 a2 gp S3=>?_⟩;have bo:=s1.trans (zu.same S3);have a3:Al A H':=E1.al.stay s1;have bs:xQ Pn A U H3:=(P'.same S3).less λa z=>.inl z;have a4:=a3.stay (zu.same S3);have a5:=bl.stay (zu.same S3);show k _ U _ H3 (hq Z hp hu) (Val.of ⟨p,ys,rfl,zv (a3.new a2) gp,uP a4.noT (xU Z) a5⟩) (g1.trans ⟨bo,bs⟩) λ_=>⟨p,rfl,((Fr.of a2).back s1).back g1.st,p,ys,rfl,gp,uP (λb xs z e=>?_) (xU Z) a5⟩;rcases z with z | z;exact a4.noT b xs z e;subst z;rw[gp] at e;cases e⟩
def zna {elt tg iter:Expr}{ifs:AO}{scope:Scope}{N:AM}{cix:List (Option Nat)}{J:AC}{mg:W->Ev->(Ev->Prop)->Prop}{L:Ev->Mo Bool}{O:AD}{Y:Bool}{sp:Pos}(B:X.mg "sorted" = none)(Z:X.A.units+1<cLine)(U:X.calm=true)(cc:CompOk X scope N cix)
  (hi:JI X Pn M Y tg iter J) (hg:∀C s H ex,JG (zA X scope N C s H ex) (ya M cix) (ya M cix) tg mg) (ht:∀C s H ex,JTs (zA X scope N C s H ex) Pn (ya M cix) ifs L) (he:∀C s H ex,JE (zA X scope N C s H ex) Pn (ya M cix) fr' elt O)
  (hn:(cix.filterMap id).Nodup:=by ext) (hs:∀x,foldedSetIterable iter X.env x=pure x:=by intro _;rfl) (F:Gl X "sorted" := by rfl) (q:starEach [.SetComp elt [⟨tg,iter,ifs,0⟩] scope sp] X.env=[(false,eval (.SetComp elt [⟨tg,iter,ifs,0⟩] scope sp) X.env)]:=by rfl) (I:(backTo pos (starEach [] X.env)).any (·.1)=false:=by rfl) :
  JE X Pn M true (.Call (.Name "sorted" p) [.SetComp elt [⟨tg,iter,ifs,0⟩] scope sp] [] pos) (zk1 J mg L O cix):=by
 obtain⟨ti,qi,ri⟩:=hi.ex;obtain⟨g,qg,rg⟩:=zof hg;obtain⟨tt,qt,rt⟩:=zog ht;obtain⟨te,qe,re⟩:=zoe he;exact⟨_,xk (zhH U) F B cD (zD (zi2 Z U cc qi qg qt qe hs) yc q) (by ext) (by ext) q I,zlS hn ri rg rt re⟩
end
def zrO{α:Type}{Q:AF->Nat->Prop}(xs:List α)(L:α->W)(hl:l=xs.map L)(J:Ev->Prop)(P:α->Bool)(E:α->AG)(j0:J I)(h:∀a∈xs,∀ B,J B->∀C:Ev->Nat->Option AG->Prop,(∀ {q},P a=true->J q->C q n (some (E a)))->(∀ {q},P a=false->J q->C q n none)->mg (L a) B λq=>ft q n λb n2=>onC b (fe q n2 λx U=>∃st,x = .d (stD st)/\C q U (some st)) (C q n2 none))(Y:∀ks,List.Nodup ks->(∀z∈ks,z∈(xs.filter P).map E)->ks.length<300)(fin:∀ks,List.Nodup ks->(∀z,z∈ks↔z∈(xs.filter P).map E)->Q ks n):scR mg ft fe I Q l n:=by
 subst hl;show⟨λi B O acc=>J B/\O=n/\acc=((xs.take i).filter P).map E,⟨j0,rfl,by simp⟩,?_,?_,?_⟩;rintro i w B O acc hw ⟨hj,rfl,rfl⟩;rw[aq] at hw;obtain⟨a,Z,rfl⟩:=aC.mp hw
 have:=h a (aA Z) B hj (λq U o=>match o with
  | some d=>J q/\U=O/\((xs.take i).filter P).map E++[d]=((xs.take (i+1)).filter P).map E
  | none=>J q/\U=O/\((xs.take i).filter P).map E=((xs.take (i+1)).filter P).map E) (λ{q} hp F=>by
   rw[zn Z,bR,az]
   exact⟨F,rfl,by simp[hp]⟩) (λ{q} hp F=>by
   rw[zn Z,bR,az];exact⟨F,rfl,by simp[hp]⟩)
 simp only[zar] at this;exact this;rintro i B O acc ks ⟨_,rfl,rfl⟩ hn hk;show Y ks hn λz hz=>?_;grind;right
abbrev dGetI (fd fk q:AD):AD:=λρ n Q=>fd ρ n λx B=>onK x λkvs=>fk ρ B λy F=>q ρ F λz I=>onO (zth y) λk=>onI z λi=>Q (.d ((yZ kvs k).getD (.int i))) I
section
variable {X:Cx}{Pn:PN}{M:AR}{a b c:Expr}{fa fb fc:AD}{apos cpos:Pos}
end
end L3
namespace L2
open PyProof.Rows
section
variable {X:Cx}{e lo st:Expr}{te tl tk:TE}{pos p2:Pos}
end
end L2
namespace L3
open L2
abbrev dFromL (fa fl fk:AD):AD:=λρ n Q=>fa ρ n λx q=>onL x λl=>fl ρ q λy B=>onI y λc=>fk ρ B λz F=>onI z λk=>(0<=c/\1<=k)/\∀ys:AS,ys.Sublist (l.drop c.toNat)->Q (.d (.lst ys)) F
section
variable {X:Cx}{Pn:PN}{M:AR}{e lo st:Expr}{f fl fk:AD}{pos p2:Pos}
end
def zg3 (A:AL)(a:Addr):AL:=λb=>A b/\b≠a
def zpM:HO:=.dK [(Sum.inr "at",.non)]
def zkd:¬ NP zpM:=λh=>by have:=h _ rfl;rw[xA (p:=((Sum.inr "at" : Key),V.non)) rfl] at this;cases this
abbrev zka (H:Hp)(a:Addr):Hp:=L2.upd H a zpM
def zkb:zka H a a=some zpM:=zj
def zcI(h:b≠a):zka H a b=H b:=zf h
def zkc:Fr (zka H a) a:=λo e=>by rw[zkb] at e;cases e;exact zkd
def za3(B:A a):zu (zM A H) (zM (zg3 A a) (zka H a)):=λb o e F=>by
 obtain⟨h1,h2⟩:=zE.mp e;by_cases q:b=a;right;exact zv (λz=>h1 z.1) (by rw[zcI q];exact h2)
def zjk(q:Al A H):Al (zg3 A a) (zka H a):=λb z=>by obtain⟨o,h1,h2⟩:=q b z.1;exact⟨o,by rw[zcI z.2];exact h1,h2⟩
def WAt.top(h:WAt T G u (.ref c))(e:T' c=T c)(hm:u.mut=true):WAt T' G u (.ref c):=by
 cases u with
 | d x=>
  cases x with
  | lst l=>obtain⟨a2,xs,e2,g1,g2⟩:=h;cases e2;exact⟨c,xs,rfl,by rw[e];exact g1,g2⟩
  | dct=>obtain⟨a2,xs,e2,g1,g2⟩:=h;cases e2;exact⟨c,xs,rfl,by rw[e];exact g1,g2⟩
  | _=>cases hm
 | pen p=>cases hm
 | dk kvs=>obtain⟨a2,xs,e2,g1,g2,g3⟩:=h;cases e2;exact⟨c,xs,rfl,by rw[e];exact g1,g2,g3⟩
 | dt kvs=>obtain⟨a2,xs,e2,g1,g2⟩:=h;cases e2;exact⟨c,xs,rfl,by rw[e];exact g1,g2⟩
 | ss P w kvs=>obtain⟨a2,xs,e2,g1,g2⟩:=h;cases e2;exact⟨c,xs,rfl,by rw[e];exact g1,g2⟩
 | df kvs=>obtain⟨a2,ob,xs,e2,g1,g2⟩:=h;cases e2;exact⟨c,ob,xs,rfl,by rw[e];exact g1,g2⟩
 | kf kvs=>obtain⟨a2,ob,xs,e2,g1,g2⟩:=h;cases e2;exact⟨c,ob,xs,rfl,by rw[e];exact g1,g2⟩
 | ad a x=>cases hm
 | fl kvs=>obtain⟨a2,ob,xs,e2,g1,g2⟩:=h;cases e2;exact⟨c,ob,xs,rfl,by rw[e];exact g1,g2⟩
section
variable {X:Cx}{Pn:PN}{M S:AR}{fr fr':Bool}{pos p:Pos}
def At3.put(a:At3 Pn B S M A σ H ρ n)(hi:i∈M)(hs:i∉S)(g':Go Pn A H m H')(hF:Fr H ad)(hb:WAt H' (zM (λb=>A b\/b=ad) H') w (.ref ad))(hm:w.mut=true) :
  At3 Pn B S M (λb=>A b\/b=ad) (σ.set i (some (.ref ad))) H' (ρ.set i (some w)) m:=by
 obtain⟨a2,o,e2,ho,np,nt⟩:=zla hb hm;cases e2;have E1:=a.env.more g'.st hF ho np nt;have hnA:¬ A ad:=a.env.newF hF;show⟨⟨?_,?_,?_,E1.al⟩,⟨λb z=>.inl (a.frm.sub b z),λb z=>?_,λb o e n c=>g'.st b o (a.frm.st b o e n c) n,a.frm.al,a.frm.cn,λb z=>let ⟨o,e,n⟩:=a.frm.cs b z;⟨o,g'.st b o e n,n⟩⟩,a.pn.grow' g'.pn hF ho np nt,a.prot.trans (yC g'.st hF),⟨λj hj=>?_,a.fix.2⟩,λj u b hj e s=>?_⟩;rw[bc,bc];exact a.env.len;intro j u e;by_cases hj:j=i;subst hj
 have hl:j<ρ.length:=by
  have:=(ac.mp e).1;right
 rw[aL hl] at e;cases e;exact⟨.ref ad,aL (by rw[a.env.len];exact hl),λz=>absurd hi z,λ_=>⟨ad,rfl,.inr rfl,hb,hm⟩⟩;rw[au (Ne.symm hj)] at e ⊢;exact E1.val j u e;intro j l u u' b hj hl hne e1 e2 s1 s2
 have own:∀q u,q∈M->q≠i->ρ[q]?=some (some u)->σ[q]?≠some (some (.ref ad)):=λq u hq hqi eq sq=>by
  obtain⟨v,s,_,s3⟩:=a.env.val q u eq;obtain⟨c,ec,hc,_⟩:=s3 hq;right
 have len:∀q (u:W),(ρ.set i (some w))[q]?=some (some u)->q<σ.length:=λq u e=>by have:=(ac.mp e).1;rw[bc] at this;rw[a.env.len];exact this
 by_cases hji:j=i;subst hji;rw[aL (len _ _ e1)] at s1;cases s1;rw[au hne] at e2 s2;exact own l u' hl (Ne.symm hne) e2 s2;rw[au (Ne.symm hji)] at e1 s1;by_cases hli:l=i;right;rw[au (Ne.symm hli)] at e2 s2;exact a.env.dis j l u u' b hj hl hne e1 e2 s1 s2;rcases z with z | z;exact a.frm.new b z;subst z;exact .inr (.inl (a.frm.back hF hnA));rw[au λ(z:i=j)=>hs (by rw[z];exact hj)];exact a.fix.1 j hj;by_cases hji:j=i;subst hji
 have hl:j<σ.length:=by
  have:=(ac.mp s).1;right
 rw[aL hl] at s;cases s;exact .inl (a.frm.back hF hnA);rw[au (Ne.symm hji)] at e s;exact a.mine j u b hj e s
def At3.let'(a:At3 Pn B S M A σ H ρ n)(J:∀b,¬ B.ca b)(hi:i∈M)(e:ρ[i]?=some (some w))(s:σ[i]?=some (some (.ref I)))(L:A I) :
  At3 Pn B S M (zg3 A I) σ (zka H I) (ρ.set i none) n:=by
 have hF:Fr B.H0 I:=(a.mine i w I hi e s).resolve_right (J I)
 have U:∀ {j:Nat} {u:W},(ρ.set i none)[j]?=some (some u)->j≠i/\ρ[j]?=some (some u):=λ{j u} h=>by
  by_cases F:j=i;subst F;rw[aL (ac.mp e).1] at h;cases h;rw[au (Ne.symm F)] at h;exact⟨F,h⟩
 show⟨⟨?_,?_,?_,zjk a.env.al⟩,⟨λb z=>?_,λb z=>a.frm.new b z.1,λb o e' np nc=>?_,a.frm.al,a.frm.cn,λb z=>absurd z (J b)⟩,(a.pn.upd L).less λ_ z=>z.1,a.prot.trans (za3 L),a.fix,?_⟩;rw[bc];exact a.env.len;intro j u h;obtain⟨F,h⟩:=U h;obtain⟨v,Y,s2,s3⟩:=a.env.val j u h;show⟨v,Y,λz=>WAt.up (za3 L) (za3 L) (s2 z),λz=>?_⟩;obtain⟨c,rfl,hc,hb,hm⟩:=s3 z;have O:c≠I:=λq=>by subst q;exact a.env.dis i j w u c hi z (Ne.symm F) e h s Y
 show⟨c,rfl,⟨hc,O⟩,?_,hm⟩;exact WAt.top (WAt.up (zu.refl _) (za3 L) hb) (zcI O) hm;intro j l u u' b F hl Z e1 e2;exact a.env.dis j l u u' b F hl Z (U e1).2 (U e2).2;show⟨a.frm.sub b z,λq=>?_⟩;subst q;obtain⟨o,o1,o2,_⟩:=a.frm.al b z;exact hF o o1 o2;rw[zcI λq=>by subst q;exact hF o e' np];exact a.frm.st b o e' np nc;intro j u b F h Y;exact a.mine j u b F (U h).2 Y
def spG (k:Nat)(fr:Bool)(F:PN->AU->Mo W):Sp:=λvs H Q _=>∃Pn A us zs w a n R,vs=us++[.ref a]/\Al A H/\A a/\zdG A H zs us/\Bor A H w (.ref a)/\w.mut=true/\zs.length+1=k/\xQ Pn A n H/\F Pn (zs++[w]) n R/\
 ∀w' m v H',R w' m->Val (zg3 A a) H' w' v->zu (zka H a) H'->xQ Pn (zg3 A a) m H'->(fr=true->FrV (zg3 A a) (zka H a) H' w' v)->Q v H'
abbrev dGiv (i:Nat) (F:AU->Mo W) (f1 f2:AD):Ms:=λρ n k=>f1 ρ n λw1 m1=>f2 ρ m1 λw2 m2=>onV ρ i λw=>F [w1,w2,w] m2 λw' m'=>onC (W.mut w') (onP ρ i w' λρ'=>k.nx ρ' m') False
def zuJ(h1:RE Pn M b1 t1 f1)(h2:RE Pn M b2 t2 f2)(hi:i∈M)(hs:i∉S) :
  RS Pn S M fr (zfg (zhr (spG 3 true F) [] E0 (zbL t1 (zbL t2 (zbL (zmd i) zja)))) (uA i)) (dGiv i (F Pn) f1 f2):=⟨λB A σ H ρ n k D a kk hf=>by
 show h1.run A σ H ρ n _ _ a.env a.pn hf λw1 m1 v1 H1 r1 V1 g1 _=>?_;show h2.run A σ H1 ρ m1 _ _ (a.env.stay g1.st) g1.pn r1 λw2 m2 v2 H2 r2 V2 g2 _=>?_;rw[uk] at r2;obtain⟨w,ew,r2⟩:=r2;have a2:=(a.step g1).step g2;obtain⟨v,s1,_,s3⟩:=a2.env.val i w ew;obtain⟨ad,rfl,hA,hb,hm⟩:=s3 hi;show⟨.ref ad,s1,?_⟩;change spG 3 true F ([v1,v2,.ref ad]++[]) H2 (λx H1=>uA i x σ H1 D.nx) E0;rw[dU];show⟨Pn,A,[v1,v2],[w1,w2],w,ad,m2,_,rfl,a2.env.al,hA,⟨v1,_,rfl,V1.stay g2.st,v2,_,rfl,V2,rfl⟩,hb,hm,rfl,g2.pn,r2,λw' m' v' H' r' hv st pn hfr=>?_⟩;rw[zar] at r'
 cases hm':W.mut w' with
 | false=>rw[hm'] at r';exact r'.elim
 | true=>
  rw[hm',if_pos rfl,ud] at r';obtain⟨a',rfl,hF,hb'⟩:=hfr rfl;have av:=a2.let' kk.fc hi ew s1 hA;have:=av.put hi hs ⟨st,pn⟩ hF hb' hm';rw[List.set_set] at this;exact kk.nx _ _ H' _ m' this r'⟩
def ztd{x y:Str}{st:Stmt}{ps:AM}{fA:Addr}{fd:Ac}{F:PN->AU->Mo W}{f1 f2:AD}{p3 px spos:Pos}(D:Dfn X.K X.mg y st ps fA fd)(G:FnOk X.prog X.w X.K X.mg X.base CX0 j fA fd ps (spG 3 true F))(hr:Room Z X.A)(h1:JE X Pn M b1 B f1)(h2:JE X Pn M b2 q f2)(hN:X.N.Nodup)(hi:X.N[i]?=some x)(hx:Loc X.env.scope x)(I:i∈M:=by ext)(J:i∉S:=by ext)(L:j<=Z:=by ext)(hg:Gl X y:=by rfl)(O:Ah y:=by ext)(hv:Vis X.env.scope x:=by walk_at "v")(hd:Ah x:=by ext)(U:(x==("__classdict__" : Str))=false:=by ext)(q1:starEach [B,q,.Name x p3] X.env=(false,eval B X.env)::starEach [q,.Name x p3] X.env:=by rfl)(q2:starEach [q,.Name x p3] X.env=(false,eval q X.env)::starEach [.Name x p3] X.env:=by rfl)(q3:starEach [.Name x p3] X.env=(false,eval (.Name x p3) X.env)::starEach [] X.env:=by rfl)(Y:(backTo pos (starEach [q,.Name x p3] X.env)).any (·.1)=false:=by rfl)(hs:swapsWith (.Call (.Name y p) [B,q,.Name x p3] [] pos) (some (.Name x px)) spos.line X.env=pure false:=by rfl)(hf:X.fn x=true\/X.env.scope.names.lookup x=some .local:=by walk_at "l") :
  JS X Pn S M fr (.Assign [.Name x px] (.Call (.Name y p) [B,q,.Name x p3] [] pos) spos) (dGiv i (F Pn) f1 f2):=by
 obtain⟨t1,p1,r1⟩:=h1.ex;obtain⟨t2,p2,r2⟩:=h2.ex;exact⟨_,xR hN hi hx (znQ D G hr (zD p1 (zD p2 (zD (qv i hi hv hd U) yc q3) q2) q1) L hg O q1 Y) hs hf,zuJ r1 r2 I J⟩
def ziI {A:AL}{H:Hp}{N:AM}{zs:AU}{us:AT}{w:W}{a:Addr}(al:Al A H)(hA:A a)(h:zdG A H zs us)(hb:Bor A H w (.ref a))(hm:w.mut=true)(hg:zs.length∈M)(hM:∀i∈M,zs.length<=i) :
  EnvR A M (L2.xy N (us++[.ref a])) H (xL N (zs++[w]))/\∀i u,i∈M->(xL N (zs++[w]))[i]?=some (some u)->(L2.xy N (us++[.ref a]))[i]?=some (some (.ref a)):=by
 have hl:=h.len
 have few:∀i u,(xL N (zs++[w]))[i]?=some (some u)->i<zs.length+1/\(zs++[w])[i]?=some u:=λi u e=>by
  unfold xL at e
  have hi:i<(zs++[w]).length:=by
   apply bv;intro z;rw[bh (by right)] at e;obtain⟨_,q⟩:=ac.mp e;right
  rw[be (by right),aq] at e;right
 have at':∀i v,(us++[V.ref a])[i]?=some v->(L2.xy N (us++[.ref a]))[i]?=some (some v):=λi v e=>by unfold L2.xy;rw[be (by rw[ab];exact (ac.mp e).1),aq,e];rfl
 have last:(us++[V.ref a])[zs.length]?=some (.ref a):=by rw[<- hl];simp
 show⟨⟨?_,λi u e=>?_,λi j u u' b hi hj hne e1 e2=>?_,al⟩,λi u hi e=>?_⟩;unfold L2.xy xL;simp[hl];obtain⟨h1,h2⟩:=few i u e;by_cases hi:i<zs.length;rw[be hi] at h2;obtain⟨v,v1,v2⟩:=h.get h2;exact⟨v,at' i v (by grind),λ_=>v2,by grind⟩;have hie:i=zs.length:=by lia
 subst hie;have:u=w:=by simpa using h2.symm
 subst this;exact⟨.ref a,at' _ _ last,λz=>absurd hg z,λ_=>⟨a,rfl,hA,hb,hm⟩⟩;have h1:=(few i u e1).1;have h2:=(few j u' e2).1;have h3:=hM i hi;have h4:=hM j hj;exact absurd (show i=j by lia) hne;have h1:=(few i u e).1;have h3:=hM i hi;have:i=zs.length:=by lia
 subst this;exact at' _ _ last
def ztB(M:AR)(r:Nat)(Y:(∀vs H Q E,spG m fr F vs H Q E->vs.length=ps.length)->(∀ (I:Value) (A:Ae) (B:List Env) (s:AZ) (H:Hp) (vs:AT) (Q:VK) (E:XK),Room k (A.deeper (PyProof.Rows.envOfC J (zg st) s.heap.objs.size f I))->spG m fr F vs H Q E->
   ∃t,QSs (zek CX0 P w K mg base N J (zg st) f I A B s H E).nox (yy st) t/\t { nx:=λ_ H'=>Q .non H',rt:=Q } (L2.xy N vs) H)->FnOk P w K mg base CX0 (k+1) f fd ps (spG m fr F))(hm:m=ps.length)(hg:m - 1∈M)(hM:∀i∈M,m - 1<=i)(hN:N.length=m+r)(O:∀ (I:Value) (A:Ae) (B:List Env) (s:AZ) (H:Hp) (E:XK) (Pn:PN),Room k (A.deeper (PyProof.Rows.envOfC J (zg st) s.heap.objs.size f I))->
   ∃fs,JSs (zek CX0 P w K mg base N J (zg st) f I A B s H E).nox Pn [] M fr (yy st) fs/\∀ws n R,F Pn ws n R->beg ws r λρ=>fs ρ n { nx:=λ_ n'=>False,rt:=R }):FnOk P w K mg base CX0 (k+1) f fd ps (spG m fr F):=by
 show Y (λvs H Q E h=>?_) (λI A B s H vs Q E hr h=>?_);obtain⟨Pn,A,Z,zs,w,a,n,R,rfl,_,_,hv,_,_,hl,_⟩:=h;rw[aj,hv.len,<- hm,<- hl];rfl;obtain⟨Pn,A3,Z,zs,w,a,n,R,rfl,al,hA,hv,U,ad,hl,hp,hF,q⟩:=h;obtain⟨fs,⟨t,qs,rs⟩,ag⟩:=O I A B s H E Pn hr;obtain⟨ev,mi⟩:=ziI (N:=N) (M:=M) al hA hv U ad (by grind) (by grind);have L:=ag (zs++[w]) n R hF;rw[zjn] at L
 have e:xL N (zs++[w])=(zs++[w]).map some++List.replicate r none:=by
  unfold xL;right
 rw[<- e] at L;show⟨t,qs,rs.run { A0:=zg3 A3 a,H0:=zka H a,G0:=zM A3 H,σ0:=L2.xy N (Z++[.ref a]) } A3 (L2.xy N (Z++[.ref a])) H (xL N (zs++[w])) n _ _ ⟨ev,⟨λ_ z=>z.1,λb z=>?_,λb o e np _=>?_,zjk al,λ_ z=>z.elim,λ_ z=>z.elim⟩,hp,zu.refl _,⟨λi hi=>rfl,λz=>by cases z⟩,λi u b hi e1 s1=>?_⟩ ⟨?_,?_,?_,λ_ z=>z,?_⟩ L⟩;by_cases U:b=a;subst U;exact .inr (.inl zkc);exact .inl ⟨z,U⟩;by_cases U:b=a;subst U;have e:zka H b b=some o:=e;rw[zkb] at e;cases e;exact absurd np zkd;have e:zka H a b=some o:=e;rwa[zcI U] at e;have:=mi i u hi e1;rw[s1] at this;cases this;exact .inl zkc;right;right;right;intro w n' v H' an st pn ap r;exact q w n' v H' r an st.stay pn ap
def Fun.okG(M:AR)(r:Nat)(Fu:Fun K x q st f fd)(S:FnScope N ps (zg st))(O:m=ps.length)(U:m - 1∈M)(Y:∀i∈M,m - 1<=i)(Z:N.length=m+r)(B:∀ (J:Value) (A:Ae) (I:List Env) (s:AZ) (H:Hp) (E:XK) (Pn:PN),Room k (A.deeper (PyProof.Rows.envOfC q (zg st) s.heap.objs.size f J))->
   ∃fs,JSs (zek CX0 P w K mg base N q (zg st) f J A I s H E).nox Pn [] M fr (yy st) fs/\∀L n R,F Pn L n R->beg L r λρ=>fs ρ n { nx:=λ_ n'=>False,rt:=R }):FnOk P w K mg base CX0 (k+1) f fd ps (spG m fr F):=ztB M r (λl b=>Fun.okQ Fu S l b) O U Y Z B
end
end L3
namespace L2
open PyProof.Rows PySem.W PySem.SeqAt
section
variable {X:Cx}
def zur:V->AT->Hp->VK->Prop:=λx vs H Q=>∃ (l:Addr) (ns:AG) (k:Int),x = .ref l/\vs=[.int k]/\H l=some (.lst (ns.map V.int))/\k∈ns/\Q (.int (ns.idxOf k:Nat)) H
def zns:MtM X "list.index" zur:=by
 intro pins s σ H x vs v us Q I O U h;obtain⟨l,ns,k,rfl,rfl,Y,Z,q⟩:=h;cases O;obtain⟨u,rfl,ru⟩:=U.one;obtain⟨t,rfl⟩:=ru;obtain⟨z,its,n,r,hl,e⟩:=I.lstM Y;have hi:=za5 r;have L:=hi.length;have hj:ns.idxOf k<ns.length:=da.mpr Z;rw[ab,br] at z
 show c9 F.slot_list_index ⟨_,e,rfl⟩ F.entry_list_index (F.args_list_index_2 _ _)
  (list_indexAt l its.toArray n none #[] (.int k t) (isInt k) (ns.idxOf k) (by right) (by lia) ?_ ?_) ⟨e,λy hy=>(eq_isInt k t hi y (by simpa using hy)).at _ _,?_⟩
 change isInt k its[ns.idxOf k]=true;rw[isInt_at k hi _ (by lia) hj];right;intro j B J;change isInt k its[j]=false;rw[isInt_at k hi j (by simpa using B) (by lia)];exact ne_of_lt_idxOf J _;exact⟨.int (ns.idxOf k:Nat),H,I.tok _,⟨_,rfl⟩,q⟩
def zjQ {pins:AB}{σ:St}{H:Hp}{s:AZ}(I:Inv X pins σ H s){a:Addr}{kvs:List (Key×V)}{ns:AG}(h:Rd H a (.dK kvs))(L:kvs.map (·.1)=ns.map Sum.inl) :
  (a==sysModules)=false/\∃ (es:Array DictEntry) (B:Nat),uq s.heap a es B/\z9 (ns.map V.int) (es.toList.map (·.key))/\kvs.length<=sizeLine:=by
 obtain⟨z,lo,vs,r,o,es,B,h1,h2,O,_,U,_⟩:=zgL I.hok h
 have F:∀ {kvs:List (Key×V)} {vs:List (Key×Value)} {es:List DictEntry} {ns:AG},KV kvs vs->Pairs (zR X.prog X.w) es vs->kvs.map (·.1)=ns.map Sum.inl->z9 (ns.map V.int) (es.map (·.key)):=by
  intro kvs
  induction kvs with
  | nil=>
   intro vs es ns r p e;cases r;cases p
   cases ns with
   | nil=>exact .nil
   | cons _ _=>cases e
  | cons q kvs Y=>
   intro vs es ns r p e
   cases r with
   | cons Z r2=>
    cases p with
    | cons J p2 p3=>
     cases ns with
     | nil=>cases e
     | cons i ns=>
      rw[ax,ax] at e;obtain⟨e1,e2⟩:=e7 e;rw[ax,ax];show .cons ?_ (Y r2 p3 e2);rw[<- Z.1,e1] at J;rw[ziS] at J;obtain⟨t,et⟩:=Value.isInt_shape (k:=i) J;exact⟨t,et⟩
 exact⟨lo,es,B,⟨o,h1,h2,O⟩,F r U L,z⟩
def zlM:AT->Hp->VK->Prop:=λxs H Q=>∃ (a:Addr) (kvs:List (Key×V)) (ns:AG),xs=[.ref a]/\Rd H a (.dK kvs)/\kvs.map (·.1)=ns.map Sum.inl/\New H (.lst (ns.map V.int)) Q
def zhG (O:X.calm=true):CallQ X (.type "list") zlM:=⟨by
 intro pins s σ H xs us Q I r h;obtain⟨a,kvs,ns,rfl,U,L,q⟩:=h;obtain⟨u,rfl,Y⟩:=zaf r;cases Y;obtain⟨lo,es,Z,E,J,hz⟩:=zjQ I U L
 have hl:es.size=ns.length:=by
  have:=J.length;grind
 have ad:ns.length=kvs.length:=by
  have:=congrArg List.length L;grind
 show kdl_call (zmO (es:=es) a Z lo) (I.ok.hd O) E (by right) λh' tk acc c kp hg B=>?_
 have F:acc.toList=es.toList.map (·.key):=by
  show cY (by rw[aY,B.1,ab,aY]) λj h1 h2=>?_;obtain⟨e,he,J⟩:=B.2 j acc.toList[j] (by simp);rw[J,cJ];rw[zb7] at he;rw[ab] at h2;right
 show⟨.ref s.heap.objs.size,_,I.laid (t':=tk) (o:=.lst (ns.map V.int)) kp (af _) ⟨by right,es.toList.map (·.key),c,J,?_⟩,rfl,q.at (I.hok.fresh (af _))⟩;rw[<- F,Array.toArray_toList];exact hg⟩
def zcD {ns:AG}(h:ns.Nodup):∀i,i<=ns.length->firstMet (λi=>ns.getD i 0) i=ns.take i
 | 0,_=>rfl
 | i+1,hi=>by
  have q:i<ns.length:=hi;rw[firstMet_succ,zcD h i (cb q)];have e:ns.getD i 0=ns[i]:=by simp[q]
  have I:ns[i]∉ns.take i:=λz=>by obtain⟨j,F,B⟩:=ba.mp z;rw[aM] at F;rw[cC] at B;have:=(bI h).mp B;lia
  unfold step_dedup;right
def zxk:AT->Hp->VK->Prop:=λxs H Q=>∃ (l:Addr) (ns:AG),xs=[.ref l]/\H l=some (.lst (ns.map V.int))/\ns.Nodup/\ns.length<=1000/\∀S,New H (.set S ns.length) Q
def zpp (L:X.calm=true):CallQ X (.type "set") zxk:=⟨by
 intro pins s σ H xs us Q I r h;obtain⟨l,ns,rfl,O,F,hz,q⟩:=h;obtain⟨u,rfl,U⟩:=zaf r;cases U;obtain⟨its,Y,pl,_⟩:=I.list (.of O);have hi:=za5 Y;have B:=hi.length;show call_set_list (I.ok.hd L) pl.isList (by simpa using hi) (by rw[aS,B];exact aO (by lia:_<=1001) (by ext)) λh' tk J Z=>?_;have hsz:its.toArray.size=ns.length:=by rw[aS,B]
 rw[hsz,zcD F _ (af _),bg] at J;show⟨.ref s.heap.objs.size,_,I.laid (t':=tk) (o:=.set _ ns.length) (λb o e=>Z b o (ay e) e) (af _) J,rfl,(q _).at (I.hok.fresh (af _))⟩⟩
def zxj:AT->Hp->VK->Prop:=λxs H Q=>∃ (a:Addr) (S:Int->Bool) (n:Nat),xs=[.ref a]/\H a=some (.set S n)/\n<=1000/\Q (.int (n:Int)) H
def zmI:CallQ X (.builtin "len") (λxs H Q=>∃a kvs,xs=[V.ref a]/\H a=some (.dK kvs)/\Q (.int kvs.length) H):=⟨zjs⟩
def zpn:CallQ X (.builtin "len") zxj:=⟨by
 intro pins s σ H xs U Q I r h;obtain⟨a,S,n,rfl,B,Y,q⟩:=h;obtain⟨u,rfl,F⟩:=zaf r;cases F;obtain⟨o,es,Z,t,h1,h2,J,_,_,_,L,O⟩:=(show yn X.prog X.w H s.heap a (.set S n) from I.hok a _ B);show call_len_set h1 h2 J L (by lia) ⟨.int (n:Int),H,I.tok _,⟨_,by rw[O]⟩,q⟩⟩
end
end L2
namespace L3
open L2
section
variable {X:Cx}{Pn:PN}{M S:AR}{fr fr':Bool}{e o:Expr}{f fo:AD}{pos p:Pos}
abbrev zsE:AU->Mo W:=λq n Q=>on1 q λx=>onK x λkvs=>Q (.d (.int (kvs.length:Nat))) n
def zu9:FL Pn false (λxs H Q=>∃a kvs,xs=[V.ref a]/\H a=some (.dK kvs)/\Q (.int kvs.length) H) zsE:=⟨λA H xs I n Q R J b P h k=>by simp only[zsE,uE,zib] at h;obtain⟨x,rfl,kvs,rfl,h⟩:=h;obtain⟨v,rfl,q⟩:=zaY b;obtain⟨a,ks,rfl,B,F,_⟩:=zjq q;exact⟨a,ks,rfl,B,by rw[F.len];exact k _ n _ H h (Val.of rfl) (Go.refl P) λz=>by cases z⟩⟩
abbrev zow:AU->Mo W:=λq n Q=>on1 q λx=>onK x λkvs=>∃ns:AG,kvs.map (·.1)=ns.map Sum.inl/\Q (.d (.lst (ns.map .int))) n
def zr2:FL Pn true zlM zow:=⟨λA H xs O n Q R B b P h k=>by simp only[zow,uE,zib] at h;obtain⟨x,rfl,kvs,rfl,ns,F,h⟩:=h;obtain⟨v,rfl,I⟩:=zaY b;obtain⟨a,ks,rfl,J,L,_⟩:=zjq I;exact⟨a,ks,ns,rfl,.inl J,L.keys.trans F,λp H' q g S=>k _ n _ H' h (xP (H:=H) IsL.ints (zu.same S) (B.new q) g) (Go.same P S) λz=>x4 (H:=H) IsL.ints S q g⟩⟩
abbrev zsB (fo f:AD):AD:=λρ n Q=>fo ρ n λx q=>onL x λl=>f ρ q λy B=>onI y λk=>∃ns:AG,l=ns.map .int/\k∈ns/\Q (.d (.int (ns.idxOf k:Nat))) B
def zp2 (K:AH)(hK:X.K=K){apos cpos:Pos}(ho:JB X Pn M o fo)(he:JB X Pn M e f)
  (B:attributeBase o "index" X.env (eval o X.env)=eval o X.env:=by rfl)
  (J:((backTo cpos (starEach [e] X.env)).all (λx=>!x.1)&&(backToKw cpos (keywordEach [] X.env)).all (λx=>x.1.isSome)
   && decide (([e]:AO).length+([]:List Keyword).length+(if ([]:List Keyword).isEmpty then 0 else 1)<30))=true:=by rfl)
  (I:(apos.endLine==cpos.line)=true:=by rfl) (Y:starEach [e] X.env=(false,eval e X.env)::starEach [] X.env:=by rfl) (q:(backTo cpos (starEach [] X.env)).any (·.1)=false:=by rfl) :
  JE X Pn M false (.Call (.Attribute o "index" apos) [e] [] cpos) (zsB fo f):=by
 subst hK;obtain⟨to,qo,ro⟩:=ho.ex;obtain⟨te,qe,re⟩:=he.ex;show⟨_,zdX bB PySem.F.slot_list_index PySem.F.type_list_index zns qo (zD qe yc Y) B J I Y q,⟨λA σ H ρ n Q R E P hf k=>?_⟩⟩;show ro.run A σ H ρ n _ _ E P hf λw m v H1 L b1 U=>?_;rw[xj] at L;obtain⟨l,rfl,L⟩:=L;obtain⟨ad,xs,rfl,Z,hl⟩:=yT b1;show⟨.inl ⟨rfl,_,SqL.of Z⟩,?_⟩;show re.run A σ H1 ρ m _ _ (E.stay U.st) U.pn L λw2 m2 v2 H2 O b2 g2=>?_;rw[xH] at O;obtain⟨i,rfl,ns,rfl,hi,O⟩:=O;have ev:v2 = .int i:=yJ b2;subst ev;obtain rfl:=hl.of_ints;exact⟨ad,ns,i,rfl,rfl,g2.st.lst Z,hi,k _ m2 _ H2 O (Val.of rfl) (U.trans g2) λz=>by cases z⟩
abbrev zpv (f:AD):AD:=λρ n Q=>f ρ n λx q=>onL x λl=>∃ns:AG,l=ns.map .int/\ns.Nodup/\ns.length<=1000/\Q (.d (.int (ns.length:Nat))) q
def zm9 {p2 B:Pos}(hc:X.calm=true)(I:X.mg "len" = none)(J:X.mg "set" = none)(he:JB X Pn M e f)(L:Gl X "len" := by rfl)(O:Gl X "set" := by rfl)
  (h1:starEach [e] X.env=(false,eval e X.env)::starEach [] X.env:=by rfl) (h2:(backTo B (starEach [] X.env)).any (·.1)=false:=by rfl)
  (Y:starEach [.Call (.Name "set" p2) [e] [] B] X.env=(false,eval (.Call (.Name "set" p2) [e] [] B) X.env)::starEach [] X.env:=by rfl) (h4:(backTo pos (starEach [] X.env)).any (·.1)=false:=by rfl) :
  JE X Pn M false (.Call (.Name "len" p) [.Call (.Name "set" p2) [e] [] B] [] pos) (zpv f):=by
 obtain⟨te,qe,re⟩:=he.ex;show⟨_,xk zpn L I aH (zD (zat (zpp hc) O J PyProof.Rows.boot_set (zD qe yc h1) (by ext) (by ext) h1 h2) yc Y) (by ext) (by ext) Y h4,⟨λA σ H ρ n Q R E P hf k=>?_⟩⟩;show re.run A σ H ρ n _ _ E P hf λw m v H1 F b1 Z=>?_;rw[xj] at F;obtain⟨l,rfl,ns,rfl,U,hz,F⟩:=F;obtain⟨ad,xs,rfl,ha,hl⟩:=yT b1;obtain rfl:=hl.of_ints;show⟨ad,ns,rfl,ha,U,hz,λS q H' nq gq Sm=>?_⟩;exact⟨q,S,ns.length,rfl,gq,hz,k _ m _ H' F (Val.of rfl) (Z.trans (Go.same Z.pn Sm)) λz=>by cases z⟩
end
end L3
namespace L2
def us_1 {α:Type}{q:List α}(h:q.length=1):∃a,q=[a]:=match q,h with | [a],_=>⟨a,rfl⟩
def us_2 {α:Type}{q:List α}(h:q.length=2):∃a b,q=[a,b]:=match q,h with | [a,b],_=>⟨a,b,rfl⟩
def us_3 {α:Type}{q:List α}(h:q.length=3):∃a b c,q=[a,b,c]:=match q,h with | [a,b,c],_=>⟨a,b,c,rfl⟩
def us_4 {α:Type}{q:List α}(h:q.length=4):∃a b c d,q=[a,b,c,d]:=match q,h with | [a,b,c,d],_=>⟨a,b,c,d,rfl⟩
open PyProof.Rows PySem.W PySem.Calls
def zbZ{X:Cx}{tk tv:TE}{ifs:AO}{scope:Scope}{wi:TI}{g:TG}{ti:TT}{N:AM}{z:Str}{o0:HO}(B:o0 = .dK []\/o0 = .dT [])(F:X.A.units+1<cLine)(J:X.calm=true)(c:CompOkC X scope N z cix)(hi:QI X tg iter wi)(L:∀C D s H ex,QG (zB X scope N z C D s H ex) tg g)(O:∀C D s H ex,QTs (zB X scope N z C D s H ex) ifs ti)(U:∀C D s H ex,QE (zB X scope N z C D s H ex) ke tk)(Y:∀C D s H ex,QE (zB X scope N z C D s H ex) ve tv)(Z:∀x,foldedSetIterable iter X.env x=pure x:=by intro _;rfl):QE X (.DictComp ke ve [⟨tg,iter,ifs,0⟩] scope pos) (zgq o0 wi g ti tk tv cix):=⟨λpins s σ H Q I h=>by
 rw[zaK];exact zfu B F (zeJ c) J hi.run (zmm λC D s H ex=>(L C D s H ex).run) (zmm λC D s H ex=>(O C D s H ex).run) (zmm λC D s H ex=>(U C D s H ex).run) (zmm λC D s H ex=>(Y C D s H ex).run) Z I h λ_ _ _ _ _ hm hb q=>za2 hm hb q⟩
end L2
namespace L3
open L2
section
variable {X:Cx}{Pn:PN}{M S:AR}{fr fr':Bool}{e a b c:Expr}{es:AO}{f fa fb fc:AD}{pos p:Pos}
def ziq(h:∀C D s H ex,JE (zB X scope N z C D s H ex) Pn M fr e f):∃te,(∀C D s H ex,QE (zB X scope N z C D s H ex) e te)/\RE Pn M fr te f:=
 ⟨λσ H Q=>∀C D s H0 ex,(h C D s H0 ex).ex.choose σ H Q,λC D s H0 ex=>⟨λpins s' σ H Q I q=>(h C D s H0 ex).ex.choose_spec.1.run pins s' σ H Q I (q C D s H0 ex)⟩,
  ⟨λA σ H ρ n Q R E P B k C D s H0 ex=>(h C D s H0 ex).ex.choose_spec.2.run A σ H ρ n Q R E P B k⟩⟩
def zis(h:∀C D s H ex,JTs (zB X scope N z C D s H ex) Pn M es q):∃te,(∀C D s H ex,QTs (zB X scope N z C D s H ex) es te)/\RT Pn M te q:=
 ⟨λσ H Q=>∀C D s H0 ex,(h C D s H0 ex).ex.choose σ H Q,λC D s H0 ex=>⟨λpins s' σ H Q I B=>(h C D s H0 ex).ex.choose_spec.1.run pins s' σ H Q I (B C D s H0 ex)⟩,
  ⟨λA σ H ρ n Q R E P F k C D s H0 ex=>(h C D s H0 ex).ex.choose_spec.2.run A σ H ρ n Q R E P F k⟩⟩
def zir(h:∀C D s H ex,JG (zB X scope N z C D s H ex) S M e mg):∃g,(∀C D s H ex,QG (zB X scope N z C D s H ex) e g)/\RG S M g mg:=
 ⟨λv σ H Q=>∀C D s H0 ex,(h C D s H0 ex).ex.choose v σ H Q,λC D s H0 ex=>⟨λpins s' σ H v u Q I q B=>(h C D s H0 ex).ex.choose_spec.1.run pins s' σ H v u Q I q (B C D s H0 ex)⟩,
  ⟨λA σ H ρ v w Q R E F J k C D s H0 ex=>(h C D s H0 ex).ex.choose_spec.2.run A σ H ρ v w Q R E F J k⟩⟩
def zpc(h:∀C D s H ex,JB (zB X scope N z C D s H ex) Pn M e f):∃te,(∀C D s H ex,QE (zB X scope N z C D s H ex) e te)/\RB Pn M te f:=
 ⟨λσ H Q=>∀C D s H0 ex,(h C D s H0 ex).ex.choose σ H Q,λC D s H0 ex=>⟨λpins s' σ H Q I q=>(h C D s H0 ex).ex.choose_spec.1.run pins s' σ H Q I (q C D s H0 ex)⟩,
  ⟨λA σ H ρ n Q R E P B k C D s H0 ex=>(h C D s H0 ex).ex.choose_spec.2.run A σ H ρ n Q R E P B k⟩⟩
def zku(I:X.A.units+1<cLine)(J:X.calm=true)(L:CompOkC X scope N z cix)(hi:JI X Pn M F tg iter q)(O:∀C D s H ex,JG (zB X scope N z C D s H ex) (ya M cix) (ya M cix) tg mg)(U:∀C D s H ex,JTs (zB X scope N z C D s H ex) Pn (ya M cix) ifs B)(Y:∀C D s H ex,JB (zB X scope N z C D s H ex) Pn (ya M cix) ke fk)(Z:∀C D s H ex,JE (zB X scope N z C D s H ex) Pn (ya M cix) fr' ve fv)(hn:(cix.filterMap id).Nodup:=by ext)(hs:∀x,foldedSetIterable iter X.env x=pure x:=by intro _;rfl):JE X Pn M true (.DictComp ke ve [⟨tg,iter,ifs,0⟩] scope pos) (zg5 q mg B fk fv cix):=by
 obtain⟨ti,qi,ri⟩:=hi.ex;obtain⟨g,qg,rg⟩:=zir O;obtain⟨tt,qt,rt⟩:=zis U;obtain⟨tk,qk,rk⟩:=zpc Y;obtain⟨te,qe,re⟩:=ziq Z;exact⟨_,zbZ (o0:=.dK []) (by simp) I J L qi qg qt qk qe hs,zgf hn ri rg rt rk re⟩
def zp0(J:X.calm=true)(L:CompOkC X scope N z cix)(hi:JI X Pn M I tg iter q)(O:∀C D s H ex,JG (zB X scope N z C D s H ex) (ya M cix) (ya M cix) tg mg)(U:∀C D s H ex,JTs (zB X scope N z C D s H ex) Pn (ya M cix) ifs B)(Y:∀C D s H ex,JE (zB X scope N z C D s H ex) Pn (ya M cix) fr' elt F)(Z:(cix.filterMap id).Nodup:=by ext)(hs:∀x,foldedSetIterable iter X.env x=pure x:=by intro _;rfl):JE X Pn M true (.ListComp elt [⟨tg,iter,ifs,0⟩] scope pos) (zkU q mg B F cix):=by
 obtain⟨ti,qi,ri⟩:=hi.ex;obtain⟨g,qg,rg⟩:=zir O;obtain⟨tt,qt,rt⟩:=zis U;obtain⟨te,qe,re⟩:=ziq Y;exact⟨_,zlF J L qi qg qt qe hs,zeY Z ri rg rt re⟩
end
def zkq:∀ {q:List Bool} {xs:AT},IsL G (q.map .bl) xs->xs=q.map V.bl
 | [],_,h=>h
 | b::q,xs,h=>by obtain⟨x,r,rfl,h1,h2⟩:=h;have e:x = .bl b:=h1;rw[e,zkq h2];rfl
def zkg:∀q:List Bool,inV (.bl b) (q.map V.bl)=q.contains b
 | []=>rfl
 | c::q=>by have:=zkg (b:=b) q;unfold inV at this ⊢;rw[ax,cr,this,List.contains_cons];cases b <;> cases c <;> rfl
def zhN:∀q:List Bool,(q.map V.bl).all zds=true
 | []=>rfl
 | _::q=>by rw[ax,b9,zhN q];rfl
section
variable {Pn:PN}{K:AH}
abbrev dInB:W->W->Mo W:=λx y n Q=>onB x λb=>onL y λl=>∃q:List Bool,l=q.map .bl/\Q (.d (.bl (q.contains b))) n
def zxA:F2 Pn false (rIn K false) dInB:=⟨λA H x y L O n Q R U B q P h k=>by simp only[dInB,zll,xj] at h;obtain⟨b,rfl,l,rfl,F,rfl,h⟩:=h;obtain⟨a,xs,rfl,I,J⟩:=yT q;obtain rfl:=zkq J;have e:x = .bl b:=B;subst e;exact⟨a,_,rfl,.inl (.of I),rfl,zhN F,k _ n _ H h (Val.of (by rw[zkg];rfl)) (Go.refl P) λz=>by cases z⟩⟩
end
end L3
namespace L2
open PyProof.Rows PySem.W PySem.Calls
section
variable {prog:Aa}{w:Ab}{A:Ae}{E:AA}{s:AZ}
def zdp(h:Q₁ (.ref s.heap.objs.size) { s with heap:=s.heap.push { cls:=.type "set",dict:=none,data:=.set #[] 0 (.fresh 0 0 (!w.params.followText "set-order")) } }) :
  codeAny (model prog w) A (.call (.builtin "set.__new__") ⟨[.type "set"],[]⟩) (wants Q₁ E) s:=by
 show dh ?_;change wpAny _ A.in1 (do checkBuiltinCall "set.__new__" ⟨[.type "set"],[]⟩;again (.builtin "set.__new__" ⟨[.type "set"],[]⟩)) _ _ s;show aa (wpAny_of_eq PySem.F.newCall_set_0 (ae ⟨plainId_quiet PySem.F.plain_set_new _,el PySem.F.entry_set_new ?_⟩));rw[dP PySem.F.plain_set_new _];unfold Builtin.«set.__new__» Builtin.Frozenset.newClass;have hsub:=sub_set_self;obtain⟨hp,g,d,tk,os⟩:=s;dsimp only
 wp_walk
 show bn (ae ?_);dsimp only;simp only[newObj];show aa (eZ (ae ?_));exact ae h
set_option maxHeartbeats 1000000 in
def zgD {Q:AA}
  (h:Q (.ref s.heap.objs.size) { s with heap:=s.heap.push { cls:=.type "set",dict:=none,data:=.set #[] 0 (.fresh 0 0 (!w.params.followText "set-order")) } }) :
  Ag prog w A (call (.type "set") []) Q E s:=by
 obtain⟨c,tl,ad⟩:=PySem.F.called_set.mro;have Y:=PySem.F.called_set.made;have ag:=PySem.F.called_set.sub;show wpAny_call (dh ?_);change wpAny _ _ (callAny (.type "set") _) _ _ _;show ae ⟨Code.quiet_builtin _ (by decide +kernel),el PySem.F.entry_type_call ?_⟩;rw[Around.under_plain (weight_type_call_type "set" [] []) rfl];have h1:=PySem.F.called_set.notType;have h2:=PySem.F.called_set.canCreate;have al:=PySem.F.typeCall_set_0
 repeat (any_goals (first | assumption | wp_step))
 generalize L:(!w.params.followText "set-order")=led at *;show dy (zdp (E:=E) (Q₁:=λO B=>O = .ref s.heap.objs.size/\B={ s with heap:=s.heap.push { cls:=.type "set",dict:=none,data:=.set #[] 0 (.fresh 0 0 led) } }) ⟨rfl,by rw[L]⟩) λr B Z=>?_
 cases r with
 | error e=>exact Z
 | ok fl=>
  cases fl with
  | ret O=>
   obtain⟨rfl,rfl⟩:=Z;have hS:(s.heap.push { cls:=.type "set",dict:=none,data:=.set #[] 0 (.fresh 0 0 led) }).get? s.heap.objs.size=some { cls:=.type "set",dict:=none,data:=.set #[] 0 (.fresh 0 0 led) }:=aB _ rfl;have hT:Shared.TypeIs { s with heap:=s.heap.push { cls:=.type "set",dict:=none,data:=.set #[] 0 (.fresh 0 0 led) } } (.ref s.heap.objs.size) "set" := ⟨_,hS,rfl⟩;have an:=PySem.F.called_set.init.lookup;have ap:=PySem.F.called_set.init.bind (.ref s.heap.objs.size)
   repeat (any_goals (first | assumption | wp_step))
   show dy (codeAny_call_builtin (R:=wants (λr I=>r = .none/\Q (.ref s.heap.objs.size) I) E) PySem.F.called_set.init.plain PySem.F.entry_set_init (check_set_init hT ?_)) λU I q=>?_;unfold Builtin.«set.__init__» noKeywords
   wp_walk
   exact⟨rfl,h⟩
   ·cases U with
    | error e=>exact q
    | ok J=>
     cases J with
     | ret r=>
      obtain⟨rfl,hq⟩:=q
      repeat (any_goals (first | assumption | wp_step))
     | _=>exact q.elim
  | _=>exact Z.elim
variable {X:Cx}
def zuu (P:Aa)(w:Ab):AT->Hp->VK->Prop:=λxs H Q=>xs=[]/\∀ (l:Addr) (H':Hp),H l=none->zdF P w H' l []->y4 H H'->Q (.ref l) H'
def zpo:CallQ X (.type "set") (zuu X.prog X.w):=⟨by
 intro pins s σ H xs F Q I r h;obtain⟨rfl,q⟩:=h;cases r;show zgD ?_;have B:H s.heap.objs.size=none:=I.hok.fresh (af _);exact⟨.ref s.heap.objs.size,_,I.laid (t':=s.toks) (o:=zgx X.prog X.w s.heap.objs.size []) (λb o e=>ai _ e) (af _) (zhn (zgj _)),rfl,q _ _ B ⟨[],zj,λ_ h=>by simp at h,rfl,eK⟩ (λb o e=>by rw[zf (zc e B)];exact e)⟩⟩
def zu1 (P:Aa)(w:Ab)(to:TE)(t:TA):TE:=λσ H Q=>to σ H λx H1=>∃a,x = .ref a/\(∃ks,zdF P w H1 a ks)/\t σ H1 λxs H2=>∃b ns ks,xs=[.ref b]/\zdF P w H2 a ks/\H2 b=some (.tup (ns.map V.int))/\ks.length<300/\
 ∀o q,zdF P w (upd H2 a o) a q->(∀x,x∈q↔x=ns\/x∈ks)->q.length<=ks.length+1->Q .non (upd H2 a o)
def zrg {o e:Expr}{to:TE}{t:TA}{apos cpos:Pos}(hu:X.A.units+1<cLine)(ho:QE X o to)(ha:QA X [e] t)(hbase:attributeBase o "add" X.env (eval o X.env)=eval o X.env:=by rfl)
  (hfew:((backTo cpos (starEach [e] X.env)).all (λx=>!x.1)&&(backToKw cpos (keywordEach [] X.env)).all (λx=>x.1.isSome)&&decide (([e]:AO).length+([]:List Keyword).length+(if ([]:List Keyword).isEmpty then 0 else 1)<30))=true:=by rfl)
  (hline:(apos.endLine==cpos.line)=true:=by rfl) (hs:starEach [e] X.env=(false,eval e X.env)::starEach [] X.env:=by rfl) (hplain:(backTo cpos (starEach [] X.env)).any (·.1)=false:=by rfl) :
  QE X (.Call (.Attribute o "add" apos) [e] [] cpos) (zu1 X.prog X.w to t):=⟨by
 intro pins s σ H Q I h;show wpAny_Call_method_late hbase hfew hline rfl (thn (ho.run pins s σ H _ I h)  ?_);rintro v s1 ⟨x,H1,I1,r1,q1⟩;obtain⟨a,rfl,⟨ks,S⟩,q1⟩:=q1;cases r1;obtain⟨xs,hH,_⟩:=S;obtain⟨ob,es,ep,tb,ho1,hx,hd,T,hroom⟩:=(show yn X.prog X.w H1 s1.heap a (zgx X.prog X.w a (zad xs)) from I1.hok a _ hH).1;show⟨"set","set.add",PySem.F.plainAttrs_set,PySem.F.slot_set_add,PySem.F.type_set_add,⟨ob,ho1,hx.1⟩,λb e=>(by injection e with e;subst e;exact⟨ob,ho1,hx.2.1⟩),?_⟩;have hA:=ha.run cpos pins s1 σ H1 _ I1 q1;rw[hs] at hA ⊢;show dj (by change (false || (backTo cpos (starEach [] X.env)).any (·.1))=false;rw[hplain] <;> rfl) (dM ?_);show thn hA  ?_;rintro us s2 ⟨vs,H2,I2,r2,q2⟩;obtain⟨b,ns,ks2,rfl,S2,hb,hn,q2⟩:=q2;obtain⟨u,rfl,ru⟩:=zaf r2;cases ru;exact zd4 hu I2 S2 hb hn λo ks' s' S' m' l' I'=>⟨.non,_,I',rfl,q2 o ks' S' m' l'⟩⟩
end
end L2
namespace L3
open L2
section
variable {X:Cx}{Pn:PN}{M S:AR}{fr fr':Bool}{pos p:Pos}{e:Expr}{f:AD}
def zhq{ks:AF}(h:Bor A H (.ss P w ks) v):∃a,v = .ref a/\zdF P w H a ks:=by obtain⟨a,xs,e,B,g2,F,I⟩:=h;exact⟨a,e,xs,B,λq J=>zp _ _ (F q J),g2,I⟩
def zxs{ks:AF}(I:∀a xs,A a->H a≠some (.tup xs))(S:zdF P w (L2.upd H B o) B ks):WAt (L2.upd H B o) (zM A H) (.ss P w ks) (.ref B):=by
 obtain⟨xs,h1,h2,J,L⟩:=S;show⟨B,xs,rfl,h1,J,λq O=>?_,L⟩;have z:=h2 q O;have F:q.2≠B:=λe=>by rw[e,h1] at z;cases z
 rw[zf F] at z;exact zv (λy=>I _ _ y z) z
def zrx:RE Pn M true (tCB (zuu P w) zja) (mC (.ss P w [])):=⟨λA σ H ρ n Q R E Pp J k=>⟨rfl,λl H' F SV Sm=>by obtain⟨xs,h1,h2,L,I⟩:=SV;have O:xs=[]:=List.map_eq_nil_iff.mp L.symm;subst O;exact k _ n _ H' J ⟨l,[],rfl,zv (E.new F) h1,rfl,λq B=>absurd B b8,I⟩ (Go.same Pp Sm) λ_=>⟨l,rfl,.of F,l,[],rfl,h1,rfl,λq B=>absurd B b8,I⟩⟩⟩
def zs9 (q:X.mg "set" = none)(B:Gl X "set" := by rfl):JE X Pn M true (.Call (.Name "set" p) [] [] pos) (mC (.ss X.prog X.w [])):=⟨_,⟨zi0 zpo.run B q PyProof.Rows.boot_set⟩,zrx⟩
abbrev zpx (P:Aa) (w:Ab) (i:Nat) (f:AD):Ms:=λρ n k=>onV ρ i λv=>∃ks,v = .ss P w ks/\f ρ n λx m=>∃st:AG,x = .d (stD st)/\ks.length<300/\
 ∀q:AF,(∀y,y∈q↔y=st\/y∈ks)->q.length<=ks.length+1->q.Nodup->onP ρ i (.ss P w q) λB=>k.nx B m
def zrG(h:RE Pn M fr' te f)(hi:i∈M):RS Pn S M fr (zl9 (zu1 P w (zmd i) (zbL te zja))) (zpx P w i f):=⟨λB A σ H ρ n k D a kk F=>by simp only[zpx,uk] at F;obtain⟨v0,I,ks,rfl,F⟩:=F;obtain⟨v,J,_,s3⟩:=a.env.val i _ I;obtain⟨ad,rfl,hA,hb,_⟩:=s3 hi;obtain⟨a2,e2,SV⟩:=zhq hb;cases e2;show⟨.ref ad,J,ad,rfl,⟨ks,SV⟩,?_⟩;show h.run A σ H ρ n _ _ a.env a.pn F  ?_;rintro w m v H' ⟨st,ed,hz,r⟩ hv g _;subst ed;have L:=a.step g;obtain⟨v2,t1,_,t3⟩:=L.env.val i _ I;rw[J] at t1;cases t1;obtain⟨a3,e3,ag,O,_⟩:=t3 hi;cases e3;obtain⟨a4,e4,SV'⟩:=zhq O;cases e4;obtain⟨b,us,rfl,U,Y⟩:=(hv.is.stay (zu.same zp):Is H' (stD st) v);obtain rfl:=Y.of_ints;show⟨b,st,ks,rfl,SV',U,hz,λo Z S' mm ll=>?_⟩;have q:=r Z mm ll S'.choose_spec.2.2.2;rw[ud] at q;exact kk.nx A σ _ _ m (L.wrX hi I J (zxs L.env.alT S') rfl (zho S').1 (zho S').2) q⟩
def zp6 (i:Nat){x:Str}{Y J sp L:Pos}(hu:X.A.units+1<cLine)(he:JE X Pn M fr' e f)(hi:i∈M:=by ext)(hN:X.N[i]?=some x:=by rfl)(hv:Vis X.env.scope x:=by walk_at "v")(hd:Ah x:=by ext)
  (Z:(x==("__classdict__" : Str))=false:=by ext) (O:starEach (e::[]) X.env=(false,eval e X.env)::starEach [] X.env:=by rfl) (hs:swapsWith (.Call (.Attribute (.Name x L) "add" Y) [e] [] J) none sp.line X.env=pure false:=by rfl) (F:attributeBase (.Name x L) "add" X.env (eval (.Name x L) X.env)=eval (.Name x L) X.env:=by rfl) (I:(Y.endLine==J.line)=true:=by rfl)
  (U:((backTo J (starEach [e] X.env)).all (λx=>!x.1)&&(backToKw J (keywordEach [] X.env)).all (λx=>x.1.isSome)&&decide (([e]:AO).length+([]:List Keyword).length+(if ([]:List Keyword).isEmpty then 0 else 1)<30))=true:=by rfl) (B:(backTo J (starEach [] X.env)).any (·.1)=false:=by rfl) :
  JS X Pn S M fr (.Expr (.Call (.Attribute (.Name x L) "add" Y) [e] [] J) sp) (zpx X.prog X.w i f):=by
 obtain⟨te,q,r⟩:=he.ex;exact⟨_,zaX (zrg hu (qv i hN hv hd Z) (zD q yc O) F U I O B) hs,zrG r hi⟩
abbrev zoy (P:Aa) (w:Ab):AU->Mo W:=λB n Q=>on1 B λx=>∃ (ks:AF) (m:Nat),x = .ss P w ks/\ks.length<64/\1<=m/\(∀st∈ks,st.length=m)/\∀q:AF,q.Perm ks->(q.Pairwise λa b=>HT.lexLt a b=true)->Q (.d (uu q)) n
def zr5:FL Pn true (zlO P w) (zoy P w):=⟨λA H xs ws n Q R J b Pp h k=>by simp only[zoy,uE] at h;obtain⟨x,e,ks,m,rfl,F,h1,O,h⟩:=h;subst e;obtain⟨v,rfl,U⟩:=zaY b;obtain⟨a,rfl,SV⟩:=zhq U;show⟨a,ks,m,rfl,SV,F,h1,O,λI q Y Z hs p H' L g S=>?_⟩;have B:IsL (zM A H) (q.map stD) I:=uP J.noT (xU q) Y;exact k _ n _ H' (h q Z hs) (xP B (zu.same S) (J.new L) g) (Go.same Pp S) λz=>x4 B S L g⟩
end
def zij {α:Type}{p:List α->Prop}(q:p [])(B:∀l x,p l->p (l++[x]))(l:List α):p l:=by
 have h:∀l:List α,p l.reverse:=λl=>by
  induction l with
  | nil=>exact q
  | cons x l F=>rw[cQ];exact B _ _ F
 have:=h l.reverse;grind
def zhP {α:Type}(a b:List α)(i:Nat)(d:α)(h:i<a.length):(a++b).getD i d=a.getD i d:=by grind
def znr:∀ {cs:AF} {st:AG},st∈xn cs↔st.length=cs.length/\∀i,i<cs.length->st.getD i 0∈cs.getD i []:=by
 intro cs;show zij (p:=λcs=>∀ {st:AG},st∈xn cs↔st.length=cs.length/\∀i,i<cs.length->st.getD i 0∈cs.getD i []) ?_ ?_ cs;intro st;simp[xn,List.length_eq_zero_iff];intro cs c I st;rw[xa];unfold x3;rw[List.mem_flatMap];constructor;rintro⟨r,J,h⟩;obtain⟨w,L,rfl⟩:=aF.mp h;obtain⟨h1,h2⟩:=I.mp J;show⟨by simp[h1],λi hi=>?_⟩;simp at hi;by_cases e:i=cs.length;right;grind;rintro⟨h1,h2⟩;simp at h1;have q:st≠[]:=λz=>by rw[z] at h1;simp at h1
 have F:=bj q;have B:st.dropLast.length=cs.length:=by simp[h1]
 show⟨st.dropLast,I.mpr ⟨B,λi hi=>?_⟩,aF.mpr ⟨st.getLast q,?_,F⟩⟩;have:=h2 i (by simp;omega);rw[zhP _ _ _ _ hi] at this;rw[<- F,zhP _ _ _ _ (by omega)] at this;exact this;have:=h2 cs.length (by simp);rw[<- F] at this;have e:(st.dropLast++[st.getLast q]).getD cs.length 0=st.getLast q:=by simp[<- B]
 right
def zpf:∀ (cs:AF),(∀c∈cs,c.Pairwise (· < ·))->Up' (xn cs):=by
 intro cs;show zij (p:=λcs=>(∀c∈cs,c.Pairwise (· < ·))->Up' (xn cs)) ?_ ?_ cs;intro _;simp[xn,Up'];intro cs c F h;have I:=h c (by simp);have F:=F λd J=>h d (by simp[J]);rw[xa];have q:=zeb cs;generalize xn cs=rows at F q;unfold x3 Up';rw[List.pairwise_flatMap];constructor;intro r hr;rw[bD];show I.imp λ{a b} B=>?_;exact lex_app r B;show (List.Pairwise.and_mem.mp F).imp λ{a b} ⟨L,O,B⟩=>?_;intro x U y Y;obtain⟨v,_,rfl⟩:=aF.mp U;obtain⟨w,_,rfl⟩:=aF.mp Y;exact lex_pre ((q a L).trans (q b O).symm) B
where
 lex_app:∀ (r:AG) {a b:Int},a<b->HT.lexLt (r++[a]) (r++[b])=true
  | [],a,b,h=>by
   change (if a=b then HT.lexLt [] [] else decide (a<b))=true;grind
  | x::r,a,b,h=>by change (if x=x then HT.lexLt (r++[a]) (r++[b]) else decide (x<x))=true;rw[if_pos rfl];exact lex_app r h
 lex_pre:∀ {r t:AG} {a b:Int},r.length=t.length->HT.lexLt r t=true->HT.lexLt (r++[a]) (t++[b])=true
  | [],[],_,_,_,h=>by rw[xu] at h;cases h
  | [],_::_,_,_,h,_=>by simp at h
  | _::_,[],_,_,h,_=>by simp at h
  | x::r,y::t,a,b,Z,h=>by
   have h:(if x=y then HT.lexLt r t else decide (x<y))=true:=h;change (if x=y then HT.lexLt (r++[a]) (t++[b]) else decide (x<y))=true;by_cases e:x=y;rw[if_pos e] at h ⊢;exact lex_pre (by simpa using Z) h;right
def ztJ {P:Bool->Prop}{a:Dt}(h:a.eqOk)(q:P true):a.eqOk/\a.eqOk/\∀r:Bool,(r=true↔a=a)->P r:=by right
def IsP (Pn:PN)(p:Addr):Prop:=∃c ns,Pn=⟨some (p,c,ns),J0⟩
def dc{yt:Int}(q:IsP Pn p)(h:∀r,0<=r->r<yt->Q (.d (.int r)) (n+1))(B:n<=1000000:=by lia)(h1:1<=yt:=by lia)(h2:yt<1073741824:=by lia):zjb Pn [.pen p,.d (.int yt)] n Q:=let ⟨c,ns,e⟩:=q;⟨p,c,ns,yt,e,rfl,B,h1,h2,h⟩
def tc(q:IsP Pn p)(h:∀l':AS,l'.Perm l->Q (.d (.lst l')) (n+l.length))(B:n+l.length<=1000000:=by lia)(h1:l.length<=100000:=by lia):zjf Pn [.pen p,.d (.lst l)] n Q:=let ⟨c,ns,e⟩:=q;⟨p,c,ns,l,e,rfl,B,h1,h⟩
def zlV {B:AG}{a L q:Int}(F:∀r∈B,2<=r/\r<=4)(U:2<=a/\a<=4)(I:yH B * L<=q)(h:a<=L):yH (B++[a]) * (L / a)<=q/\1<=L / a/\L / a<=L:=by
 have h1:1<=L / a:=(Int.le_ediv_iff_mul_le (by lia)).mpr (by lia);have h2:a * (L / a)<=L:=Int.mul_ediv_self_le (by lia);have J:0<=yH B:=by have:=zbn (ns:=B) (λr O=>by have:=F r O;lia);lia
 show⟨?_,h1,?_⟩;rw[uH,Int.mul_assoc];exact Int.le_trans (cL h2 J) I;exact Int.ediv_le_self _ (by lia)
def zjT {α:Type}(f:α->Dt)(d:α)(l:List α):enW 0 (l.map f)=(List.range l.length).map λi:Nat=>W.d (.tup [.int (i:Int),f (l.getD i d)]):=by
 apply dr;intro i;rw[zel,aq,aq];by_cases h:i<l.length
 all_goals right
def zjV (sts:AF):enW 0 (sts.map stD)=(List.range sts.length).map λk:Nat=>W.d (.tup [.int (k:Int),stD (sts.getD k [])]):=zjT stD [] sts
def zaG:(zgw k).length=k:=by unfold zgw;rw[ab,aw]
def zlU:zgw k=(zk (k:Int)).map Dt.int:=by unfold zgw zk;rw[ao,aT];rfl
def zeN{α:Type}{f:α->Dt}{xs:List α}(h:l.Perm (xs.map f)):∃ys:List α,l=ys.map f/\ys.Perm xs:=by
 generalize B:xs.map f=zs at h
 induction h generalizing xs with
 | nil=>exact⟨[],rfl,by right⟩
 | @cons x U Y _ J=>
  match xs,B with
  | y::r,B=>
   rw[ax] at B;obtain⟨h1,h2⟩:=e7 B;obtain⟨ys,e,q⟩:=J h2;exact⟨y::ys,by right,q.cons y⟩
 | swap x y l=>
  match xs,B with
  | a::b::r,B=>
   rw[ax,ax] at B;obtain⟨h1,h2⟩:=e7 B;obtain⟨Z,h4⟩:=e7 h2;exact⟨b::a::r,by right,.swap ..⟩
 | trans _ _ F I=>
  obtain⟨ys,e,q⟩:=I B;obtain⟨zs,L,O⟩:=F e.symm;exact⟨zs,L,O.trans q⟩
def zie{l:AS}(h:l.Perm (zgw k)):∃q:AG,l=q.map Dt.int/\q.Perm (zk (k:Int)):=by rw[zlU] at h;exact zeN h
def zW {m b:Int}:b∈zk m↔0<=b/\b<m:=by
 unfold zk;rw[aF];constructor;rintro⟨k,q,rfl⟩;grind;rintro⟨B,h1⟩;exact⟨b.toNat,aX.mpr (by lia),by lia⟩
def xJ (m:Int):(zk m).Nodup:=by unfold zk List.Nodup;rw[bD];exact List.pairwise_lt_range.imp λh=>by lia
def zg9 {α q:Type}{G:Prop}(C:α->q->Prop)(P:α->q->Prop)(h:(∀a b,C a b->P a b)->G)(r:∀a b,C a b->P a b):G:=h r
def zrV {q:AG}(h:q.Nodup){i:Nat}(hi:i<q.length):q.getD i 0∉q.take i:=λz=>by
 obtain⟨j,B,e⟩:=ba.mp z;rw[aM] at B;rw[cC] at e;have:q.getD i 0=q[i]:=by simp[hi]
 rw[this] at e;have:=(bI h).mp e;lia
def zcG{q:AG}(hi:i<q.length):q.getD i 0∈q:=by right
def zjG {α:Type}(l:List α)(lo hi:AQ):(xY l lo hi).Sublist l:=(dn _ _).trans (List.drop_sublist _ _)
def zfs {α:Type}(l:List α):xY l (some 1) none=l.drop 1:=by
 unfold xY
 have h1:HT.sIx l.length 0 (some 1)=min 1 l.length:=by unfold HT.sIx;simp;try lia
 have h2:HT.sIx l.length l.length none=l.length:=rfl;rw[h1,h2,ck (by simp)]
 cases l with
 | nil=>rfl
 | cons a l=>simp
def zml:∀ (l k:AS) (i:Nat),(ziW l k)[i]?=(l[i]?).bind λx=>(k[i]?).map λy=>W.d (.tup [x,y])
 | [],k,i=>by simp[ziW]
 | x::r,[],i=>by
  simp only[ziW,List.getElem?_nil,Option.map_none];right
 | x::r,y::s,0=>rfl
 | x::r,y::s,i+1=>by rw[ziW,bC,bC,bC];exact zml r s i
def zoj (q:AF):ziW (q.map stD) (xY (q.map stD) (some 1) none)=(List.range (q.length - 1)).map λi:Nat=>W.d (.tup [stD (q.getD i []),stD (q.getD (i+1) [])]):=by
 rw[zfs];apply dr;intro i;rw[zml,List.getElem?_drop,aq,aq,aq];grind
def zh0 {κ:Type}[DecidableEq κ](kvs:List (κ×Dt))(k z:κ)(d:Dt):yZ (zfe kvs k d) z=if z=k then some d else yZ kvs z:=by
 unfold zfe;by_cases F:(kvs.any λkv=>decide (kv.1=k))=true;rw[if_pos F];unfold yZ
 induction kvs with
 | nil=>simp at F
 | cons q r J=>
  rw[ax,bt,bt];by_cases e:q.1=k;rw[if_pos e];by_cases B:z=k;right;have h1:¬ q.1=z:=λw=>B (w.symm.trans e);rw[if_neg B];simp only[h1,decide_false];by_cases L:(r.any λkv=>decide (kv.1=k))=true;right;congr 2;show (c4 λp I=>?_).trans (List.map_id _);grind;grind
 rw[if_neg F];unfold yZ;rw[List.find?_append];by_cases B:z=k;subst B;have:kvs.find? (λq=>decide (q.1=z))=none:=eI.mpr λp I w=>F (cZ.mpr ⟨p,I,w⟩);rw[this];simp;have:¬ k=z:=λw=>B w.symm;right
def ze5 {rm st:AG}(h:StOk rm st):st∈xn (rm.map zk):=by
 rw[znr];have q:=h.len;show⟨by grind,λi hi=>?_⟩;rw[ab] at hi;have e:(rm.map zk).getD i []=zk (rm.getD i 0):=by simp[hi]
 rw[e,zW];have:=h.box (i:Int) (by lia) (by lia);rw[ym,ym] at this;exact this
def zha {l:AF}{st:AG}:(Dt.tup (st.map Dt.int)∈l.map stD)↔st∈l:=by
 constructor;intro z;obtain⟨s,q,e⟩:=aF.mp z;have:s=st:=List.map_inj_right (by grind) |>.mp (Dt.tup.inj e);grind;exact λz=>aF.mpr ⟨_,z,rfl⟩
def zcr {rm st:AG}{b x:Int}(h:StOk rm st)(q:0<=b)(J:b<rm.length)(L:0<=x)(x1:x<yt rm b):StOk rm (chg st b x):=by
 have F:=h.len;show⟨by rw[xN q (by lia)];exact F,λc B I=>?_⟩;rw[yo q (by lia) B];split;right;exact h.box c B I
def zsr{rm:AG}(h:yS rm bk):(Dt.lst (bk.map zU)).eqOk:=(zgM (rm:=rm) λd q=>by obtain⟨x,B,rfl⟩:=aF.mp q;exact⟨x,rfl,h x B⟩).2
def zrW{rm:AG}(h:WishOk rm x):WishOk rm (zu5 x):=⟨h.giv,h.b0,h.b1,h.apart,h.w0,h.w1,h.r0,h.r1,Ne.symm h.ne⟩
def zpr{rm:AG}(h:WishOk rm x){lo hi:AQ}:WishOk rm { x with g:=xY x.g lo hi }:=by have s:=zjG x.g lo hi;exact⟨⟨λq B=>h.giv.ok q (s.subset B),h.giv.up.sublist s⟩,h.b0,h.b1,λq B=>h.apart q (s.subset B),h.r0,h.r1,h.w0,h.w1,h.ne⟩
end L3
namespace L3
def zfw {α q:Type}(f:α->q):∀ (l:List α) (i:Nat),(l.eraseIdx i).map f=(l.map f).eraseIdx i
 | [],_=>rfl
 | _::_,0=>rfl
 | x::l,i+1=>by simp[zfw f l i]
open L2
def lpE (bk:AW)(q:Int)(st:AG):List (Int×Int):=(lpF bk q st).map λr=>(r.getD 0 0,r.getD 1 0)
def zqg{q:Int}{st:AG}:(lpF bk q st).map stD=(lpE bk q st).map zQ:=by
 unfold lpE;rw[ao];show c4 λr B=>?_;have:=ztq r B
 match r,this with
 | [a,b],_=>rfl
def zg4{rm:AG}{q w:Int}{st:AG}(B:yS rm bk)(F:st.length=rm.length):lpE bk q (chg st q w)=lpE bk q st:=by unfold lpE;rw[zoO B F]
def zcg (E:List (Int×Int))(h:Int):AG:=(E.filter λq=>decide (q.1=h)).map (·.2)
def zbg {E:List (Int×Int)}{h b:Int}:b∈zcg E h↔(h,b)∈E:=by
 unfold zcg;right
def zin (E:List (Int×Int))(h:Int):(zcg E h).length<=E.length:=by unfold zcg;rw[ab];exact dF _ _
def PF (E:List (Int×Int))(D:Int->Prop):Prop:=∀a,D a->∃b,D b/\(a,b)∈E
def Cyc (E:List (Int×Int)):Prop:=∃D a,PF E D/\D a
structure IsRd (E:List (Int×Int))(row:AG):Prop where
 ne:row≠[]
 nd:row.Nodup
 next:∀i,i+1<row.length->(row.getD i 0,row.getD (i+1) 0)∈E
 back:(row.getD (row.length - 1) 0,row.getD 0 0)∈E
def inF (E:List (Int×Int))(lf:AG)(h:Int):AG:=(zcg E h).filter λb=>lf.contains b
def onF (E:List (Int×Int))(lf:AG):AG:=lf.filter λh=>!(inF E lf h).isEmpty
def zeA {E:List (Int×Int)}{lf:AG}{h b:Int}:b∈inF E lf h↔(h,b)∈E/\b∈lf:=by unfold inF;rw[aN,zbg,bA]
def zk4 {E:List (Int×Int)}{lf:AG}{h:Int}:h∈onF E lf↔h∈lf/\∃b,b∈lf/\(h,b)∈E:=by
 unfold onF;rw[aN];constructor;rintro⟨h1,h2⟩;show⟨h1,?_⟩
 cases e:inF E lf h with
 | nil=>rw[e] at h2;cases h2
 | cons b r=>
  have:=zeA.mp (show b∈inF E lf h by right);exact⟨b,this.2,this.1⟩
 rintro⟨h1,b,h2,q⟩;show⟨h1,?_⟩;have:=zeA.mpr ⟨q,h2⟩;grind
def ztH {E:List (Int×Int)}{lf:AG}{D:Int->Prop}(h:PF E D)(q:∀a,D a->a∈lf):∀a,D a->a∈onF E lf:=λa B=>by obtain⟨b,h1,h2⟩:=h a B;exact zk4.mpr ⟨q a B,b,q b h1,h2⟩
def zqy {E:List (Int×Int)}{lf:AG}(h:lf.length<=(onF E lf).length):∀a∈lf,∃b,b∈lf/\(a,b)∈E:=λa q=>by have:onF E lf=lf:=dR c5 h;rw[<- this] at q;exact (zk4.mp q).2
def ldK (l:AG)(f:Int->AG):List (Key×Dt):=l.map λh=>((Sum.inl h:Key),lsD (f h))
def zev {l:AG}{f:Int->AG}:(ldK l f).map (·.1)=l.map Sum.inl:=by unfold ldK;rw[ao];rfl
def zaE {f:Int->AG}{h:Int}:∀ {l:AG},h∈l->yZ (ldK l f) (Sum.inl h)=some (lsD (f h))
 | x::l,q=>by
  unfold ldK yZ;rw[ax,bt];by_cases e:x=h;subst e;simp;have:decide (((Sum.inl x:Key),lsD (f x)).1=(Sum.inl h:Key))=false:=aU λz=>e (Sum.inl.inj z);rw[this];have:=zaE (f:=f) (h:=h) (l:=l) (by grind);unfold ldK yZ at this;exact this
def zqd {l:AG}{f:Int->AG}:(ldK l f).length=l.length:=by unfold ldK;rw[ab]
def zgI(xs:AG)(hl:l=xs.map λi=>W.d (.int i))(J:Ev->Prop)(P:Int->Bool)(E:Int->Dt)(hN:xs.Nodup)(ag:xs.length<=lim)(j0:J L)(h:∀a∈xs,∀ F,J F->∀C:Ev->Nat->Option (Int×Dt)->Prop,(∀ {B},P a=true->J B->C B n (some (a,E a)))->(∀ {B},P a=false->J B->C B n none)->mg (.d (.int a)) F λB=>ft B n λb n2=>onC b (fk B n2 λy n3=>fv B n3 λx U=>onI y λj=>onD x λd=>C B U (some (j,d))) (C B n2 none))(fin:Q (.dk ((xs.filter P).map λa=>((Sum.inl a:Key),E a))) n):zoA mg ft fk fv L Q l n:=by
 subst hl;show⟨by right,λi F Y acc=>J F/\Y=n/\acc=((xs.take i).filter P).map λa=>((Sum.inl a:Key),E a),⟨j0,rfl,rfl⟩,?_,?_⟩;rintro i w F Y acc hw ⟨Z,rfl,rfl⟩;rw[aq] at hw;obtain⟨a,O,rfl⟩:=aC.mp hw
 have:=h a (aA O) F Z (λB U o=>match o with
  | some q=>J B/\U=Y/\zfe (((xs.take i).filter P).map λa=>((Sum.inl a:Key),E a)) (Sum.inl q.1) q.2=((xs.take (i+1)).filter P).map λa=>((Sum.inl a:Key),E a)
  | none=>J B/\U=Y/\(((xs.take i).filter P).map λa=>((Sum.inl a:Key),E a))=((xs.take (i+1)).filter P).map λa=>((Sum.inl a:Key),E a)) (λ{B} hp I=>by
   show⟨I,rfl,?_⟩;have hi:=(ac.mp O).1;have hn:((((xs.take i).filter P).map λa=>((Sum.inl a:Key),E a)).any λkv=>decide (kv.1=(Sum.inl a:Key)))=false:=by rw[eP];intro kv ad z;obtain⟨b,hb,rfl⟩:=aF.mp ad;have e:b=a:=Sum.inl.inj (bW z);subst e;obtain⟨j,Z,e2⟩:=ba.mp (aN.mp hb).1;rw[aM] at Z;rw[cC] at e2;have e3:=(ac.mp O).2;rw[<- e3] at e2;have:=(bI hN).mp e2;lia
   unfold zfe;rw[hn,if_neg (by ext),zn O,bR,az]
   simp[hp]) (λ{B} hp I=>by
   show⟨I,rfl,?_⟩;rw[zn O,bR,az];simp[hp])
 simp only[zar,xH,xG] at this;grind;grind
def zjF {α:Type}(l:List α)(k:Nat):xY l (some (k:Int)) none=l.drop k:=by
 unfold xY
 have h1:HT.sIx l.length 0 (some (k:Int))=min k l.length:=by unfold HT.sIx;simp;try lia
 have h2:HT.sIx l.length l.length none=l.length:=rfl;rw[h1,h2,ck (by simp)];right
def zaD {l:AG}{j i:Nat}:(l.drop j).getD i 0=l.getD (j+i) 0:=by grind
def uB {l:AG}{h:Int}{i:Nat}(hi:i<l.length):(l++[h]).getD i 0=l.getD i 0:=by grind
def zcE {l:AG}{h:Int}:(l++[h]).getD l.length 0=h:=by simp
def rdOf {E:List (Int×Int)}{q:AG}{h:Int}(J:q.Nodup)(L:h∈q)(I:∀i,i<q.length->((q++[h]).getD i 0,(q++[h]).getD (i+1) 0)∈E):IsRd E (q.drop (q.idxOf h)):=by
 have O:q.idxOf h<q.length:=da.mpr L;have B:q.getD (q.idxOf h) 0=h:=by right
 have F:(q.drop (q.idxOf h)).length=q.length - q.idxOf h:=cH;generalize q.idxOf h=j at O B F;show⟨by grind,J.sublist (List.drop_sublist _ _),λi hi=>?_,?_⟩;rw[F] at hi;have:=I (j+i) (by lia);rw[uB (by lia),uB (by lia)] at this;rw[zaD,zaD];exact this;have:=I (q.length - 1) (by lia);rw[uB (by lia),show q.length - 1+1=q.length by lia,zcE] at this;rw[F,zaD,zaD,Nat.add_zero,B,show j+(q.length - j - 1)=q.length - 1 by lia];exact this
def zju {st:AG}{b x y:Int}(q:0<=b)(B:b<st.length):chg (chg st b x) b y=chg st b y:=by
 have I:=xN (w:=x) q B;show zhM (by rw[xN q (by lia),I,xN q B]) λc F J=>?_;rw[yo q (by lia) F,yo (w:=y) q B F];split;rfl
 ·rename_i h;rw[yo q B F,if_neg h]
def zlw {rm:AG}{bk:AW}{q:Int}{st:AG}{w b:Nat}(I:yS rm bk)(J:st.length=rm.length)(B:0<=q)(U:q<rm.length):chg st q (b:Int)∈zop bk (chg st q (w:Int)) []↔zc3 bk q st w b=true:=by
 have Y:(chg st q (w:Int)).length=rm.length:=by rw[xN B (by lia)];exact J
 have:=zto (one:=chg st q (w:Int)) (wo:=(b:Int)) I Y B U;rw[zju B (by lia),yo B (by lia) B,if_pos rfl,zoO I J] at this;rw[<- this,zc4 I J B U];unfold lpF;rw[uf,xx];constructor;rintro⟨x,h1,h2,L,e⟩;injection e with O F;injection F with F _;exact⟨x,h1,h2,L,O.symm,F.symm⟩;rintro⟨x,h1,h2,L,O,F⟩;exact⟨x,h1,h2,L,by rw[O,F]⟩
def zbt (C:Nat->Nat->Bool)(m:Nat):∀i,(uL C m i).length<=i * m
 | 0=>by simp[uL]
 | i+1=>by
  have h1:=zbt C m i
  have h2:(zN C i m).length<=m:=by
   unfold zN;grind
  rw[uL,aj,fj];lia
def zaz (C:Nat->Nat->Bool)(w j:Nat):(zN C w j).length<=j:=by
 unfold zN;grind
def rot (q:AG):AG:=q.drop 1++q.take 1
def zrD {B:AG}{q:Int×Int}(h:q∈B.zip (rot B)):∃i,i<B.length/\q.1=B.getD i 0/\q.2=if i+1<B.length then B.getD (i+1) 0 else B.getD 0 0:=by
 obtain⟨i,hi,e⟩:=ba.mp h;have F:i<B.length/\i<(rot B).length:=by grind
 show⟨i,F.1,?_,?_⟩;rw[<- e,List.getElem_zip];simp[F.1]
 ·have I:q.2=(rot B)[i]:=by rw[<- e,List.getElem_zip]
  rw[I];unfold rot;split
  ·rename_i h1;rw[List.getElem_append_left (by rw[cH];lia)]
   right
  ·rename_i h1;have J:i+1=B.length:=by lia
   rw[List.getElem_append_right (by right)];have L:0<B.length:=by lia
   simp[L,show i - (B.length - 1)=0 by lia]
def zuz {E:List (Int×Int)}{B:AG}(h:IsRd E B){q:Int×Int}(F:q∈B.zip (rot B)):q∈E:=by
 obtain⟨i,hi,I,J⟩:=zrD F;have:q=(q.1,q.2):=rfl;rw[this,I,J];split
 ·rename_i h1;exact h.next i h1
 ·rename_i h1;rw[show i=B.length - 1 by lia];exact h.back
def zuy {E:List (Int×Int)}{B:AG}(h:IsRd E B)(F:∀q∈E,q.1≠q.2):2<=B.length:=by
 have I:=en.mpr h.ne;apply bv;intro z;have h1:B.length=1:=by lia
 have:=h.back;rw[h1] at this;exact F _ this rfl
def zpt {α:Type}(l:List α):xY l none (some 1)=l.take 1:=by have:=L3.zci l 1;exact this
def zjY {q:Int×Int}:(zQ q).eqOk:=rfl
def zle {α:Type}{l:List α}:(l.map λ_=>false).contains true=false:=by grind
def zk5 {E:List (Int×Int)}{q:Int×Int}:zQ q∈E.map zQ↔q∈E:=by grind
end L3
namespace L2
open PyProof.Rows PySem.W PySem.Calls
section
variable {X:Cx}{pins:AB}{σ:St}{H:Hp}{s:AZ}{a:Addr}
def Inv.frz {kvs:List (AG×V)}(I:Inv X pins σ H s)(h:H a=some (dtO kvs)):∃ob,Inv X pins σ (upd H a (.frz ob (dtO kvs))) s:=by obtain⟨z,lo,xs,r,o,es,F,h1,h2,J,L,O⟩:=(show yn X.prog X.w H s.heap a (.dT (zhX kvs)) from I.hok a _ h);show⟨o,I.write (x:=a) (e:=a) (h':=s.heap) (t':=s.toks) (by rw[h];trivial) (.inl rfl) (λ_ _ _ e=>e) ⟨o,h1⟩ ⟨h1,z,lo,xs,Paired.imp' (λp q y=>?_) r,o,es,F,h1,h2,J,L,O⟩⟩;obtain⟨U,B,Y⟩:=y;exact⟨U,by rw[zf (λy=>by rw[y,h] at B;cases B)];exact B,Y⟩
def tFrz (te:TE):TE:=λσ H Q=>te σ H λx H1=>∃a ks,x = .ref a/\H1 a=some (dtO ks)/\∀ob,Q x (upd H1 a (.frz ob (dtO ks)))
def zuk(h:QE X e te):QE X e (tFrz te):=⟨by
 intro pins s σ H Q I q;show thn (h.run pins s σ H _ I q) ?_;rintro v L ⟨x,H1,I1,B,a,ks,rfl,F,J⟩;obtain⟨ob,I2⟩:=I1.frz F;exact⟨_,_,I2,B,J ob⟩⟩
def zmV{kvs:List (AG×V)}(I:Inv X pins σ H s)(h:H a=some (.frz ob (dtO kvs))) :
  (a==sysModules)=false/\∃ (es:Array DictEntry) (B:Nat) (ys:AE),ob.ExactDict/\ob.data = .dict es B/\uq s.heap a es B/\ys.map (·.1)=kvs.map (·.1)/\(∀q∈ys,H q.2=some (.tup (q.1.map V.int)))/\es.toList.map (·.key)=ys.map (λq=>Value.ref q.2)/\(kvs.map (·.1)).Nodup:=by
 have k:=I.hok a _ h;obtain⟨lo,es,B,ys,⟨o,F,J,L⟩,O,U,Y,_,Z⟩:=zmP I (.inr ⟨ob,h⟩);have:o=ob:=by have:=k.1;rw[F] at this;exact bz this
 subst this;exact⟨lo,es,B,ys,J,L,⟨o,F,J,L⟩,O,U,Y,Z⟩
end
def Itd (d:Addr)(ob:Obj)(ks:List (AG×V))(ys:AE):It:=
 ⟨λi H=>H d=some (.frz ob (dtO ks))/\i<ys.length,λi H x H'=>H'=H/\∃q,ys[i]?=some q/\x = .ref q.2,λi H=>H d=some (.frz ob (dtO ks))/\i=ys.length⟩
def zmf {P:Aa}{w:Ab}{K:AH}{tg:Expr}{ob:Obj}{ks:List (AG×V)}{ys:AE}{es:Array DictEntry}{L:Nat}(d B:Addr)(hx:ob.ExactDict)(hd:ob.data = .dict es L)(U:es.toList.map (·.key)=ys.map (λq=>Value.ref q.2)) :
  Turn P w K tg (Itd d ob ks ys) [B] B (λi h=>h.IsKeyIter B d i es.size L) where
 mem:=by simp
 obj:=λi h st b F=>by
  have e:b=B:=by simpa using F
  subst e;obtain⟨o,e,c,d⟩:=st;right
 keep:=λi h h' ⟨o,e,r⟩ k=>⟨o,k B (by simp) o e,r⟩
 item:=by
  rintro X Y Z hK hc i pins s σ H E I O st ⟨hg,hi⟩;subst Y Z hK;obtain⟨f0,f1,f2,f3,f4,f5⟩:=O B (by simp);have hm:uq s.heap d es L:=⟨ob,(I.hok d _ hg).1,hx,hd⟩;have hl:es.toList.length=ys.length:=by have:=congrArg List.length U;rwa[ab,ab] at this
  have e1:es[i]?=some es.toList[i]:=by rw[zb7,ah]
  have e2:es.toList[i].key=Value.ref ys[i].2:=by
   have:(es.toList.map (·.key))[i]?=(ys.map (λq=>Value.ref q.2))[i]?:=by rw[U]
   rw[aq,aq,ah (by lia),ah hi] at this;right
  show zbH st hm e1 λh' J sb=>?_;have I1:Inv X pins σ H { s with heap:=h' }:=I.turned (t':=s.toks) (λb o F e=>(sb.2 b F).trans e) f0 f1 f3 f4 f5;obtain⟨o,e,c,d⟩:=id J;exact⟨_,rfl,zj8 (s:={ s with heap:=h' }) e c d (by ext) ⟨.ref ys[i].2,H,I1,e2,⟨rfl,_,ah hi,rfl⟩,J,λb F=>(O b F).1⟩⟩
 done:=by
  rintro X Y Z hK hc i pins s σ H E I O st ⟨hg,hi⟩;subst Y Z hK;obtain⟨f0,f1,f2,f3,f4,f5⟩:=O B (by simp);have hm:uq s.heap d es L:=⟨ob,(I.hok d _ hg).1,hx,hd⟩;have hl:es.size=ys.length:=by have:=congrArg List.length U;rwa[ab,ab,aY] at this
  subst hi;rw[<- hl] at st;exact zcX (I.ok.hd hc) st hm λh' eb=>⟨rfl,I.turned (t':=s.toks) (λb o F e=>eb b o F e) f0 f1 f3 f4 f5⟩
 self:=λ_ _ _ _ _ st h=>dO st h
def zwB (te:TE):TI:=λσ H R=>te σ H λx H1=>∃a ob ks,x = .ref a/\H1 a=some (.frz ob (dtO ks))/\∀ys:AE,ys.map (·.1)=ks.map (·.1)->(∀q∈ys,H1 q.2=some (.tup (q.1.map V.int)))->(ks.map (·.1)).Nodup->R (Itd a ob ks ys) H1
def zrk(h:QE X e te):QI X tg e (zwB te):=⟨by
 intro pins s σ H R I q;show thn (h.run pins s σ H _ I q) ?_;rintro v B ⟨x,H1,I1,F,a,ob,ks,rfl,J,L⟩;cases F;obtain⟨lo,es,ep,ys,O,U,Y,Z,e2,e3,e5⟩:=zmV I1 J;show zcR lo Y ?_;show⟨B.heap.objs.size,[B.heap.objs.size],_,_,H1,rfl,I1.kept (t':=B.toks) λb o e=>ai _ e,zmf a _ O U e3,⟨_,aB _ rfl,rfl,rfl⟩,λb hb=>?_,L ys Z e2 e5⟩;have e:b=B.heap.objs.size:=by simpa using hb
 subst e;exact I1.fpOk (af _) (I1.hok.fresh (af _))⟩
end L2
namespace L3
open L2
def znF{ks:List (AG×V)}(h:xQ Pn A n H)(q:H p=some (dtO ks)):xQ Pn A n (L2.upd H p o):=by
 show⟨?_,Pn.J.frz h.2 q (ziV _) rfl⟩;have h:=h.1;split at h;trivial;show⟨?_,h.2⟩;obtain⟨h1,_⟩:=h;obtain⟨a,l,B,g2⟩:=h1.ob;exact⟨⟨a,l,by rw[zf λz=>by rw[z,q] at B;cases B];exact B,g2⟩,let ⟨ob,e⟩:=h1.ls;⟨ob,by rw[zf λz=>by rw[z,q] at e;cases e];exact e⟩,h1.len⟩
def zhR:∀st:AG,IsL G (st.map Dt.int) (st.map V.int)
 | []=>rfl
 | _::st=>⟨_,_,rfl,rfl,zhR st⟩
abbrev onZ (w:W) (P:List (AG×Dt)->Prop):Prop:=match w with | .df i=>P i | _=>False
def zlq{P:List (AG×Dt)->Prop}:onZ w P = ∃i,w = .df i/\P i:=propext ⟨λh=>by cases w <;> first | exact False.elim h | exact⟨_,rfl,h⟩,by right⟩
section
variable {X:Cx}{Pn:PN}{M S:AR}{fr fr':Bool}{pos p:Pos}{e a b c:Expr}{f fa fb fc:AD}
abbrev dFrz (f:AD):AD:=λρ n Q=>f ρ n λx m=>onE x λkvs=>Q (.df kvs) m
def zs3 (h:JE X Pn M true e f):JE X Pn M false e (dFrz f):=by
 obtain⟨te,q,r⟩:=h.ex;show⟨_,zuk q,⟨λA σ H ρ n Q R E P U k=>?_⟩⟩;show r.run A σ H ρ n _ _ E P U λw m v H' F hv g Y=>?_;rw[zlo] at F;obtain⟨kvs,rfl,F⟩:=F;obtain⟨L,Z,B,ag,ks,e2,h1,h2⟩:=Y rfl;subst Z;cases e2;have nA:=E.newF B;show⟨L,ks,rfl,h1,λob=>k _ m _ _ F ⟨L,ob,ks,rfl,zv nA zj,h2.stay λb o I J=>?_⟩ ⟨λb o I J=>?_,?_⟩ λz=>by cases z⟩;obtain⟨O,z2⟩:=zE.mp I;exact zv (λy=>O (.inl y)) (by rw[zf λy=>O (.inr y)];exact z2);rw[zf λy=>by subst y;exact B o I J];exact g.st b o I J;exact znF g.pn h1
def zs0{ks:List (AG×V)}{ys:AE}(h:zM A H B=some (.frz ob (dtO ks)))(F:l=ys.map λq=>W.d (stD q.1))(I:∀q∈ys,zM A H q.2=some (.tup (q.1.map V.int))):ItV false A H (Itd B ob ks ys) l where
 one:=λi w A2 H2 e s _ _=>by subst F;rw[aq] at e;obtain⟨q,h1,rfl⟩:=aC.mp e;show⟨⟨zp _ _ (s _ _ h λk z=>by cases z),(ac.mp h1).1⟩,?_⟩;rintro y H3 ⟨rfl,J,h2,rfl⟩;rw[h1] at h2;cases h2;exact⟨λ_ _ z=>z,Val.of ⟨q.2,_,rfl,s.tup (I q (aA h1)),zhR q.1⟩⟩
 stop:=λA2 H2 s _=>by subst F;exact⟨zp _ _ (s _ _ h λk z=>by cases z),by simp⟩
abbrev dItF (fa:AD):AC:=λρ n Q=>fa ρ n λx m=>onZ x λkvs=>(kvs.map (·.1)).Nodup->Q (kvs.map λq=>W.d (stD q.1)) m
def zta(h:JE X Pn M fr e f):JI X Pn M false tg e (dItF f):=by
 obtain⟨te,q,r⟩:=h.ex;show⟨_,zrk q,⟨λA σ H ρ n Q R E P U k=>?_⟩⟩;show r.run A σ H ρ n _ _ E P U λw m v H1 F Y g _=>?_;rw[zlq] at F;obtain⟨kvs,rfl,F⟩:=F;obtain⟨Z,ob,ks,rfl,B,hl⟩:=Y;have J:ks.map (·.1)=kvs.map (·.1):=hl.keys;have I:=(E.stay g.st).alT;show⟨Z,ob,ks,rfl,zp _ _ B,λys e1 L e3=>k _ m _ H1 (F (by rw[<- J];exact e3)) (zs0 B ?_ λq O=>zv (λy=>I _ _ y (L q O)) (L q O)) g⟩;have:(ys.map (·.1)).map (λst=>W.d (stD st))=(kvs.map (·.1)).map λst=>W.d (stD st):=by rw[e1,J]
 rw[ao,ao] at this;exact this.symm
abbrev zv4 (fd fk:AD):AD:=λρ n Q=>fd ρ n λx q=>fk ρ q λy B=>onZ x λkvs=>∃st,y = .d (stD st)/\onO (yZ kvs st) λd=>Q (.d d) B
def zjp{kvs:List (AG×Dt)}(h:Bor A H (.df kvs) v):∃q ks,v = .ref q/\Rd H q (dtO ks)/\uw (zM A H) kvs ks:=by obtain⟨q,ob,ks,e,h1,h2⟩:=h;exact⟨q,ks,e,.inr ⟨ob,h1⟩,h2⟩
def zch.z {H:Hp}{a b:Addr}{kvs:List (AG×V)}{st:AG}(e:Rd H a (dtO kvs))(q:H b=some (.tup (st.map V.int))):zch H a (.ref b) (zaI kvs st):=
 .inr ⟨_,st.map Sum.inl,b,e,rfl,by rw[zcO];exact q,(zhY kvs st).symm⟩
def zer (J:X.A.units+1<cLine)(L:JB X Pn M a fa)(O:JB X Pn M b fb)(U:zpd b):JE X Pn M false (.Subscript a b pos) (zv4 fa fb):=by obtain⟨ta,Y,Z⟩:=L.ex;obtain⟨tb,qb,rb⟩:=O.ex;show⟨_,xO J Y qb U,⟨λA σ H ρ n Q R E P hf k=>?_⟩⟩;show Z.run A σ H ρ n _ _ E P hf λw1 m1 v1 H1 r1 b1 B=>?_;show rb.run A σ H1 ρ m1 _ _ (E.stay B.st) B.pn r1 λw2 m2 v2 H2 q b2 g2=>?_;rw[zlq] at q;obtain⟨kvs,rfl,st,rfl,q⟩:=q;rw[zaM] at q;obtain⟨d,e3,r⟩:=q;obtain⟨ad,ks,rfl,F,hk⟩:=zjp (b1.stay g2.st);obtain⟨bd,xs,rfl,I,hx⟩:=xM b2;obtain rfl:=hx.of_ints;obtain⟨v,h1,h2⟩:=(hk.look (k:=st)).2 d e3;show⟨ad,v,rfl,?_,k _ m2 _ H2 r (Val.of h2) (B.trans g2) λz=>by cases z⟩;rw[<- h1];exact zch.z F I
abbrev zsA (fd fk q:AD):AD:=λρ n Q=>fd ρ n λx B=>onZ x λkvs=>fk ρ B λy F=>q ρ F λz I=>∃st,y = .d (stD st)/\onD z λi=>Q (.d ((yZ kvs st).getD i)) I
def zs5 (hu:X.A.units+1<cLine)(ha:JB X Pn M a fa)(hb:JB X Pn M b fb)(hc:JE X Pn M fr c fc){apos cpos:Pos}
  (base:attributeBase a "get" X.env (eval a X.env)=eval a X.env:=by rfl)
  (L:((backTo cpos (starEach [b,c] X.env)).all (λx=>!x.1)&&(backToKw cpos (keywordEach [] X.env)).all (λx=>x.1.isSome)
   && decide (([b,c]:AO).length+([]:List Keyword).length+(if ([]:List Keyword).isEmpty then 0 else 1)<30))=true:=by rfl)
  (F:(apos.endLine==cpos.line)=true:=by rfl) (q:backTo cpos (starEach [b,c] X.env)=[(false,eval b X.env),(false,eval c X.env)]:=by rfl) :
  JE X Pn M false (.Call (.Attribute a "get" apos) [b,c] [] cpos) (zsA fa fb fc):=by
 obtain⟨ta,qa,ra⟩:=ha.ex;obtain⟨tb,qb,rb⟩:=hb.ex;obtain⟨tc,qc,rc⟩:=hc.ex;show⟨_,⟨znB hu qa.run qb.run qc.run ⟨base,L,F,q⟩⟩,⟨λA σ H ρ n Q R E P hf k=>?_⟩⟩;show ra.run A σ H ρ n _ _ E P hf λw1 m1 v1 H1 I Z J=>?_;rw[zlq] at I;obtain⟨kvs,rfl,I⟩:=I;obtain⟨a0,_,e0,h0,_⟩:=zjp Z;subst e0;show⟨a0,rfl,.inr ⟨_,h0⟩,?_⟩;show rb.run A σ H1 ρ m1 _ _ (E.stay J.st) J.pn I λw2 m2 v2 H2 r2 b2 g2=>?_;show rc.run A σ H2 ρ m2 _ _ ((E.stay J.st).stay g2.st) g2.pn r2 λw3 m3 v3 H3 B b3 O _=>?_;obtain⟨st,rfl,B⟩:=B;rw[xG] at B;obtain⟨i,rfl,B⟩:=B;obtain⟨ad,ks,ea,U,hk⟩:=zjp ((Z.stay g2.st).stay O.st);cases ea;obtain⟨bd,xs,rfl,Y,hx⟩:=xM (b2.stay O.st);obtain rfl:=hx.of_ints;show⟨zaI ks st,zch.z U Y,k _ m3 _ H3 B (Val.of ?_) ((J.trans g2).trans O) λz=>by cases z⟩
 cases e:yZ kvs st with
 | none=>rw[(hk.look (k:=st)).1 e];exact b3.is
 | some d=>obtain⟨v,h1,h2⟩:=(hk.look (k:=st)).2 d e;rw[h1];exact h2
def zkv(I:X.A.units+1<cLine)(J:X.calm=true)(L:CompOkC X scope N z cix)(hi:JI X Pn M F tg iter q)(O:∀C D s H ex,JG (zB X scope N z C D s H ex) (ya M cix) (ya M cix) tg mg)(U:∀C D s H ex,JTs (zB X scope N z C D s H ex) Pn (ya M cix) ifs B)(Y:∀C D s H ex,JB (zB X scope N z C D s H ex) Pn (ya M cix) ke fk)(Z:∀C D s H ex,JE (zB X scope N z C D s H ex) Pn (ya M cix) fr' ve fv)(hn:(cix.filterMap id).Nodup:=by ext)(hs:∀x,foldedSetIterable iter X.env x=pure x:=by intro _;rfl):JE X Pn M true (.DictComp ke ve [⟨tg,iter,ifs,0⟩] scope pos) (zkV q mg B fk fv cix):=by
 obtain⟨ti,qi,ri⟩:=hi.ex;obtain⟨g,qg,rg⟩:=zir O;obtain⟨tt,qt,rt⟩:=zis U;obtain⟨tk,qk,rk⟩:=zpc Y;obtain⟨te,qe,re⟩:=ziq Z;exact⟨_,zbZ (o0:=.dT []) (by simp) I J L qi qg qt qk qe hs,zlQ hn ri rg rt rk re⟩
abbrev zov:AU->Mo W:=λB n Q=>on1 B λx=>∃kvs:List (AG×Dt),x = .d (.lst (kvs.map λq=>Dt.tup [stD q.1,q.2]))/\(kvs.map (·.1)).Nodup/\kvs.length<=lim/\Q (.dt kvs) n
def zkn:∀ {kvs:List (AG×Dt)} {xs:AT},IsL G (kvs.map λq=>Dt.tup [stD q.1,q.2]) xs->∃ps:List Pr,xs=ps.map (λq=>V.ref q.1)/\(∀q∈ps,G q.1=some (.tup [.ref q.2.1,q.2.2.2])/\G q.2.1=some (.tup (q.2.2.1.map V.int)))/\ps.map (·.2.2.1)=kvs.map (·.1)/\uw G kvs (prK ps)
 | [],_,h=>by cases h;exact⟨[],rfl,λ_ z=>by simp at z,rfl,rfl⟩
 | q::r,xs,⟨x,s,e,⟨p,us,J,L,kv,s2,O,⟨kb,zs,U,B,Y⟩,I,s3,Z,hv,e6⟩,h2⟩=>by
  obtain⟨ps,h1,h3,h4,h5⟩:=zkn h2;subst e J O U Z e6 h1;obtain rfl:=Y.of_ints;show⟨(p,kb,q.1,I)::ps,rfl,λy F=>?_,by right,I,_,rfl,hv,h5⟩;rcases aJ.mp F with rfl | F;exact⟨L,B⟩;exact h3 y F
def zrY:FL Pn true zo2 zov:=⟨λA H xs ws n Q R U b Pp h k=>by
 simp only[zov,uE] at h;obtain⟨x,e,kvs,rfl,B,Y,h⟩:=h;subst e;obtain⟨v,rfl,Z⟩:=zaY b;obtain⟨ad,xs,rfl,F,hl⟩:=Z;obtain⟨ps,rfl,h1,h2,L⟩:=zkn hl;have I:ps.length=kvs.length:=by have:=congrArg List.length h2;simpa using this
 show⟨ad,ps,rfl,⟨F,λq O=>⟨zp _ _ (h1 q O).1,zp _ _ (h1 q O).2⟩,by rw[h2];exact B,by rw[I];exact Y⟩,λp H' J g S=>?_⟩;exact k _ n _ H' h ⟨p,_,rfl,zv (U.new J) g,L.stay (zH (zu.same S))⟩ (Go.same Pp S) λ_=>⟨p,rfl,.of J,p,_,rfl,g,L.stay (yC (zu.same S) (.of J))⟩⟩
end
def zmN(xs:AF)(hl:l=xs.map λi=>W.d (stD i))(J:Ev->Prop)(P:AG->Bool)(E:AG->Dt)(hN:xs.Nodup)(ag:xs.length<=lim)(j0:J L)(h:∀a∈xs,∀ F,J F->∀C:Ev->Nat->Option (AG×Dt)->Prop,(∀ {B},P a=true->J B->C B n (some (a,E a)))->(∀ {B},P a=false->J B->C B n none)->mg (.d (stD a)) F λB=>ft B n λb n2=>onC b (fk B n2 λy n3=>fv B n3 λx U=>∃j,y = .d (stD j)/\onD x λd=>C B U (some (j,d))) (C B n2 none))(fin:Q (.dt ((xs.filter P).map λa=>(a,E a))) n):zoB mg ft fk fv L Q l n:=by
 subst hl;show⟨by right,λi F Y acc=>J F/\Y=n/\acc=((xs.take i).filter P).map λa=>(a,E a),⟨j0,rfl,rfl⟩,?_,?_⟩;rintro i w F Y acc hw ⟨Z,rfl,rfl⟩;rw[aq] at hw;obtain⟨a,O,rfl⟩:=aC.mp hw
 have:=h a (aA O) F Z (λB U o=>match o with
  | some q=>J B/\U=Y/\zfe (((xs.take i).filter P).map λa=>(a,E a)) q.1 q.2=((xs.take (i+1)).filter P).map λa=>(a,E a)
  | none=>J B/\U=Y/\(((xs.take i).filter P).map λa=>(a,E a))=((xs.take (i+1)).filter P).map λa=>(a,E a)) (λ{B} hp I=>by
   show⟨I,rfl,?_⟩;have hi:=(ac.mp O).1;have hn:((((xs.take i).filter P).map λa=>(a,E a)).any λkv=>decide (kv.1=a))=false:=by rw[eP];intro kv ad z;obtain⟨b,hb,rfl⟩:=aF.mp ad;have e:b=a:=bW z;subst e;obtain⟨j,Z,e2⟩:=ba.mp (aN.mp hb).1;rw[aM] at Z;rw[cC] at e2;have e3:=(ac.mp O).2;rw[<- e3] at e2;have:=(bI hN).mp e2;lia
   unfold zfe;rw[hn,if_neg (by ext),zn O,bR,az]
   simp[hp]) (λ{B} hp I=>by
   show⟨I,rfl,?_⟩;rw[zn O,bR,az];simp[hp])
 simp only[zar,xG] at this;grind;grind
def zqF (bk:AW)(b:Int):AW:=bk.filter λx=>decide (x.b=b)
def ztV{rm:AG}{b:Int}(h:yS rm bk):yS rm (zqF bk b):=λx q=>h x (aN.mp q).1
def zkR{b:Int}{st:AG}:lpE (zqF bk b) b st=lpE bk b st:=by
 unfold lpE lpF zdU zqF;rw[eJ];congr 4;funext x;right
def zeh {st:AG}{b x:Int}(q:0<=b)(B:b<st.length):chg st b x=st.set b.toNat x:=by unfold chg;rw[List.set_eq_take_append_cons_drop,if_pos (by lia)];simp
def zmE {st:AG}{b o x y:Int}(q:0<=b)(B:b<st.length)(o0:0<=o)(F:o<st.length)(h:b≠o):chg (chg st b x) o y=chg (chg st o y) b x:=by
 have I:chg (chg st b x) o y=(st.set b.toNat x).set o.toNat y:=by rw[zeh o0 (by rw[xN q B];exact F),zeh q B]
 have J:chg (chg st o y) b x=(st.set o.toNat y).set b.toNat x:=by rw[zeh q (by rw[xN o0 F];exact B),zeh o0 F]
 rw[I,J];exact List.set_comm _ _ (by lia)
def zgK (bk:AW)(b o:Int)(st:AG):Bool:=decide (lpE bk b st≠lpE bk b (chg st o 0))
def ziZ (rm:AG)(bk:AW)(b o:Int):Bool:=(xn (rm.map zk)).any λst=>decide (yt st b=0)&&zgK bk b o st
def zeM {rm:AG}{bk:AW}{b o:Int}(U:RoomOk rm)(I:yS rm bk)(q:0<=b)(L:b<rm.length)(o0:0<=o)(o1:o<rm.length):(∃st∈xn (rm.map zk),zgK bk b o st=true)↔o≠b/\ziZ rm bk b o=true:=by
 unfold ziZ;constructor;rintro⟨st,Y,Z⟩;have O:=zbv _ _ Y;have J:st.length=rm.length:=O.len;have B:lpE bk b st≠lpE bk b (chg st o 0):=bW Z;have F:o≠b:=λe=>B (by subst e;rw[zg4 I J]);show⟨F,cZ.mpr ⟨chg st b 0,ze5 (zcr O q L (by ext) ?_),?_⟩⟩;have:=yi U.box q L;lia;rw[aQ];show⟨a6 (by rw[yo q (by lia) q,if_pos rfl]),a6 ?_⟩;rw[zmE q (by lia) o0 (by lia) (Ne.symm F),zg4 I J,zg4 I (by rw[xN o0 (by lia)];exact J)];exact B;grind
def uh (rm:AG)(bk:AW)(b o:Nat):Bool:=decide (o≠b)&&ziZ rm bk b o
def ut (rm:AG)(bk:AW):AF:=uL (uh rm bk) rm.length rm.length
def zcM {rm:AG}{bk:AW}{z:AG}(F:RoomOk rm)(I:yS rm bk):z∈ut rm bk↔∃b o:Nat,b<rm.length/\o<rm.length/\(∃st∈xn (rm.map zk),zgK bk b o st=true)/\z=[(b:Int),(o:Int)]:=by
 unfold ut;rw[uM];constructor;rintro⟨b,o,h1,h2,q,B⟩;unfold uh at q;rw[aQ] at q;exact⟨b,o,h1,h2,(zeM F I (by lia) (by lia) (by lia) (by lia)).mpr ⟨by grind,q.2⟩,B⟩;rintro⟨b,o,h1,h2,q,B⟩;obtain⟨J,L⟩:=(zeM F I (by lia) (by lia) (by lia) (by lia)).mp q;show⟨b,o,h1,h2,?_,B⟩;unfold uh;grind
def zcL{rm:AG}{z:AG}(h:z∈ut rm bk):z.length=2:=by obtain⟨b,o,_,_,_,rfl⟩:=uM.mp h;rfl
def zcN (rm:AG)(bk:AW)(b:Nat):∀j,b<j->(zN (uh rm bk) b j).length+1<=j
 | 0,h=>by lia
 | j+1,h=>by
  rw[xm];have h1:=zaz (uh rm bk) b j;split
  ·rename_i e;have q:j≠b:=λz=>by unfold uh at e;simp[z] at e
   have:=zcN rm bk b j (by lia);right
  lia
def zfH (rm:AG)(bk:AW)(n:Nat):∀i,i<=n->(uL (uh rm bk) n i).length+i<=i * n
 | 0,_=>by simp[uL]
 | i+1,h=>by
  have h1:=zfH rm bk n i (by lia);have h2:=zcN rm bk i n (by lia);have e:uL (uh rm bk) n (i+1)=uL (uh rm bk) n i++zN (uh rm bk) i n:=rfl;grind
def zfG {rm:AG}{bk:AW}(q:RoomOk rm):(ut rm bk).length<=56:=by have h1:=zfH rm bk rm.length rm.length (af _);have B:=q.few;unfold ut;have:rm.length * rm.length<=8 * rm.length:=Nat.mul_le_mul_right _ B;lia
def zpO{rm:AG}{l:AF}(q:Up' l)(h:∀z,z∈l↔z∈ut rm bk):l=ut rm bk:=
 zht (m:=2) (λy B=>zcL ((h y).mp B)) q (ze9 _ _ _) h
abbrev lpD (bk:AW) (b:Int) (st:AG):Dt:=.lst ((lpE bk b st).map zQ)
abbrev zvO (rm:AG) (bk:AW) (st:AG):Dt:=.lst ((List.range rm.length).map λb:Nat=>lpD bk (b:Int) st)
def zmy (rm:AG)(bk:AW):List (AG×Dt):=(xn (rm.map zk)).map λst=>(st,zvO rm bk st)
def zan {f:AG->Dt}{st:AG}:∀ {l:AF},st∈l->yZ (l.map λs=>(s,f s)) st=some (f st)
 | a::l,h=>by
  unfold yZ;rw[ax,bt];by_cases e:a=st;subst e;simp
  have h':st∈l:=by
   grind
  have:=zan (f:=f) h';unfold yZ at this;right
def zfk{rm:AG}{st:AG}(h:StOk rm st):yZ (zmy rm bk) st=some (zvO rm bk st):=zan (ze5 h)
def zxD {l:AF}(h:Up' l):l.Nodup:=h.imp λh e=>by subst e;rw[xu] at h;cases h
def zon (rm:AG):(xn (rm.map zk)).Nodup:=zxD (zpf _ λc q=>by obtain⟨m,_,rfl⟩:=aF.mp q;unfold zk;rw[bD];exact List.pairwise_lt_range.imp λh=>by lia)
def zgz {rm:AG}(q:RoomOk rm):(xn (rm.map zk)).length<=65536:=by
 have:=zec q.few q.box rm.length;right
def zoo{f:Nat->Dt}{P:Dt->Prop}(q:k<n)(h:P (f k)):onO (atI ((List.range n).map f) (k:Int)) P:=
 y8 (zjm (by right)) h
def zpz(n:Nat):enW 0 ((List.range n).map f)=(List.range n).map λk:Nat=>W.d (.tup [.int (k:Int),f k]):=by
 rw[zjT f 0 (List.range n),aw];right
def zh1{b:Int}{st:AG}:(lpD bk b st).eqOk:=by change (Dt.lst ((lpE bk b st).map zQ)).eqOk;rw[<- zqg];exact zbF _
def zlD:∀ {l l':List (Int×Int)},l.map zQ=l'.map zQ->l=l'
 | [],[],_=>rfl
 | [],_::_,h=>by cases h
 | _::_,[],h=>by cases h
 | (a,b)::l,(c,d)::l',h=>by rw[ax,ax,List.cons.injEq] at h;have h1:=h.1;unfold zQ at h1;injection h1 with h1;injection h1 with q h1;injection h1 with B;injection q with q;injection B with B;rw[zlD h.2];simp only at q B;rw[q,B]
def zkQ{b:Int}{st q:AG}:lpD bk b st=lpD bk b q↔lpE bk b st=lpE bk b q:=⟨λh=>zlD (Dt.lst.inj h),λh=>by unfold lpD;rw[h]⟩
def zsL{b o:Int}{st:AG}(h:r=true↔lpD bk b st=lpD bk b (chg st o 0)):(!r)=zgK bk b o st:=by
 unfold zgK
 cases r with
 | true=>simp[zkQ.mp (h.mp rfl)]
 | false=>simp;exact λz=>by have:=h.mpr (zkQ.mpr z);cases this
def BkD (bk:AW)(q:Dt):Prop:=q=xp bk\/q = .lst (bk.map zU)
def ztI(h:BkD bk q)(k:P (bk.map zU)):onS (.d q) P:=by rcases h with rfl | rfl <;> exact k
def zgQ {rm:AG}{g:List (Int×Int)}(h:Giv rm g):g.length<=rm.length:=by
 have:=yr (l:=g.map (·.1)) (l':=zk rm.length) (bD.mpr (h.up.imp λh e=>by lia)) λx B=>by obtain⟨q,F,rfl⟩:=aF.mp B;have:=h.ok q F;exact zW.mpr ⟨this.1,this.2.1⟩
 rw[ab,zK] at this;lia
section
variable {X:Cx}{Pn:PN}{M S cM:AR}{fr fr':Bool}{e:Expr}{es:AO}{pos:Pos}{A:AL}{acc:Addr}{H1 H H':Hp}{σc σ:St}{ρc ρ:Ev}{n m:Nat}{ds:AS}
def inR (mg:W->Ev->(Ev->Prop)->Prop)(L:Ev->Mo Bool)(O:AD)(B:Ev)(F:AS)(K:Ev->Nat->AS->Prop):AU->Nat->Prop:=λl U=>∃I:Nat->Ev->Nat->AS->Prop,I 0 B U F/\
 (∀i w ρ n ds,l[i]?=some w->I i ρ n ds->mg w ρ λq=>L q n λb J=>if b=true then O q J λx Y=>∃d,x = .d d/\ds.length<=lim/\I (i+1) q Y (ds++[d]) else I (i+1) q J ds)/\
 ∀ ρ n ds,I l.length ρ n ds->K ρ n ds
def zsv (mg:W->Ev->(Ev->Prop)->Prop)(U:Ev->Mo Bool)(B:AC)(F:W->Ev->(Ev->Prop)->Prop)(J:Ev->Mo Bool)(Y:AD)(L:Ev)(Q:AV):AU->Nat->Prop:=λl Z=>∃I:Nat->Ev->Nat->AS->Prop,I 0 L Z []/\
 (∀i w ρ n ds,l[i]?=some w->I i ρ n ds->mg w ρ λq=>U q n λb O=>if b=true then B q O (inR F J Y q ds (I (i+1))) else I (i+1) q O ds)/\
 ∀ ρ n ds,I l.length ρ n ds->Q (.d (.lst ds)) n
abbrev mComp2 (I:AC) (mg:W->Ev->(Ev->Prop)->Prop) (J:Ev->Mo Bool) (q:AC) (B:W->Ev->(Ev->Prop)->Prop) (F:Ev->Mo Bool) (L:AD) (cix:List (Option Nat)):AD:=λρ n Q=>I ρ n (zsv mg J q B F L (zbx ρ cix) Q)
end
end L3
namespace L2
open PyProof.Rows PySem.W PySem.Calls
section
variable {X:Cx}{pins:AB}{σ:St}{H:Hp}{s:AZ}{a:Addr}
def Inv.frzK(I:Inv X pins σ H s)(h:H a=some (.dK kvs)):∃ob,Inv X pins σ (upd H a (.frz ob (.dK kvs))) s:=by have k:=(show yn X.prog X.w H s.heap a (.dK kvs) from I.hok a _ h);obtain⟨z,lo,vs,r,o,es,q,h1,h2,B,F⟩:=id k;exact⟨o,I.write (x:=a) (e:=a) (h':=s.heap) (t':=s.toks) (by rw[h];trivial) (.inl rfl) (λ_ _ _ e=>e) ⟨o,h1⟩ ⟨h1,z,lo,vs,r,o,es,q,h1,h2,B,F⟩⟩
def zxw (te:TE):TE:=λσ H Q=>te σ H λx H1=>∃a ks,x = .ref a/\H1 a=some (.dK ks)/\∀ob,Q x (upd H1 a (.frz ob (.dK ks)))
def zrc(h:QE X e te):QE X e (zxw te):=⟨by
 intro pins s σ H Q I q;show thn (h.run pins s σ H _ I q) ?_;rintro v L ⟨x,H1,I1,B,a,ks,rfl,F,J⟩;obtain⟨ob,I2⟩:=I1.frzK F;exact⟨_,_,I2,B,J ob⟩⟩
end
def Itk (d:Addr)(ob:Obj)(ks:List (Key×V))(ns:AG):It:=
 ⟨λi H=>H d=some (.frz ob (.dK ks))/\i<ns.length,λi H x H'=>H'=H/\∃q,ns[i]?=some q/\x = .int q,λi H=>H d=some (.frz ob (.dK ks))/\i=ns.length⟩
def zi6 {P:Aa}{w:Ab}{K:AH}{tg:Expr}{ob:Obj}{ks:List (Key×V)}{ns:AG}{es:Array DictEntry}{J:Nat}(d q:Addr)(hx:ob.ExactDict)(hd:ob.data = .dict es J)(O:z9 (ns.map V.int) (es.toList.map (·.key))) :
  Turn P w K tg (Itk d ob ks ns) [q] q (λi h=>h.IsKeyIter q d i es.size J) where
 mem:=by simp
 obj:=λi h st b B=>by
  have e:b=q:=by simpa using B
  subst e;obtain⟨o,e,c,d⟩:=st;right
 keep:=λi h h' ⟨o,e,r⟩ k=>⟨o,k q (by simp) o e,r⟩
 item:=by
  rintro X U Y Z hc i pins s σ H E I L st ⟨hg,hi⟩;subst U Y Z;obtain⟨f0,f1,f2,f3,f4,f5⟩:=L q (by simp);have hm:uq s.heap d es J:=⟨ob,(I.hok d _ hg).1,hx,hd⟩;have hl:ns.length=es.toList.length:=by have:=O.length;rwa[ab,ab] at this
  have e1:es[i]?=some es.toList[i]:=by rw[zb7,ah]
  have e2:yG (.int ns[i]) es.toList[i].key:=by
   obtain⟨u,h1,h2⟩:=O.get (i:=i) (x:=.int ns[i]) (by simp);rw[aq,ah (by lia)] at h1;right
  show zbH st hm e1 λh' F sb=>?_;have I1:Inv X pins σ H { s with heap:=h' }:=I.turned (t':=s.toks) (λb o B e=>(sb.2 b B).trans e) f0 f1 f3 f4 f5;obtain⟨o,e,c,d⟩:=id F;exact⟨_,rfl,zj8 (s:={ s with heap:=h' }) e c d (by ext) ⟨.int ns[i],H,I1,e2,⟨rfl,_,ah hi,rfl⟩,F,λb B=>(L b B).1⟩⟩
 done:=by
  rintro X U Y Z hc i pins s σ H E I L st ⟨hg,hi⟩;subst U Y Z;obtain⟨f0,f1,f2,f3,f4,f5⟩:=L q (by simp);have hm:uq s.heap d es J:=⟨ob,(I.hok d _ hg).1,hx,hd⟩;have hl:es.size=ns.length:=by have:=O.length;rw[ab,ab,aY] at this;exact this.symm
  subst hi;rw[<- hl] at st;exact zcX (I.ok.hd hc) st hm λh' eb=>⟨rfl,I.turned (t':=s.toks) (λb o B e=>eb b o B e) f0 f1 f3 f4 f5⟩
 self:=λ_ _ _ _ _ st h=>dO st h
def zsV (te:TE):TI:=λσ H R=>te σ H λx H1=>∃a ob ks ns,x = .ref a/\H1 a=some (.frz ob (.dK ks))/\ks.map (·.1)=ns.map Sum.inl/\R (Itk a ob ks ns) H1
def znS(h:QE X e te):QI X tg e (zsV te):=⟨by
 intro pins s σ H R I q;show thn (h.run pins s σ H _ I q) ?_;rintro v B ⟨x,H1,I1,U,a,ob,ks,ns,rfl,F,Y,Z⟩;cases U;obtain⟨lo,es,ep,⟨o,J,L,O⟩,hv,_⟩:=zjQ I1 (.inr ⟨ob,F⟩) Y;have:o=ob:=by have:=(I1.hok a _ F).1;rw[J] at this;exact bz this
 subst this;show zcR lo ⟨o,J,L,O⟩ ?_;show⟨B.heap.objs.size,[B.heap.objs.size],_,_,H1,rfl,I1.kept (t':=B.toks) λb o e=>ai _ e,zi6 a _ L O hv,⟨_,aB _ rfl,rfl,rfl⟩,λb hb=>?_,Z⟩;have e:b=B.heap.objs.size:=by simpa using hb
 subst e;exact I1.fpOk (af _) (I1.hok.fresh (af _))⟩
end L2
namespace L3
open L2
def zlz(h:xQ Pn A n H)(q:H p=some (.dK ks))(B:zaI ks (Sum.inr "at" : Key)=none):xQ Pn A n (L2.upd H p o):=by
 show⟨?_,Pn.J.frz h.2 q (λk z=>by cases z;exact B) rfl⟩;have h:=h.1;split at h;trivial;show⟨?_,h.2⟩;obtain⟨h1,_⟩:=h;obtain⟨a,l,I,g2⟩:=h1.ob;have F:∀ {c d:Addr},H c=some (.dK (zbm d a l))->c≠p:=λ{c d} g z=>by rw[z,q] at g;have g:=HO.dK.inj (bz g);rw[g,znE] at B;cases B
 exact⟨⟨a,l,by rw[zf (F I)];exact I,g2⟩,let ⟨ob,e⟩:=h1.ls;⟨ob,by rw[zf λz=>by rw[z,q] at e;cases e];exact e⟩,h1.len⟩
abbrev onY (w:W) (P:List (Key×Dt)->Prop):Prop:=match w with | .kf i=>P i | _=>False
def zlp:onY w P = ∃i,w = .kf i/\P i:=propext ⟨λh=>by cases w <;> first | exact False.elim h | exact⟨_,rfl,h⟩,by right⟩
section
variable {X:Cx}{Pn:PN}{M S:AR}{fr fr':Bool}{pos p:Pos}{e a b c:Expr}{f fa fb fc:AD}
abbrev zsz (f:AD):AD:=λρ n Q=>f ρ n λx m=>onK x λkvs=>Q (.kf kvs) m
def zwy (h:∃te,QE X e te/\RE Pn M true te f):JE X Pn M false e (zsz f):=by
 obtain⟨te,q,r⟩:=h;show⟨_,zrc q,⟨λA σ H ρ n Q R E P U k=>?_⟩⟩;show r.run A σ H ρ n _ _ E P U λw m v H' F hv g Y=>?_;rw[zib] at F;obtain⟨kvs,rfl,F⟩:=F;obtain⟨L,Z,B,ag,ks,e2,h1,h2,h3⟩:=Y rfl;subst Z;cases e2;have nA:=E.newF B;show⟨L,ks,rfl,h1,λob=>k _ m _ _ F ⟨L,ob,ks,rfl,zv nA zj,h2.stay λb o I J=>?_⟩ ⟨λb o I J=>?_,?_⟩ λz=>by cases z⟩;obtain⟨O,z2⟩:=zE.mp I;exact zv (λy=>O (.inl y)) (by rw[zf λy=>O (.inr y)];exact z2);rw[zf λy=>by subst y;exact B o I J];exact g.st b o I J;exact zlz g.pn h1 h3
def zs4 (h:JE X Pn M true e f):JE X Pn M false e (zsz f):=zwy h.ex
def zs1{ns:AG}(h:zM A H B=some (.frz ob (.dK ks))):ItV false A H (Itk B ob ks ns) (ns.map λi=>W.d (.int i)) where
 one:=λi w A2 H2 e s _ _=>by rw[aq] at e;obtain⟨q,h1,rfl⟩:=aC.mp e;show⟨⟨zp _ _ (s _ _ h λk z=>by cases z),(ac.mp h1).1⟩,?_⟩;rintro y H3 ⟨rfl,F,h2,rfl⟩;rw[h1] at h2;cases h2;exact⟨λ_ _ z=>z,Val.of rfl⟩
 stop:=λA2 H2 s _=>⟨zp _ _ (s _ _ h λk z=>by cases z),by simp⟩
abbrev dItK (fa:AD):AC:=λρ n Q=>fa ρ n λx m=>onY x λkvs=>∃ns:AG,kvs.map (·.1)=ns.map Sum.inl/\Q (ns.map λi=>W.d (.int i)) m
def zwF(h:JE X Pn M fr e f):JI X Pn M false tg e (dItK f):=by obtain⟨te,q,r⟩:=h.ex;show⟨_,znS q,⟨λA σ H ρ n Q R E P I k=>?_⟩⟩;show r.run A σ H ρ n _ _ E P I λw m v H1 F J g _=>?_;rw[zlp] at F;obtain⟨kvs,rfl,ns,L,F⟩:=F;obtain⟨O,ob,ks,rfl,B,U⟩:=J;exact⟨O,ob,ks,ns,rfl,zp _ _ B,U.keys.trans L,k _ m _ H1 F (zs1 B) g⟩
def zoq(h:Bor A H (.kf kvs) v):∃q ks,v = .ref q/\Rd H q (.dK ks)/\uw (zM A H) kvs ks:=by obtain⟨q,ob,ks,e,h1,h2⟩:=h;exact⟨q,ks,e,.inr ⟨ob,h1⟩,h2⟩
abbrev zv5 (fd fk:AD):AD:=λρ n Q=>fd ρ n λx q=>fk ρ q λy B=>onY x λkvs=>onI y λi=>onO (yZ kvs (Sum.inl i)) λd=>Q (.d d) B
def zky (I:X.A.units+1<cLine)(J:JB X Pn M a fa)(L:JB X Pn M b fb)(O:zpd b):JE X Pn M false (.Subscript a b pos) (zv5 fa fb):=by obtain⟨ta,U,Y⟩:=J.ex;obtain⟨tb,Z,rb⟩:=L.ex;show⟨_,xO I U Z O,⟨λA σ H ρ n Q R E P hf k=>?_⟩⟩;show Y.run A σ H ρ n _ _ E P hf λw1 m1 v1 H1 r1 b1 B=>?_;show rb.run A σ H1 ρ m1 _ _ (E.stay B.st) B.pn r1 λw2 m2 v2 H2 q b2 g2=>?_;rw[zlp] at q;obtain⟨kvs,rfl,q⟩:=q;rw[xH] at q;obtain⟨i,rfl,q⟩:=q;rw[zaM] at q;obtain⟨d,e3,r⟩:=q;obtain⟨ad,ks,rfl,F,hk⟩:=zoq (b1.stay g2.st);have ev:v2 = .int i:=yJ b2;subst ev;obtain⟨v,h1,h2⟩:=(hk.look (k:=Sum.inl i)).2 d e3;show⟨ad,v,rfl,?_,k _ m2 _ H2 r (Val.of h2) (B.trans g2) λz=>by cases z⟩;exact .inl ⟨ks,Sum.inl i,F,rfl,h1.symm⟩
abbrev zox:AU->Mo W:=λq n Q=>on1 q λx=>onY x λkvs=>∃ns:AG,kvs.map (·.1)=ns.map Sum.inl/\Q (.d (.lst (ns.map .int))) n
def zr3:FL Pn true zlM zox:=⟨λA H xs O n Q R B b P h k=>by simp only[zox,uE,zlp] at h;obtain⟨x,rfl,kvs,rfl,ns,F,h⟩:=h;obtain⟨v,rfl,I⟩:=zaY b;obtain⟨a,ks,rfl,J,L⟩:=zoq I;exact⟨a,ks,ns,rfl,J,L.keys.trans F,λp H' q g S=>k _ n _ H' h (xP (H:=H) IsL.ints (zu.same S) (B.new q) g) (Go.same P S) λz=>x4 (H:=H) IsL.ints S q g⟩⟩
abbrev zwi (f:AD) (i:Nat):Ms:=λρ n k=>f ρ n λw m=>onD w λd=>onV ρ i λx=>onL x λl=>k.rt (.d (.tup [d,.lst l])) m
def zp5 (i:Nat){x:Str}{x1}{q:Pos}(he:JE X Pn M fr' e f)(hi:i∈M:=by ext)(hN:X.N[i]?=some x:=by rfl)(hv:Vis X.env.scope x:=by walk_at "v")(hd:Ah x:=by ext)
  (U:(x==("__classdict__" : Str))=false:=by ext) {pos':Pos} (h1:starEach [e,.Name x p] X.env=(false,eval e X.env)::starEach [.Name x p] X.env:=by rfl) (h2:starEach [.Name x p] X.env=(false,eval (.Name x p) X.env)::starEach [] X.env:=by rfl) :
  JS X Pn S M false (.Return (some (.Tuple [e,.Name x p] x1 q)) pos') (zwi f i):=by
 obtain⟨te,qe,re⟩:=he.ex;show⟨_,zbo (zeQ (zD qe (zD (qv i hN hv hd U) yc h2) h1)),⟨λB A σ H ρ n k D a kk hf=>?_⟩⟩;show re.run A σ H ρ n _ _ a.env a.pn hf λw m v H' r hV g _=>?_;have I:=a.step g;rw[xG] at r;obtain⟨d,rfl,r⟩:=r;rw[uk] at r;obtain⟨w2,Y,r⟩:=r;rw[xj] at r;obtain⟨l,rfl,r⟩:=r;obtain⟨v2,Z,_,s3⟩:=I.env.val i _ Y;obtain⟨J,rfl,hA,hb,_⟩:=s3 hi;have L:=I.mine i _ J hi Y Z
 have hn:¬ B.A0 J:=λz=>by
  rcases L with L | L;obtain⟨o,o1,o2,_⟩:=I.frm.al J z;exact L o o1 o2;exact I.frm.cn J L z
 obtain⟨a2,xs,e3,g1,g2⟩:=hb;cases e3;show⟨.ref J,Z,?_⟩;show⟨zcU (show 2<=lim by ext),λp H2 np gp S=>?_⟩;have F:=I.step (Go.same I.pn S);have O:y4 (zM A H2) (zM B.A0 H2):=yK F.frm.sub;have up:zu (zM A H') (zM B.A0 H2):=(zH (zu.same S)).trans (zu.same O);exact kk.rt (.d (.tup [d,.lst l])) m _ H2 (Val.of ⟨p,_,rfl,zv (λz=>I.env.new np (I.frm.sub p z)) gp,_,_,rfl,hV.is.stay up,_,_,rfl,⟨J,xs,rfl,zv hn (S _ _ g1),g2.stay up⟩,rfl⟩) F.frm.st (F.pn.less F.frm.sub) (λz=>by cases z) r
end
end L3
namespace L2
open PyProof.Rows PySem.SeqAt
section
variable {prog:Aa}{w:Ab}{t:SetTable}{es:Array (Int×Value)}{xs:List (List Key×Addr)}{A:Ae}{E:AA}{s:AZ}
variable {X:Cx}
end
end L2
namespace L3
open L2
section
variable {X:Cx}{Pn:PN}{M S:AR}{fr fr':Bool}{pos p:Pos}{e o a b c:Expr}{es:AO}{f fo fa fc:AD}
abbrev dAug (F:Int->Int->Int) (i:Nat) (f:AD):Ms:=λρ n k=>onV ρ i λx=>onI x λa=>f ρ n λy m=>onI y λb=>onP ρ i (.d (.int (F a b))) λq=>k.nx q m
abbrev dAugT (F:Int->Int->Int) (i:Nat) (fk f:AD):Ms:=λρ n k=>onV ρ i λx=>onE x λkvs=>fk ρ n λy m=>∃st,y = .d (stD st)/\∃a,yZ kvs st=some (.int a)/\f ρ m λw B=>onI w λb=>kvs.length<lim/\onP ρ i (.dt (zfe kvs st (.int (F a b)))) λq=>k.nx q B
abbrev dSetL (P:Aa) (w:Ab):AU->Mo W:=λq n Q=>on1 q λx=>∃sts:AF,x = .d (.lst (sts.map stD))/\(∀ks:AF,ks.Nodup->(∀z∈ks,z∈sts)->ks.length<300)/\∀ks:AF,ks.Nodup->(∀st,st∈ks↔st∈sts)->Q (.ss P w ks) n
abbrev dInS (P:Aa) (w:Ab):W->W->Mo W:=λx y n Q=>∃ (st:AG) (ks:AF),x = .d (stD st)/\y = .ss P w ks/\∀c:Bool,(c=true↔st∈ks)->Q (.d (.bl c)) n
abbrev dItEF (fa:AC):AC:=λρ n Q=>fa ρ n λq m=>on1 q λx=>onZ x λkvs=>(kvs.map (·.1)).Nodup->Q (enW 0 ((kvs.map (·.1)).map stD)) m
abbrev zv8 (fo f:AD):AD:=λρ n Q=>fo ρ n λx q=>onL x λl=>f ρ q λy B=>onD y λd=>d.eqOk/\(Dt.lst l).eqOk/\d∈l/\∀j:Nat,l[j]?=some d->(∀i,i<j->l[i]?≠some d)->Q (.d (.int j)) B
abbrev snN:AU->(AU->Prop)->Prop
 | [],P=>P [.d .non]
 | a::r,P=>snN r λq=>P (a::q)
abbrev dFnD (k:Nat) (F:AU->Mo W) (fs:AC):AD:=λρ n Q=>fs ρ n λB m=>snN B λq=>zdy k q (F q m Q)
end
end L3
namespace L2
open PyProof.Rows
section
variable {X:Cx}{pins:AB}{σ:St}{H G G':Hp}{s:AZ}{d l:Addr}{ob:Obj}{kvs:List (List Key×V)}
def Inv.frzL(I:Inv X pins σ H s)(h:H l=some (.lst xs)):∃ob,Inv X pins σ (upd H l (.frz ob (.lst xs))) s:=by obtain⟨z,its,n,r,e⟩:=(show yn X.prog X.w H s.heap l (.lst xs) from I.hok l _ h);exact⟨_,I.write (x:=l) (e:=l) (h':=s.heap) (t':=s.toks) (by rw[h];trivial) (.inl rfl) (λ_ _ _ e=>e) ⟨_,e⟩ ⟨e,z,its,n,r,e⟩⟩
variable {e:Expr}{te:TE}
def zxx (te:TE):TE:=λσ H Q=>te σ H λx H1=>∃l xs,x = .ref l/\H1 l=some (.lst xs)/\∀ob,Q x (upd H1 l (.frz ob (.lst xs)))
def zqN (h:PE X e te):PE X e (zxx te):=λpins s σ H Q I q=>thn (h pins s σ H _ I q) λu F ⟨x,H1,I1,r,l,xs,ex,h1,B⟩=>by obtain⟨ob,I2⟩:=I1.frzL h1;exact⟨x,_,I2,r,B ob⟩
end
end L2
namespace L3
open L2
def Sm (G G':Hp):Prop:=∀b o,G b=some o->imm o=true\/¬ NP o->G' b=some o
section
variable {K:AH}{P:Aa}{w:Ab}{C:Addr}{H:Hp}{Q:VK}{E:XK}{D:Ends}
end
end L3
namespace L2
open PyProof.Rows PySem.SeqAt
section
variable {X:Cx}
end
end L2
namespace L3
open L2
abbrev W.isD:W->Bool
 | .d _=>true
 | _=>false
section
variable {X:Cx}{Pn:PN}{M:AR}{fr:Bool}{e:Expr}{f:AD}
abbrev onFl (w:W) (P:AS->Prop):Prop:=match w with | .fl i=>P i | _=>False
abbrev dInF (q:Bool):W->W->Mo W:=λx y n Q=>onD x λd=>onFl y λds=>d.eqOk/\(Dt.lst ds).eqOk/\∀b:Bool,(b=true↔d∈ds)->Q (.d (.bl (xr q b))) n
variable {s:Stmt}{C fI fA:Addr}{dI dA:Ac}
end
end L3
namespace L2
open PyProof.Rows PySem.SeqAt
def okT:Nat->Dt->Bool
 | _,.non=>true
 | _,.int _=>true
 | _,.bl _=>true
 | _,.str x=>PyData.strOk x
 | n+1,.tup l=>l.all (okT n)
 | n+1,.lst l=>l.all (okT n)
 | _,_=>false
abbrev Dt.py (d:Dt):PyData:=PySem.W.kqdP d.toW
section
variable {P:Aa}{w:Ab}{H:Hp}{h:Heap}
variable {X:Cx}
end
end L2
namespace L3
open L2
section
variable {X:Cx}{Pn:PN}{M:AR}{e:Expr}{f:AD}{pos p:Pos}
abbrev dNeT:W->W->Mo W:=λx y n Q=>onD x λd=>onD y λe=>d=e/\okT 8 d=true/\Q (.d (.bl false)) n
abbrev dNiT:W->W->Mo W:=λx y n Q=>onD x λd=>onL y λds=>okT 8 d=true/\(Dt.lst ds).eqOk/\∀b:Bool,(d∈ds->b=true)->(b=true->∃e∈ds,PyData.eqv e.py d.py=true)->Q (.d (.bl (!b))) n
abbrev zvu (f:AD):AD:=λρ n Q=>f ρ n λx q=>onL x λl=>∃sts:AF,l=sts.map stD/\(∀ks:AF,ks.Nodup->(∀z∈ks,z∈sts)->ks.length<300)/\∀ks:AF,ks.Nodup->(∀st,st∈ks↔st∈sts)->Q (.d (.int (ks.length:Nat))) q
end
end L3
namespace L2
open PyProof.Rows
section
variable {X:Cx}
end
end L2
namespace L3
open L2
section
variable {Pn:PN}
abbrev dMaxT:AU->Mo W:=λq n Q=>on1 q λx=>∃ns:AG,x = .d (stD ns)/\ns≠[]/\∀m,m∈ns->(∀x∈ns,x<=m)->Q (.d (.int m)) n
end
end L3
namespace L2
open PyProof.Rows
end L2
namespace L3
open L2
structure ItV0 (J:It)(l:AU):Prop where
 one:∀i w (A2:AL) H2,l[i]?=some w->J.go i H2/\∀x H3,J.yld i H2 x H3->y4 H2 H3/\Val A2 H3 w x
 stop:∀H2,J.stop l.length H2
def zm5{lo:Int}:ItV0 (Itr lo n) (zff lo n) where
 one:=λi w A2 H2 e=>by unfold zff at e;rw[aq] at e;obtain⟨j,h1,rfl⟩:=aC.mp e;obtain⟨hi,h2⟩:=ac.mp h1;rw[bF] at h2;subst h2;rw[aw] at hi;show⟨hi,?_⟩;rintro y H3 ⟨q,B⟩;subst q B;exact⟨λ_ _ z=>z,Val.of rfl⟩
 stop:=λH2=>by
  change n<=(zff lo n).length;unfold zff;right
section
variable {X:Cx}{Pn:PN}{M S:AR}{fr:Bool}{a:Expr}{pos p:Pos}
def zrE(hi:RAB Pn M ta fs)(hg:RG (S++M) M g mg)(hb:RS Pn S M fr tb fb):RS Pn S M fr (zvP (λσ H R=>ta σ H λvs H1=>∃j:Int,vs=[.int j]/\-(2 ^ 62)<=j/\j<2 ^ 62/\R (Itr 0 j.toNat) H1) g tb) (zvB (zvC fs) mg fb):=⟨λB A σ H ρ n k D a kk hf=>by
 show hi.run A σ H ρ n _ _ a.env a.pn hf  ?_;rintro ws m vs H1 ⟨j,e,j1,j2,I,i0,it,ie⟩ hv g1;subst e;obtain⟨v,rfl,bb⟩:=zaY hv;obtain rfl:v = .int j:=yJ bb;have iv:=zm5 (lo:=0) (n:=j.toNat);generalize zff 0 j.toNat=l at *;have a1:=a.step g1;show⟨j,rfl,by lia,by lia,?_⟩;show⟨λi mm L H'=>mm=l.length - i/\i<=l.length/\∃A' q J,At3 Pn B S M A' L H' q J/\I i q J,⟨l.length,by simp,aG _,A,ρ,m,a1,i0⟩,?_⟩;rintro i mm L H' ⟨rfl,an,A',q,J,a',hI⟩;by_cases Y:i<l.length
 show Or.inr ?_;have O:l[i]?=some l[i]:=ah Y;obtain⟨go,yl⟩:=iv.one i l[i] A' H' O;show⟨go,λZ H2=>∃A' q J,At3 Pn B S M A' Z H2 q J/\I (i+1) q J,λZ H2 h=>⟨l.length - (i+1),by lia,rfl,Y,h⟩,λx H2 hy=>?_⟩;obtain⟨S2,V2⟩:=yl x H2 hy;have a2:=a'.step (Go.same a'.pn S2);show hg.run A' L H2 q x l[i] _ _ a2.env V2 (it i l[i] q J O hI) λad ag r3 E3 f3=>?_;show hb.run B A' ad H2 ag J _ _ (EnvR.mineG a2 E3 f3) ⟨?_,?_,?_,kk.fc,?_⟩ r3
 exact λA4 U H4 F n4 a4 r4=>⟨A4,F,n4,a4,r4⟩;exact λA4 U H4 F n4 a4 r4=>kk.nx A4 U H4 F n4 a4 r4;exact λA4 U H4 F n4 a4 r4=>⟨A4,F,n4,a4,r4⟩;exact kk.rt;show Or.inl ?_;have al:i=l.length:=by lia
 subst al;exact⟨iv.stop H',kk.nx A' L H' q J a' (ie q J hI)⟩⟩
def W.nl:W->Prop
 | .d x=>x.noL=true
 | .pen _=>True
 | _=>False
def Fg:Ev->Ev->Prop
 | [],q=>q=[]
 | o::ρ,q=>∃o' r,q=o'::r/\(o'=none\/(o'=o/\∀w,o=some w->w.nl))/\Fg ρ r
def Fg.len:∀ {ρ q:Ev},Fg ρ q->q.length=ρ.length
 | [],_,h=>by cases h;rfl
 | _::_,_,⟨_,_,e,_,h⟩=>by subst e;rw[aV,aV,h.len]
def Fg.get:∀ {ρ q:Ev} {j:Nat} {w:W},Fg ρ q->q[j]?=some (some w)->ρ[j]?=some (some w)/\w.nl
 | [],_,_,_,h,e=>by cases h;simp at e
 | o::ρ,_,0,w,⟨o',r,B,h1,h⟩,e=>by
  subst B;have e:o'=some w:=by simpa using e
  subst e;rcases h1 with h1 | ⟨rfl,h1⟩;cases h1;exact⟨rfl,h1 w rfl⟩
 | o::ρ,_,j+1,w,⟨o',r,B,h1,h⟩,e=>by subst B;have:=Fg.get (ρ:=ρ) h (show r[j]?=some (some w) by simpa using e);simpa using this
def ztz {w:W}(h:w.nl):w.mut=false:=by
 cases w with
 | d x=>cases x <;> first | rfl | cases h
 | pen p=>rfl
 | _=>cases h
abbrev mInClr (i:Nat):Ms:=λρ n k=>∃F l st q,ρ[i]?=some (some (.d (.tup [F,.lst l])))/\F.noL=true/\stD st∈l/\Fg ρ q/\onP q i (.d (.tup [F,.lst []])) λB=>k.nx B n
def zsZ(h:H q=some (.lst ys))(B:x.noL=true)(hi:Is (zM A H) x v):Is (zM A (upd H q o)) x v:=by have h1:=zhV (A:=λb=>b=q) (H:=zM A H) (λa xs e z=>by subst e;rw[zp _ _ z] at h;cases h) B hi;show h1.stay (zu.same λb u e=>?_);obtain⟨F,I⟩:=zE.mp e;obtain⟨J,L⟩:=zE.mp I;exact zv J (by rw[zf F];exact L)
def zkD {tg:Expr}{fs:AC}{body:List Stmt}{mg:W->Ev->(Ev->Prop)->Prop}{fb:Ms}(I:PassesOwn (model X.prog X.w) X.A X.env X.xe)(J:X.calm=true)(B:Gl X "range")(L:X.mg "range" = none)(O:JAB X Pn M [a] fs)(U:JG X (S++M) M tg mg)(Y:JSs X Pn S M fr body fb)(F:starEach [a] X.env=[(false,eval a X.env)]:=by rfl)(Z:∀x,foldedSetIterable (.Call (.Name "range" p) [a] [] pos) X.env x=pure x:=by intro _;rfl){q:Pos} :
  JS X Pn S M fr (.For tg (.Call (.Name "range" p) [a] [] pos) body [] q) (zvB (zwb fs) mg fb):=by
 rw[<- yA];obtain⟨ti,qi,ri⟩:=O.ex;obtain⟨ad,qg,rg⟩:=U.ex;obtain⟨tb,qb,rb⟩:=Y.ex;exact⟨_,zlJ I J (zge B L qi F) qg qb Z,zrE ri rg rb⟩
end
end L3
namespace L2
open PyProof.Rows PySem.W PySem.SeqAt
section
variable {X:Cx}
def zrt:V->AT->Hp->VK->Prop:=λx vs H Q=>∃ (l:Addr) (ns:AG) (k:Int),x = .ref l/\vs=[.int k]/\H l=some (.lst (ns.map V.int))/\k∈ns/\Q .non (upd H l (.lst ((ns.eraseIdx (ns.idxOf k)).map V.int)))
def zd7:∀ {xs:AT} {its:AN} (j:Nat),z9 xs its->z9 (xs.eraseIdx j) (its.eraseIdx j)
 | _,_,_,.nil=>.nil
 | _,_,0,.cons _ r=>r
 | _,_,j+1,.cons h r=>.cons h (zd7 j r)
def zoE {α q:Type}(f:α->q):∀ (l:List α) (j:Nat),(l.eraseIdx j).map f=(l.map f).eraseIdx j
 | [],_=>rfl
 | _::_,0=>rfl
 | a::l,j+1=>by rw[di,ax,ax,di,zoE f l j]
def zsP (k:Int):∀l:AG,l.eraseIdx (l.idxOf k)=l.erase k
 | []=>rfl
 | a::l=>by
  by_cases h:a=k;subst h;simp;have h1:(a==k)=false:=by simpa using h
  rw[List.idxOf_cons,h1,List.erase_cons,h1];simp[zsP k l]
def zk9:MtM X "list.remove" zrt:=by
 intro pins s σ H x vs v us Q I U Y h;obtain⟨l,ns,k,rfl,rfl,L,Z,q⟩:=h;cases U;obtain⟨u,rfl,ru⟩:=Y.one;obtain⟨t,rfl⟩:=ru;obtain⟨z,its,n,r,hl,e⟩:=I.lstM L;have hi:=za5 r;have O:=hi.length;have hj:ns.idxOf k<ns.length:=da.mpr Z;have z0:=z;rw[ab,br] at z
 show c9 F.slot_list_remove ⟨_,e,rfl⟩ F.entry_list_remove (F.args_list_remove_2 _ _)
  (PySem.MeetsSeq.list_remove l its.toArray n (.int k t) (isInt k) (λy hy=>eq_isInt k t hi y (by simpa using hy)) (ns.idxOf k) (by right) ?_ ?_ (by rw[aS,br];lia)) ⟨e,?_⟩
 change isInt k its[ns.idxOf k]=true;rw[isInt_at k hi _ (by lia) hj];right;intro j B J;change isInt k its[j]=false;rw[isInt_at k hi j (by simpa using B) (by lia)];exact ne_of_lt_idxOf J _;show⟨.non,_,I.lset (its':=its.eraseIdx (ns.idxOf k)) L e ?_ (by rw[zoE];exact zd7 _ r) ?_,rfl,q⟩;rw[Array.eraseIdxIfInBounds_eq,dif_pos (by simp;lia)];simp;have:=List.length_eraseIdx_le ns (ns.idxOf k);rw[ab,br];lia
end
end L2
namespace L3
open L2
section
variable {X:Cx}{Pn:PN}{M S:AR}{fr fr':Bool}{e:Expr}{f:AD}{pos:Pos}
abbrev W.pl:W->W
 | .ad _ x=>.d x
 | w=>w
def zsm(h:Val A H (.ad a x) v):Val A H (.d x) v:=Val.of (Is.stay (zu.same zf7) h.2)
abbrev zty (i:Nat):AD:=λρ n Q=>onV ρ i λw=>Q w.pl n
def u7 (i:Nat){x:Str}(hi:i∉M:=by ext)(F:X.N[i]?=some x:=by rfl)(I:Vis X.env.scope x:=by walk_at "v")(J:Ah x:=by ext)
  (q:(x==("__classdict__" : Str))=false:=by ext):JE X Pn M false (.Name x pos) (zty i):=⟨_,qv i F I J q,⟨λA σ H ρ n Q R E P B k=>by
 unfold zty at B;rw[uk] at B;obtain⟨w,e,r⟩:=B;obtain⟨v,h1,h2,_⟩:=E.val i w e;show⟨v,h1,k w.pl n v H r ?_ (Go.refl P) λz=>by cases z⟩
 cases w with
 | ad a x=>exact zsm (h2 hi)
 | _=>exact h2 hi⟩⟩
abbrev ztu (i:Nat) (f:AD):Ms:=λρ n k=>f ρ n λw m=>match w with
 | .d (.lst l)=>Dt.noLs l=true/\∀a,onP ρ i (.ad a (.lst l)) λq=>k.nx q m
 | w=>onP ρ i w λq=>k.nx q m
def zpU(B:x.noL=true)(h:Is (zM A H) x v):Is (zdz a (zM A H)) x v:=
 zhV (λb xs z e=>by obtain⟨_,ys,q⟩:=z;rw[e] at q;cases q) B h
def zhS(B:Dt.noLs l=true)(h:IsL (zM A H) l vs):IsL (zdz a (zM A H)) l vs:=
 uP (λb xs z e=>by obtain⟨_,ys,q⟩:=z;rw[e] at q;cases q) B h
def zlr(h:zM A H a=some o):zdz a (zM A H) a=some o:=zv (λz=>z.1 rfl) h
def znu(h:zM A H b=some (.tup xs)):zdz a (zM A H) b=some (.tup xs):=zv (λz=>by obtain⟨_,ys,q⟩:=z;rw[h] at q;cases q) h
def zrH(h:RE Pn M fr' te f)(F:i∉M)(I:i∉S++M):RS Pn S M fr (zfg te (uA i)) (ztu i f):=⟨λB A σ H ρ n k D a kk hf=>by
 show h.run A σ H ρ n _ _ a.env a.pn hf λw m v H' r J g' _=>?_;have a':=a.step g';have L:∀w',Val A H' w' v->(onP ρ i w' λq=>k.nx q m)->uA i v σ H' λO H2=>D.nx O H2:=λw' U r'=>by rw[ud] at r';exact (zc9 (S:=S++M) (M:=M) F I).run A σ H' ρ v w' _ (λq=>k.nx q m) a'.env U r' λY Z r2 E2 f2=>kk.nx A Y H' Z m (EnvR.mineG a' E2 f2) r2
 cases w with
 | d x=>
  cases x with
  | lst l=>
   obtain⟨hl,r⟩:=r;obtain⟨ad,xs,rfl,ag,hi⟩:=J;exact L (.ad ad (.lst l)) ⟨⟨_,rfl⟩,ad,xs,rfl,zlr ag,zhS hl hi⟩ (r ad)
  | _=>exact L _ J r
 | _=>exact L _ J r⟩
def zkE {i:Nat}{x:Str}{pos':Pos}(I:X.N.Nodup)(J:JE X Pn M fr' e f)(hi:X.N[i]?=some x:=by rfl)(L:Loc X.env.scope x:=by first | exact Or.inl rfl | exact Or.inr rfl)(B:i∉M:=by ext)(F:i∉S++M:=by ext)(O:swapsWith e (some (.Name x pos')) pos.line X.env=pure false:=by rfl)(U:X.fn x=true\/X.env.scope.names.lookup x=some .local:=by walk_at "l") :
  JS X Pn S M fr (.Assign [.Name x pos'] e pos) (ztu i f):=let ⟨te,q,r⟩:=J.ex;⟨_,xR I hi L q O U,zrH r B F⟩
def NewA (q:Addr)(ρ:Ev):Prop:=∀ (j:Nat) (a:Addr) (l:AS),ρ[j]?=some (some (W.ad a (.lst l)))->a≠q
abbrev ztv (i:Nat) (f:AD):Ms:=λρ n k=>∃ q,Fg ρ q/\f q n λw m=>match w with
 | .d (.tup [F,.lst l])=>F.noL=true/\Dt.noLs l=true/\∀I,NewA I ρ->onP ρ i (.ad I (.tup [F,.lst l])) λB=>k.nx B m
 | _=>False
def xQ.big(h:xQ Pn A n H):xQ Pn (λb=>A b\/∃xs,H b=some (.lst xs)) n H:=by
 show⟨?_,Pn.J.grow h.2 λb z=>z.elim .inl λ⟨xs,e⟩=>.inr ⟨_,e,NP.lst,rfl⟩⟩;have q:=h.1;split at q;trivial;show⟨q.1,?_⟩;obtain⟨⟨I,l',F,g2⟩,B,L⟩:=q.1;obtain⟨ob,B⟩:=B;exact⟨λz=>z.elim q.2.1 (λ⟨xs,e⟩=>by rw[B] at e;cases e),λz=>z.elim q.2.2 (λ⟨xs,e⟩=>by rw[F] at e;cases e)⟩
def zrI(h:RE Pn M fr' te f)(ag:i∉M)(an:i∉S++M):RS Pn S M fr (zfg te (uA i)) (ztv i f):=⟨λB A σ H ρ n k D a kk hf=>by
 obtain⟨F,hF,hf⟩:=hf;have I:∀ {j:Nat} {w:W},j∈M->F[j]?=some (some w)->False:=λ{j w} hj e=>by obtain⟨e1,e2⟩:=hF.get e;obtain⟨_,_,_,h3⟩:=a.env.val j w e1;obtain⟨_,_,_,_,h4⟩:=h3 hj;rw[ztz e2] at h4;cases h4
 have J:Al (λb=>A b\/∃xs,H b=some (.lst xs)) H:=λb z=>z.elim (a.env.al b) λ⟨xs,e⟩=>⟨_,e,NP.lst,rfl⟩
 have E:EnvR (λb=>A b\/∃xs,H b=some (.lst xs)) M σ H F:=⟨by rw[hF.len];exact a.env.len,λj w e=>by
  obtain⟨e1,e2⟩:=hF.get e;obtain⟨v,q1,q2,q3⟩:=a.env.val j w e1;show⟨v,q1,λz=>?_,λz=>(I z e).elim⟩;have:=q2 z
  cases w with
  | d x=>exact Val.of (zhV J.noT e2 ((Val.is this).stay (zu.same zp)))
  | pen p=>exact this
  | _=>exact (show False from e2).elim,λi j w u b hi _ _ e _=>(I hi e).elim,J⟩
 show h.run _ σ H F n _ _ E a.pn.big hf λw m v H' r hv g' a2=>?_;have g:Go Pn A H m H':=⟨g'.st,g'.pn.less λb z=>.inl z⟩;have a':=a.step g;split at r
 ·rename_i d0 l;obtain⟨hd,hl,r⟩:=r;obtain⟨b,xs,rfl,hb,ap⟩:=Val.is hv;obtain⟨x0,r0,rfl,h0,x1,r1,rfl,h1,L⟩:=ap;obtain⟨O,ys,rfl,U,as⟩:=h1;cases L;have q:y4 (zM (λb=>A b\/∃xs,H b=some (.lst xs)) H') (zM A H'):=yK λb z=>.inl z;have nL:=(zE.mp U).1
  have Y:NewA O ρ:=λj c l' ej z=>by
   subst z;obtain⟨v',q1,q2,q3⟩:=a.env.val j _ ej;by_cases hj:j∈M;obtain⟨_,_,_,_,h4⟩:=q3 hj;cases h4;obtain⟨_,c2,zs,rfl,hc,_⟩:=q2 hj;obtain⟨n1,Z⟩:=zE.mp hc
   have av:c2=c:=by
    by_cases y:c2=c;exact y;exact absurd ⟨y,zs,Z⟩ n1
   subst av;exact nL (.inr ⟨zs,zp _ _ Z⟩)
  have r:=r O Y;rw[ud] at r;exact (zc9 (S:=S++M) (M:=M) ag an).run A σ H' ρ _ (.ad O (.tup [d0,.lst l])) _ (λF=>k.nx F m) a'.env ⟨⟨_,rfl⟩,b,_,rfl,znu (q _ _ hb),x0,_,rfl,zpU hd (h0.stay (zu.same q)),.ref O,_,rfl,⟨O,ys,rfl,zlr (q _ _ U),zhS hl (as.stay (zu.same q))⟩,rfl⟩ r λa0 a1 r2 E2 f2=>kk.nx A a0 H' a1 m (EnvR.mineG a' E2 f2) r2
 cases r⟩
def zp7 {i:Nat}{x:Str}{pos':Pos}(I:X.N.Nodup)(J:JE X Pn M fr' e f)(hi:X.N[i]?=some x:=by rfl)(L:Loc X.env.scope x:=by first | exact Or.inl rfl | exact Or.inr rfl)(B:i∉M:=by ext)(F:i∉S++M:=by ext)(O:swapsWith e (some (.Name x pos')) pos.line X.env=pure false:=by rfl)(U:X.fn x=true\/X.env.scope.names.lookup x=some .local:=by walk_at "l") :
  JS X Pn S M fr (.Assign [.Name x pos'] e pos) (ztv i f):=let ⟨te,q,r⟩:=J.ex;⟨_,xR I hi L q O U,zrI r B F⟩
def W.nlA (q:Addr):W->Prop
 | .d x=>x.noL=true
 | .pen _=>True
 | .ad a _=>a≠q
 | _=>False
def FgA (B:Addr):Ev->Ev->Prop
 | [],q=>q=[]
 | o::ρ,q=>∃o' r,q=o'::r/\(o'=none\/(o'=o/\∀w,o=some w->w.nlA B))/\FgA B ρ r
def FgA.len:∀ {ρ q:Ev},FgA B ρ q->q.length=ρ.length
 | [],_,h=>by cases h;rfl
 | _::_,_,⟨_,_,e,_,h⟩=>by subst e;rw[aV,aV,h.len]
def FgA.get:∀ {ρ q:Ev} {j:Nat} {w:W},FgA F ρ q->q[j]?=some (some w)->ρ[j]?=some (some w)/\w.nlA F
 | [],_,_,_,h,e=>by cases h;simp at e
 | o::ρ,_,0,w,⟨o',r,B,h1,h⟩,e=>by
  subst B;have e:o'=some w:=by simpa using e
  subst e;rcases h1 with h1 | ⟨rfl,h1⟩;cases h1;exact⟨rfl,h1 w rfl⟩
 | o::ρ,_,j+1,w,⟨o',r,B,h1,h⟩,e=>by subst B;have:=FgA.get (ρ:=ρ) h (show r[j]?=some (some w) by simpa using e);simpa using this
def zqu{w:W}(h:w.nlA ad):w.mut=false:=by
 cases w with
 | d x=>cases x <;> first | rfl | cases h
 | pen p=>rfl
 | ad a x=>rfl
 | _=>cases h
def znv(h:zM A H q=some (.lst ys))(O:a≠q):y4 (zdz a (zM A H)) (zdz a (zM A (upd H q (.lst zs)))):=λb o e=>by
 obtain⟨F,I⟩:=zE.mp e;obtain⟨U,Y⟩:=zE.mp I;have B:b≠q:=λz=>by subst z;exact F ⟨λy=>O y.symm,ys,h⟩
 have J:zM A (upd H q (.lst zs)) b=some o:=zv U (by rw[zf B];exact Y);show zv (λz=>F ⟨z.1,?_⟩) J;obtain⟨xs,L⟩:=z.2;rw[J] at L;cases L;exact⟨_,I⟩
def At3.inUpd(a:At3 Pn B S M A σ H ρ n)(hS:9999∈S)(ag:zM A H ad=some (.lst ys))(hF:FgA ad ρ I):At3 Pn B S M A σ (upd H ad (.lst zs)) I n:=by
 obtain⟨nA,Y⟩:=zE.mp ag;obtain⟨nG,nH⟩:=a.fix.2 hS;have L:∀ {j:Nat} {w:W},j∈M->I[j]?=some (some w)->False:=λ{j w} hj e=>by obtain⟨e1,e2⟩:=hF.get e;obtain⟨_,_,_,h3⟩:=a.env.val j w e1;obtain⟨_,_,_,_,h4⟩:=h3 hj;rw[zqu e2] at h4;cases h4
 show⟨⟨by rw[hF.len];exact a.env.len,λj w e=>?_,λj k' w u q hj _ _ e1=>(L hj e1).elim,λq z=>?_⟩,⟨a.frm.sub,a.frm.new,λq o e np nc=>?_,a.frm.al,a.frm.cn,λq z=>?_⟩,?_,λq o e np=>?_,a.fix,λj w q hj e=>(L hj e).elim⟩;obtain⟨e1,e2⟩:=hF.get e;obtain⟨v,O,F,q3⟩:=a.env.val j w e1;show⟨v,O,λz=>?_,λz=>(L z e).elim⟩;have:=F z
 cases w with
 | d x=>exact Val.of (zsZ Y e2 (Val.is this))
 | pen p=>exact this
 | ad c x=>exact⟨this.1,Is.stay (zu.same (znv ag e2)) this.2⟩
 | _=>cases e2
 obtain⟨o,O,F,q3⟩:=a.env.al q z;exact⟨o,by rw[zf (show q≠ad from λy=>nA (by rw[<- y];exact z))];exact O,F,q3⟩;have:=a.frm.st q o e np nc;have U:q≠ad:=λy=>by rw[y,Y] at this;cases this;exact nH _ _ e
 rw[zf U];exact this;obtain⟨o,O,F⟩:=a.frm.cs q z;by_cases an:q=ad;subst an;exact⟨_,zj,NP.lst⟩;exact⟨o,by rw[zf an];exact O,F⟩
 ·have Z:=a.pn;show⟨?_,Pn.J.frz Z.2 Y NP.lst rfl⟩;have Z:=Z.1;split at Z;trivial
  ·show⟨?_,Z.2⟩;obtain⟨⟨a',l',g1,g2⟩,g3,g4⟩:=Z.1;rename_i p' c' ap _;obtain⟨ob,g3⟩:=g3;exact⟨⟨a',l',by rw[zf λz=>by rw[z,Y] at g1;cases g1];exact g1,g2⟩,⟨ob,by rw[zf λz=>by rw[z,Y] at g3;cases g3];exact g3⟩,g4⟩
 have:=a.prot q o e np;obtain⟨O,F⟩:=zE.mp this;have U:q≠ad:=λy=>by rw[y,Y] at F;cases F;exact nG _ _ e
 exact zv O (by rw[zf U];exact F)
abbrev zkZ (i:Nat):Ms:=λρ n k=>onV ρ i λw=>match w with
 | .ad B (.tup [_,.lst l])=>l.length<10000/\∃ q,FgA B ρ q/\k.nx q n
 | _=>False
def zn4{c:Int}(hS:9999∈S)(hi:i∉M):RS Pn S M fr (zl9 (tBM K "list" zeX (tOp (zus K) (zmd i) (tC (.int 1))) (zbL (tC (.int c)) zja))) (zkZ i):=⟨by
 rintro B A σ H ρ n k D a kk J;unfold zkZ at J;rw[uk] at J;obtain⟨w,e0,J⟩:=J;split at J
 ·rename_i ad d0 l;obtain⟨I,O,hF,r⟩:=J;obtain⟨v,s1,s2,_⟩:=a.env.val i _ e0;obtain⟨_,hv⟩:=s2 hi;obtain⟨b,xs,rfl,hb,hl⟩:=hv;obtain⟨x0,r0,rfl,h0,x1,r1,rfl,h1,L⟩:=hl;obtain⟨q,ys,rfl,U,Y⟩:=h1;cases L;obtain⟨n1,F⟩:=zE.mp U
  have Z:q=ad:=by
   by_cases y:q=ad;exact y;exact absurd ⟨y,ys,F⟩ n1
  subst Z;obtain⟨nA,hH⟩:=zE.mp F;have hB:H b=some (.tup [x0,.ref q]):=zp _ _ (zf7 _ _ hb);have ag:ys.length<sizeLine:=by rw[<- Y.length] at I;exact aI I (by ext)
  show⟨.ref b,s1,b,_,1,.ref q,rfl,rfl,SqT.of hB,rfl,.inl ⟨rfl,_,SqL.of hH⟩,q,ys,.int c,rfl,rfl,hH,ag,?_⟩;exact kk.nx A σ _ O n (a.inUpd hS F hF) r
 cases J⟩
def znd (i:Nat){x:Str}{c:Int}{k L:Nat}{ap O sp Y q B U:Pos}(hS:9999∈S:=by ext)(hi:i∉M:=by ext)(hN:X.N[i]?=some x:=by rfl)(hv:Vis X.env.scope x:=by walk_at "v")(hd:Ah x:=by ext)
  (ag:(x==("__classdict__" : Str))=false:=by ext) (Z:starEach [.Constant (.int c) L U] X.env=(false,eval (.Constant (.int c) L U) X.env)::starEach [] X.env:=by rfl) (hs:swapsWith (.Call (.Attribute (.Subscript (.Name x Y) (.Constant (.int 1) k q) B) "append" ap) [.Constant (.int c) L U] [] O) none sp.line X.env=pure false:=by rfl) (I:attributeBase (.Subscript (.Name x Y) (.Constant (.int 1) k q) B) "append" X.env (eval (.Subscript (.Name x Y) (.Constant (.int 1) k q) B) X.env)=eval (.Subscript (.Name x Y) (.Constant (.int 1) k q) B) X.env:=by rfl) (J:(ap.endLine==O.line)=true:=by rfl)
  (ad:((backTo O (starEach [.Constant (.int c) L U] X.env)).all (λx=>!x.1)&&(backToKw O (keywordEach [] X.env)).all (λx=>x.1.isSome)&&decide (([.Constant (.int c) L U]:AO).length+([]:List Keyword).length+(if ([]:List Keyword).isEmpty then 0 else 1)<30))=true:=by rfl) (F:(backTo O (starEach ([]:AO) X.env)).any (·.1)=false:=by rfl) :
  JS X Pn S M fr (.Expr (.Call (.Attribute (.Subscript (.Name x Y) (.Constant (.int 1) k q) B) "append" ap) [.Constant (.int c) L U] [] O) sp) (zkZ i):=
 ⟨_,zaX (zoY (zrd yF (qv i hN hv hd ag) yu (λ_ _=>rfl)) (zD yu yc Z) I ad J Z F) hs,zn4 hS hi⟩
def zkB{ifs:AO}{scope:Scope}{N:AM}{z:Str}{cix:List (Option Nat)}{L:AC}{mg:W->Ev->(Ev->Prop)->Prop}{O:Ev->Mo Bool}{U:AD}{nx:Str}{px spos:Pos}(q:X.N.Nodup)(B:X.N[ix]?=some nx)(F:X.env.scope.names.lookup nx=some .local)(Z:X.calm=true)(cc:CompOkC X scope N z cix)(hi:JI X Pn M Y tg iter L)(hg:∀C D s H ex,JG (zB X scope N z C D s H ex) (ya M cix) (ya M cix) tg mg)(ht:∀C D s H ex,JTs (zB X scope N z C D s H ex) Pn (ya M cix) ifs O)(he:∀C D s H ex,JE (zB X scope N z C D s H ex) Pn (ya M cix) fr' elt U)(hn:(cix.filterMap id).Nodup:=by ext)(I:swapsWithSole [.Name nx px] (.ListComp elt [⟨tg,iter,ifs,0⟩] scope pos) spos.line X.env=pure true:=by rfl)(hs:∀x,foldedSetIterable iter X.env x=pure x:=by intro _;rfl)(J:(assignEach [.Name nx px] X.env).map (·.2)=[assign (.Name nx px) X.env]:=by rfl):∃te,QS X (.Assign [.Name nx px] (.ListComp elt [⟨tg,iter,ifs,0⟩] scope pos) spos) (zfg te (uA ix))/\RE Pn M true te (zkU L mg O U cix):=by
 obtain⟨ti,qi,ri⟩:=hi.ex;obtain⟨g,qg,rg⟩:=zir hg;obtain⟨tt,qt,rt⟩:=zis ht;obtain⟨te,qe,re⟩:=ziq he;exact⟨_,znW q B F Z cc qi qg qt qe I hs J,zeY hn ri rg rt re⟩
abbrev mRem (i:Nat) (fk:AD):Ms:=λρ n k=>onV ρ i λv=>onL v λl=>fk ρ n λy m=>onI y λj=>∃ns:AG,l=ns.map Dt.int/\j∈ns/\onP ρ i (.d (lsD (ns.erase j))) λq=>k.nx q m
def ztf(i:Nat){x:Str}{ap O sp U:Pos}(hc:JB X Pn M c fc)(hi:i∈M:=by ext)(hN:X.N[i]?=some x:=by rfl)(hv:Vis X.env.scope x:=by walk_at "v")(hd:Ah x:=by ext)(ag:(x==("__classdict__" : Str))=false:=by ext)(Y:starEach (c::[]) X.env=(false,eval c X.env)::starEach [] X.env:=by rfl)(hs:swapsWith (.Call (.Attribute (.Name x U) "remove" ap) [c] [] O) none sp.line X.env=pure false:=by rfl)(J:attributeBase (.Name x U) "remove" X.env (eval (.Name x U) X.env)=eval (.Name x U) X.env:=by rfl)(L:(ap.endLine==O.line)=true:=by rfl)(Z:((backTo O (starEach [c] X.env)).all (λx=>!x.1)&&(backToKw O (keywordEach [] X.env)).all (λx=>x.1.isSome)&&decide (([c]:AO).length+([]:List Keyword).length+(if ([]:List Keyword).isEmpty then 0 else 1)<30))=true:=by rfl)(q:(backTo O (starEach [] X.env)).any (·.1)=false:=by rfl) :
  JS X Pn S M fr (.Expr (.Call (.Attribute (.Name x U) "remove" ap) [c] [] O) sp) (mRem i fc):=by
 obtain⟨tc,qc,rc⟩:=hc.ex;show⟨_,zaX (zdX bB PySem.F.slot_list_remove PySem.F.type_list_remove zk9 (qv i hN hv hd ag) (zD qc yc Y) J Z L Y q) hs,⟨ ?_⟩⟩;intro B A σ H ρ n k D a kk I;unfold mRem at I;rw[uk] at I;obtain⟨w0,e0,I⟩:=I;rw[xj] at I;obtain⟨l,rfl,I⟩:=I;obtain⟨ad,al,s1,hA,g0,_⟩:=a.own hi e0;show⟨.ref ad,s1,.inl ⟨rfl,_,SqL.of g0⟩,?_⟩;show rc.run A σ H ρ n _ _ a.env a.pn I  ?_;rintro w m v H' r hv g;rw[xH] at r;obtain⟨j,rfl,ns,rfl,hj,r⟩:=r;rw[ud] at r;have e1:v = .int j:=hv;subst e1;have a':=a.step g;obtain⟨an,xs,s2,_,g4,hl⟩:=a'.own hi e0;rw[s1] at s2;cases s2;obtain rfl:=hl.of_ints;show⟨ad,ns,j,rfl,rfl,g4,hj,kk.nx A σ _ _ m (a'.wr hi e0 s1 (l:=(ns.erase j).map Dt.int) ?_) r⟩;rw[zsP];exact IsL.ints
end
def zoH:Fg [] []:=rfl
def zaH(h:Fg ρ q):Fg (o::ρ) (none::q):=⟨_,_,rfl,.inl rfl,h⟩
def zvw(B:x.noL=true)(h:Fg ρ q):Fg (some (.d x)::ρ) (some (.d x)::q):=⟨_,_,rfl,.inr ⟨rfl,λw e=>by cases e;exact B⟩,h⟩
def fg_p(h:Fg ρ q):Fg (some (.pen p)::ρ) (some (.pen p)::q):=⟨_,_,rfl,.inr ⟨rfl,λw e=>by cases e;trivial⟩,h⟩
def zoG:FgA q [] []:=rfl
def ziM(h:FgA B ρ q):FgA B (o::ρ) (none::q):=⟨_,_,rfl,.inl rfl,h⟩
def zj5(F:x.noL=true)(h:FgA B ρ q):FgA B (some (.d x)::ρ) (some (.d x)::q):=⟨_,_,rfl,.inr ⟨rfl,λw e=>by cases e;exact F⟩,h⟩
def fa_p(h:FgA B ρ q):FgA B (some (.pen p)::ρ) (some (.pen p)::q):=⟨_,_,rfl,.inr ⟨rfl,λw e=>by cases e;trivial⟩,h⟩
def zww(F:a≠B)(h:FgA B ρ q):FgA B (some (.ad a x)::ρ) (some (.ad a x)::q):=⟨_,_,rfl,.inr ⟨rfl,λw e=>by cases e;exact F⟩,h⟩
def zh5 (bk:AW):(xp bk).noL=true:=by have:=zdQ bk;simpa [Dt.noL] using this
end L3
local macro_rules | `(tactic| left)=>`(tactic| ((try (with_reducible conv=>whnf));repeat (with_reducible refine L3.zst ?_;try (with_reducible conv=>whnf)));try dsimp only)
local macro_rules | `(tactic| walk_at "ct")=>`(tactic| (with_reducible refine L3.zqx ?_ ?_;(first | decide | assumption | rfl));left)
local macro_rules | `(tactic| walk_at "cf")=>`(tactic| (with_reducible refine L3.zlm ?_ ?_;(first | decide | assumption | rfl));left)
namespace Law
open L2 L3
abbrev la:AM:=[Ai,Aj]
abbrev lb:AM:=["given","at","better","worse",Ak,Am]
abbrev lc:AM:=[Ai,An]
abbrev ld:AM:=[Ao,Ap,An,Aq]
abbrev lh:AM:=[Ar,"book"]
abbrev li:AM:=[Ai,Aj,Ao]
abbrev lj:AM:=["_law_script"]
abbrev lm:AM:=[As,At]
abbrev ln:AM:=[As,At,Ap,Au]
abbrev lq:AM:=[Aj,Av,"_law_ring"]
abbrev lr:AM:=[Ar,"book",Ak,Am]
abbrev lu:AM:=[Aw,Ax,Aq]
abbrev lv:AM:=[Ai,Ay]
abbrev lw:AM:=[As,At,Av]
abbrev lx:AM:=[Aj]
abbrev ly:AM:=[Aj,Ao]
abbrev lz:AM:=[Am,Ak,"worth"]
abbrev lA:AM:=[Ao,Aq]
abbrev lB:AM:=[As,"_law_own",Ap,Aj]
abbrev lC:AM:=[Ax,As]
abbrev lD:AM:=[Ar,"pairs"]
abbrev lE:AM:=[Aj,Az]
abbrev lF:AM:=[Aj,Av]
abbrev lG:AM:=[Ai,"_law_most"]
abbrev lH:AM:=[A1,Ai,Aj]
abbrev lI:AM:=[As,Au,Ai]
abbrev lJ:AM:=[Ax,A5,Ap]
abbrev lK:AM:=[As,Ay,At]
abbrev lL:AM:=[Ap,Av,Au]
abbrev lM:AM:=["row","worth","worths"]
abbrev lN:AM:=[A1,As,At]
abbrev lO:AM:=[A1,As,Ap]
abbrev lP:AM:=[Ak,Ar,Am,"own"]
abbrev lQ:AM:=[Am,"given"]
abbrev lR:AM:=["at","other",Ak]
abbrev lS:AM:=["_law_wish_here",Ap]
abbrev lT:AM:=[A6,A7]
abbrev lU:AM:=["choices"]
def top (i:Nat):Stmt:=PySem.Challenge.pw_allelse_k29_orders_of_boxes.main.body.getD i (.Pass ⟨0,0,0,0⟩)
abbrev zdZ:Stmt:=top 18
abbrev zdd:Stmt:=top 19
abbrev zdh:Stmt:=top 20
abbrev zdg:Stmt:=top 21
abbrev u8:Stmt:=top 22
abbrev zd0:Stmt:=top 24
abbrev zdi:Stmt:=top 25
abbrev zav:Stmt:=top 26
abbrev zau:Stmt:=top 27
abbrev zde:Stmt:=top 28
abbrev zb2:Stmt:=top 29
abbrev zb0:Stmt:=top 30
abbrev zbq:Stmt:=top 31
abbrev zaN:Stmt:=top 32
abbrev zdc:Stmt:=top 33
abbrev zdb:Stmt:=top 38
abbrev zd1:Stmt:=top 1
abbrev zdj:Stmt:=top 2
abbrev zgg:Stmt:=top 3
abbrev zlZ:Stmt:=top 8
abbrev zbr:Stmt:=top 10
abbrev uJ:Stmt:=top 11
abbrev zd2:Stmt:=top 13
abbrev zlY:Stmt:=top 14
abbrev zaO:Stmt:=top 6
abbrev zd3:Stmt:=top 5
abbrev zaP:Stmt:=top 15
abbrev zl0:Stmt:=top 16
abbrev zb3:Stmt:=top 23
abbrev zb1:Stmt:=top 34
abbrev zdf:Stmt:=top 35
abbrev zdY:Stmt:=top 36
abbrev uI:Stmt:=top 37
abbrev zuR:Stmt:=top 39
def zhm:FnScope lj lj (zg zdZ):=by walk_at "f"
def yv:FnScope [Ai,An,A8,Aw,"_law_cell","_law_mixed"] lc (zg zdd):=by walk_at "f"
def zb4:FnScope [Ai,Ay,Au] lv (zg zdh):=by walk_at "f"
def yx:FnScope [Ai,"_law_most",A9,"_law_wanted",Aj,Au,An] lG (zg zdg):=by walk_at "f"
def zZ:FnScope [Aj,A8,An,BA,As] lx (zg u8):=by walk_at "f"
def zdk:FnScope [Ai,An,As] lc (zg zd0):=by walk_at "f"
def yN:FnScope [Ai,Aj,Ap,"_law_share",A5,Aw,BB,BC] la (zg zdi):=by walk_at "f"
def yf:FnScope [Aj,Az,A8,Ap,BA,A5] lE (zg zav):=by walk_at "f"
def zI:FnScope [Ai,Aj,Az,A8,"_law_place",Ap,"_law_looks",A5,"_law_ranks",A1] la (zg zau):=by walk_at "f"
def zaw:FnScope [As,At,Ap,A5] lm (zg zde):=by walk_at "f"
def zX:FnScope [Aj,A8,An,BA,A1,As,"_law_worths"] lx (zg zb2):=by walk_at "f"
def uX:FnScope [Ai,Aj,A9] la (zg zb0):=by walk_at "f"
def zL:FnScope [Ai,Aj,"_law_every","_law_rank",A1,As,A8,Ap,Ax,At] la (zg zbq):=by walk_at "f"
def z7:FnScope [Ai,Aj,Ao,A9,Aw,A5,Ap,BB,BC] li (zg zaN):=by walk_at "f"
def yj:FnScope [Ai,Aj,"_law_kind","_law_spoil",An,Ao] la (zg zdc):=by walk_at "f"
def xK:FnScope [Ai,Aj,Ap,At,BB,BC] la (zg zdb):=by walk_at "f"
def uZ:FnScope ["choices","rows","worths"] lU (zg zd1):=by walk_at "f"
def zgh:FnScope [Ar] [Ar] (zg zdj):=by walk_at "f"
def zi4:FnScope lz lz (zg zgg):=by walk_at "f"
def ze0:FnScope [Am,"given",Ak,"worth"] lQ (zg zlZ):=by walk_at "f"
def zdA:FnScope lr lr (zg zbr):=by walk_at "f"
def um:FnScope [Ar,"book","own"] lh (zg uJ):=by walk_at "f"
def y2:FnScope [Ar,"pairs","found",Am,"other","there",Ak,BD] lD (zg zd2):=by walk_at "f"
def zn6:FnScope lh lh (zg zlY):=by walk_at "f"
def zax:FnScope [A6,A7,"told"] lT (zg zaO):=by walk_at "f"
def yO:FnScope [A6,A7,"within","row",BD] [A6] (zg zd3):=by walk_at "f"
def xl:FnScope [Ar,"pairs","ahead","row","free"] lD (zg zaP):=by walk_at "f"
def zn7:FnScope lh lh (zg zl0):=by walk_at "f"
def yB:FnScope [Ao,Aq,A8,A5,Ap,BB,BC,"_law_there"] lA (zg zb3):=by walk_at "f"
def yR:FnScope [Ao,Ap,An,Aq,A8,BC,BB,"_law_here","_law_there"] ld (zg zb1):=by walk_at "f"
def yw:FnScope [Aj,Ao,"_law_every",A8,Ap,"_law_own",Ay,At,"_law_parts"] ly (zg zdf):=by walk_at "f"
def uY:FnScope [Aj,Av,Au,A8,"_law_free"] lF (zg zdY):=by walk_at "f"
def ul:FnScope [Aj,Av,"_law_ring",Ap] lq (zg uI):=by walk_at "f"
def uo:FnScope ["_law_script",Ai,"_law_turn_here",A9,"_law_most",Aj,Ao,Av,"_law_due_here","_law_again",A8] lj (zg zuR):=by walk_at "f"
set_option genInjectivity false in
structure Ad where
 f0:Addr
 d0:Ac
 f1:Addr
 d1:Ac
 f2:Addr
 d2:Ac
 f3:Addr
 d3:Ac
 f4:Addr
 d4:Ac
 f5:Addr
 d5:Ac
 f6:Addr
 d6:Ac
 f7:Addr
 d7:Ac
 f8:Addr
 d8:Ac
 f9:Addr
 d9:Ac
 f10:Addr
 d10:Ac
 f11:Addr
 d11:Ac
 f12:Addr
 d12:Ac
 f13:Addr
 d13:Ac
 f14:Addr
 d14:Ac
 f15:Addr
 d15:Ac
 f16:Addr
 d16:Ac
 f17:Addr
 d17:Ac
 f18:Addr
 d18:Ac
 f19:Addr
 d19:Ac
 f20:Addr
 d20:Ac
 f21:Addr
 d21:Ac
 f22:Addr
 d22:Ac
 f23:Addr
 d23:Ac
 f24:Addr
 d24:Ac
 f25:Addr
 d25:Ac
 f26:Addr
 d26:Ac
 f27:Addr
 d27:Ac
 f28:Addr
 d28:Ac
 f29:Addr
 d29:Ac
 f30:Addr
 d30:Ac
 f31:Addr
 d31:Ac
 f32:Addr
 d32:Ac
 f33:Addr
 d33:Ac
structure Txt (K:AH)(mg:AI)(t:Ad):Prop where
 q0:Dfn K mg "_law_pen" zdZ lj t.f0 t.d0
 q1:Dfn K mg "_law_draw" zdd lc t.f1 t.d1
 q2:Dfn K mg "_law_turn" zdh lv t.f2 t.d2
 q3:Dfn K mg "_law_room" zdg lG t.f3 t.d3
 q4:Dfn K mg "_law_standings" u8 lx t.f4 t.d4
 q5:Dfn K mg "_law_two" zd0 lc t.f5 t.d5
 q6:Dfn K mg "_law_wish" zdi la t.f6 t.d6
 q7:Dfn K mg "_law_contexts" zav lE t.f7 t.d7
 q8:Dfn K mg "_law_by_order" zau la t.f8 t.d8
 q9:Dfn K mg "_law_full" zde lm t.f9 t.d9
 q10:Dfn K mg "_law_snake" zb2 lx t.f10 t.d10
 q11:Dfn K mg "_law_along" zb0 la t.f11 t.d11
 q12:Dfn K mg "_law_rising" zbq la t.f12 t.d12
 q13:Dfn K mg "_law_spoiled" zaN li t.f13 t.d13
 q14:Dfn K mg "_law_book" zdc la t.f14 t.d14
 q15:Dfn K mg "_law_back" zdb la t.f15 t.d15
 q16:Dfn K mg "combined" zd1 lU t.f16 t.d16
 q17:Dfn K mg "standings" zdj [Ar] t.f17 t.d17
 q18:Dfn K mg "changed" zgg lz t.f18 t.d18
 q19:Dfn K mg "keeps" zlZ lQ t.f19 t.d19
 q20:Dfn K mg "local_pairs" zbr lr t.f20 t.d20
 q21:Dfn K mg "all_local_pairs" uJ lh t.f21 t.d21
 q22:Dfn K mg "hangs_by" zd2 lD t.f22 t.d22
 q23:Dfn K mg "hangs" zlY lh t.f23 t.d23
 q24:Dfn K mg "leads_within" zaO lT t.f24 t.d24
 q25:Dfn K mg "round_of" zd3 [A6] t.f25 t.d25
 q26:Dfn K mg "put_in_order" zaP lD t.f26 t.d26
 q27:Dfn K mg "order" zl0 lh t.f27 t.d27
 q28:Dfn K mg "_law_steps" zb3 lA t.f28 t.d28
 q29:Dfn K mg "_law_local" zb1 ld t.f29 t.d29
 q30:Dfn K mg "_law_hung" zdf ly t.f30 t.d30
 q31:Dfn K mg "_law_due" zdY lF t.f31 t.d31
 q32:Dfn K mg "_law_ring_right" uI lq t.f32 t.d32
 q33:Dfn K mg "law" zuR lj t.f33 t.d33
 b_list:mg "list" = none
 b_sorted:mg "sorted" = none
 b_set:mg "set" = none
 b_tuple:mg "tuple" = none
 b_range:mg "range" = none
 b_enumerate:mg "enumerate" = none
 b_len:mg "len" = none
 b_all:mg "all" = none
 b_dict:mg "dict" = none
 b_abs:mg "abs" = none
 b_zip:mg "zip" = none
 b_isinstance:mg "isinstance" = none
 b_bool:mg "bool" = none
 b_int:mg "int" = none
section
variable {P:Aa}{w:Ab}{K:AH}{mg:AI}{base:Heap}{t:Ad}
def zhe (T:Txt K mg t):FnOk P w K mg base CX0 1 t.f0 t.d0 lj (zob K):=by
 show T.q0.F.okQ zhm (λvs H Q E h=>?_) (λZ A L s H vs Q E hr h=>?_);obtain⟨a,ns,rfl,_⟩:=h;rfl;obtain⟨a,ns,rfl,hS,Y,k⟩:=h;show⟨_,(uW (zbo (zrb (zeT ue ⟨zqN (zeP zl7 (qv 0) zlH (zlI yu)).run⟩ (zeT ue yu (zeT ue yu zrn))) rfl rfl (by simp) (by ext)))),?_⟩;intro p O;show⟨_,rfl,_,rfl,a,_,rfl,(y4.upd O).seq hS,λc J=>⟨c,_,rfl,zj,λob=>?_⟩⟩;have q:p≠c:=λe=>by subst e;rw[zj] at J;cases J
 have B:H c=none:=by rw[zf (Ne.symm q)] at J;exact J
 show⟨by rw[zf q,zf q,zj],zbm c 0 0,rfl,(by change 3<=15;decide),?_⟩;rw[zt3]
 have I:zdq (ns.map V.int) none (some 63)=ns.map V.int:=by
  unfold zdq;rw[HT.sIx_none];have U:HT.sIx (ns.map V.int).length (ns.map V.int).length (some 63)=(ns.map V.int).length:=by have:=HT.sIx_nat (ns.map V.int).length (ns.map V.int).length 63;rw[ab] at this ⊢;rw[Nat.min_eq_right Y] at this;exact this
  rw[U,eL,fg,bg]
 show k p c _ ⟨⟨0,0,zj,by lia,by lia,by lia⟩,?_,Y⟩ ?_;show⟨ob,?_⟩;rw[zf (Ne.symm q),zj];exact congrArg (λz=>some (HO.frz ob (HO.lst z))) I;intro b o e;rw[zf (zc e O),zf (zc e B),zf (zc e B),zf (zc e O)];exact e
def zbU (T:Txt K mg t):FnOk P w K mg base CX0 1 t.f1 t.d1 lc zl5:=by
 show T.q1.F.okQ yv (λvs H Q E h=>?_) (λa2 A as s H vs Q E hr h=>?_);obtain⟨p,c,ns,n,yt,rfl,_⟩:=h;rfl
 ·obtain⟨p,c,ns,n,yt,rfl,hP,hn,h1,h2,k⟩:=h;have L:=uC hr;obtain⟨⟨a,l,U,Y,ad,ag⟩,⟨ob,hc⟩,O⟩:=id hP;have Z:c≠p:=zlb hc U (by intro z;cases z)
  show⟨_,(yh (znU (zc7 zqD (xO L (qv 0) ue (λ_ _=>rfl)) yu (zy _)) (yh (xR (i:=2) yv.nd rfl (Or.inl rfl) (y9 zbl (xO L (qv 0) ue (λ_ _=>rfl)) (qv 1)))
   (yh (zeU L (qv 0) ue (y9 zeK (xO L (qv 0) ue (λ_ _=>rfl)) (qv 1)) rfl)
   (uW (zbo (qv 2))))) zeV)
   (yh (xR (i:=3) yv.nd rfl (Or.inl rfl) (xO L (qv 0) ue (λ_ _=>rfl)))
   (yh (zeU L (qv 0) ue (y9 yX (qv 3) yu) rfl)
   (yh (xR (i:=4) yv.nd rfl (Or.inl rfl) (y9 yX (y9 zc1 yu (qv 3)) yu))
   (yh (znU (zc7 zqD (xk z5 (by rfl) T.b_len aH (zD (xO L (qv 0) ue (λ_ _=>rfl)) yc)) yu (zy _)) (uW (xR (i:=4) yv.nd rfl (Or.inl rfl) (zrd y3 (xO L (qv 0) ue (λ_ _=>rfl)) (y9 zbl (qv 3) (xk z5 (by rfl) T.b_len aH (zD (xO L (qv 0) ue (λ_ _=>rfl)) yc))) (λ_ _=>rfl)))) zeV)
   (yh (znU (QW.pt (zo1 (zc7 zhh (qv 3) (xk z5 (by rfl) T.b_len aH (zD (xO L (qv 0) ue (λ_ _=>rfl)) yc)) (zy _)) (zlK (zc7 zw4 (xk zjA (by rfl) T.b_abs dG (zD (qv 4) yc)) (y9 zlv yu yu) (zy _))))) (yh (zeU L (qv 0) ue (y9 zeK (xk zjA (by rfl) T.b_abs dG (zD (qv 4) yc)) (qv 1)) rfl)
   (uW (zbo (y9 zbl (xk zjA (by rfl) T.b_abs dG (zD (qv 4) yc)) (qv 1))))) zeV)
   (yh (xR (i:=5) yv.nd rfl (Or.inl rfl) (y9 yX (y9 yX (y9 zc1 (y9 yX (y9 zbl (qv 4) yu) yu) (y9 yX (y9 zc1 yu (qv 3)) yu)) (y9 zc1 (y9 zc1 yu (qv 3)) (qv 3))) (y9 zc1 yu (qv 3))))
   (yh (xR (i:=5) yv.nd rfl (Or.inl rfl) (y9 zbl (y9 zlv (qv 5) yu) yu))
   (yh (xR (i:=5) yv.nd rfl (Or.inl rfl) (y9 zbl (y9 zlv (y9 yX (y9 yX (qv 5) (y9 zc1 yu (qv 3))) yu) yu) yu))
   (uW (zbo (y9 zbl (y9 zeK (qv 5) yu) (qv 1))))))))))))),?_⟩
  show⟨_,rfl,p,_,rfl,zly U,_,_,rfl,rfl,_,rfl,zvx (λhl=>?_) (λhl=>?_)⟩;have a3:0<l:=bW hl;show⟨_,rfl,p,_,rfl,zly U,_,rfl,_,_,rfl,rfl,(by change (0:Int)<yt;lia),?_⟩;show⟨_,rfl,p,_,rfl,zly U,_,rfl,_,_,rfl,rfl,⟨by change (0:Int)<yt;lia,h2⟩,_,rfl,p,_,rfl,zoX U _,?_⟩;show⟨_,rfl,k _ _ (cz _ (by lia)) (bZ _ (by lia)) ⟨⟨a,_,zj,Y,by lia,Int.ediv_nonneg ag (by lia)⟩,⟨ob,by rw[zf Z];exact hc⟩,O⟩ (ze6 U)⟩
  ·show⟨_,rfl,p,_,rfl,zt2 U,?_⟩;show⟨_,rfl,_,_,rfl,rfl,_,rfl,p,_,rfl,zt6 U _,?_⟩;have I:upd H p (.dK (zbm c (a+1) l)) p=some (.dK (zbm c (a+1) l)):=zj;have J:upd H p (.dK (zbm c (a+1) l)) c=some (.frz ob (.lst (ns.map V.int))):=by rw[zf Z];exact hc
   generalize av:upd H p (.dK (zbm c (a+1) l))=H1 at I J ⊢;have al:zu H H1:=av ▸ ze6 U;show⟨_,rfl,_,_,rfl,rfl,.inl ⟨by lia,by lia⟩,_,_,rfl,rfl,?_⟩;refine' meet (α:=Int) _ (λz4=>?_) ?_;rotate_left
   
   show⟨_,rfl,p,_,rfl,zid I,_,_,rfl,.inl ⟨_,.inl (.inr ⟨ob,J⟩),rfl⟩,_,_,rfl,rfl,_,rfl,zvx (λhz=>?_) (λhz=>?_)⟩;have an:0<((ns.map V.int).length:Int):=bW hz;obtain⟨B,ap⟩:=zsq ns a an;show⟨_,rfl,p,_,rfl,zid I,_,rfl,_,rfl,p,_,rfl,zid I,_,_,rfl,.inl ⟨_,.inl (.inr ⟨ob,J⟩),rfl⟩,_,_,rfl,rfl,an,c,_,_,_,rfl,rfl,.inl (.inr ⟨ob,J⟩),ap,?_⟩;exact z4 B;exact z4 (31 * a+7)
   ·intro B;have a4:∀ {q:Addr},H1 q=none->p≠q:=λhq=>zc I hq;refine' zwV _ (λz4=>?_) ?_;rotate_left
    ·show⟨_,rfl,_,rfl,p,_,rfl,zid I,_,_,rfl,.inl ⟨_,.inl (.inr ⟨ob,J⟩),rfl⟩,_,_,rfl,rfl,_,rfl,zvx (λh3=>?_) (λh3=>?_)⟩;rotate_left;show iteF ?_;exact z4;show⟨_,rfl,_,rfl,_,_,rfl,rfl,⟨by ext,by ext,by ext⟩,_,_,rfl,rfl,_,rfl,zvx (λh4=>?_) (λh4=>?_)⟩;rotate_left;exact z4;have ha:0<=(if B<0 then -B else B):=by split <;> lia
     show⟨_,rfl,_,rfl,_,rfl,_,_,rfl,rfl,⟨by change (0:Int)<yt;lia,h2⟩,_,rfl,p,_,rfl,zoX I _,?_⟩;show⟨_,rfl,_,rfl,_,rfl,_,_,rfl,rfl,(by change (0:Int)<yt;lia),k _ _ (cz _ (by lia)) (bZ _ (by lia)) ⟨⟨a+1,_,zj,by lia,by lia,Int.ediv_nonneg ha (by lia)⟩,⟨ob,by rw[zf Z];exact J⟩,O⟩ (al.trans (ze6 I))⟩
    obtain⟨a5,a7⟩:=zoc Y ad hn;have a0:=cz B (show (2147483549:Int)≠0 by ext);have a1:=bZ B (show (0:Int)<2147483549 by ext);obtain⟨a8,bb⟩:=zk6 Y ad hn a0 a1;show⟨_,rfl,_,_,rfl,rfl,(by change (0:Int)<2147483549;decide),_,_,rfl,rfl,_,rfl,_,_,rfl,rfl,.inl ⟨by ext,by ext⟩,_,_,rfl,rfl,_,_,rfl,rfl,.inr ⟨by lia,by lia⟩,_,rfl,_,_,rfl,rfl,.inl ⟨by ext,by ext⟩,_,rfl,_,_,rfl,rfl,.inr ⟨by lia,by lia⟩,_,_,rfl,rfl,_,rfl,_,_,rfl,rfl,.inl ⟨by ext,by ext⟩,_,_,rfl,rfl,_,rfl,_,_,rfl,rfl,⟨by ext,by ext,?_⟩,_,_,rfl,rfl,(by change (0:Int)<2147483647;decide),?_⟩;change ((B % 2147483549+70009) * (2 * a+1)+6133 * a * a+577 * a).natAbs<2 ^ 64;lia;generalize bd:(((B % 2147483549+70009) * (2 * a+1)+6133 * a * a+577 * a) ^ (5:Int).toNat:Int)=w1;have w0:=cz w1 (show (2147483647:Int)≠0 by ext);have w2:=bZ w1 (show (0:Int)<2147483647 by ext);show⟨_,rfl,_,rfl,_,_,rfl,rfl,.inl ⟨by ext,by ext⟩,_,_,rfl,rfl,_,_,rfl,rfl,_,_,rfl,rfl,⟨by ext,by ext,?_⟩,_,_,rfl,rfl,(by change (0:Int)<2147483587;decide),?_⟩;change (w1 % 2147483647+5 * a+1).natAbs<2 ^ 64;lia;show⟨_,rfl,_,_,rfl,rfl,⟨by ext,by ext⟩,_,rfl,_,_,rfl,rfl,(by change (0:Int)<yt;lia),?_⟩;exact k _ _ (cz _ (by lia)) (bZ _ (by lia)) ⟨⟨a+1,l,I,by lia,by lia,ag⟩,⟨ob,J⟩,O⟩ al
def zT (T:Txt K mg t):FnOk P w K mg base CX0 1 t.f1 t.d1 lc (spV 2 false zjb):=FnOk.lift (FnOk.mono (zbU T) (by ext)) zkL
def zf1 (T:Txt K mg t):FnOk P w K mg base CX0 2 t.f2 t.d2 lv zo8:=by
 have G1:FnOk P w K mg base CX0 1 t.f1 t.d1 lc zl5:=zbU T;show T.q2.F.okQ zb4 (λvs H Q E h=>?_) (λap A ad s H vs Q E hr h=>?_);obtain⟨p,c,a,ns,n,xs,rfl,_⟩:=h;rfl;obtain⟨p,c,a,ns,n,xs,rfl,hP,hn,hx,ha,k⟩:=h
 show⟨_,(yh (xR (i:=2) zb4.nd rfl (Or.inr rfl) (zat zgE (by rfl) T.b_list cm (zD (qv 1) yc)))
  (uW (zbo (zig (N:=lI) (cix:=[none,some 2,some 0]) rfl (by walk_at "c") (zeR (qv 1)) (λ_ _ _ _=>(zc6 (i:=0) (show (lI:AM).Nodup by decide +kernel) rfl (Or.inl rfl))) (λ_ _ _ _=>zeW) (λ_ _ _ _=>(zre K rfl (qv 1) (zD (znQ T.q1 G1 hr (zD (qv 2) (zD (xk (zpm K rfl) (by rfl) T.b_len aH (zD (qv 1) yc)) yc))) yc))))))),?_⟩
 show⟨_,rfl,a,xs,rfl,.inl (.of ha),λb H1 U Y S1=>?_⟩;show⟨_,rfl,a,rfl,⟨_,.of (S1 _ _ ha)⟩,λacc q=>?_⟩;have P1:=hP.same S1;have ag:c≠acc:=zc P1.ls.choose_spec q;have I:b≠acc:=zc Y q;have al:c≠b:=zc hP.ls.choose_spec U
 show zjx (xs:=xs) q (λi J H'=>(∃v,J=[v,some (.ref b),some (.ref p)])/\∃ys zs:AT,H' acc=some (.lst ys)/\H' b=some (.lst zs)/\(ys++zs).Perm xs/\ys.length=i/\Pen H' p c ns (n+i)/\zu H H')
  (λH' z1 z2=>⟨⟨_,rfl⟩,[],xs,z1,z2 _ _ Y,.refl _,rfl,P1.same z2,zu.same (S1.trans z2)⟩) (λ_ _ _ _ ⟨_,_,_,_,_,_,_,_,S⟩=>.of (S.lst ha)) ?_ ?_
 rintro i y J H' an ⟨⟨v,rfl⟩,ys,zs,L,hb,O,hi,P',S'⟩;have as:=(ac.mp an).1;have hz:=O.length_eq;rw[aj,hi] at hz;show zos ⟨_,rfl,.inl ⟨rfl,_,SqL.of hb⟩,_,rfl,_,rfl,_,_,rfl,.inl ⟨_,.of hb,rfl⟩,p,c,ns,n+i,(zs.length:Int),rfl,P',by lia,by lia,by lia,λr H2 r0 r1 P2 S2=>?_⟩;have hk:r.toNat<zs.length:=by lia
 have Z:=S2.lst hb;have B:=S2.lst L;show⟨b,zs,r,r.toNat,zs[r.toNat],rfl,rfl,Z,by lia,by lia,L3.zo7 r0 r1,ah hk,ys,by rw[zf (Ne.symm I)];exact B,aO (by lia:ys.length<=100000) (by ext),⟨_,rfl⟩,ys++[zs[r.toNat]],zs.eraseIdx r.toNat,zj,by rw[zf I];exact zj,L3.ziK hk O,by rw[aj,hi];rfl,(P2.app Z al).app (by rw[zf (Ne.symm I)];exact B) ag,?_⟩;have Sa:zu H (upd H2 b (.lst (zs.eraseIdx r.toNat))):=zil U (S'.trans S2);exact zil (S1.free q) Sa;rintro J H' ⟨⟨v,rfl⟩,ys,zs,L,hb,O,hi,P',S'⟩;have hz:=O.length_eq;rw[aj,hi] at hz;have:zs=[]:=bi (by lia);subst this;rw[dU] at O;exact k acc ys H' (S1.free q) L O P' S'
def uU (T:Txt K mg t):FnOk P w K mg base CX0 2 t.f2 t.d2 lv (spV 2 true zjf):=FnOk.lift (FnOk.mono (zf1 T) (by ext)) zkM
def zmw  : FV:=λPn B n R=>∃ (p:Addr) (q:Int),B=[.pen p,.d (.int q)]/\(IsP Pn p)/\(n+30<=1000000)/\(4<=q)/\(q<=256)/\(∀rm m,RoomOk rm->yH rm<=q->m<=n+20->R (.d (stD rm)) m)
def zmw.i{q:Int}(B:IsP Pn p)(F:4<=q)(I:q<=256)(h:∀rm m,RoomOk rm->yH rm<=q->m<=n+20->R (.d (stD rm)) m)(J:n+30<=1000000:=by lia):zmw Pn [.pen p,.d (.int q)] n R:=⟨p,q,rfl,B,J,F,I,h⟩
def zeF (T:Txt K mg t):FnOk P w K mg base CX0 2 t.f3 t.d3 lG (spV 2 false zmw):=by
 have G1:=zT (P:=P) (w:=w) (base:=base) T
 show Fun.okW (k:=1) (fr:=false) [4] 5 T.q3.F yx rfl (by ext) rfl λa5 A ap s H E Pn O=>⟨_,(zb (wS zo <| zC (i:=2) yx.nd (wE zq <| yV T.q1 G1 O (za (kv 0) (za zt zd))))
   (zb (wS zo <| zes (i:=3) (zcm (ix:=3) yx.nd rfl rfl (N:=[A1,Ai]) (cix:=[none,some 0]) rfl (by walk_at "c") (wI yA <| zP rfl T.b_range (zh (JE.bo (zac yX zbN (JE.bo zt) (JE.bo (wE zq <| yV T.q1 G1 O (za (kv 0) (za zt zd)))))) zl)) (λ_ _ _ _=>(wG zx <| zi (i:=0) (show ([A1,Ai]:AM).Nodup by decide +kernel))) (λ_ _ _ _=>yU) (λ_ _ _ _=>(zac yX zbN (JE.bo zt) (JE.bo (wE zq <| yV T.q1 G1 O (za (kv 1) (za zt zd))))))))
   (zb (wS zG <| yQ (wT zm <| zw xI zb6 (kb 2) (JE.bo zt) (zy _)) (ze (wS zo <| zC (i:=3) yx.nd (zab y3 zbu (JE.bo (xB (za (xB (za zt zd)) (za (zac zoU zpb (JE.bo (xB (za zt zd))) (JE.bo zt)) (za (zac zoU zpb (JE.bo (xB (za zt zd))) (JE.bo zt)) zd))))) (JE.bo (wE zq <| yV T.q1 G1 O (za (kv 0) (za zt zd)))) (λ_ _=>rfl)))) zJ)
   (zb (wS yq <| xf (i:=4) yx.nd (xB zd))
   (zb (wS zo <| zC (i:=5) yx.nd (kv 1))
   (zb (yD aE rfl (wI yp <| yz K rfl (kv 3)) (wG zx <| zi (i:=6) yx.nd) (ze (wS zG <| yQ (wT zm <| zw zqE zxB (kb 6) (kb 5) (zy _)) (zb (wS ub <| zak 4 (kv 6))
   (ze (wS zo <| zC (i:=5) yx.nd (zac zeK zu8 (kb 5) (kb 6))))) zJ)))
   (ze (zV (xT y6 zbO (by rfl) T.b_tuple bE (zh (kb 4) zl)))))))))),λU n R hF=>?_⟩
 obtain⟨p,q,rfl,hP,hn,m1,m2,r⟩:=hF;left;show dc hP λas w0 w1=>?_;left;show dc hP λt t0 t1=>?_;left;show⟨⟨by lia,by lia⟩,?_⟩;rw[xV];show zhE (List.range (1+t).toNat) (λk:Nat=>W.d (.int (k:Int))) rfl (by rw[aw];exact ar (by lia:_<=100) (by ext)) (λi Z n' acc=>n'=n+2+i/\i<=6/\∃ (v:Option W) (U:AG),Z=[v,some (.pen p)]/\acc=U.map Dt.int/\(∀r∈U,2<=r/\r<=4)/\U.length=i) ⟨by lia,by lia,none,[],rfl,rfl,by simp,rfl⟩ ?_ ?_;rintro i k Z n' acc hk ⟨rfl,hi,v,U,rfl,rfl,hb,hl⟩ C hC;have av:=(ac.mp hk).1;rw[aw] at av;left;show dc hP λx x0 x1=>?_
 exact hC ⟨by lia,by lia,_,U++[2+x],rfl,by rw[az];rfl,λr O=>by
  rcases a9.mp O with z | z;exact hb r z;rw[aD.mp z];lia,by rw[aj,hl];rfl⟩
 rintro Z n' acc ⟨rfl,hi,v,U,rfl,rfl,hb,hl⟩;rw[aw] at hi hl;rw[aw];left;refine' zg9 (λ(zs:AG) (n1:Nat)=>(∀r∈zs,2<=r/\r<=4)/\zs≠[]/\n1<=n+12) _ (λz4=>?_) ?_;rotate_left;show yW (λ_=>?_) (λ_=>?_);left;show⟨⟨by ext,by ext,by ext⟩,?_⟩;left;show⟨⟨by ext,by ext,by ext⟩,?_⟩;left;show dc hP λx x0 x1=>?_;left;show ztG x0 x1 λy hy=>?_
 obtain⟨zs,rfl,hz,a0⟩:∃zs:AG,y=lsD zs/\(∀r∈zs,2<=r/\r<=4)/\zs≠[]:=by
  simp only[aJ,b8,or_false] at hy;rcases hy with rfl | rfl | rfl;exact⟨[4],rfl,by ext,by ext⟩;exact⟨[2,2,2,2,2,2,2,2],rfl,by ext,by ext⟩;exact⟨[4,4,4,4],rfl,by ext,by ext⟩
 left;generalize hk:n+2+(1+t).toNat+1=n1;exact z4 zs n1 ⟨hz,a0,by lia⟩;left;generalize hk:n+2+(1+t).toNat=n1;exact z4 U n1 ⟨hb,λz=>by rw[z] at hl;simp at hl;lia,by lia⟩;rintro U n1 ⟨hb,a1,a7⟩;show yk U (λi=>.d (.int i)) (by rw[ao];rfl) (λi ρ m=>m=n1/\∃ (I:AG) (L:Int) (v6:Option W),ρ=[some (.pen p),some (.d (.int q)),some (.d (.int as)),some (.d (lsD U)),some (.d (lsD I)),some (.d (.int L)),v6]/\(∀r∈I,2<=r/\r<=4)/\yH I * L<=q/\1<=L/\L<=q/\(i=0->L=q)/\(1<=i->I≠[])) ⟨rfl,[],q,_,rfl,by simp,by change 1 * q<=q;lia,by lia,by lia,λ_=>rfl,by lia⟩ ?_ ?_;rintro i a ρ m ha ⟨rfl,I,L,v6,rfl,J,hp,Y,ag,al,ad⟩ C B E hC _ _;have an:=hb a (aA ha);have a2:=zbn (ns:=I) λr O=>by have:=J r O;lia
 have h8:I.length<=8:=zbY J (by have:yH I * 1<=yH I * L:=cL Y (by lia);lia);left;show yW (λh=>?_) (λh=>?_);obtain⟨q1,q2,q3⟩:=zlV J an hp h;left;show⟨by rw[ab];exact aO h8 (by ext),?_⟩;left;show⟨⟨by lia,by lia⟩,hC ⟨rfl,I++[a],L / a,some (.d (.int a)),?_,?_,q1,q2,by lia,by lia,λ_=>by simp⟩⟩;rw[show lsD (I++[a])=Dt.lst (I.map Dt.int++[Dt.int a]) by unfold lsD;rw[az];rfl];intro r O;rcases a9.mp O with z | z;exact J r z;rw[aD.mp z];exact an;left
 exact hC ⟨rfl,I,L,_,rfl,J,hp,Y,ag,λz=>by lia,λ_=>by
  by_cases h0:i=0;have:=al h0;lia;exact ad (by lia)⟩
 rintro ρ m ⟨rfl,I,L,v6,rfl,J,hp,Y,ag,al,ad⟩;have a2:=zbn (ns:=I) λr O=>by have:=J r O;lia
 have a3:yH I<=q:=by have:yH I * 1<=yH I * L:=cL Y (by lia);lia
 have a4:0<U.length:=en.mpr a1;left;exact r I _ ⟨ad (by lia),zbY J (by lia),J⟩ a3 (by lia)
def zdD  : FV:=λPn q n R=>∃ (rm:AG),q=[.d (stD rm)]/\(RoomOk rm)/\(R (.d (uu (xn (rm.map zk)))) n)
def zdD.i{rm:AG}(q:RoomOk rm)(h:R (.d (uu (xn (rm.map zk)))) n)  : zdD Pn [.d (stD rm)] n R:=⟨rm,rfl,q,h⟩
def xi (T:Txt K mg t):FnOk P w K mg base CX0 1 t.f4 t.d4 lx (spV 1 false zdD):=by
 show Fun.okW (k:=0) (fr:=false) [3] 4 T.q4.F zZ rfl (by ext) rfl λal A U s H E Pn hr=>⟨_,(zb (wS zo <| zC (i:=1) zZ.nd (xB (za (yP zd) zd)))
   (zb (yD aE rfl (wI uR <| za9 K rfl (kv 0)) (wG zx <| zi (i:=2) zZ.nd) (zb (wS yq <| xf (i:=3) zZ.nd (xB zd))
   (zb (yD aE rfl (wI yp <| yz K rfl (kv 1)) (wG zx <| zi (i:=4) zZ.nd) (ze (wS zg6 <| zkC 3 (xc (N:=lC) (cix:=[none,some 4]) rfl (by walk_at "c") (wI yA <| zP rfl T.b_range (zh (kb 2) zl)) (λ_ _ _ _=>(wG zx <| zi (i:=0) (show (lC:AM).Nodup by decide +kernel))) (λ_ _ _ _=>yU) (λ_ _ _ _=>(zac yM xS (kb 1) (JE.bo (yP (za (kv 0) zd)))))))))
   (ze (wS zez <| zg1 (i:=1) 3 zZ.nd rfl (Or.inl rfl))))))
   (ze (zV (kv 1))))),λws n R hF=>?_⟩
 obtain⟨rm,rfl,Y,r⟩:=hF;left;have h8:=Y.few;show yk rm (λi=>.d (.int i)) (by rw[ao];rfl) (λi ρ m=>m=n/\∃ (Z v3 L:Option W),ρ=[some (.d (stD rm)),some (.d (uu (xn ((rm.take i).map zk)))),Z,v3,L]) ⟨rfl,_,_,_,rfl⟩ ?_ ?_;rintro i a ρ m ha ⟨rfl,Z,v3,L,rfl⟩ C B E hC _ _;have hm:=Y.box a (aA ha);have O:=zec h8 Y.box i;have J:∀st∈xn ((rm.take i).map zk),st.length<=8:=λst ad=>by rw[zeb _ _ ad,ab,aM];lia
 have q:x3 (xn ((rm.take i).map zk)) (zk a)=xn ((rm.take (i+1)).map zk):=by rw[zn ha,az,ax,dz,xa]
 generalize xn ((rm.take i).map zk)=rows at O J q;left;show yk rows (λst=>.d (stD st)) (by rw[ao];rfl) (λj ρ m'=>m'=m/\∃L,ρ=[some (.d (stD rm)),some (.d (uu rows)),some (.d (.int a)),some (.d (uu (x3 (rows.take j) (zk a)))),L]) ⟨rfl,_,rfl⟩ ?_ ?_;rintro j I ρ m' hj ⟨rfl,L,rfl⟩ C' B' E' ag _ _;have an:=J I (aA hj);have ap:=(ac.mp hj).1;left;show⟨⟨by lia,by lia⟩,?_⟩;rw[xV];show zah (List.range a.toNat) (λk:Nat=>W.d (.int (k:Int))) rfl (λρ=>∃v,ρ=[v,some (.d (stD I))]) (λk:Nat=>stD (I++[(k:Int)])) (by rw[aw];exact ar (by lia:_<=4) (by ext)) ⟨_,rfl⟩ ?_ ?_;rintro k hk as ⟨v,rfl⟩ D hD;left;show⟨len1 (by lia),?_⟩;rw[cat1];exact hD ⟨_,rfl⟩;have e:(List.range a.toNat).map (λk:Nat=>stD (I++[(k:Int)]))=((zk a).map λw=>I++[w]).map stD:=by unfold zk;rw[ao,ao];rfl
 rw[e];have hl:(x3 (rows.take j) (zk a)).length=(rows.take j).length * a.toNat:=by rw[uz,zK]
 have av:(rows.take j).length * a.toNat<=65536 * 4:=du (by rw[aM];lia) (by lia);show⟨?_,?_⟩;rw[ab,ab,ab,zK,hl];exact ar (by lia:_<=300000) (by ext);rw[<- az,<- zcz,<- zn hj];exact ag ⟨rfl,_,rfl⟩;rintro ρ m' ⟨rfl,L,rfl⟩;rw[bg,q];left;exact hC ⟨rfl,_,_,_,rfl⟩;rintro ρ m ⟨rfl,Z,v3,L,rfl⟩;rw[bg];left;exact r
def zjg  : FV:=λPn B n R=>∃ (p:Addr) (q:Int),B=[.pen p,.d (.int q)]/\(IsP Pn p)/\(n+10<=1000000)/\(2<=q)/\(q<=4)/\(∀a b,0<=a->a<q->0<=b->b<q->a≠b->R (.d (.tup [.int a,.int b])) (n+2))
def zjg.i{q:Int}(B:IsP Pn p)(h2:2<=q)(F:q<=4)(h:∀a b,0<=a->a<q->0<=b->b<q->a≠b->R (.d (.tup [.int a,.int b])) (n+2))(I:n+10<=1000000:=by lia):zjg Pn [.pen p,.d (.int q)] n R:=⟨p,q,rfl,B,I,h2,F,h⟩
def zbV (T:Txt K mg t):FnOk P w K mg base CX0 2 t.f5 t.d5 lc (spV 2 false zjg):=by
 have G1:=zT (P:=P) (w:=w) (base:=base) T
 show Fun.okW (k:=1) (fr:=false) [] 1 T.q5.F zdk rfl (by ext) rfl λO A B s H E Pn J=>⟨_,(zb (wS zo <| zC (i:=2) zdk.nd (wE zq <| yV T.q1 G1 J (za (kv 0) (za (kv 1) zd))))
   (ze (zV (yP (za (kv 2) (za (zac zbl zva (JE.bo (zac yX zbN (JE.bo (zac yX zbN (kb 2) (JE.bo zt))) (JE.bo (wE zq <| yV T.q1 G1 J (za (kv 0) (za (zac zoV zvb (kb 1) (JE.bo zt)) zd)))))) (kb 1)) zd)))))),λws n R U=>?_⟩
 obtain⟨p,q,rfl,L,hn,h2,h4,r⟩:=U;left;show dc L λwo Y Z=>?_;left;show dc L λt t0 t1=>?_;left;show⟨by lia,?_⟩;have c0:=cz (wo+1+t) (show q≠0 by lia);have c1:=bZ (wo+1+t) (show 0<q by lia)
 have I:(wo+1+t) % q≠wo:=by
  have h3:q=2\/q=3\/q=4:=by lia
  rcases h3 with rfl | rfl | rfl <;> lia
 exact r _ _ Y Z c0 c1 (Ne.symm I)
def zjc  : FV:=λPn q n R=>∃ (p:Addr) (rm:AG),q=[.pen p,.d (stD rm)]/\(IsP Pn p)/\(n+60<=1000000)/\(RoomOk rm)/\(∀x m,WishOk rm x->m<=n+30->R (.d (zU x)) m)
def zjc.i{rm:AG}(q:IsP Pn p)(B:RoomOk rm)(h:∀x m,WishOk rm x->m<=n+30->R (.d (zU x)) m)(F:n+60<=1000000:=by lia):zjc Pn [.pen p,.d (stD rm)] n R:=⟨p,rm,rfl,q,F,B,h⟩
def zbj (T:Txt K mg t):FnOk P w K mg base CX0 3 t.f6 t.d6 la (spV 2 false zjc):=by
 have G1:=zT (P:=P) (w:=w) (base:=base) T;have G5:=zbV (P:=P) (w:=w) (base:=base) T
 show Fun.okW (k:=2) (fr:=false) [4] 6 T.q6.F yN rfl (by ext) rfl λas A ad s H E Pn U=>⟨_,(zb (wS zo <| zC (i:=2) yN.nd (wE zq <| yV T.q1 G1 U (za (kv 0) (za (zF z5 xz (by rfl) T.b_len aH (zh (kb 1) zl)) zd))))
   (zb (wS zo <| zC (i:=3) yN.nd (zac yX zbN (JE.bo zt) (JE.bo (wE zq <| yV T.q1 G1 U (za (kv 0) (za zt zd))))))
   (zb (wS yq <| xf (i:=4) yN.nd (xB zd))
   (zb (yD aE rfl (wI yA <| zP rfl T.b_range (zh (JE.bo (zF z5 xz (by rfl) T.b_len aH (zh (kb 1) zl))) zl)) (wG zx <| zi (i:=5) yN.nd) (ze (wS zG <| yQ (JW.t (wW ua <| zal (wT zm <| zw zf9 zpa (kb 5) (kb 2) (zy _)) (xC (.inl rfl) (wT zm <| zw xI zb6 (JE.bo (wE zq <| yV T.q1 G1 U (za (kv 0) (za (kv 3) zd)))) (JE.bo zt) (zy _))))) (ze (wS ub <| zak 4 (yP (za (kv 5) (za (wE zq <| yV T.q1 G1 U (za (kv 0) (za (zab yF ug (kb 1) (kb 5) (λ_ _=>rfl)) zd))) zd))))) zJ)))
   (zb (zkA (wE zq <| yV T.q5 G5 U (za (kv 0) (za (zab yF ug (kb 1) (kb 2) (λ_ _=>rfl)) zd))) (wG x6 <| x8 (n:=2) K rfl rfl (wH zS <| zr (wG zx <| zi (i:=6) yN.nd) (wH zS <| zr (wG zx <| zi (i:=7) yN.nd) (wH x5 yY)))))
   (ze (zV (yP (za (xT y6 zbO (by rfl) T.b_tuple bE (zh (kb 4) zl)) (za (kv 2) (za (kv 6) (za (kv 7) zd)))))))))))),λws n R hF=>?_⟩
 obtain⟨p,rm,rfl,Y,hn,hR,r⟩:=hF;left;have h8:=hR.few;have ap:=hR.pos;rw[ab];show dc Y λI b0 b1=>?_;have hm:=yi hR.box b0 b1;left;show dc Y λsh s0 s1=>?_;left;rw[ab];show⟨⟨by lia,by lia⟩,u6 (λi ρ m=>m<=n+2+2 * i/\i<=rm.length/\∃g O,ρ=[some (.pen p),some (.d (stD rm)),some (.d (.int I)),some (.d (.int (2+sh))),some (.d (.lst (g.map zQ))),O,none,none]/\Giv rm g/\(∀q∈g,q.1≠I)/\(∀q∈g,q.1<(i:Int))/\g.length<=i) ⟨by lia,aG _,[],_,rfl,⟨by simp,.nil⟩,by simp,by simp,aG _⟩ ?_ ?_⟩;rintro i ρ m hi ⟨ag,al,g,O,rfl,hG,J,L,an⟩ C B E hC _ _;have av:=yi hR.box (b:=(i:Int)) (by lia) (by lia);have Z:∀m',m'<=m+1->∀O,C [some (.pen p),some (.d (stD rm)),some (.d (.int I)),some (.d (.int (2+sh))),some (.d (.lst (g.map zQ))),O,none,none] m':=λm' a2 O=>hC ⟨by lia,by lia,g,_,rfl,hG,J,λq hq=>by have:=L q hq;lia,by lia⟩;left;show ziX (λhb=>?_) (λ_=>⟨Z _ (by lia) _⟩);left;show dc Y λt t0 t1=>?_;left;show yW (λ_=>?_) (λ_=>⟨Z _ (by lia) _⟩);left;show onA (by lia) (by lia) ?_;left;show dc Y λu u0 u1=>?_;left;show⟨by rw[ab];exact aO (by lia:_<=8) (by ext),hC ⟨by lia,by lia,g++[((i:Int),u)],_,by rw[az];rfl,hG.snoc L (by lia) (by lia) u0 u1,λq hq=>?_,λq hq=>?_,by rw[aj];simp;lia⟩⟩;rcases a9.mp hq with z | z;exact J q z;rw[aD.mp z];exact hb;rcases a9.mp hq with z | z;have:=L q z;lia;rw[aD.mp z];change (i:Int)<((i+1:Nat):Int);lia;rintro ρ m ⟨ag,al,g,O,rfl,hG,J,L,an⟩;left;show onA b0 b1 ?_;left;show zjg.i Y hm.1 hm.2 λa b a0 a1 c0 c1 ne=>?_;left;exact r ⟨g,I,a,b⟩ _ ⟨hG,b0,b1,J,a0,a1,c0,c1,ne⟩ (by lia)
def zms  : FV:=λPn F n R=>∃ (rm B:AG),F=[.d (stD rm),.d (lsD B)]/\(RoomOk rm)/\(B.Nodup)/\(∀b∈B,0<=b/\b<rm.length)/\(B.length<=2)/\(∀gs:List (List (Int×Int)),(∀g∈gs,Giv rm g/\∀q∈g,q.1∈B)->gs.length<=16->R (.d (.lst (gs.map zfc))) n)
def zms.i{rm B:AG}(F:RoomOk rm)(I:B.Nodup)(J:∀b∈B,0<=b/\b<rm.length)(h2:B.length<=2)(h:∀gs:List (List (Int×Int)),(∀g∈gs,Giv rm g/\∀q∈g,q.1∈B)->gs.length<=16->R (.d (.lst (gs.map zfc))) n)  : zms Pn [.d (stD rm),.d (lsD B)] n R:=⟨rm,B,rfl,F,I,J,h2,h⟩
def zbI (T:Txt K mg t):FnOk P w K mg base CX0 1 t.f7 t.d7 lE (spV 2 false zms):=by
 show Fun.okW (k:=0) (fr:=false) [4] 4 T.q7.F yf rfl (by ext) rfl λa2 A al s H E Pn hr=>⟨_,(zb (wS zo <| zC (i:=2) yf.nd (xB (za (yP zd) zd)))
   (zb (yD aE rfl (wI yp <| yz K rfl (zF zmK zr4 (by rfl) T.b_sorted cD (zh (kb 1) zl))) (wG zx <| zi (i:=3) yf.nd) (zb (wS yq <| xf (i:=4) yf.nd (xB zd))
   (zb (yD aE rfl (wI yp <| yz K rfl (kv 2)) (wG zx <| zi (i:=5) yf.nd) (ze (wS zg6 <| zkC 4 (xc (N:=lJ) (cix:=[none,some 5,some 3]) rfl (by walk_at "c") (wI yA <| zP rfl T.b_range (zh (JE.bo (zab yF ug (kb 0) (kb 3) (λ_ _=>rfl))) zl)) (λ_ _ _ _=>(wG zx <| zi (i:=0) (show (lJ:AM).Nodup by decide +kernel))) (λ_ _ _ _=>yU) (λ_ _ _ _=>(zac yM xS (kb 1) (JE.bo (yP (za (yP (za (kv 2) (za (kv 0) zd))) zd)))))))))
   (ze (wS zez <| zg1 (i:=2) 4 yf.nd rfl (Or.inl rfl))))))
   (ze (zV (kv 2))))),λws n R hF=>?_⟩
 obtain⟨rm,bs,rfl,hR,hN,hb,h2,r⟩:=hF;left;have h8:=hR.few;show⟨bs,rfl,by lia,λcs hp hs=>?_⟩;have an:cs.Nodup:=hp.nodup_iff.mpr hN;have ap:cs.Pairwise (· < ·):=(hs.and an).imp λ{a b} ⟨h1,h2⟩=>by lia
 have ad:∀c∈cs,c∈bs:=λc hc=>hp.mem_iff.mp hc;have a3:=hp.length_eq;left;show yk cs (λi=>.d (.int i)) (by rw[ao];rfl) (λi ρ m=>m=n/\∃ (gs:List (List (Int×Int))) (v3 v4 U:Option W),ρ=[some (.d (stD rm)),some (.d (lsD bs)),some (.d (.lst (gs.map zfc))),v3,v4,U]/\(∀g∈gs,Giv rm g/\∀q∈g,q.1∈cs.take i)/\gs.length<=4 ^ i) ⟨rfl,[[]],_,_,_,rfl,λg Y=>?_,by ext⟩ ?_ ?_;rw[aD.mp Y];exact⟨⟨by simp,.nil⟩,by simp⟩;rintro i c ρ m hc ⟨rfl,gs,v3,v4,U,rfl,J,as⟩ C B E hC _ _;have I:=hb c (ad c (aA hc));have a4:=yi hR.box I.1 I.2;have hi:=(ac.mp hc).1;have av:4 ^ i<=4:=cx (by ext) (by lia:i<=1);have ag:∀x∈cs.take i,x<c:=λx hx=>by obtain⟨j,hj,rfl⟩:=ba.mp hx;rw[aM] at hj;have:=bY.mp ap j i (by lia) hi (by lia);rw[(ac.mp hc).2] at this;rw[cC];exact this
 left;show yk gs (λg=>.d (zfc g)) (by rw[ao];rfl) (λj ρ m'=>m'=m/\∃ (lg:List (List (Int×Int))) (U:Option W),ρ=[some (.d (stD rm)),some (.d (lsD bs)),some (.d (.lst (gs.map zfc))),some (.d (.int c)),some (.d (.lst (lg.map zfc))),U]/\(∀g∈lg,Giv rm g/\∀q∈g,q.1∈cs.take (i+1))/\lg.length<=j * 4) ⟨rfl,[],_,rfl,by simp,by simp⟩ ?_ ?_;rintro j g ρ m' Y ⟨rfl,lg,U,rfl,Z,a0⟩ C' B' E' a1 _ _;have L:=J g (aA Y);have a5:=zj7 L.1 h8;have hj:=(ac.mp Y).1;left;show onA I.1 I.2 ?_;left;show⟨⟨by lia,by lia⟩,?_⟩;rw[xV];show zah (List.range (yt rm c).toNat) (λk:Nat=>W.d (.int (k:Int))) rfl (λρ=>∃v,ρ=[v,some (.d (zfc g)),some (.d (.int c))]) (λk:Nat=>zfc (g++[(c,(k:Int))])) (by rw[aw];exact ar (by lia:_<=4) (by ext)) ⟨_,rfl⟩ ?_ ?_;rintro k hk a7 ⟨v,rfl⟩ D hD;left;show⟨by rw[ab];exact ar (by simp;lia:_<=101) (by ext),?_⟩;rw[show g.map zQ++[Dt.tup [Dt.int c,Dt.int (k:Int)]]=(g++[(c,(k:Int))]).map zQ by rw[az];rfl];exact hD ⟨_,rfl⟩;have e:(List.range (yt rm c).toNat).map (λk:Nat=>zfc (g++[(c,(k:Int))]))=((List.range (yt rm c).toNat).map λk:Nat=>g++[(c,(k:Int))]).map zfc:=by rw[ao];rfl
 rw[e];show⟨by rw[ab,ab,ab,aw];exact ar (by lia:_<=100) (by ext),?_⟩;rw[<- az];show a1 ⟨rfl,_,_,rfl,λz hz=>?_,by rw[aj,ab,aw];lia⟩;rcases a9.mp hz with hz | hz;exact Z z hz;obtain⟨k,hk,rfl⟩:=aF.mp hz;have hk:=aX.mp hk;show⟨L.1.snoc (λq O=>ag _ (L.2 q O)) I.1 I.2 (by lia) (by lia),λq O=>?_⟩;rw[zn hc];rcases a9.mp O with O | O;exact bS _ (L.2 q O);rw[aD.mp O];exact aZ _ (by simp);rintro ρ m' ⟨rfl,lg,U,rfl,Z,a0⟩;left;exact hC ⟨rfl,lg,_,_,_,rfl,Z,by rw[Nat.pow_succ];lia⟩;rintro ρ m ⟨rfl,gs,v3,v4,U,rfl,J,as⟩;rw[bg] at J;have av:4 ^ cs.length<=16:=cx (by ext) (by lia:cs.length<=2);left;exact r gs (λg Y=>⟨(J g Y).1,λq O=>ad _ ((J g Y).2 q O)⟩) (by lia)
def ziy  : FV:=λPn q n R=>∃ (p:Addr) (rm:AG),q=[.pen p,.d (stD rm)]/\(IsP Pn p)/\(n+2000<=1000000)/\(RoomOk rm)/\(∀bk m,yS rm bk->bk.length<=400->m<=n+1000->R (.d (.lst (bk.map zU))) m)
def ziy.i{rm:AG}(q:IsP Pn p)(B:RoomOk rm)(h:∀bk m,yS rm bk->bk.length<=400->m<=n+1000->R (.d (.lst (bk.map zU))) m)(F:n+2000<=1000000:=by lia):ziy Pn [.pen p,.d (stD rm)] n R:=⟨p,rm,rfl,q,F,B,h⟩
def uD (T:Txt K mg t):FnOk P w K mg base CX0 3 t.f8 t.d8 la (spV 2 true ziy):=by
 have G1:=zT (P:=P) (w:=w) (base:=base) T;have G2:=uU (P:=P) (w:=w) (base:=base) T;have G7:=zbI (P:=P) (w:=w) (base:=base) T
 show Fun.okW (k:=2) (fr:=true) [3] 8 T.q8.F zI rfl (by ext) rfl λb4 A a7 s H E Pn hr=>⟨_,(zb (wS zo <| zC (i:=2) zI.nd (wE zq <| yV T.q2 G2 hr (za (kv 0) (za (wE uc <| zaj T.b_list T.b_range (zh (JE.bo (zF z5 xz (by rfl) T.b_len aH (zh (kb 1) zl))) zl)) zd))))
   (zb (wS yq <| xf (i:=3) zI.nd (xB zd))
   (zb (yD aE rfl (wI zco <| zcl rfl T.b_enumerate (za (kv 2) zd)) (wG x6 <| x8 (n:=2) K rfl rfl (wH zS <| zr (wG zx <| zi (i:=4) zI.nd) (wH zS <| zr (wG zx <| zi (i:=5) zI.nd) (wH x5 yY)))) (zb (wS zo <| zC (i:=6) zI.nd (wE zap <| zfM (JE.bo (xc (N:=[As,Ai]) (cix:=[none,some 0]) rfl (by walk_at "c") (wI yp <| yz K rfl (wE zap <| zfM (kb 2) yd (wO zO <| ye (kb 4)))) (λ_ _ _ _=>(wG zx <| zi (i:=0) (show ([As,Ai]:AM).Nodup by decide +kernel))) (λ_ _ _ _=>(xg (wT zm <| zw xI zb6 (JE.bo (wE zq <| yV T.q1 G1 hr (za (kv 1) (za zt zd)))) (JE.bo zt) (zy _)))) (λ_ _ _ _=>(kv 0)))) yd (wO zO <| ye (JE.bo zt))))
   (ze (yD aE rfl (wI yp <| yz K rfl (wE zq <| yV T.q7 G7 hr (za (kv 1) (za (kv 6) zd)))) (wG zx <| zi (i:=7) zI.nd) (zb (wS zo <| zC (i:=8) zI.nd (wE zq <| yV T.q2 G2 hr (za (kv 0) (za (wE uc <| zaj T.b_list T.b_range (zh (JE.bo (zab yF ug (kb 1) (kb 5) (λ_ _=>rfl))) zl)) zd))))
   (ze (yD aE rfl (wI yA <| zP rfl T.b_range (zh (JE.bo (zac zoV zvb (JE.bo (zF z5 xz (by rfl) T.b_len aH (zh (kb 8) zl))) (JE.bo zt))) zl)) (wG zx <| zi (i:=9) zI.nd) (ze (wS ub <| zak 3 (yP (za (kv 7) (za (kv 5) (za (zab y3 zbu (kb 8) (kb 9) (λ_ _=>rfl)) (za (zab y3 zbu (kb 8) (JE.bo (zac yX zbN (kb 9) (JE.bo zt))) (λ_ _=>rfl)) zd))))))))))))))
   (ze (wS uS <| zaU 3))))),λws n R hF=>?_⟩
 obtain⟨p,rm,rfl,hP,hn,hR,r⟩:=hF;left;have h8:=hR.few;rw[ab];show⟨⟨by lia,by lia⟩,?_⟩;left;show tc hP (λl hl=>?_) (by rw[zaG];lia) (by rw[zaG];lia);rw[zaG];obtain⟨J,rfl,ag⟩:=zie hl;have av:J.Nodup:=ag.nodup_iff.mpr (xJ _);have a0:∀b∈J,0<=b/\b<rm.length:=λb hb=>by have:=zW.mp (ag.mem_iff.mp hb);lia
 have a8:=ag.length_eq;rw[zK] at a8;left;have b3:J.length<=8:=by lia
 generalize ca:n+(rm.length:Int).toNat=n1;show yk (List.range J.length) (λi=>W.d (.tup [.int (i:Int),.int (J.getD i 0)])) (zpA J) (λi ρ m=>m<=n1+100 * i/\∃ (bk:AW) (v4 v5 v6 v7 v8 Y:Option W),ρ=[some (.pen p),some (.d (stD rm)),some (.d (.lst (J.map Dt.int))),some (.d (.lst (bk.map zU))),v4,v5,v6,v7,v8,Y]/\yS rm bk/\bk.length<=48 * i) ⟨by lia,[],_,_,_,_,_,_,rfl,by intro x hx;simp at hx,by simp⟩ ?_ ?_;rintro i k ρ m bb ⟨hm,bk,v4,v5,v6,v7,v8,Y,rfl,Z,L⟩ C B E hC _ _;obtain⟨O,a1⟩:=ac.mp bb;rw[aw] at O;rw[bF] at a1;subst a1;have I:=a0 _ (zcG O);have ad:=zrV av O;generalize J.getD i 0=box at I ad;have cc:=yi hR.box I.1 I.2;left;rw[xq,L3.zci];have cd:(J.take i).length<=8:=by rw[aM];lia
 show zhE (J.take i) (λx=>W.d (.int x)) (by rw[ao];rfl) (ar (by lia:_<=100) (by ext)) (λj al n' acc=>n'=m+j/\∃ (v:Option W) (ls:AG),al=[v,some (.pen p)]/\acc=ls.map Dt.int/\ls.Sublist ((J.take i).take j)) ⟨by lia,none,[],rfl,rfl,List.nil_sublist _⟩ ?_ ?_;rintro j x al n' acc hx ⟨rfl,v,ls,rfl,rfl,hs⟩ D hD;have ch:=(ac.mp hx).1;left;show dc hP (λt t0 t1=>?_) (by lia);left;show yW (λ_=>?_) (λ_=>?_);show hD ⟨by lia,_,ls++[x],rfl,by rw[az];rfl,?_⟩;rw[zn hx];exact hs.append (List.Sublist.refl _);show hD ⟨by lia,_,ls,rfl,rfl,?_⟩;rw[zn hx];exact hs.trans (List.sublist_append_left _ _);rintro al n' acc ⟨rfl,v,ls,rfl,rfl,hs⟩;rw[bg] at hs;left;rw[xq,show (2:Int)=((2:Nat):Int) from rfl,L3.zci];have an:=(dn 2 ls).trans hs;have ap:∀x∈ls.take 2,x∈J/\x≠box:=λx hx=>⟨bT (an.subset hx),λe=>ad (by rw[<- e];exact an.subset hx)⟩;have a2:(ls.take 2).Nodup:=(av.sublist (dn _ _)).sublist an;have a3:(ls.take 2).length<=2:=by rw[aM];lia
 generalize ls.take 2=lk at ap a2 a3;generalize cl:m+(J.take i).length=n2;left;show zms.i hR a2 (λb hb=>a0 b (ap b hb).1) a3 λgs bd cn=>?_;left;show yk gs (λg=>.d (zfc g)) (by rw[ao];rfl) (λj ρ m'=>m'<=n2+4 * j/\∃ (bk:AW) (v7 v8 Y:Option W),ρ=[some (.pen p),some (.d (stD rm)),some (.d (.lst (J.map Dt.int))),some (.d (.lst (bk.map zU))),some (.d (.int (i:Int))),some (.d (.int box)),some (.d (.lst (lk.map Dt.int))),v7,v8,Y]/\yS rm bk/\bk.length<=48 * i+3 * j) ⟨by lia,bk,_,_,_,rfl,Z,by lia⟩ ?_ ?_;rintro j g ρ m' hg ⟨bl,bk,v7,v8,Y,rfl,Z,L⟩ C' B' E' bx _ _;have a4:=bd g (aA hg);have hj:=(ac.mp hg).1;left;show onA I.1 I.2 ?_;left;show⟨⟨by lia,by lia⟩,?_⟩;left;show tc hP (λl hl=>?_) (by rw[zaG];lia) (by rw[zaG];lia);rw[zaG];obtain⟨U,rfl,as⟩:=zie hl;have b0:U.Nodup:=as.nodup_iff.mpr (xJ _);have b1:=as.length_eq;rw[zK] at b1;have a5:∀x∈U,0<=x/\x<yt rm box:=λx hx=>by have:=zW.mp (as.mem_iff.mp hx);lia
 left;rw[ab];show⟨⟨by lia,by lia⟩,u6 (λk ρ m2=>m2=m'+(yt rm box).toNat/\∃ (bk:AW) (Y:Option W),ρ=[some (.pen p),some (.d (stD rm)),some (.d (.lst (J.map Dt.int))),some (.d (.lst (bk.map zU))),some (.d (.int (i:Int))),some (.d (.int box)),some (.d (.lst (lk.map Dt.int))),some (.d (zfc g)),some (.d (.lst (U.map Dt.int))),Y]/\yS rm bk/\bk.length<=48 * i+3 * j+k) ⟨rfl,bk,_,rfl,Z,by lia⟩ ?_ ?_⟩;rintro k ρ m2 hk ⟨rfl,bk,Y,rfl,Z,L⟩ C2 B2 E2 b2 _ _;have O:k+1<U.length:=by lia
 left;show onA (cP k) (by lia) ?_;left;show onA (by lia) (by lia) ?_;rw[show ((k:Int)+1)=((k+1:Nat):Int) from rfl,ym,ym];have q1:=a5 _ (zcG (i:=k) (by lia));have q2:=a5 _ (zcG O)
 have q3:U.getD k 0≠U.getD (k+1) 0:=λe=>by
  have e1:U.getD k 0=U[k]:=by simp[show k<U.length by lia]
  have e2:U.getD (k+1) 0=U[k+1]:=by simp[O]
  rw[e1,e2] at e;have:=(bI b0).mp e;lia
 left;show⟨by rw[ab];exact aO (by lia:_<=1000) (by ext),?_⟩;show b2 ⟨rfl,bk++[⟨g,box,U.getD k 0,U.getD (k+1) 0⟩],_,by rw[az];rfl,Z.app λy hy=>?_,by rw[aj];simp;lia⟩;rw[aD.mp hy];exact⟨a4.1,I.1,I.2,λq hq=>(ap _ (a4.2 q hq)).2,q1.1,q1.2,q2.1,q2.2,q3⟩;rintro ρ m2 ⟨rfl,bk,Y,rfl,Z,L⟩;left;exact bx ⟨by lia,bk,_,_,_,rfl,Z,by lia⟩;rintro ρ m' ⟨bl,bk,v7,v8,Y,rfl,Z,L⟩;left;exact hC ⟨by lia,bk,_,_,_,_,_,_,rfl,Z,by lia⟩;rintro ρ m ⟨hm,bk,v4,v5,v6,v7,v8,Y,rfl,Z,L⟩;rw[aw] at hm L;left;exact r bk m Z (by lia) (by lia)
def zwn (a b:AG):Nat:=((List.range a.length).filter λk=>!decide (a.getD k 0=b.getD k 0)).headD 0
def zfh  : FV:=λPn q n R=>∃ (rm a b:AG),q=[.d (stD a),.d (stD b)]/\(RoomOk rm)/\(StOk rm a)/\(StOk rm b)/\(a≠b)/\(∀x,WishOk rm x->x=zmW a b (zwn a b)->R (.d (zU x)) n)
def zfh.i{rm a b:AG}(B:RoomOk rm)(F:StOk rm a)(I:StOk rm b)(q:a≠b)(h:∀x,WishOk rm x->x=zmW a b (zwn a b)->R (.d (zU x)) n)  : zfh Pn [.d (stD a),.d (stD b)] n R:=⟨rm,a,b,rfl,B,F,I,q,h⟩
def zbi (T:Txt K mg t):FnOk P w K mg base CX0 1 t.f9 t.d9 lm (spV 2 false zfh):=by
 show Fun.okW (k:=0) (fr:=false) [] 2 T.q9.F zaw rfl (by ext) rfl λag A B s H E Pn hr=>⟨_,(zb (wS zo <| zC (i:=2) zaw.nd (zab y3 zbu (JE.bo (xc (N:=lN) (cix:=[none,some 0,some 1]) rfl (by walk_at "c") (wI yA <| zP rfl T.b_range (zh (JE.bo (zF z5 xz (by rfl) T.b_len aH (zh (kb 0) zl))) zl)) (λ_ _ _ _=>(wG zx <| zi (i:=0) (show (lN:AM).Nodup by decide +kernel))) (λ_ _ _ _=>(xg (wT zm <| zw zf9 zpa (JE.bo (zab yF ug (kb 1) (kb 0) (λ_ _=>rfl))) (JE.bo (zab yF ug (kb 2) (kb 0) (λ_ _=>rfl))) (zy _)))) (λ_ _ _ _=>(kv 0)))) (JE.bo zt) (λ_ _=>rfl)))
   (zb (wS zo <| zC (i:=3) zaw.nd (xT y6 zbO (by rfl) T.b_tuple bE (zh (JE.bo (xc (N:=lO) (cix:=[none,some 0,some 2]) rfl (by walk_at "c") (wI yA <| zP rfl T.b_range (zh (JE.bo (zF z5 xz (by rfl) T.b_len aH (zh (kb 0) zl))) zl)) (λ_ _ _ _=>(wG zx <| zi (i:=0) (show (lO:AM).Nodup by decide +kernel))) (λ_ _ _ _=>(xg (wT zm <| zw zf9 zpa (kb 0) (kb 2) (zy _)))) (λ_ _ _ _=>(yP (za (kv 0) (za (zab yF ug (kb 1) (kb 0) (λ_ _=>rfl)) zd)))))) zl)))
   (ze (zV (yP (za (kv 3) (za (kv 2) (za (zab yF ug (kb 1) (kb 2) (λ_ _=>rfl)) (za (zab yF ug (kb 0) (kb 2) (λ_ _=>rfl)) zd))))))))),λws n R hF=>?_⟩
 obtain⟨rm,a,b,rfl,hR,ha,hb,I,r⟩:=hF;left;have J:=ha.len;have L:=hb.len;have h8:=hR.few;rw[ab];show⟨⟨by lia,by lia⟩,?_⟩;rw[aT,xV];show xZ (List.range a.length) (λk:Nat=>W.d (.int (k:Int))) rfl (λρ=>∃v,ρ=[v,some (.d (stD a)),some (.d (stD b))]) (λk=>!decide (a.getD k 0=b.getD k 0)) (λk=>.int (k:Int)) (by rw[aw];exact ar (by lia:a.length<=8) (by ext)) ⟨_,rfl⟩ ?_ ?_;rintro k q O ⟨v,rfl⟩ C U Y;have al:=aX.mp q;left;show onA (by lia) (by lia) ?_;left;show onA (by lia) (by lia) ?_;left;rw[ym,ym];show ziX (λh=>?_) (λh=>?_);exact U (by rw[aU h];rfl) ⟨_,rfl⟩;exact Y (by rw[a6 h];rfl) ⟨_,rfl⟩;obtain⟨k,z4,q,Z,ad⟩:=zjP (J.trans L.symm) I;rw[q];left;show y8 (zbP (i:=0) rfl) ?_;left;rw[ab];show⟨⟨by lia,by lia⟩,?_⟩;rw[aT,xV];show xZ (List.range a.length) (λk:Nat=>W.d (.int (k:Int))) rfl (λρ=>∃v,ρ=[v,some (.d (stD a)),some (.d (.int (k:Int)))]) (λi=>!decide (i=k)) (λi=>zQ ((i:Int),a.getD i 0)) (by rw[aw];exact ar (by lia:a.length<=8) (by ext)) ⟨_,rfl⟩ ?_ ?_;rintro i hi O ⟨v,rfl⟩ C U Y;have an:=aX.mp hi;left;show ziX (λh=>?_) (λh=>?_);left;show onA (by lia) (by lia) ?_;left;rw[ym];exact U (by rw[aU (by lia)];rfl) ⟨_,rfl⟩;exact Y (by rw[a6 (by lia)];rfl) ⟨_,rfl⟩;left;show onA (by lia) (by lia) ?_;left;show onA (by lia) (by lia) ?_;left;have:=r _ (zmX ha hb Z ad) (by unfold zwn;rw[q];rfl);unfold zmW zU at this;rw[ao] at this;rw[ym,ym];exact this
def zhx  : FV:=λPn q n R=>∃ (rm:AG),q=[.d (stD rm)]/\(RoomOk rm)/\(∀sts:AF,sts.Nodup->(∀st∈sts,StOk rm st)->(sts.length:Int)=yH rm->R (.d (uu sts)) n)
def zhx.i{rm:AG}(q:RoomOk rm)(h:∀sts:AF,sts.Nodup->(∀st∈sts,StOk rm st)->(sts.length:Int)=yH rm->R (.d (uu sts)) n)  : zhx Pn [.d (stD rm)] n R:=⟨rm,rfl,q,h⟩
def zdw (T:Txt K mg t):FnOk P w K mg base CX0 1 t.f10 t.d10 lx (spV 1 false zhx):=by
 show Fun.okW (k:=0) (fr:=false) [3] 6 T.q10.F zX rfl (by ext) rfl λa4 A a0 s H E Pn hr=>⟨_,(zb (wS zo <| zC (i:=1) zX.nd (xB (za (yP zd) zd)))
   (zb (yD aE rfl (wI uR <| za9 K rfl (kv 0)) (wG zx <| zi (i:=2) zX.nd) (zb (wS yq <| xf (i:=3) zX.nd (xB zd))
   (zb (yD aE rfl (wI zco <| zcl rfl T.b_enumerate (za (kv 1) zd)) (wG x6 <| x8 (n:=2) K rfl rfl (wH zS <| zr (wG zx <| zi (i:=4) zX.nd) (wH zS <| zr (wG zx <| zi (i:=5) zX.nd) (wH x5 yY)))) (zb (wS zo <| zC (i:=6) zX.nd (wE uc <| zaj T.b_list T.b_range (zh (kb 2) zl)))
   (zb (wS zG <| yQ (wT zm <| zw xI zb6 (JE.bo (zac zbl zva (kb 4) (JE.bo zt))) (JE.bo zt) (zy _)) (ze (wS zo <| zC (i:=6) zX.nd (wE znp <| zs8 (kb 6)))) zJ)
   (ze (wS zg6 <| zkC 3 (xc (N:=lC) (cix:=[none,some 5]) rfl (by walk_at "c") (wI yp <| yz K rfl (kv 6)) (λ_ _ _ _=>(wG zx <| zi (i:=0) (show (lC:AM).Nodup by decide +kernel))) (λ_ _ _ _=>yU) (λ_ _ _ _=>(zac yM xS (kb 1) (JE.bo (yP (za (kv 0) zd)))))))))))
   (ze (wS zez <| zg1 (i:=1) 3 zX.nd rfl (Or.inl rfl))))))
   (ze (zV (kv 1))))),λJ n R hF=>?_⟩
 obtain⟨rm,rfl,hR,r⟩:=hF;left;have h8:=hR.few;have ad:∀i,yH (rm.take i)<=65536:=λi=>by rw[<- uN _ λn hn=>by have:=hR.box n (bT hn);lia];have:=zec h8 hR.box i;lia
 show yk rm (λi=>.d (.int i)) (by rw[ao];rfl) (λi ρ m=>m=n/\∃ (sts:AF) (v2 v3 L O v6:Option W),ρ=[some (.d (stD rm)),some (.d (uu sts)),v2,v3,L,O,v6]/\sts.Nodup/\(∀st∈sts,StOk (rm.take i) st)/\(sts.length:Int)=yH (rm.take i)) ⟨rfl,[[]],_,_,_,_,_,rfl,by ext,λst ag=>?_,rfl⟩ ?_ ?_;rw[aD.mp ag];exact⟨rfl,λb b0 b1=>absurd b1 (by simp;lia)⟩;rintro i a ρ m ha ⟨rfl,sts,v2,v3,L,O,v6,rfl,hN,I,q⟩ C B E hC _ _;have hm:=hR.box a (aA ha);have hf:=ad i;have a5:=ad (i+1);have an:yH (rm.take (i+1))=yH (rm.take i) * a:=by rw[zn ha,uH]
 obtain⟨w,rfl⟩:∃w:Nat,a=(w:Int):=⟨a.toNat,by lia⟩
 have a7:sts.length * w<=65536:=by
  have:((sts.length * w:Nat):Int)=yH (rm.take (i+1)):=by rw[an,<- q,Int.natCast_mul]
  lia
 left;show yk (List.range sts.length) (λk:Nat=>W.d (.tup [.int (k:Int),stD (sts.getD k [])])) (zjV sts) (λk ρ m'=>m'=m/\∃ (U:AF) (L O v6:Option W),ρ=[some (.d (stD rm)),some (.d (uu sts)),some (.d (.int (w:Int))),some (.d (.lst (U.map stD))),L,O,v6]/\U.Nodup/\(∀x∈U,∃b∈sts.take k,∃v:Int,0<=v/\v<w/\x=b++[v])/\U.length=k * w) ⟨rfl,[],_,_,_,rfl,.nil,by simp,by simp⟩ ?_ ?_;rintro j k ρ m' a1 ⟨rfl,U,L,O,v6,rfl,al,Y,Z⟩ C' B' E' a2 _ _;obtain⟨ap,as⟩:=ac.mp a1;rw[aw] at ap;rw[bF] at as;subst as;have hk:=ap;have a3:=(I _ (zcF hk)).len;rw[aM] at a3;have a8:(j+1) * w<=sts.length * w:=Nat.mul_le_mul_right _ hk;left;show⟨⟨by lia,by lia⟩,?_⟩;rw[aT];have av:zgw w=(zk (w:Int)).map Dt.int:=by unfold zgw zk;rw[ao,aT];rfl
 rw[av]
 have fin:∀J:AG,J.Perm (zk (w:Int))->∀L O,zfq (eN 0) zvE (zse zmM (zsd 1) (ztw (zqi (zsd 0) zwP))) [none,some (.d (stD (sts.getD j [])))] (λx n2=>onL x λl2=>(U.map stD).length+l2.length<=lim/\C' [some (.d (stD rm)),some (.d (uu sts)),some (.d (.int (w:Int))),some (.d (.lst (U.map stD++l2))),L,O,some (.d (lsD J))] n2) ((J.map Dt.int).map W.d) m':=λJ hp L O=>by
  show zah J (λv=>W.d (.int v)) (by rw[ao];rfl) (λρ=>∃v,ρ=[v,some (.d (stD (sts.getD j [])))]) (λv=>stD (sts.getD j []++[v])) (by rw[hp.length_eq,zK];exact ar (by lia:_<=4) (by ext)) ⟨_,rfl⟩ ?_ ?_;rintro v hv bb ⟨u,rfl⟩ D hD;left;show⟨len1 (by lia),?_⟩;rw[cat1];exact hD ⟨_,rfl⟩
  have hB:(J.map λv=>sts.getD j []++[v]).Perm ((List.range w).map λv:Nat=>sts.getD j []++[(v:Int)]):=by
   have:=hp.map λv=>sts.getD j []++[v];unfold zk at this;rw[ao,aT] at this;exact this
  obtain⟨q1,q2,q3⟩:=zi5 hk hN al Y Z hB;rw[show J.map (λv=>stD (sts.getD j []++[v]))=(J.map λv=>sts.getD j []++[v]).map stD by rw[ao];rfl];show⟨?_,a2 ⟨rfl,U++J.map (λv=>sts.getD j []++[v]),_,_,_,by rw[az],q1,q2,q3⟩⟩;rw[ab,ab,<- aj,q3];exact ar (by lia:_<=65536) (by ext)
 show⟨by lia,?_⟩;left;show yW (λ_=>?_) (λ_=>?_);left;rw[<- List.map_reverse];exact fin _ (List.reverse_perm _) _ _;left;exact fin _ (.refl _) _ _;rintro ρ m' ⟨rfl,U,L,O,v6,rfl,al,Y,Z⟩;rw[aw] at Y Z;left;show hC ⟨rfl,U,_,_,_,_,_,rfl,al,λst ag=>?_,?_⟩;obtain⟨b,hb,v,v0,v1,rfl⟩:=Y st ag;rw[bg] at hb;rw[zn ha];exact (I b hb).snoc v0 v1;rw[Z,an,<- q,Int.natCast_mul];rintro ρ m ⟨rfl,sts,v2,v3,L,O,v6,rfl,hN,I,q⟩;rw[bg] at q I;left;exact r sts hN I q
def zd8  : FV:=λPn q n R=>∃ (p:Addr) (rm:AG),q=[.pen p,.d (stD rm)]/\(IsP Pn p)/\(n+10<=1000000)/\(RoomOk rm)/\(yH rm<=256)/\(∀bk m,yS rm bk->bk.length<=400->m<=n+5->R (.d (.lst (bk.map zU))) m)
def zd8.i{rm:AG}(q:IsP Pn p)(B:RoomOk rm)(F:yH rm<=256)(h:∀bk m,yS rm bk->bk.length<=400->m<=n+5->R (.d (.lst (bk.map zU))) m)(I:n+10<=1000000:=by lia):zd8 Pn [.pen p,.d (stD rm)] n R:=⟨p,rm,rfl,q,I,B,F,h⟩
def zdu (T:Txt K mg t):FnOk P w K mg base CX0 2 t.f11 t.d11 la (spV 2 true zd8):=by
 have G1:=zT (P:=P) (w:=w) (base:=base) T;have G9:=zbi (P:=P) (w:=w) (base:=base) T;have G10:=zdw (P:=P) (w:=w) (base:=base) T
 show Fun.okW (k:=1) (fr:=true) [] 1 T.q11.F uX rfl (by ext) rfl λan A ad s H E Pn Z=>⟨_,(zb (wS zo <| zC (i:=2) uX.nd (wE zq <| yV T.q10 G10 Z (za (kv 1) zd)))
   (zb (wS zG <| yQ (wT zm <| zw xI zb6 (JE.bo (wE zq <| yV T.q1 G1 Z (za (kv 0) (za zt zd)))) (JE.bo zt) (zy _)) (ze (wS zo <| zC (i:=2) uX.nd (wE zap <| zfM (kb 2) (wO zO <| ye (JE.bo (wE zq <| yV T.q1 G1 Z (za (kv 0) (za (zF z5 xz (by rfl) T.b_len aH (zh (kb 2) zl)) zd))))) yd))) zJ)
   (ze (zV (xc (N:=lm) (cix:=[none,none]) rfl (by walk_at "c") (wI zh2 <| zkz rfl T.b_zip (za (kv 2) (za (wE zap <| zfM (kb 2) (wO zO <| ye (JE.bo zt)) yd) zd))) (λ_ _ _ _=>(wG x6 <| x8 (n:=2) K rfl rfl (wH zS <| zr (wG zx <| zi (i:=0) (show (lm:AM).Nodup by decide +kernel)) (wH zS <| zr (wG zx <| zi (i:=1) (show (lm:AM).Nodup by decide +kernel)) (wH x5 yY))))) (λ_ _ _ _=>yU) (λ_ _ _ _=>(wE zq <| yV T.q9 G9 Z (za (kv 0) (za (kv 1) zd))))))))),λws n R hF=>?_⟩
 obtain⟨p,rm,rfl,hP,hn,hR,hp,r⟩:=hF;left;show zhx.i hR λsts hN B al=>?_;have h2:=zlC hR.ne λn hn=>(hR.box n hn).1;left;show dc hP λa a0 a1=>?_;left;refine' zg9 (λ(I:AF) (J:Nat)=>I.Nodup/\(∀st∈I,StOk rm st)/\I.length<=256/\J<=n+2) _ (λz4=>?_) ?_;rotate_left;show yW (λ_=>?_) (λ_=>?_);left;rw[ab];show dc hP λb b0 b1=>?_;left;rw[xq];have q:=zjG sts (some b) none;generalize xY sts (some b) none=I at q;generalize hk:n+1+1=J;exact z4 I J ⟨hN.sublist q,λst ag=>B st (q.subset ag),by have:=q.length_le;lia,by lia⟩;left;generalize hk:n+1=J;exact z4 sts J ⟨hN,B,by lia,by lia⟩;rintro I J ⟨hN,B,hl,ap⟩;rw[zoj];show zhE (List.range (I.length - 1)) (λi:Nat=>W.d (.tup [stD (I.getD i []),stD (I.getD (i+1) [])])) rfl (by rw[aw];exact ar (by lia:_<=256) (by ext)) (λi L n' acc=>n'=J/\i<=I.length - 1/\∃ (v0 v1:Option W) (bk:AW),L=[v0,v1]/\acc=bk.map zU/\yS rm bk/\bk.length=i) ⟨rfl,aG _,none,none,[],rfl,rfl,by intro x hx;simp at hx,rfl⟩ ?_ ?_;rintro i k L n' acc hk ⟨rfl,hi,v0,v1,bk,rfl,rfl,hB,O⟩ C hC;obtain⟨U,Y⟩:=ac.mp hk;rw[aw] at U;rw[bF] at Y;subst Y;left;show zfh.i hR (B _ (zcF (by lia))) (B _ (zcF (by lia))) (ziU hN (by lia)) λx hx _=>?_;exact hC ⟨rfl,U,_,_,bk++[x],rfl,by rw[az];rfl,hB.app (λy hy=>by rw[aD.mp hy];exact hx),by rw[aj,O];rfl⟩;rintro L n' acc ⟨rfl,hi,v0,v1,bk,rfl,rfl,hB,O⟩;rw[aw] at O;exact r bk _ hB (by lia) (by lia)
def zhw  : FV:=λPn q n R=>∃ (p:Addr) (rm:AG),q=[.pen p,.d (stD rm)]/\(IsP Pn p)/\(n+3000<=1000000)/\(RoomOk rm)/\(yH rm<=16)/\(∀bk m,yS rm bk->bk.length<=1000->m<=n+1000->R (.d (.lst (bk.map zU))) m)
def zhw.i{rm:AG}(q:IsP Pn p)(B:RoomOk rm)(F:yH rm<=16)(h:∀bk m,yS rm bk->bk.length<=1000->m<=n+1000->R (.d (.lst (bk.map zU))) m)(I:n+3000<=1000000:=by lia):zhw Pn [.pen p,.d (stD rm)] n R:=⟨p,rm,rfl,q,I,B,F,h⟩
def zcZ (T:Txt K mg t):FnOk P w K mg base CX0 3 t.f12 t.d12 la (spV 2 true zhw):=by
 have G1:=zT (P:=P) (w:=w) (base:=base) T;have G2:=uU (P:=P) (w:=w) (base:=base) T;have G4:=xi (P:=P) (w:=w) (base:=base) T;have G9:=zbi (P:=P) (w:=w) (base:=base) T
 show Fun.okW (k:=2) (fr:=true) [3,6] 8 T.q12.F zL rfl (by ext) rfl λbs A a2 s H E Pn Z=>⟨_,(zb (wS zo <| zC (i:=2) zL.nd (wE zq <| yV T.q4 G4 Z (za (kv 1) zd)))
   (zb (wS yq <| xf (i:=3) zL.nd zp1)
   (zb (yD aE rfl (wI zco <| zcl rfl T.b_enumerate (za (wE zq <| yV T.q2 G2 Z (za (kv 0) (za (kv 2) zd))) zd)) (wG x6 <| x8 (n:=2) K rfl rfl (wH zS <| zr (wG zx <| zi (i:=4) zL.nd) (wH zS <| zr (wG zx <| zi (i:=5) zL.nd) (wH x5 yY)))) (ze (wS zkY <| znc 3 (uC Z) (kb 5) (kv 4))))
   (zb (wS yq <| xf (i:=6) zL.nd (xB zd))
   (zb (yD aE rfl (wI yp <| yz K rfl (kv 2)) (wG zx <| zi (i:=5) zL.nd) (ze (yD aE rfl (wI yA <| zP rfl T.b_range (zh (JE.bo (zF z5 xz (by rfl) T.b_len aH (zh (kb 1) zl))) zl)) (wG zx <| zi (i:=7) zL.nd) (ze (yD aE rfl (wI yA <| zP rfl T.b_range (zh (JE.bo (zab yF ug (kb 1) (kb 7) (λ_ _=>rfl))) zl)) (wG zx <| zi (i:=8) zL.nd) (zb (wS zo <| zC (i:=9) zL.nd (zac yM xS (JE.bo (zac yM xS (JE.bo (wE xh <| za8 (kb 5) yd (wO zO <| ye (kb 7)))) (JE.bo (yP (za (kv 8) zd))))) (JE.bo (wE xh <| za8 (kb 5) (wO zO <| ye (JE.bo (zac yX zbN (kb 7) (JE.bo zt)))) yd))))
   (ze (wS zG <| yQ (JW.t (wW ua <| zal (wT zm <| zw zhh zsg (JE.bo (wE zfZ <| zkx (uC Z) (kb 3) (kb 5) (λ_ _=>rfl))) (JE.bo (wE zfZ <| zkx (uC Z) (kb 3) (kb 9) (λ_ _=>rfl))) (zy _)) (xC (.inl rfl) (wT zm <| zw zqD u_gt (JE.bo (wE zq <| yV T.q1 G1 Z (za (kv 0) (za zt zd)))) (JE.bo zt) (zy _))))) (ze (wS ub <| zak 6 (wE zq <| yV T.q9 G9 Z (za (kv 5) (za (kv 9) zd))))) zJ))))))))
   (ze (wS uS <| zaU 6))))))),λws n R hF=>?_⟩
 obtain⟨p,rm,rfl,hP,hn,hR,hp,r⟩:=hF;left;have h8:=hR.few
 have hsz:(xn (rm.map zk)).length<=16:=by
  have:=uN rm λn hn=>by have:=hR.box n hn;lia
  lia
 have al:∀st∈xn (rm.map zk),StOk rm st:=λst I=>zbv rm st I;have an:∀st,StOk rm st->st∈xn (rm.map zk):=λst I=>ze5 I;show zdD.i hR ?_;left;generalize xn (rm.map zk)=ev at hsz al an;show tc hP (λl hl=>?_) (by rw[ab];lia) (by rw[ab];lia);rw[ab];obtain⟨ys,rfl,ap⟩:=zeN hl;have bx:=ap.length_eq;left;generalize b0:n+ev.length=n1;show yk (List.range ys.length) (λk:Nat=>W.d (.tup [.int (k:Int),stD (ys.getD k [])])) (zjV ys) (λi ρ m=>m=n1/\i<=ys.length/\∃ (kvs:List (AG×Dt)) (v4 v5:Option W),ρ=[some (.pen p),some (.d (stD rm)),some (.d (uu ev)),some (.dt kvs),v4,v5,none,none,none,none]/\(∀j,j<i->∃r:Int,yZ kvs (ys.getD j [])=some (.int r))/\kvs.length<=i) ⟨rfl,aG _,[],_,_,rfl,λj hj=>by lia,af _⟩ ?_ ?_;rintro i k ρ m a3 ⟨rfl,as,kvs,v4,v5,rfl,Y,a4⟩ C B E hC _ _;obtain⟨av,a0⟩:=ac.mp a3;rw[aw] at av;rw[bF] at a0;subst a0;left;show⟨ys.getD i [],rfl,aO (by lia:_<=100) (by ext),hC ⟨rfl,av,_,_,_,rfl,λj hj=>?_,by have:=zhi kvs (ys.getD i []) (.int (i:Int));lia⟩⟩;by_cases e:ys.getD j []=ys.getD i [];exact⟨i,by rw[zh0,if_pos e]⟩
 obtain⟨r',a5⟩:=Y j (by
  rcases Nat.lt_succ_iff_lt_or_eq.mp hj with h | h;exact h;subst h;exact absurd rfl e)
 exact⟨r',by rw[zh0,if_neg e];exact a5⟩;rintro ρ n2 ⟨rfl,as,kvs,v4,v5,rfl,Y,a4⟩;rw[aw] at Y;have J:∀st,StOk rm st->∃r:Int,yZ kvs st=some (.int r):=λst I=>by have:=ap.mem_iff.mpr (an st I);obtain⟨j,hj,rfl⟩:=ba.mp this;have:=Y j hj;rwa[show ys.getD j []=ys[j] by simp[hj]] at this
 left;show yk ev (λst=>.d (stD st)) (by rw[ao];rfl) (λi ρ m=>m<=n2+32 * i/\∃ (bk:AW) (v5 v7 L O:Option W),ρ=[some (.pen p),some (.d (stD rm)),some (.d (uu ev)),some (.dt kvs),v4,v5,some (.d (.lst (bk.map zU))),v7,L,O]/\yS rm bk/\bk.length<=32 * i) ⟨by lia,[],_,_,_,_,rfl,by intro x hx;simp at hx,by simp⟩ ?_ ?_;rintro i one ρ m ho ⟨hm,bk,v5,v7,L,O,rfl,q,U⟩ C B E hC _ _;have as:=(ac.mp ho).1;have hO:=al one (aA ho);have b1:=hO.len;obtain⟨ra,a1⟩:=J one hO;left;rw[ab];show⟨⟨by lia,by lia⟩,u6 (λj ρ m'=>m'<=m+4 * j/\∃ (bk:AW) (v7 L O:Option W),ρ=[some (.pen p),some (.d (stD rm)),some (.d (uu ev)),some (.dt kvs),v4,some (.d (stD one)),some (.d (.lst (bk.map zU))),v7,L,O]/\yS rm bk/\bk.length<=32 * i+4 * j) ⟨by lia,bk,_,_,_,rfl,q,by lia⟩ ?_ ?_⟩;rintro j ρ m' hj ⟨a7,bk,v7,L,O,rfl,q,U⟩ C' B' E' a8 _ _;have hj:j<rm.length:=by lia
 have b2:=yi hR.box (cP j) (by lia);left;show onA (cP j) (by lia) ?_;left;show⟨⟨by lia,by lia⟩,u6 (λk ρ m2=>m2<=m'+k/\k<=4/\∃ (bk:AW) (L O:Option W),ρ=[some (.pen p),some (.d (stD rm)),some (.d (uu ev)),some (.dt kvs),v4,some (.d (stD one)),some (.d (.lst (bk.map zU))),some (.d (.int (j:Int))),L,O]/\yS rm bk/\bk.length<=32 * i+4 * j+k) ⟨by lia,by lia,bk,_,_,rfl,q,by lia⟩ ?_ ?_⟩;rintro k ρ m2 hk ⟨bb,bd,bk,L,O,rfl,q,U⟩ C2 B2 E2 ad _ _;left;show⟨zaB (by lia),?_⟩;left;show⟨zaC (by lia),?_⟩;rw[zbz (cP j) (by lia)];have hT:StOk rm (chg one (j:Int) (k:Int)):=zcr hO (cP j) (by lia) (by lia) (by lia);obtain⟨rb,ag⟩:=J _ hT;left;show⟨one,rfl,y8 a1 ?_⟩;left;show⟨chg one (j:Int) (k:Int),rfl,y8 ag ?_⟩;left;show yW (λb3=>?_) (λ_=>⟨ad ⟨by lia,by lia,bk,_,_,rfl,q,by lia⟩⟩);have bl:one≠chg one (j:Int) (k:Int):=λe=>by rw[<- e,a1] at ag;cases ag;lia
 left;show dc hP (λd d0 d1=>?_) (by lia);left;show yW (λ_=>?_) (λ_=>⟨ad ⟨by lia,by lia,bk,_,_,rfl,q,by lia⟩⟩);left;show zfh.i hR hO hT bl λx hx _=>?_;left;show⟨by rw[ab];exact aO (by lia:_<=1000) (by ext),ad ⟨by lia,by lia,bk++[x],_,_,by rw[az];rfl,q.app (λy hy=>by rw[aD.mp hy];exact hx),by rw[aj];simp;lia⟩⟩;rintro ρ m2 ⟨bb,bd,bk,L,O,rfl,q,U⟩;left;exact a8 ⟨by lia,bk,_,_,_,rfl,q,by lia⟩;rintro ρ m' ⟨a7,bk,v7,L,O,rfl,q,U⟩;left;exact hC ⟨by lia,bk,_,_,_,_,rfl,q,by lia⟩;rintro ρ m ⟨hm,bk,v5,v7,L,O,rfl,q,U⟩;left;exact r bk m q (by lia) (by lia)
def zd9  : FV:=λPn B n R=>∃ (p:Addr) (rm:AG) (bk:AW),B=[.pen p,.d (stD rm),.d (.lst (bk.map zU))]/\(IsP Pn p)/\(n+100<=1000000)/\(RoomOk rm)/\(yS rm bk)/\(bk.length<=2000)/\(∀q m,yS rm q->q.length<=2001->m<=n+50->R (.d (.lst (q.map zU))) m)
def zd9.i{rm:AG}(B:IsP Pn p)(F:RoomOk rm)(I:yS rm bk)(J:bk.length<=2000)(h:∀q m,yS rm q->q.length<=2001->m<=n+50->R (.d (.lst (q.map zU))) m)(L:n+100<=1000000:=by lia):zd9 Pn [.pen p,.d (stD rm),.d (.lst (bk.map zU))] n R:=⟨p,rm,bk,rfl,B,L,F,I,J,h⟩
def zcc (T:Txt K mg t):FnOk P w K mg base CX0 4 t.f13 t.d13 li (spG 3 true zd9):=by
 have G1:=zT (P:=P) (w:=w) (base:=base) T;have G6:=zbj (P:=P) (w:=w) (base:=base) T
 show Fun.okG (k:=3) (fr:=true) [2] 6 T.q13.F z7 rfl (by ext) (by ext) rfl λan A ad s H E Pn O=>⟨_,(zb (wS zo <| zC (i:=3) z7.nd (wE zq <| yV T.q1 G1 O (za (kv 0) (za zt zd))))
   (zb (wS zG <| yQ (JW.t (wW zbR <| zfN (wT zm <| zw xI zb6 (kb 3) (JE.bo zt) (zy _)) (xC (.inr rfl) (wT zm <| zw (zlt O.units) zrZ (kb 2) (JE.bo (xB zd)) (zy _))))) (zb (wS zqk <| zte 2 (wE zq <| yV T.q1 G1 O (za (kv 0) (za (zac yX zbN (JE.bo (zF z5 xz (by rfl) T.b_len aH (zh (kb 2) zl))) (JE.bo zt)) zd))) (wE zq <| yV T.q6 G6 O (za (kv 0) (za (kv 1) zd))))
   (ze (wS uS <| zaU 2))) zJ)
   (zb (wS zo <| zC (i:=4) z7.nd (wE zq <| yV T.q1 G1 O (za (kv 0) (za (zF z5 xz (by rfl) T.b_len aH (zh (kb 2) zl)) zd))))
   (zb (zkA (zab y3 zbu (kb 2) (kb 4) (λ_ _=>rfl)) (wG x6 <| x8 (n:=4) K rfl rfl (wH zS <| zr (wG zx <| zi (i:=5) z7.nd) (wH zS <| zr (wG zx <| zi (i:=6) z7.nd) (wH zS <| zr (wG zx <| zi (i:=7) z7.nd) (wH zS <| zr (wG zx <| zi (i:=8) z7.nd) (wH x5 yY)))))))
   (zb (wS zG <| yQ (wT zm <| zw xI zb6 (kb 3) (JE.bo zt) (zy _)) (ze (wS zk0 <| zoM 2 (kb 4) (yP (za (kv 5) (za (kv 6) (za (kv 8) (za (kv 7) zd))))))) zJ)
   (zb (wS zG <| yQ (wT zm <| zw xI zb6 (kb 3) (JE.bo zt) (zy _)) (ze (wS zno <| zp4 2 (kb 4))) zJ)
   (zb (wS zG <| yQ (wT zm <| zw xI zb6 (kb 3) (JE.bo zt) (zy _)) (ze (wS ub <| zak 2 (zab y3 zbu (kb 2) (kb 4) (λ_ _=>rfl)))) zJ)
   (zb (wS zG <| yQ (wT zm <| zw xI zb6 (kb 3) (JE.bo zt) (zy _)) (ze (wS zk0 <| zoM 2 (kb 4) (yP (za (wE xh <| za8 (kb 5) (wO zO <| ye (JE.bo zt)) yd) (za (kv 6) (za (kv 7) (za (kv 8) zd))))))) zJ)
   (ze (wS uS <| zaU 2)))))))))),λws n R hF=>?_⟩
 obtain⟨p,rm,bk,rfl,hP,hn,hR,B,hl,r⟩:=hF;left;have h8:=hR.few;show dc hP λq w0 w1=>?_;left;refine' zwW _ (λkey=>?_) ?_;rotate_left
 ·show yW (λh4=>?_) (λh4=>?_);left;rw[ab];generalize W.d (Dt.int q)=x;exact key x
  ·left;show⟨zsr B,zsr (rm:=rm) (bk:=[]) (by intro x L;simp at L),λb hb=>?_⟩;left;show zcf (λI=>?_) (λI=>?_);left;rw[ab];exact key (.d (.int q))
   ·left;have ag:bk≠[]:=λz=>by have:=hb.mpr (by rw[z];rfl);rw[this] at I;cases I
    have al:0<bk.length:=en.mpr ag;rw[ab];show dc hP λU a0 a1=>?_;obtain⟨j,rfl⟩:∃j:Nat,U=(j:Int):=⟨U.toNat,by lia⟩;have hj:j<bk.length:=by lia
    have L:=B _ (b6 hj);have J:atI (bk.map zU) (j:Int)=some (zU bk[j]):=zbP (by rw[aq,ah hj];rfl);generalize bk[j]=x at L J;left;show y8 J ?_;left;have Y:q=0\/q=1\/q=2\/q=3:=by lia
    rcases Y with rfl | rfl | rfl | rfl;walk_at "ct";show⟨⟨by lia,by rw[ab];lia⟩,?_⟩;rw[aT,show (bk.map zU).set j (Dt.tup [Dt.tup (x.g.map zQ),.int x.b,.int x.w,.int x.r])=(bk.set j (zu5 x)).map zU by rw[List.map_set];rfl];left;walk_at "cf";walk_at "cf";walk_at "cf";exact r _ _ (B.set (zrW L) j) (by rw[bc];lia) (by lia);walk_at "cf";walk_at "ct";show⟨⟨by lia,by rw[ab];lia,by rw[ab];exact ar hl (by ext)⟩,?_⟩;rw[aT,<- zfw];left;walk_at "cf";walk_at "cf";exact r _ _ (λy Z=>B y (List.mem_of_mem_eraseIdx Z)) (by have:=List.length_eraseIdx_le bk j;lia) (by lia);walk_at "cf";walk_at "cf";walk_at "ct";show y8 J ?_;left;show⟨by rw[ab];exact aO hl (by ext),?_⟩;rw[show bk.map zU++[zU x]=(bk++[x]).map zU by rw[az];rfl];left;walk_at "cf";exact r _ _ (B.app λy Z=>by rw[aD.mp Z];exact L) (by rw[aj];simp;lia) (by lia)
    ·walk_at "cf";walk_at "cf";walk_at "cf";walk_at "ct";show⟨⟨by lia,by rw[ab];lia⟩,?_⟩;rw[aT,xq,show (bk.map zU).set j (Dt.tup [Dt.tup ((xY x.g (some 1) none).map zQ),.int x.b,.int x.r,.int x.w])=(bk.set j { x with g:=xY x.g (some 1) none }).map zU by rw[List.map_set] <;> rfl];left;exact r _ _ (B.set (zpr L) j) (by rw[bc];lia) (by lia)
 intro x;show dc hP λk k0 k1=>?_;obtain⟨j,rfl⟩:∃j:Nat,k=(j:Int):=⟨k.toNat,by lia⟩;left;show zjc.i hP hR λy m Z hm=>?_;left;show⟨⟨by lia,by lia,aO hl (by ext)⟩,?_⟩;rw[aT,zpT];left;exact r _ _ (B.ins Z j) (by rw[zpS];lia) (by lia)
def zhu  : FV:=λPn q n R=>∃ (p:Addr) (rm:AG),q=[.pen p,.d (stD rm)]/\(IsP Pn p)/\(n+4000<=1000000)/\(RoomOk rm)/\(yH rm<=256)/\(∀bk m,yS rm bk->bk.length<=80->m<=n+2000->R (.d (xp bk)) m)
def zhu.i{rm:AG}(q:IsP Pn p)(B:RoomOk rm)(F:yH rm<=256)(h:∀bk m,yS rm bk->bk.length<=80->m<=n+2000->R (.d (xp bk)) m)(I:n+4000<=1000000:=by lia):zhu Pn [.pen p,.d (stD rm)] n R:=⟨p,rm,rfl,q,I,B,F,h⟩
def zeD (T:Txt K mg t):FnOk P w K mg base CX0 5 t.f14 t.d14 la (spV 2 false zhu):=by
 have G1:=zT (P:=P) (w:=w) (base:=base) T;have G2:=uU (P:=P) (w:=w) (base:=base) T;have G4:=xi (P:=P) (w:=w) (base:=base) T;have G6:=zbj (P:=P) (w:=w) (base:=base) T;have G8:=uD (P:=P) (w:=w) (base:=base) T;have G11:=zdu (P:=P) (w:=w) (base:=base) T;have G12:=zcZ (P:=P) (w:=w) (base:=base) T;have G13:=zcc (P:=P) (w:=w) (base:=base) T
 show Fun.okW (k:=4) (fr:=false) [5] 4 T.q14.F yj rfl (by ext) rfl λa5 A as s H E Pn B=>⟨_,(zb (wS zo <| zC (i:=2) yj.nd (wE zq <| yV T.q1 G1 B (za (kv 0) (za zt zd))))
   (zb (wS zo <| zC (i:=3) yj.nd (wE zq <| yV T.q1 G1 B (za (kv 0) (za zt zd))))
   (zb (wS zo <| zC (i:=4) yj.nd (zF z5 xz (by rfl) T.b_len aH (zh (JE.bo (wE zq <| yV T.q4 G4 B (za (kv 1) zd))) zl)))
   (zb (wS zG <| yQ (wT zm <| zw xI zb6 (kb 2) (JE.bo zt) (zy _)) (ze (wS yq <| xf (i:=5) yj.nd (wE zq <| yV T.q11 G11 B (za (kv 0) (za (kv 1) zd))))) (ze (wS zG <| yQ (JW.t (wW ua <| zal (wT zm <| zw xI zb6 (kb 2) (JE.bo zt) (zy _)) (xC (.inl rfl) (wT zm <| zw zqE zxB (kb 4) (JE.bo zt) (zy _))))) (ze (wS yq <| xf (i:=5) yj.nd (wE zq <| yV T.q12 G12 B (za (kv 0) (za (kv 1) zd))))) (ze (wS zG <| yQ (wT zm <| zw zhh zsg (kb 2) (JE.bo zt) (zy _)) (ze (wS yq <| xf (i:=5) yj.nd (wE zq <| yV T.q8 G8 B (za (kv 0) (za (kv 1) zd))))) (ze (wS yq <| zp3 (i:=5) (zcm (ix:=5) yj.nd rfl rfl (N:=lH) (cix:=[none,some 0,some 1]) rfl (by walk_at "c") (wI yA <| zP rfl T.b_range (zh (JE.bo (wE zq <| yV T.q1 G1 B (za (kv 0) (za zt zd)))) zl)) (λ_ _ _ _=>(wG zx <| zi (i:=0) (show (lH:AM).Nodup by decide +kernel))) (λ_ _ _ _=>yU) (λ_ _ _ _=>(wE zq <| yV T.q6 G6 B (za (kv 1) (za (kv 2) zd))))))))))))
   (zb (wS zG <| yQ (wT zm <| zw xI zb6 (kb 3) (JE.bo zt) (zy _)) (ze (ztd (i:=5) T.q13 G13 B (kv 0) (kv 1) yj.nd rfl (Or.inl rfl))) zJ)
   (ze (zV (xT y6 zbO (by rfl) T.b_tuple bE (zh (JE.bo (wE zq <| yV T.q2 G2 B (za (kv 0) (za (wE zap <| zfM (kb 5) yd (wO zO <| ye (JE.bo zt))) zd)))) zl))))))))),λws n R hF=>?_⟩
 obtain⟨p,rm,rfl,I,hn,J,hp,r⟩:=hF;left;show dc I λkind k0 k1=>?_;left;show dc I λsp s0 s1=>?_;left;show zdD.i J ?_;left;have hsz:=uN rm λn hn=>by have:=J.box n hn;lia
 rw[ab,hsz];refine' zg9 (λ(bk:AW) (Y:Nat)=>yS rm bk/\bk.length<=1000/\Y<=n+1100) _ (λz4=>?_) ?_;rotate_left;show yW (λh0=>?_) (λh0=>?_);left;show zd8.i I J hp λbk m q Z hm=>?_;left;exact z4 bk m ⟨q,by lia,by lia⟩;left;show yW (λh1=>?_) (λh1=>?_);left;show yW (λad=>?_) (λad=>?_);left;show zhw.i I J ad λbk m q Z hm=>?_;left;exact z4 bk m ⟨q,by lia,by lia⟩;left;show yW (λh4=>?_) (λh4=>absurd (by lia) h4);left;show ziy.i I J λbk m q Z hm=>?_;left;exact z4 bk m ⟨q,by lia,by lia⟩;left;show yW (λh4=>?_) (λh4=>?_);left;show ziy.i I J λbk m q Z hm=>?_;left;exact z4 bk m ⟨q,by lia,by lia⟩;left;show dc I λt t0 t1=>?_;left;show⟨⟨by lia,by lia⟩,?_⟩;rw[xV];show zhE (List.range t.toNat) (λk:Nat=>W.d (.int (k:Int))) rfl (by rw[aw];exact ar (by lia:_<=14) (by ext)) (λi L n' acc=>n'<=n+3+30 * i/\i<=t.toNat/\∃ (v:Option W) (bk:AW),L=[v,some (.pen p),some (.d (stD rm))]/\acc=bk.map zU/\yS rm bk/\bk.length=i) ⟨by lia,aG _,none,[],rfl,rfl,by intro x O;simp at O,rfl⟩ ?_ ?_;rintro i k L n' acc hk ⟨ag,hi,v,bk,rfl,rfl,q,U⟩ C hC;have al:=(ac.mp hk).1;rw[aw] at al;left;show zjc.i I J λx m O hm=>?_;exact hC ⟨by lia,al,_,bk++[x],rfl,by rw[az];rfl,q.app (λy hy=>by rw[aD.mp hy];exact O),by rw[aj,U];rfl⟩;rintro L n' acc ⟨ag,hi,v,bk,rfl,rfl,q,U⟩;rw[aw] at U ag;left;exact z4 bk n' ⟨q,by lia,by lia⟩;rintro bk Y ⟨q,Z,av⟩;refine' zg9 (λ(bk:AW) (Y:Nat)=>yS rm bk/\bk.length<=2001/\Y<=n+1150) _ (λz4=>?_) ?_;rotate_left;left;show yW (λh0=>?_) (λh0=>?_);left;show zd9.i I J q (by lia) λa0 m a1 a2 hm=>?_;left;exact z4 a0 m ⟨a1,a2,by lia⟩;left;exact z4 bk Y ⟨q,by lia,by lia⟩;rintro bk Y ⟨q,Z,av⟩;left;rw[xq,show (80:Int)=((80:Nat):Int) from rfl,L3.zci];have an:yS rm (bk.take 80):=λx O=>q x (bT O);have a3:(bk.take 80).length<=80:=by rw[aM];lia
 generalize bk.take 80=b2 at an a3;left;show tc I (λl a4=>?_) (by rw[ab];lia) (by rw[ab];lia);rw[ab];obtain⟨b3,rfl,ap⟩:=zeN a4;have a7:=ap.length_eq;left;exact r b3 _ (λx O=>an x (ap.mem_iff.mp O)) (by lia) (by lia)
def zmq  : FV:=λPn q n R=>∃ (p:Addr) (rm:AG),q=[.pen p,.d (stD rm)]/\(IsP Pn p)/\(n+100<=1000000)/\(RoomOk rm)/\(∀bk m,yS rm bk->bk.length<=1->m<=n+10->R (.d (xp bk)) m)
def zmq.i{rm:AG}(q:IsP Pn p)(B:RoomOk rm)(h:∀bk m,yS rm bk->bk.length<=1->m<=n+10->R (.d (xp bk)) m)(F:n+100<=1000000:=by lia):zmq Pn [.pen p,.d (stD rm)] n R:=⟨p,rm,rfl,q,F,B,h⟩
def zeC (T:Txt K mg t):FnOk P w K mg base CX0 3 t.f15 t.d15 la (spV 2 false zmq):=by
 have G1:=zT (P:=P) (w:=w) (base:=base) T;have G5:=zbV (P:=P) (w:=w) (base:=base) T
 show Fun.okW (k:=2) (fr:=false) [] 4 T.q15.F xK rfl (by ext) rfl λag A L s H E Pn B=>⟨_,(zb (wS zo <| zC (i:=2) xK.nd (wE zq <| yV T.q1 G1 B (za (kv 0) (za (zF z5 xz (by rfl) T.b_len aH (zh (kb 1) zl)) zd))))
   (zb (wS zo <| zC (i:=3) xK.nd (wE zq <| yV T.q1 G1 B (za (kv 0) (za (zF z5 xz (by rfl) T.b_len aH (zh (kb 1) zl)) zd))))
   (zb (wS zG <| yQ (wT zm <| zw xI zb6 (kb 3) (kb 2) (zy _)) (ze (zV (yP zd))) zJ)
   (zb (zkA (wE zq <| yV T.q5 G5 B (za (kv 0) (za (zab yF ug (kb 1) (kb 2) (λ_ _=>rfl)) zd))) (wG x6 <| x8 (n:=2) K rfl rfl (wH zS <| zr (wG zx <| zi (i:=4) xK.nd) (wH zS <| zr (wG zx <| zi (i:=5) xK.nd) (wH x5 yY)))))
   (ze (zV (yP (za (yP (za (yP (za (yP (za (kv 3) (za (wE zq <| yV T.q1 G1 B (za (kv 0) (za (zab yF ug (kb 1) (kb 3) (λ_ _=>rfl)) zd))) zd))) zd)) (za (kv 2) (za (kv 4) (za (kv 5) zd))))) zd)))))))),λws n R hF=>?_⟩
 obtain⟨p,rm,rfl,I,hn,J,r⟩:=hF;left;have h8:=J.few;have ad:=J.pos;rw[ab];show dc I λO U Y=>?_;have hm:=yi J.box U Y;left;rw[ab];show dc I λot o0 Z=>?_;have al:=yi J.box o0 Z;left;show yW (λhe=>?_) (λhe=>?_);left;exact r [] _ (λ_ h=>by cases h) (aG _) (by lia);left;show onA U Y ?_;left;show zjg.i I hm.1 hm.2 λa b a0 a1 c0 c1 ne=>?_;left;show onA o0 Z ?_;left;show dc I λu u0 u1=>?_;left;show r [⟨[(ot,u)],O,a,b⟩] _ (λx hx=>?_) (af _) (by lia);rw[aD.mp hx];have hG:Giv rm ([]++[(ot,u)]):=Giv.snoc (g:=[]) ⟨by simp,.nil⟩ (by simp) o0 Z u0 u1;exact⟨hG,U,Y,λq hq=>by rw[aD.mp hq];exact he,a0,a1,c0,c1,ne⟩
def zhf (T:Txt K mg t):FnOk P w K mg base CX0 1 t.f16 t.d16 lU (zd6 K):=by
 show T.q16.F.okQ uZ (λvs H Q E h=>?_) (λb3 A bd s H vs Q E hr h=>?_);obtain⟨ca,xs,cs,rfl,_⟩:=h;rfl;obtain⟨ca,xs,cs,rfl,a2,hL,bk,a3,k⟩:=h;have ad:=zhA bk a3
 show⟨_,(yh (xR (i:=1) uZ.nd rfl (Or.inl rfl) (zlG (zD (zeQ yc) yc)))
  (yh (zlJ aE rfl (zeR (qv 0)) (zc6 (i:=2) uZ.nd rfl (Or.inr rfl)) (uW (znV (ix:=1) uZ.nd rfl rfl (N:=lM) (cix:=[none,none,some 2]) rfl (by walk_at "c") (zeR (qv 1)) (λ_ _ _ _=>(zc6 (i:=0) (show (lM:AM).Nodup by decide +kernel) rfl (Or.inl rfl))) (λ_ _ _ _=>zeW) (λ_ _ _ _=>(zeS K rfl (qv 2))) (λ_ _ _ _=>(zc6 (i:=1) (show (lM:AM).Nodup by decide +kernel) rfl (Or.inl rfl))) (λ_ _ _ _=>zeW) (λ_ _ _ _=>(y9 (znw K rfl) (qv 0) (zeQ (zD (qv 1) yc)))))))
  (uW (zbo (qv 1))))),?_⟩
 show⟨(by change 0<=sizeLine;decide),λe0 H1 _ g1 S1=>⟨(by change 1<=sizeLine;decide),λr0 H2 n2 g2 S2=>?_⟩⟩;have S02:y4 H H2:=λb o e=>S2 _ _ (S1 _ _ e)
 have bl:H r0=none:=by
  cases e:H r0 with
  | none=>rfl
  | some o=>rw[S1 _ _ e] at n2;cases n2
 show⟨_,rfl,ca,rfl,⟨xs,.of (S02 _ _ a2)⟩,zmU (K:=K) (xs:=xs) (λi σ H3=>∃ (ra:Addr) (ys:AT) (v2:Option V),σ=[some (.ref ca),some (.ref ra),v2]/\H ra=none/\H3 ra=some (.lst ys)/\IsL H3 ((xn (cs.take i)).map stD) ys/\y4 H H3)
  ⟨r0,_,none,rfl,bl,g2,⟨_,_,rfl,⟨e0,_,rfl,S2 _ _ g1,rfl⟩,rfl⟩,S02⟩ (λi σ H3 _ ⟨_,_,_,_,_,_,_,S⟩=>.of (S _ _ a2)) ?_ ?_⟩
 rintro i x σ H3 hi ⟨ra,ys,v2,rfl,a4,Z,U,S3⟩;have bo:=(ac.mp hi).1;have Y:i<cs.length:=by rw[<- hL.1];exact bo
 obtain⟨wa,a5,a7⟩:=hL.2 i cs[i] (ah Y);rw[hi] at a5;cases a5;have ag:=a3 cs[i] (b6 Y);have ap:cs.take (i+1)=cs.take i++[cs[i]]:=zn (ah Y);have bs:=ad i;have as:=ad (i+1);rw[ap,xa] at as;have av:=U.length;rw[ab] at av;have al:∀I∈xn (cs.take i),I.length<=8:=λI hr=>by rw[zeb _ _ hr,aM];lia
 generalize cs[i]=ws at a7 ag ap as;generalize a0:xn (cs.take i)=rows at U bs as av al;have an:=S3 _ _ a7;show⟨_,rfl,ra,rfl,⟨_,.of Z⟩,λacc L=>?_⟩;show ziD (xs:=ys) L (λj J H'=>(∃v0 v1,J=[v0,v1,some (.ref wa)])/\(∃zs,H' acc=some (.lst zs)/\IsL H' ((x3 (rows.take j) ws).map stD) zs)/\y4 H3 H') (λH' z1 z2=>⟨⟨_,_,rfl⟩,⟨[],z1,rfl⟩,z2⟩) (λ_ _ _ _ ⟨_,_,S⟩=>.of (S _ _ Z)) ?_ ?_;rintro j y J H4 hy ⟨⟨v0,v1,rfl⟩,⟨zs,B,q⟩,S4⟩;obtain⟨d,hd,bx⟩:=(U.stay (zu.same S4)).get hy;rw[aq] at hd;obtain⟨I,a1,rfl⟩:=aC.mp hd;obtain⟨rwa,rv,rfl,a8,b0⟩:=bx;obtain rfl:=b0.of_ints;have b4:=(ac.mp a1).1;have cc:=al I (aA a1);change zjw _ zbM _ _ _ _ _ _ _ _ _;show zoQ ?_;show⟨_,rfl,wa,rfl,⟨_,.of (S4 _ _ an)⟩,?_⟩;show ziN (xs:=ws.map V.int) (λm J H'=>(∃v1,J=[some (.ref rwa),v1,some (.ref wa)])/\(∃zs,H' acc=some (.lst zs)/\IsL H' ((x3 (rows.take j) ws++(ws.take m).map λw=>I++[w]).map stD) zs)/\y4 H3 H'/\H' rwa=some (.tup (I.map V.int))) ⟨⟨_,rfl⟩,⟨zs,B,by simpa using q⟩,S4,a8⟩ (λ_ _ _ _ ⟨_,_,S,_⟩=>.of (S _ _ an)) ?_ ?_;rintro m u J H5 hu ⟨⟨v1,rfl⟩,⟨zs,B,q⟩,S5,O⟩;rw[aq] at hu;obtain⟨wv,bb,rfl⟩:=aC.mp hu;have cd:=(ac.mp bb).1;show zos ⟨_,rfl,_,rfl,(by change 1<=sizeLine;decide),λt1 H6 _ g6 S6=>?_⟩;show⟨rwa,t1,_,_,rfl,rfl,S6 _ _ O,g6,cb (zdl (by rw[ab];change I.length+1<=1000;lia)),λt2 H7 g7 S7=>?_⟩;have S57:y4 H5 H7:=λb o e=>S7 _ _ (S6 _ _ e);have b1:=q.length;rw[ab,aj,uz,ab,aM,aM] at b1;have ch:=uz rows ws;have b2:(min j rows.length) * ws.length<=65536 * 4:=du (by lia) ag;show⟨zs,S57 _ _ B,aO (show zs.length<=500000 by lia) (by ext),⟨_,rfl⟩,⟨_,zj,?_⟩,zn5 L λb o e=>S57 _ _ (S5 _ _ e),?_⟩;show IsL.stayT (zji.app (S57 _ _ B)) (xU _) ?_;rw[zn bb,az (l₁:=ws.take m),<- bL,az];show (q.stay (zu.same S57)).append (IsL.one ⟨t2,_,rfl,g7,?_⟩);rw[az];exact IsL.ints.append (IsL.ints (ns:=[wv]));rw[zf (zlb (S57 _ _ O) (S57 _ _ B) (by intro z;cases z))];exact S57 _ _ O;rintro J H5 ⟨⟨v1,rfl⟩,⟨zs,B,q⟩,S5,O⟩;rw[ab,bg] at q;show⟨⟨_,_,rfl⟩,⟨zs,B,?_⟩,S5⟩;rw[zn a1,zcz];exact q;rintro J H4 ⟨⟨v0,v1,rfl⟩,⟨zs,B,q⟩,S4⟩;rw[av,bg] at q;show⟨acc,zs,_,rfl,?_,B,?_,λb o e=>S4 _ _ (S3 _ _ e)⟩
 cases e:H acc with
 | none=>rfl
 | some o=>rw[S3 _ _ e] at L;cases L
 rw[ap,xa,a0];exact q;rintro σ H3 ⟨ra,ys,v2,rfl,a4,Z,U,S3⟩;rw[hL.1,bg] at U;exact⟨_,rfl,k ra ys H3 a4 Z U S3⟩
def zf3 (T:Txt K mg t):FnOk P w K mg base CX0 1 t.f16 t.d16 lU (spV 1 true zdC):=FnOk.lift (FnOk.mono (zhf T) (by ext)) zew
def zmx  : FV:=λPn q n R=>∃ (rm:AG),q=[.d (stD rm)]/\(RoomOk rm)/\(R (.d (uu (xn (rm.map zk)))) n)
def zmx.i{rm:AG}(q:RoomOk rm)(h:R (.d (uu (xn (rm.map zk)))) n)  : zmx Pn [.d (stD rm)] n R:=⟨rm,rfl,q,h⟩
def zeG (T:Txt K mg t):FnOk P w K mg base CX0 2 t.f17 t.d17 [Ar] (spV 1 true zmx):=by
 have G16:=zf3 (P:=P) (w:=w) (base:=base) T;show Fun.okW (k:=1) (fr:=true) [] 0 T.q17.F zgh rfl (by ext) rfl λJ A B s H E Pn L=>⟨_,(ze (zV (wE zq <| yV T.q16 G16 L (za (xc (N:=["worths"]) (cix:=[none]) rfl (by walk_at "c") (wI uR <| za9 K rfl (kv 0)) (λ_ _ _ _=>(wG zx <| zi (i:=0) (show (["worths"]:AM).Nodup by decide +kernel))) (λ_ _ _ _=>yU) (λ_ _ _ _=>(wE uc <| zaj T.b_list T.b_range (zh (kb 0) zl)))) zd)))),λws n R O=>?_⟩;obtain⟨rm,rfl,q,r⟩:=O;left;show zah rm (λi=>W.d (.int i)) (by rw[ao];rfl) (λρ=>∃a,ρ=[a]) (λm=>lsD (zk m)) (ar q.few (by ext)) ⟨_,rfl⟩ ?_ ?_;rintro m I U ⟨a,rfl⟩ C Y;have hb:=q.box m I;left;show⟨⟨by lia,by lia⟩,?_⟩;have Z:lsD (zk m)=Dt.lst (zgw m.toNat):=by unfold lsD zk zgw;rw[ao];rfl
 rw[<- Z];exact Y ⟨_,rfl⟩;left;show⟨rm.map zk,by rw[ao];rfl,by rw[ab];exact q.few,λc hc=>?_,r⟩;obtain⟨m,I,rfl⟩:=aF.mp hc;have:=q.box m I;rw[zK];lia
def zmr  : FV:=λPn q n R=>∃ (st:AG) (b x:Int),q=[.d (stD st),.d (.int b),.d (.int x)]/\(0<=b)/\(st.length<=1000)/\(R (.d (stD (chg st b x))) n)
def zmr.i{st:AG}{b x:Int}(q:0<=b)(B:st.length<=1000)(h:R (.d (stD (chg st b x))) n)  : zmr Pn [.d (stD st),.d (.int b),.d (.int x)] n R:=⟨st,b,x,rfl,q,B,h⟩
def zhg (T:Txt K mg t):FnOk P w K mg base CX0 1 t.f18 t.d18 lz (spV 3 false zmr):=by show Fun.okW (k:=0) (fr:=false) [] 0 T.q18.F zi4 rfl (by ext) rfl λI A q s H E Pn O=>⟨_,(ze (zV (zac yM xS (JE.bo (zac yM xS (JE.bo (wE xh <| za8 (kb 0) yd (wO zO <| ye (kb 1)))) (JE.bo (yP (za (kv 2) zd))))) (JE.bo (wE xh <| za8 (kb 0) (wO zO <| ye (JE.bo (zac yX zbN (kb 1) (JE.bo zt)))) yd))))),λU n R J=>?_⟩;obtain⟨st,b,x,rfl,L,B,r⟩:=J;left;show⟨zaB B,?_⟩;left;show⟨zaC B,?_⟩;rw[zbz L B];exact r
def zmu  : FV:=λPn B n R=>∃ (st:AG) (g:List (Int×Int)),B=[.d (stD st),.d (zfc g)]/\(∀q∈g,0<=q.1/\q.1<st.length)/\(R (.d (.bl (xD st g))) n)
def zmu.i{st:AG}{g:List (Int×Int)}(B:∀q∈g,0<=q.1/\q.1<st.length)(h:R (.d (.bl (xD st g))) n)  : zmu Pn [.d (stD st),.d (zfc g)] n R:=⟨st,g,rfl,B,h⟩
def zlj (T:Txt K mg t):FnOk P w K mg base CX0 1 t.f19 t.d19 lQ (spV 2 false zmu):=by
 show Fun.okW (k:=0) (fr:=false) [] 2 T.q19.F ze0 rfl (by ext) rfl λZ A J s H E Pn hr=>⟨_,(zb (yD aE rfl (wI uR <| za9 K rfl (kv 1)) (wG x6 <| x8 (n:=2) K rfl rfl (wH zS <| zr (wG zx <| zi (i:=2) ze0.nd) (wH zS <| zr (wG zx <| zi (i:=3) ze0.nd) (wH x5 yY)))) (ze (wS zG <| yQ (wT zm <| zw zf9 zpa (JE.bo (zab yF ug (kb 0) (kb 2) (λ_ _=>rfl))) (kb 3) (zy _)) (ze (zV zmn)) zJ)))
   (ze (zV zmn))),λws n R hF=>?_⟩
 obtain⟨st,g,rfl,hg,r⟩:=hF;left;show yk g (λq=>.d (zQ q)) (by rw[ao];rfl) (λi ρ m=>m=n/\(∃L O,ρ=[some (.d (stD st)),some (.d (zfc g)),L,O])/\xD st (g.take i)=true) ⟨rfl,⟨_,_,rfl⟩,rfl⟩ ?_ ?_;rintro i q ρ m U ⟨rfl,⟨L,O,rfl⟩,I⟩ C B E hC _ hE;have Y:=hg q (aA U);left;show onA Y.1 Y.2 ?_;left;show ziX (λh=>?_) (λh=>?_);left;show hE ?_;have e:xD st g=false:=by unfold xD;exact List.all_eq_false.mpr ⟨q,aA U,λz=>h (bW z)⟩
 rw[e] at r;exact r;left;show hC ⟨rfl,⟨_,_,rfl⟩,?_⟩;unfold xD at I ⊢;rw[zn U,List.all_append,I];simp[h];rintro ρ m ⟨rfl,⟨L,O,rfl⟩,I⟩;rw[bg] at I;rw[I] at r;left;exact r
def zvp  : FV:=λPn B n R=>∃ (rm:AG) (bk:AW) (q:Int) (st:AG),B=[.d (stD rm),.d (xp bk),.d (.int q),.d (stD st)]/\(RoomOk rm)/\(yS rm bk)/\(st.length=rm.length)/\(R (.d (.lst ((lpE bk q st).map zQ))) n)
def zvp.i{rm:AG}{q:Int}{st:AG}(F:RoomOk rm)(I:yS rm bk)(B:st.length=rm.length)(h:R (.d (.lst ((lpE bk q st).map zQ))) n)  : zvp Pn [.d (stD rm),.d (xp bk),.d (.int q),.d (stD st)] n R:=⟨rm,bk,q,st,rfl,F,I,B,h⟩
def zc0 (T:Txt K mg t):FnOk P w K mg base CX0 2 t.f20 t.d20 lr (spV 4 true zvp):=by
 have G19:=zlj (P:=P) (w:=w) (base:=base) T;show Fun.okW (k:=1) (fr:=true) [] 0 T.q20.F zdA rfl (by ext) rfl λad A I s H E Pn Z=>⟨_,(ze (zV (zna T.b_sorted (uC Z) (N:=lb) (cix:=[none,none,none,none,some 2,some 3]) rfl (by walk_at "c") (wI uR <| za9 K rfl (kv 1)) (λ_ _ _ _=>(wG x6 <| x8 (n:=4) K rfl rfl (wH zS <| zr (wG zx <| zi (i:=0) (show (lb:AM).Nodup by decide +kernel)) (wH zS <| zr (wG zx <| zi (i:=1) (show (lb:AM).Nodup by decide +kernel)) (wH zS <| zr (wG zx <| zi (i:=2) (show (lb:AM).Nodup by decide +kernel)) (wH zS <| zr (wG zx <| zi (i:=3) (show (lb:AM).Nodup by decide +kernel)) (wH x5 yY))))))) (λ_ _ _ _=>(xg (JW.t (wW ua <| zal (wT zm <| zw xI zb6 (kb 1) (kb 4) (zy _)) (xC (.inl rfl) (wT zm <| zba (JE.bo (wE zq <| yV T.q19 G19 Z (za (kv 5) (za (kv 0) zd)))))))))) (λ_ _ _ _=>(yP (za (kv 3) (za (kv 2) zd))))))),λws n R hF=>?_⟩;obtain⟨rm,bk,B,st,rfl,hR,J,L,r⟩:=hF;left;show zrO bk (λx=>W.d (zU x)) (by rw[ao];rfl) (λρ=>∃a b c d,ρ=[a,b,c,d,some (.d (.int B)),some (.d (stD st))]) (λx=>decide (x.b=B)&&xD st x.g) (λx=>[x.w,x.r]) ⟨_,_,_,_,rfl⟩ ?_ (λks h1 h2=>by have:=zdV J hR.box h1 h2;lia) ?_;rintro x hx ag ⟨a,b,c,d,rfl⟩ C hY hN;have hW:=J x hx;left;show yW (λO=>?_) (λO=>hN (by rw[aU O];rfl) ⟨_,_,_,_,rfl⟩);left;show zmu.i (λq hq=>?_) ?_;have:=hW.giv.ok q hq;rw[L];exact⟨this.1,this.2.1⟩;left;show zcf (λU=>?_) (λU=>hN (by rw[U,cN]) ⟨_,_,_,_,rfl⟩);exact⟨[x.w,x.r],rfl,hY (by rw[a6 O,U];rfl) ⟨_,_,_,_,rfl⟩⟩;intro ks h1 h2;show⟨2,by have:=zdV J hR.box h1 λz Y=>(h2 z).mp Y;lia,by ext,λz Y=>uF z ((h2 z).mp Y),λl' hp hu=>?_⟩;rw[show l'=lpF bk B st from zcq uF hu λz=>(hp.mem_iff).trans (h2 z)];have:=r;rw[<- zqg] at this;exact this
def zmp  : FV:=λPn q n R=>∃ (rm:AG) (bk:AW),q=[.d (stD rm),.d (xp bk)]/\(RoomOk rm)/\(yS rm bk)/\(bk.length<=1000)/\(R (.df (zmy rm bk)) n)
def zmp.i{rm:AG}(q:RoomOk rm)(B:yS rm bk)(F:bk.length<=1000)(h:R (.df (zmy rm bk)) n)  : zmp Pn [.d (stD rm),.d (xp bk)] n R:=⟨rm,bk,rfl,q,B,F,h⟩
def zaW (T:Txt K mg t):FnOk P w K mg base CX0 3 t.f21 t.d21 lh (spV 2 false zmp):=by
 have G17:=zeG (P:=P) (w:=w) (base:=base) T;have G20:=zc0 (P:=P) (w:=w) (base:=base) T
 show Fun.okW (k:=2) (fr:=false) [] 1 T.q21.F um rfl (by ext) rfl λZ A B s H E Pn I=>⟨_,(zb (wS zo <| zC (i:=2) um.nd (zp0 (z := "box") (N:=[Ak,"book"]) (cix:=[none,some 1]) rfl (by walk_at "c") (wI yA <| zP rfl T.b_range (zh (JE.bo (zF z5 xz (by rfl) T.b_len aH (zh (kb 0) zl))) zl)) (λ_ _ _ _ _=>(wG zx <| zi (i:=0) (show ([Ak,"book"]:AM).Nodup by decide +kernel))) (λ_ _ _ _ _=>yU) (λ_ _ _ _ _=>(xT y6 zbO (by rfl) T.b_tuple bE (zh (JE.bo (xc (N:=["wish",Ak]) (cix:=[none,some 0]) rfl (by walk_at "c") (wI uR <| za9 K rfl (kv 1)) (λ_ _ _ _=>(wG zx <| zi (i:=0) (show (["wish",Ak]:AM).Nodup by decide +kernel))) (λ_ _ _ _=>(xg (wT zm <| zw xI zb6 (JE.bo (zab yF ug (kb 0) (JE.bo zt) (λ_ _=>rfl))) (kb 1) (zy _)))) (λ_ _ _ _=>(kv 0)))) zl)))))
   (ze (zV (zs3 (zkv (uC I) (z := "standing") (N:=[Am,Ar,"own"]) (cix:=[none,some 0,some 2]) rfl (by walk_at "c") (wI yp <| yz K rfl (wE zq <| yV T.q17 G17 I (za (kv 0) zd))) (λ_ _ _ _ _=>(wG zx <| zi (i:=0) (show ([Am,Ar,"own"]:AM).Nodup by decide +kernel))) (λ_ _ _ _ _=>yU) (λ_ _ _ _ _=>(kb 0)) (λ_ _ _ _ _=>(xc (N:=lP) (cix:=[none,some 1,some 0,some 2]) rfl (by walk_at "c") (wI yA <| zP rfl T.b_range (zh (JE.bo (zF z5 xz (by rfl) T.b_len aH (zh (kb 1) zl))) zl)) (λ_ _ _ _=>(wG zx <| zi (i:=0) (show (lP:AM).Nodup by decide +kernel))) (λ_ _ _ _=>yU) (λ_ _ _ _=>(wE zq <| yV T.q20 G20 I (za (kv 1) (za (zab y3 zbu (kb 3) (kb 0) (λ_ _=>rfl)) (za (kv 0) (za (kv 2) zd))))))))))))),λws n R hF=>?_⟩
 obtain⟨rm,bk,rfl,q,hB,hl,r⟩:=hF;left;have U:=q.few;rw[ab];show⟨⟨by lia,by lia⟩,?_⟩;rw[xV];show zah (List.range rm.length) (λk:Nat=>W.d (.int (k:Int))) rfl (λρ=>∃a,ρ=[a,some (.d (xp bk))]) (λk:Nat=>xp (zqF bk (k:Int))) (ar (by rw[aw];exact U) (by ext)) ⟨_,rfl⟩ ?_ ?_;rintro k Y J ⟨a,rfl⟩ C hC;left;show xZ bk (λx=>W.d (zU x)) (by rw[ao];rfl) (λρ=>∃v,ρ=[v,some (.d (.int (k:Int)))]) (λx=>decide (x.b=(k:Int))) (λx=>zU x) (ar hl (by ext)) ⟨_,rfl⟩ ?_ ?_;rintro x hx L ⟨v,rfl⟩ D dY dN;left;exact yW (λz=>dY (a6 z) ⟨_,rfl⟩) (λz=>dN (aU z) ⟨_,rfl⟩);left;exact hC ⟨_,rfl⟩;left;show zmx.i q ?_;left;show zmN (xn (rm.map zk)) (by rw[ao];rfl) (λρ=>∃a,ρ=[a,some (.d (stD rm)),some (.d (.lst ((List.range rm.length).map λk:Nat=>xp (zqF bk (k:Int)))))]) (λ_=>true) (λst=>zvO rm bk st) ?_ ?_ ⟨_,rfl⟩ ?_ ?_;exact zon rm;exact ar (zgz q) (by ext);rintro st O J ⟨a,rfl⟩ C hY ad;have hS:=zbv _ _ O;left;rw[ab];show⟨⟨by lia,by lia⟩,?_⟩;rw[xV];show zah (List.range rm.length) (λk:Nat=>W.d (.int (k:Int))) rfl (λρ=>∃a,ρ=[a,some (.d (stD rm)),some (.d (stD st)),some (.d (.lst ((List.range rm.length).map λk:Nat=>xp (zqF bk (k:Int)))))]) (λk:Nat=>lpD bk (k:Int) st) (ar (by rw[aw];exact U) (by ext)) ⟨_,rfl⟩ ?_ ?_;rintro k Y L ⟨v,rfl⟩ D hD;left;show zoo (aX.mp Y) ?_;left;show zvp.i q (ztV hB) hS.len ?_;rw[zkR];exact hD ⟨_,rfl⟩;exact⟨_,rfl,hY rfl ⟨_,rfl⟩⟩;rw[c6.mpr λ_ _=>rfl];exact r
def zvn  : FV:=λPn q n R=>∃ (rm:AG) (bk:AW),q=[.d (stD rm),.df (zmy rm bk)]/\(RoomOk rm)/\(yS rm bk)/\(R (.d (uu (ut rm bk))) n)
def zvn.i{rm:AG}(q:RoomOk rm)(B:yS rm bk)(h:R (.d (uu (ut rm bk))) n)  : zvn Pn [.d (stD rm),.df (zmy rm bk)] n R:=⟨rm,bk,rfl,q,B,h⟩
def zf4 (T:Txt K mg t):FnOk P w K mg base CX0 2 t.f22 t.d22 lD (spV 2 true zvn):=by
 have G18:=zhg (P:=P) (w:=w) (base:=base) T
 show Fun.okW (k:=1) (fr:=true) [2] 6 T.q22.F y2 rfl (by ext) rfl λa7 A a2 s H E Pn hr=>⟨_,(zb (wS yq <| xf (i:=2) y2.nd (zs9 T.b_set))
   (zb (yD aE rfl (zta (kv 1)) (wG zx <| zi (i:=3) y2.nd) (ze (yD aE rfl (wI yA <| zP rfl T.b_range (zh (JE.bo (zF z5 xz (by rfl) T.b_len aH (zh (kb 0) zl))) zl)) (wG zx <| zi (i:=4) y2.nd) (zb (wS zo <| zC (i:=5) y2.nd (zer (uC hr) (kb 1) (JE.bo (wE zq <| yV T.q18 G18 hr (za (kv 3) (za (kv 4) (za zt zd))))) (λ_ _=>rfl)))
   (ze (yD aE rfl (wI zco <| zcl rfl T.b_enumerate (za (zer (uC hr) (kb 1) (kb 3) (λ_ _=>rfl)) zd)) (wG x6 <| x8 (n:=2) K rfl rfl (wH zS <| zr (wG zx <| zi (i:=6) y2.nd) (wH zS <| zr (wG zx <| zi (i:=7) y2.nd) (wH x5 yY)))) (ze (wS zG <| yQ (wT zm <| zw (zga hr.units) zmi (kb 7) (JE.bo (zab y3 zbu (kb 5) (kb 6) (λ_ _=>rfl))) (zy _)) (ze (zp6 2 (uC hr) (yP (za (kv 6) (za (kv 4) zd))))) zJ))))))))
   (ze (zV (zF (zhH rfl) zr5 (by rfl) T.b_sorted cD (zh (kb 2) zl)))))),λws n R hF=>?_⟩
 obtain⟨rm,bk,rfl,hR,hB,r⟩:=hF;left;have h8:=hR.few;have av:∀ {ks:AF},ks.Nodup->(∀z∈ks,z∈ut rm bk)->ks.length<=56:=λh1 h2=>ar (yr h1 h2) (zfG hR);intro _;show yk (xn (rm.map zk)) (λst=>.d (stD st)) (by unfold zmy;rw[ao];rfl) (λi ρ m=>m=n/\∃ (ks:AF) (v3 v4 v5 Y Z:Option W),ρ=[some (.d (stD rm)),some (.df (zmy rm bk)),some (.ss P w ks),v3,v4,v5,Y,Z]/\ks.Nodup/\(∀z∈ks,z∈ut rm bk)/\∀st∈(xn (rm.map zk)).take i,∀o b:Nat,o<rm.length->b<rm.length->zgK bk b o st=true->[(b:Int),(o:Int)]∈ks) ⟨rfl,[],_,_,_,_,_,rfl,.nil,by simp,by simp⟩ ?_ ?_;rintro i st ρ m al ⟨rfl,ks,v3,v4,v5,Y,Z,rfl,O,J,q⟩ C B X hC _ _;have ap:=aA al;have as:=zbv _ _ ap;have a5:=as.len;left;rw[ab];show⟨⟨by lia,by lia⟩,u6 (λj ρ m'=>m'=m/\j<=rm.length/\∃ (ks:AF) (v4 v5 Y Z:Option W),ρ=[some (.d (stD rm)),some (.df (zmy rm bk)),some (.ss P w ks),some (.d (stD st)),v4,v5,Y,Z]/\ks.Nodup/\(∀z∈ks,z∈ut rm bk)/\(∀st∈(xn (rm.map zk)).take i,∀o b:Nat,o<rm.length->b<rm.length->zgK bk b o st=true->[(b:Int),(o:Int)]∈ks)/\∀o b:Nat,o<j->b<rm.length->zgK bk b o st=true->[(b:Int),(o:Int)]∈ks) ⟨rfl,aG _,ks,_,_,_,_,rfl,O,J,q,by lia⟩ ?_ ?_⟩;rintro j ρ m' hj ⟨rfl,a3,ks,v4,v5,Y,Z,rfl,O,J,q,I⟩ C' B' X' a4 _ _;have hj:j<rm.length:=by lia
 have a8:=yi hR.box (b:=(j:Int)) (by lia) (by lia);have a0:StOk rm (chg st (j:Int) 0):=zcr as (by lia) (by lia) (by ext) (by lia);left;show zmr.i (by lia) (by lia) ?_;left;show⟨_,rfl,y8 (zfk a0) ?_⟩;left;show⟨_,rfl,y8 (zfk as) ?_⟩;left;show yk (List.range rm.length) (λk:Nat=>W.d (.tup [.int (k:Int),lpD bk (k:Int) st])) (zpz _) (λk ρ m2=>m2=m'/\∃ (ks:AF) (Y Z:Option W),ρ=[some (.d (stD rm)),some (.df (zmy rm bk)),some (.ss P w ks),some (.d (stD st)),some (.d (.int (j:Int))),some (.d (zvO rm bk (chg st (j:Int) 0))),Y,Z]/\ks.Nodup/\(∀z∈ks,z∈ut rm bk)/\(∀st∈(xn (rm.map zk)).take i,∀o b:Nat,o<rm.length->b<rm.length->zgK bk b o st=true->[(b:Int),(o:Int)]∈ks)/\(∀o b:Nat,o<j->b<rm.length->zgK bk b o st=true->[(b:Int),(o:Int)]∈ks)/\∀b:Nat,b<k->zgK bk b j st=true->[(b:Int),(j:Int)]∈ks) ⟨rfl,ks,_,_,rfl,O,J,q,I,by lia⟩ ?_ ?_;rintro k k' ρ m2 hk ⟨rfl,ks,Y,Z,rfl,O,J,q,I,ad⟩ C2 B2 X2 hD _ _;have an:=(ac.mp hk).1;rw[List.getElem?_range (by rwa[aw] at an)] at hk;cases hk;rw[aw] at an;have hz:=av O J;left;show zoo an ?_;left;show⟨zh1,zh1,λr hr=>?_⟩;rw[zsL hr];left;show zcf (λU=>?_) (λU=>?_);left;show⟨ks,rfl,?_⟩;left;show⟨[(k:Int),(j:Int)],rfl,by lia,λa1 hm hl hn=>?_⟩;left;have ag:∀z∈ks,z∈a1:=λz hz=>(hm z).mpr (.inr hz);show hD ⟨rfl,a1,_,_,rfl,hn,λz hz=>?_,λs hs o b ho L h=>ag _ (q s hs o b ho L h),λo b ho L h=>ag _ (I o b ho L h),λb L h=>?_⟩;rcases (hm z).mp hz with rfl | z1;exact (zcM hR hB).mpr ⟨k,j,an,hj,⟨st,ap,U⟩,rfl⟩;exact J z z1;by_cases e:b=k;subst e;exact (hm _).mpr (.inl rfl);exact ag _ (ad b (by lia) h);left;show hD ⟨rfl,ks,_,_,rfl,O,J,q,I,λb L h=>?_⟩;by_cases e:b=k;subst e;rw[U] at h;cases h;exact ad b (by lia) h;rintro ρ m2 ⟨rfl,ks,Y,Z,rfl,O,J,q,I,ad⟩;rw[aw] at ad;left;show a4 ⟨rfl,hj,ks,_,_,_,_,rfl,O,J,q,λo b ho L U=>?_⟩;by_cases e:o=j;subst e;exact ad b L U;exact I o b (by lia) L U;rintro ρ m' ⟨rfl,a3,ks,v4,v5,Y,Z,rfl,O,J,q,I⟩;left;show hC ⟨rfl,ks,_,_,_,_,_,rfl,O,J,λs hs o b ho L U=>?_⟩;rw[zn al] at hs;rcases a9.mp hs with z | z;exact q s z o b ho L U;rw[aD.mp z] at U;exact I o b ho L U;rintro ρ m ⟨rfl,ks,v3,v4,v5,Y,Z,rfl,O,J,q⟩;have hz:=av O J;left;show⟨ks,2,rfl,by lia,by ext,λz hz=>zcL (J z hz),λl hp hu=>?_⟩;rw[zpO hu λz=>⟨λh=>J z (hp.mem_iff.mp h),λh=>hp.mem_iff.mpr ?_⟩];exact r;obtain⟨b,o,L,ho,⟨st,al,U⟩,rfl⟩:=(zcM hR hB).mp h;exact q st (by rw[bg];exact al) o b ho L U
def zvo  : FV:=λPn q n R=>∃ (rm:AG) (bk:AW),q=[.d (stD rm),.d (xp bk)]/\(RoomOk rm)/\(yS rm bk)/\(bk.length<=1000)/\(R (.d (uu (ut rm bk))) n)
def zvo.i{rm:AG}(q:RoomOk rm)(B:yS rm bk)(F:bk.length<=1000)(h:R (.d (uu (ut rm bk))) n)  : zvo Pn [.d (stD rm),.d (xp bk)] n R:=⟨rm,bk,rfl,q,B,F,h⟩
def zli (T:Txt K mg t):FnOk P w K mg base CX0 4 t.f23 t.d23 lh (spV 2 true zvo):=by have G21:=zaW (P:=P) (w:=w) (base:=base) T;have G22:=zf4 (P:=P) (w:=w) (base:=base) T;show Fun.okW (k:=3) (fr:=true) [] 0 T.q23.F zn6 rfl (by ext) rfl λL A q s H E Pn B=>⟨_,(ze (zV (wE zq <| yV T.q22 G22 B (za (kv 0) (za (wE zq <| yV T.q21 G21 B (za (kv 0) (za (kv 1) zd))) zd))))),λY n R O=>?_⟩;obtain⟨rm,bk,rfl,I,J,U,r⟩:=O;left;show zmp.i I J U ?_;left;exact zvn.i I J r
def zsi  : FV:=λPn q n R=>∃ (E:List (Int×Int)) (ks lf:AG),q=[.kf (ldK ks (zcg E)),.d (lsD lf)]/\(lf.Nodup)/\(∀h∈lf,h∈ks)/\(lf.length<=100)/\(E.length<=1000)/\(R (.dk (ldK (onF E lf) (inF E lf))) n)
def zsi.i{E:List (Int×Int)}{ks lf:AG}(q:lf.Nodup)(B:∀h∈lf,h∈ks)(F:lf.length<=100)(I:E.length<=1000)(h:R (.dk (ldK (onF E lf) (inF E lf))) n)  : zsi Pn [.kf (ldK ks (zcg E)),.d (lsD lf)] n R:=⟨E,ks,lf,rfl,q,B,F,I,h⟩
def zcd (T:Txt K mg t):FnOk P w K mg base CX0 1 t.f24 t.d24 lT (spV 2 true zsi):=by
 show Fun.okW (k:=0) (fr:=true) [] 1 T.q24.F zax rfl (by ext) rfl λcdv A outer s H E Pn hr=>⟨_,(zb (wS zo <| zC (i:=2) zax.nd (zhW (uC hr) (N:=[BD,A6,A7]) (cix:=[none,some 0,some 1]) rfl (by walk_at "c") (wI yp <| yz K rfl (kv 1)) (λ_ _ _ _=>(wG zx <| zi (i:=0) (show ([BD,A6,A7]:AM).Nodup by decide +kernel))) (λ_ _ _ _=>yU) (λ_ _ _ _=>(kb 0)) (λ_ _ _ _=>(xc (N:=["there",A7]) (cix:=[none,some 2]) rfl (by walk_at "c") (wI yp <| yz K rfl (zky (uC hr) (kb 1) (kb 0) (λ_ _=>rfl))) (λ_ _ _ _=>(wG zx <| zi (i:=0) (show (["there",A7]:AM).Nodup by decide +kernel))) (λ_ _ _ _=>(xg (wT zm <| zw zbk zr1 (kb 0) (kb 1) (by with_unfolding_all rfl)))) (λ_ _ _ _=>(kv 0))))))
   (ze (zV (zhW (uC hr) (N:=[BD,"told"]) (cix:=[none,some 2]) rfl (by walk_at "c") (wI yp <| yz K rfl (kv 1)) (λ_ _ _ _=>(wG zx <| zi (i:=0) (show ([BD,"told"]:AM).Nodup by decide +kernel))) (λ_ _ _ _=>(xg (wT zg7 <| zet (JE.bo (wE zex <| zkw (uC hr) (kb 1) (kb 0) (λ_ _=>rfl)))))) (λ_ _ _ _=>(kb 0)) (λ_ _ _ _=>(wE zex <| zkw (uC hr) (kb 1) (kb 0) (λ_ _=>rfl))))))),λws n R hF=>?_⟩
 obtain⟨E,ks,lf,rfl,hN,hs,hl,hE,r⟩:=hF;left;show zgI lf (by rw[ao];rfl) (λρ=>∃a,ρ=[a,some (.kf (ldK ks (zcg E))),some (.d (lsD lf))]) (λ_=>true) (λh=>lsD (inF E lf h)) hN (ar hl (by ext)) ⟨_,rfl⟩ ?_ ?_;rintro h hh ρ' ⟨a,rfl⟩ C hY hN';left;show y8 (zaE (hs h hh)) ?_;left;have hsf:=zin E h;show xZ (zcg E h) (λb=>W.d (.int b)) (by rw[ao];rfl) (λρ=>∃v,ρ=[v,some (.d (lsD lf))]) (λb=>lf.contains b) (λb=>.int b) (ar (by lia:_<=1000) (by ext)) ⟨_,rfl⟩ ?_ ?_;rintro b hb ρ2 ⟨v,rfl⟩ D dY dN;left;show⟨lf,rfl,?_⟩;left;exact zcf (λz=>dY z ⟨_,rfl⟩) (λz=>dN z ⟨_,rfl⟩);exact hY rfl ⟨_,rfl⟩;rw[c6.mpr λ_ _=>rfl];left;show zgI lf (by rw[ao];rfl) (λρ=>∃a,ρ=[a,some (.dk (ldK lf (inF E lf)))]) (λh=>!(inF E lf h).isEmpty) (λh=>lsD (inF E lf h)) hN (ar hl (by ext)) ⟨_,rfl⟩ ?_ ?_;rintro h hh ρ' ⟨a,rfl⟩ C hY hN';left;show y8 (zaE hh) ?_;left;have e1:(!((inF E lf h).map Dt.int).isEmpty) = !(inF E lf h).isEmpty:=by rw[List.isEmpty_map]
 rw[e1];show zcf (λz=>?_) (λz=>hN' z ⟨_,rfl⟩);left;show y8 (zaE hh) ?_;left;exact hY z ⟨_,rfl⟩;exact r
def zvr  : FV:=λPn F n R=>∃ (E:List (Int×Int)) (m:Nat),F=[.kf (ldK (zk (m:Int)) (zcg E))]/\(∀q∈E,0<=q.1/\q.1<m/\0<=q.2/\q.2<m)/\(m<=100)/\(E.length<=1000)/\((¬ Cyc E->R (.d .non) n)/\∀B,IsRd E B->Cyc E->R (.d (lsD B)) n)
def zvr.i  {Pn:PN} {n:Nat} {R:AV} {E:List (Int×Int)} {m:Nat} (I:∀q∈E,0<=q.1/\q.1<m/\0<=q.2/\q.2<m) (J:m<=100) (F:E.length<=1000) (h:(¬ Cyc E->R (.d .non) n)/\∀B,IsRd E B->Cyc E->R (.d (lsD B)) n)  : zvr Pn [.kf (ldK (zk (m:Int)) (zcg E))] n R:=⟨E,m,rfl,I,J,F,h⟩
def zf5 (T:Txt K mg t):FnOk P w K mg base CX0 2 t.f25 t.d25 [A6] (spV 1 false zvr):=by
 have G24:=zcd (P:=P) (w:=w) (base:=base) T
 show Fun.okW (k:=1) (fr:=false) [3] 4 T.q25.F yO rfl (by ext) rfl λbs A a5 s H E Pn hr=>⟨_,(zb (wS zo <| zC (i:=1) yO.nd (xT (zhG rfl) zr3 (by rfl) T.b_list cm (zh (kb 0) zl)))
   (zb (wS zo <| zC (i:=2) yO.nd (wE zq <| yV T.q24 G24 hr (za (kv 0) (za (kv 1) zd))))
   (zb (zcn aE (wT zm <| zw zhh zsg (JE.bo (zF zmI zu9 (by rfl) T.b_len aH (zh (kb 2) zl))) (JE.bo (zF z5 xz (by rfl) T.b_len aH (zh (kb 1) zl))) (zy _)) (zb (wS zo <| zC (i:=1) yO.nd (xT (zhG rfl) zr2 (by rfl) T.b_list cm (zh (kb 2) zl)))
   (ze (wS zo <| zC (i:=2) yO.nd (wE zq <| yV T.q24 G24 hr (za (kv 0) (za (kv 1) zd)))))))
   (zb (wS zG <| yQ (wT zao <| zbQ (wT zg7 <| zet (kb 1))) (ze (zV zs7)) zJ)
   (zb (wS yq <| xf (i:=3) yO.nd (xB zd))
   (zb (wS zo <| zC (i:=4) yO.nd (zab y3 zbu (kb 1) (JE.bo zt) (λ_ _=>rfl)))
   (zb (zcn aE (wT zm <| zw zbW zio (kb 4) (kb 3) (by with_unfolding_all rfl)) (zb (wS ub <| zak 3 (kv 4))
   (ze (wS zo <| zC (i:=4) yO.nd (zab y3 zbu (JE.bo (wE zex <| zkw (uC hr) (kb 2) (kb 4) (λ_ _=>rfl))) (JE.bo zt) (λ_ _=>rfl))))))
   (ze (zV (zs6 (wE zap <| zfM (kb 3) (wO zO <| ye (JE.bo (zp2 K rfl (kb 3) (kb 4)))) yd))))))))))),λws n R hF=>?_⟩
 obtain⟨E,m,rfl,hE,hm,an,r⟩:=hF;left;obtain⟨rN,rS⟩:=r;show⟨zk (m:Int),zev,?_⟩;left;have a7:(zk (m:Int)).length=m:=by rw[zK];lia
 show zsi.i (xJ _) (λh J=>J) (by lia) an ?_;left;have ap:∀ (D:Int->Prop),PF E D->∀a,D a->a∈zk (m:Int):=λD hD a L=>by obtain⟨b,_,h⟩:=hD a L;have:=hE _ h;exact zW.mpr ⟨this.1,this.2.1⟩
 show zit (λk ρ n'=>n'=n/\∃lf:AG,k=lf.length/\ρ=[some (.kf (ldK (zk (m:Int)) (zcg E))),some (.d (lsD lf)),some (.dk (ldK (onF E lf) (inF E lf))),none,none]/\lf.Nodup/\(∀h∈lf,h∈zk (m:Int))/\lf.length<=m/\∀D,PF E D->∀a,D a->a∈lf) m ⟨rfl,zk (m:Int),a7.symm,rfl,xJ _,λh J=>J,by lia,ap⟩ ?_;rintro k ρ n' ⟨rfl,lf,rfl,rfl,hN,hs,hl,ad⟩ C B X hC hB hX;left;rw[zqd,ab];show yW (λas=>?_) (λbx=>?_);have as:(onF E lf).length<lf.length:=by lia
 have I:(onF E lf).Sublist lf:=c5;left;show⟨onF E lf,zev,?_⟩;left;show zsi.i (hN.sublist I) (λh J=>hs h (I.subset J)) (by lia) an ?_;left;exact hC _ as ⟨rfl,onF E lf,rfl,rfl,hN.sublist I,λh J=>hs h (I.subset J),by lia,λD hD a L=>ztH hD (ad D hD) a L⟩;have O:=zqy (E:=E) (lf:=lf) (by lia);have ag:onF E lf=lf:=dR c5 (by lia);show hB ?_;left;rw[ag]
 cases lf with
 | nil=>
  walk_at "cf";exact rN λ⟨D,a,hD,L⟩=>by have:=ad D hD a L;simp at this
 | cons x r0=>
  have av:Cyc E:=⟨λa=>a∈x::r0,x,λa L=>O a L,ak⟩;have hx:x∈x::r0:=ak;have h0:atI ((x::r0).map Dt.int) 0=some (.int x):=zbP (i:=0) rfl;with_reducible show zqx ?_ ?_
  rfl;generalize x::r0=lf at hN hs hl ad O av hx h0;left;show y8 h0 ?_;left;show zit (λk ρ n2=>n2=n'/\∃ (q:AG) (h:Int),k=lf.length - q.length/\ρ=[some (.kf (ldK (zk (m:Int)) (zcg E))),some (.d (lsD lf)),some (.dk (ldK lf (inF E lf))),some (.d (lsD q)),some (.d (.int h))]/\q.Nodup/\(∀a∈q,a∈lf)/\h∈lf/\∀i,i<q.length->((q++[h]).getD i 0,(q++[h]).getD (i+1) 0)∈E) lf.length ⟨rfl,[],x,rfl,rfl,.nil,by simp,hx,λi hi=>by simp at hi⟩ ?_;rintro k ρ n2 ⟨rfl,q,h,rfl,rfl,al,a0,J,a1⟩ C' B' X' a8 bb b0;have b1:=yr al a0;left;show⟨q,rfl,?_⟩;left;show zln (λhn=>?_) (λhi=>?_);have a2:h∉q:=λz=>by rw[bA.mpr z] at hn;cases hn
  have a3:(q++[h]).Nodup:=by rw[cS];exact⟨al,by simp,λa L c hc e=>a2 (by rw[<- aD.mp hc,<- e];exact L)⟩
  have U:∀a∈q++[h],a∈lf:=λa L=>(a9.mp L).elim (a0 a) λz=>by rw[aD.mp z];exact J
  have Y:=yr a3 U;rw[aj] at Y;simp at Y;obtain⟨b,hb,bd⟩:=O h J;have a4:=zeA.mpr ⟨bd,hb⟩;left;show⟨by rw[ab];exact aO (by lia:_<=100) (by ext),?_⟩;left;show y8 (zaE J) ?_;left
  cases e:inF E lf h with
  | nil=>rw[e] at a4;simp at a4
  | cons c cs=>
   have hc:=zeA.mp (show c∈inF E lf h by rw[e];exact ak);show y8 (zbP (i:=0) rfl) ?_;left;show a8 (lf.length - (q++[h]).length) (by rw[aj];simp;lia) ⟨rfl,q++[h],c,rfl,?_,a3,U,hc.2,λi hi=>?_⟩;rw[show lsD (q++[h])=Dt.lst (q.map Dt.int++[Dt.int h]) by unfold lsD;rw[az];rfl];rw[aj] at hi;simp at hi;by_cases bk:i<q.length;have:=a1 i bk;have q1:(q++[h]++[c]).getD i 0=(q++[h]).getD i 0:=uB (by rw[aj];simp;lia);have q2:(q++[h]++[c]).getD (i+1) 0=(q++[h]).getD (i+1) 0:=uB (by rw[aj];simp;lia);rw[q1,q2];exact this;have bl:i=q.length:=by lia
   subst bl;have q1:(q++[h]++[c]).getD q.length 0=(q++[h]).getD q.length 0:=uB (by rw[aj];simp);have q2:(q++[h]++[c]).getD (q++[h]).length 0=c:=zcE;rw[aj] at q2;rw[q1,zcE,show q.length+1=q.length+[h].length from rfl,q2];exact hc.1
  show bb ?_;left;have Z:=bA.mp hi;show⟨q,rfl,Z,?_⟩;left;rw[xq,zjF];exact rS _ (rdOf al Z a1) av
def zem (E:List (Int×Int))(m:Nat)(q:AG):AG:=(zk (m:Int)).filter λb=>!q.contains b&&(zcg E b).all λo=>q.contains o
def zfd (E:List (Int×Int))(m:Nat):Nat->AG->Option AG
 | 0,q=>some q
 | k+1,q=>match zem E m q with
  | []=>none
  | b::_=>zfd E m k (q++[b])
def zxt {E:List (Int×Int)}{m:Nat}{B:AG}(L:∀q∈E,0<=q.1/\q.1<m/\0<=q.2/\q.2<m)(hl:B.length<m)(h:zem E m B=[]):Cyc E:=by
 have O:∃a,a∈zk (m:Int)/\a∉B:=by
  by_cases F:∀a∈zk (m:Int),a∈B;have:=yr (xJ _) F;rw[zK] at this;lia;by_cases h2:∃a,a∈zk (m:Int)/\a∉B;exact h2;exact absurd (λa I=>by by_cases z:a∈B;exact z;exact absurd ⟨a,I,z⟩ h2) F
 obtain⟨a,I,U⟩:=O;show⟨λa=>a∈zk (m:Int)/\a∉B,a,λa ⟨h1,h2⟩=>?_,I,U⟩;have:a∉zem E m B:=by rw[h];simp
 by_cases F:∃b,b∉B/\(a,b)∈E;obtain⟨b,Y,J⟩:=F;have:=L _ J;exact⟨b,⟨zW.mpr ⟨this.2.2.1,this.2.2.2⟩,Y⟩,J⟩;show absurd (aN.mpr ⟨h1,?_⟩) this;have Z:B.contains a=false:=by cases e:B.contains a;rfl;exact absurd (bA.mp e) h2
 rw[Z,Bool.not_false,Bool.true_and,bm];intro o ho;rw[bA];by_cases z:o∈B;exact z;exact absurd ⟨o,z,zbg.mp ho⟩ F
def zje  : FV:=λPn I n R=>∃ (rm:AG) (E:List (Int×Int)),I=[.d (stD rm),.d (.lst (E.map zQ))]/\(∀q∈E,0<=q.1/\q.1<rm.length/\0<=q.2/\q.2<rm.length)/\(rm.length<=8)/\(E.length<=1000)/\((∀B,B.length<=8->zfd E rm.length rm.length []=some B->R (.d (.tup [.str "order",lsD B])) n)/\(∀F,zfd E rm.length rm.length []=none->IsRd E F->R (.d (.tup [.str "ring",lsD F])) n))
def zje.i{rm:AG}{E:List (Int×Int)}(J:∀q∈E,0<=q.1/\q.1<rm.length/\0<=q.2/\q.2<rm.length)(L:rm.length<=8)(F:E.length<=1000)(h:(∀B,B.length<=8->zfd E rm.length rm.length []=some B->R (.d (.tup [.str "order",lsD B])) n)/\(∀I,zfd E rm.length rm.length []=none->IsRd E I->R (.d (.tup [.str "ring",lsD I])) n))  : zje Pn [.d (stD rm),.d (.lst (E.map zQ))] n R:=⟨rm,E,rfl,J,L,F,h⟩
def zce (T:Txt K mg t):FnOk P w K mg base CX0 3 t.f26 t.d26 lD (spV 2 false zje):=by
 have G25:=zf5 (P:=P) (w:=w) (base:=base) T
 show Fun.okW (k:=2) (fr:=false) [3] 3 T.q26.F xl rfl (by ext) rfl λan A Z s H E Pn L=>⟨_,(zb (wS zo <| zC (i:=2) xl.nd (zs4 (zku (uC L) (z := "box") (N:=[Ak,"pairs"]) (cix:=[none,some 1]) rfl (by walk_at "c") (wI yA <| zP rfl T.b_range (zh (JE.bo (zF z5 xz (by rfl) T.b_len aH (zh (kb 0) zl))) zl)) (λ_ _ _ _ _=>(wG zx <| zi (i:=0) (show ([Ak,"pairs"]:AM).Nodup by decide +kernel))) (λ_ _ _ _ _=>yU) (λ_ _ _ _ _=>(kb 0)) (λ_ _ _ _ _=>(xc (N:=lR) (cix:=[none,none,some 0]) rfl (by walk_at "c") (wI yp <| yz K rfl (kv 1)) (λ_ _ _ _=>(wG x6 <| x8 (n:=2) K rfl rfl (wH zS <| zr (wG zx <| zi (i:=0) (show (lR:AM).Nodup by decide +kernel)) (wH zS <| zr (wG zx <| zi (i:=1) (show (lR:AM).Nodup by decide +kernel)) (wH x5 yY))))) (λ_ _ _ _=>(xg (wT zm <| zw xI zb6 (kb 0) (kb 2) (zy _)))) (λ_ _ _ _=>(kv 1)))))))
   (zb (wS yq <| xf (i:=3) xl.nd (xB zd))
   (zb (zcn aE (wT zm <| zw zhh zsg (JE.bo (zF z5 xz (by rfl) T.b_len aH (zh (kb 3) zl))) (JE.bo (zF z5 xz (by rfl) T.b_len aH (zh (kb 0) zl))) (zy _)) (zb (wS zo <| zes (i:=4) (zcm (ix:=4) xl.nd rfl rfl (N:=[Ak,"row","ahead"]) (cix:=[none,some 3,some 2]) rfl (by walk_at "c") (zwF (kv 2)) (λ_ _ _ _=>(wG zx <| zi (i:=0) (show ([Ak,"row","ahead"]:AM).Nodup by decide +kernel))) (λ_ _ _ _=>(xg (JW.t (wW ua <| zal (wT zm <| zw zbW zio (kb 0) (kb 1) (by with_unfolding_all rfl)) (xC (.inl rfl) (wT zm <| zba (JE.bo (zF (zjB rfl) zrX (by rfl) T.b_all dH (zh (JE.bo (xc (N:=["other","row"]) (cix:=[none,some 1]) rfl (by walk_at "c") (wI yp <| yz K rfl (zky (uC L) (kb 2) (kb 0) (λ_ _=>rfl))) (λ_ _ _ _=>(wG zx <| zi (i:=0) (show (["other","row"]:AM).Nodup by decide +kernel))) (λ_ _ _ _=>yU) (λ_ _ _ _=>(zpZ zbk zr1 (kb 0) (kb 1) (by with_unfolding_all rfl))))) zl))))))))) (λ_ _ _ _=>(kv 0))))
   (zb (wS zG <| yQ (wT zao <| zbQ (wT zg7 <| zet (kb 4))) (ze (zV (yP (za znb (za (wE zq <| yV T.q25 G25 L (za (kv 2) zd)) zd))))) zJ)
   (ze (wS ub <| zak 3 (zab y3 zbu (kb 4) (JE.bo zt) (λ_ _=>rfl)))))))
   (ze (zp5 3 znb))))),λws n R hF=>?_⟩
 obtain⟨rm,E,rfl,hE,h8,O,r⟩:=hF;left;obtain⟨rO,rR⟩:=r;rw[ab];show⟨⟨by lia,by lia⟩,?_⟩;generalize em:rm.length=m at *;rw[xV,aT];have e0:((List.range m).map λk:Nat=>W.d (.int (k:Int)))=(zk (m:Int)).map λi=>W.d (.int i):=by unfold zk;rw[ao,aT];rfl
 rw[e0];have ap:(zk (m:Int)).length=m:=by rw[zK];lia
 show zgI (zk (m:Int)) rfl (λρ=>∃a,ρ=[a,some (.d (.lst (E.map zQ)))]) (λ_=>true) (λh=>lsD (zcg E h)) (xJ _) (ar (by lia:_<=100) (by ext)) ⟨_,rfl⟩ ?_ ?_;rintro h hh as ⟨a,rfl⟩ C hY av;left;show xZ E (λq=>W.d (zQ q)) (by rw[ao];rfl) (λρ=>∃u v,ρ=[u,v,some (.d (.int h))]) (λq=>decide (q.1=h)) (λq=>.int q.2) (ar O (by ext)) ⟨_,_,rfl⟩ ?_ ?_;rintro q hq ad ⟨u,v,rfl⟩ D dY Y;left;exact yW (λz=>dY (a6 z) ⟨_,_,rfl⟩) (λz=>Y (aU z) ⟨_,_,rfl⟩);rw[show (E.filter λq=>decide (q.1=h)).map (λq=>Dt.int q.2)=(zcg E h).map Dt.int by unfold zcg;rw[ao];rfl];exact hY rfl ⟨_,rfl⟩;rw[c6.mpr λ_ _=>rfl];left;show zit (λk ρ n'=>n'=n/\∃ (I:AG) (v4:Option W),k=m - I.length/\ρ=[some (.d (stD rm)),some (.d (.lst (E.map zQ))),some (.kf (ldK (zk (m:Int)) (zcg E))),some (.d (lsD I)),v4]/\I.length<=m/\zfd E m (m - I.length) I=zfd E m m []) m ⟨rfl,[],none,rfl,rfl,aG _,rfl⟩ ?_;rintro k ρ n' ⟨rfl,I,v4,rfl,rfl,a0,J⟩ C B X hC hB hX;left;rw[ab,ab,em];show yW (λU=>?_) (λa1=>?_);have U:I.length<m:=by lia
 left;show⟨zk (m:Int),zev,?_⟩;show xZ (zk (m:Int)) (λb=>W.d (.int b)) rfl (λρ=>∃u,ρ=[u,some (.d (lsD I)),some (.kf (ldK (zk (m:Int)) (zcg E)))]) (λb=>!I.contains b&&(zcg E b).all λo=>I.contains o) (λb=>.int b) (ar (by lia:_<=100) (by ext)) ⟨_,rfl⟩ ?_ ?_;rintro b hb ad ⟨u,rfl⟩ D dY Y;have a2:=zin E b;left;show⟨I,rfl,?_⟩;left;show zln (λhn=>?_) (λhn=>?_);left;show y8 (zaE hb) ?_;left;show zah (zcg E b) (λo=>W.d (.int o)) (by rw[ao];rfl) (λρ=>∃v,ρ=[v,some (.d (lsD I))]) (λo=>.bl (I.contains o)) (ar (by lia:_<=1000) (by ext)) ⟨_,rfl⟩ ?_ ?_;rintro o ho a3 ⟨v,rfl⟩ F hF;left;show⟨I,rfl,?_⟩;left;exact hF ⟨_,rfl⟩;left;show⟨(zcg E b).map λo=>I.contains o,by rw[ao];rfl,?_⟩;rw[show ((zcg E b).map λo=>I.contains o).all id=(zcg E b).all λo=>I.contains o by rw[List.all_map];rfl];left;show zcf (λz=>?_) (λz=>?_);left;exact dY (by rw[z,hn];rfl) ⟨_,rfl⟩;exact Y (by rw[z,cN]) ⟨_,rfl⟩;left;exact Y (by rw[hn];rfl) ⟨_,rfl⟩;have e9:((zk (m:Int)).filter λb=>!I.contains b&&(zcg E b).all λo=>I.contains o)=zem E m I:=rfl;rw[e9];left;have hk:m - I.length=(m - (I.length+1))+1:=by lia
 cases ef:zem E m I with
 | nil=>
  have ag:=zxt hE U ef;with_reducible show zlm ?_ ?_
  rfl;left;show zvr.i hE (by lia) O ⟨λz=>absurd ag z,λrd L _=>?_⟩;left;show hX (rR rd ?_ L);rw[<- J,hk];unfold zfd;rw[ef]
 | cons b r=>
  with_reducible show zqx ?_ ?_
  rfl;left;have h0:atI ((b::r).map Dt.int) 0=some (.int b):=zbP (i:=0) rfl;show y8 h0 ?_;left;show⟨aO (by rw[ab];lia:_<=8) (by ext),?_⟩;have e2:I.map Dt.int++[Dt.int b]=(I++[b]).map Dt.int:=by rw[az];rfl
  rw[e2];show hC (m - (I++[b]).length) (by rw[aj];simp;lia) ⟨rfl,I++[b],_,rfl,rfl,by rw[aj];simp;lia,?_⟩;rw[aj,dC,<- J,hk,zfd,ef]
 have al:I.length=m:=by lia
 show hB ?_;left;show rO I (by lia) ?_;rw[<- J,al,eD];rfl
def zcb (rm:AG)(bk:AW):List (Int×Int):=(ut rm bk).map λr=>(r.getD 0 0,r.getD 1 0)
def zkf {rm:AG}{bk:AW}:(ut rm bk).map stD=(zcb rm bk).map zQ:=by
 unfold zcb;rw[ao];show c4 λr q=>?_;have:=zcL q
 match r,this with
 | [a,b],_=>rfl
def zck{rm:AG}:∀q∈zcb rm bk,0<=q.1/\q.1<rm.length/\0<=q.2/\q.2<rm.length:=λq B=>by obtain⟨r,F,rfl⟩:=aF.mp B;obtain⟨b,o,h1,h2,_,rfl⟩:=uM.mp F;simp;lia
def zfF {rm:AG}{bk:AW}(q:RoomOk rm):(zcb rm bk).length<=1000:=by unfold zcb;rw[ab];have:=zfG (bk:=bk) q;lia
def zvH (rm:AG)(bk:AW):Option AG:=zfd (zcb rm bk) rm.length rm.length []
def zjd  : FV:=λPn F n R=>∃ (rm:AG) (bk:AW),F=[.d (stD rm),.d (xp bk)]/\(RoomOk rm)/\(yS rm bk)/\(bk.length<=1000)/\((∀q,q.length<=8->zvH rm bk=some q->R (.d (.tup [.str "order",lsD q])) n)/\(∀B,zvH rm bk=none->IsRd (zcb rm bk) B->R (.d (.tup [.str "ring",lsD B])) n))
def zjd.i{rm:AG}(F:RoomOk rm)(I:yS rm bk)(J:bk.length<=1000)(h:(∀q,q.length<=8->zvH rm bk=some q->R (.d (.tup [.str "order",lsD q])) n)/\(∀B,zvH rm bk=none->IsRd (zcb rm bk) B->R (.d (.tup [.str "ring",lsD B])) n))  : zjd Pn [.d (stD rm),.d (xp bk)] n R:=⟨rm,bk,rfl,F,I,J,h⟩
def zlk (T:Txt K mg t):FnOk P w K mg base CX0 5 t.f27 t.d27 lh (spV 2 false zjd):=by have G23:=zli (P:=P) (w:=w) (base:=base) T;have G26:=zce (P:=P) (w:=w) (base:=base) T;show Fun.okW (k:=4) (fr:=false) [] 0 T.q27.F zn7 rfl (by ext) rfl λJ A q s H E Pn I=>⟨_,(ze (zV (wE zq <| yV T.q26 G26 I (za (kv 0) (za (wE zq <| yV T.q23 G23 I (za (kv 0) (za (kv 1) zd))) zd))))),λY n R L=>?_⟩;obtain⟨rm,bk,rfl,B,O,U,r⟩:=L;left;show zvo.i B O U ?_;left;change zje Pn [.d (stD rm),.d (.lst ((ut rm bk).map stD))] n R;rw[zkf];exact zje.i zck B.few (zfF B) r
def zhy  : FV:=λPn B n R=>∃ (rm:AG) (bk:AW) (q:Dt) (st:AG),B=[.d q,.d (stD st)]/\(BkD bk q)/\(RoomOk rm)/\(yS rm bk)/\(st.length=rm.length)/\(R (.d (uu (zop bk st []))) n)
def zhy.i{rm:AG}{st:AG}(B:BkD bk q)(I:RoomOk rm)(J:yS rm bk)(F:st.length=rm.length)(h:R (.d (uu (zop bk st []))) n)  : zhy Pn [.d q,.d (stD st)] n R:=⟨rm,bk,q,st,rfl,B,I,J,F,h⟩
def zdx (T:Txt K mg t):FnOk P w K mg base CX0 1 t.f28 t.d28 lA (spV 2 true zhy):=by
 show Fun.okW (k:=0) (fr:=true) [2] 6 T.q28.F yB rfl (by ext) rfl λa1 A ap s H E Pn hr=>⟨_,(zb (wS yq <| xf (i:=2) yB.nd (xB zd))
   (zb (yD aE rfl (wI zqm <| ztc K rfl (kv 0)) (wG x6 <| x8 (n:=4) K rfl rfl (wH zS <| zr (wG zx <| zi (i:=3) yB.nd) (wH zS <| zr (wG zx <| zi (i:=4) yB.nd) (wH zS <| zr (wG zx <| zi (i:=5) yB.nd) (wH zS <| zr (wG zx <| zi (i:=6) yB.nd) (wH x5 yY)))))) (ze (wS zG <| yQ (JW.t (wW ua <| zal (wT zm <| zw xI zb6 (JE.bo (zab yF ug (kb 1) (kb 4) (λ_ _=>rfl))) (kb 6) (zy _)) (xC (.inl rfl) (wT zm <| zba (JE.bo (zF (zjB rfl) zrX (by rfl) T.b_all dH (zh (JE.bo (xc (N:=lu) (cix:=[none,none,some 1]) rfl (by walk_at "c") (wI uR <| za9 K rfl (kv 3)) (λ_ _ _ _=>(wG x6 <| x8 (n:=2) K rfl rfl (wH zS <| zr (wG zx <| zi (i:=0) (show (lu:AM).Nodup by decide +kernel)) (wH zS <| zr (wG zx <| zi (i:=1) (show (lu:AM).Nodup by decide +kernel)) (wH x5 yY))))) (λ_ _ _ _=>yU) (λ_ _ _ _=>(zpZ xI zb6 (JE.bo (zab yF ug (kb 2) (kb 0) (λ_ _=>rfl))) (kb 1) (zy _))))) zl))))))) (zb (wS zo <| zC (i:=7) yB.nd (zac yM xS (JE.bo (zac yM xS (JE.bo (wE xh <| za8 (kb 1) yd (wO zO <| ye (kb 4)))) (JE.bo (yP (za (kv 5) zd))))) (JE.bo (wE xh <| za8 (kb 1) (wO zO <| ye (JE.bo (zac yX zbN (kb 4) (JE.bo zt)))) yd))))
   (ze (wS zG <| yQ (wT zm <| zw (zlu hr.units) zr0 (kb 7) (kb 2) (by with_unfolding_all rfl)) (ze (wS ub <| zak 2 (kv 7))) zJ))) zJ)))
   (ze (zV (zF zpq zr6 (by rfl) T.b_sorted cD (zh (kb 2) zl)))))),λws n R hF=>?_⟩
 obtain⟨rm,bk,bd,st,rfl,as,hR,hB,J,r⟩:=hF;left;have h8:=hR.few;show ztI as ?_;show yk bk (λx=>W.d (zU x)) (by rw[ao];rfl) (λi ρ m=>m=n/\∃ (l:AF) (O U Y Z v7:Option W),ρ=[some (.d bd),some (.d (stD st)),some (.d (.lst (l.map stD))),O,U,Y,Z,v7]/\l.Nodup/\(∀z,z∈l↔z∈zbE (bk.take i) st [])) ⟨rfl,[],_,_,_,_,_,rfl,.nil,by simp[zbE]⟩ ?_ ?_;rintro i x ρ m hx ⟨rfl,l,O,U,Y,Z,v7,rfl,L,I⟩ C B E hC _ _;have hW:=hB x (aA hx);have b0:=hW.b0;have b1:=hW.b1;have av:∀q∈x.g,0<=q.1/\q.1<st.length:=λq hq=>by have:=hW.giv.ok q hq;rw[J];exact⟨this.1,this.2.1⟩
 have ad:zaS st x=false->∀O U Y Z v7,C [some (.d bd),some (.d (stD st)),some (.d (.lst (l.map stD))),O,U,Y,Z,v7] m:=λhg O U Y Z v7=>by show hC ⟨rfl,l,_,_,_,_,_,rfl,L,λz=>?_⟩;rw[I z,zn hx,zdK,hg];simp
 left;show onA b0 (by lia) ?_;left;show yW (λhw=>?_) (λhw=>⟨ad (by unfold zaS;rw[aU hw];rfl) _ _ _ _ _⟩);left;show zah x.g (λq=>.d (zQ q)) (by rw[ao];rfl) (λρ=>∃a b,ρ=[a,b,some (.d (stD st))]) (λq=>.bl (decide (yt st q.1=q.2))) (ar (zj7 hW.giv h8) (by ext)) ⟨_,_,rfl⟩ ?_ ?_;rintro q hq a2 ⟨a,b,rfl⟩ D hD;have hb:=av q hq;left;show onA hb.1 hb.2 ?_;left;exact hD ⟨_,_,rfl⟩;left;show⟨x.g.map λq=>decide (yt st q.1=q.2),by rw[ao];rfl,?_⟩;rw[show (x.g.map λq=>decide (yt st q.1=q.2)).all id=xD st x.g by unfold xD;rw[List.all_map];rfl];left;show zcf (λhk=>?_) (λhk=>⟨ad (by unfold zaS;rw[hk,cN]) _ _ _ _ _⟩);have hg:zaS st x=true:=by unfold zaS;rw[a6 hw,hk];rfl
 left;show⟨zaB (by lia),?_⟩;left;show⟨zaC (by lia),?_⟩;rw[zbz b0 (by lia)];left;show⟨zcC,zbF l,λb hb=>?_⟩;left;have ag:∀z,z∈zbE (bk.take (i+1)) st []↔z∈zbE (bk.take i) st []\/z=chg st x.b x.r:=λz=>by rw[zn hx,zdK,hg];simp
 have al:l.length<=32:=zfD (λy hy=>hB y (bT hy)) h8 hR.box L λz hz=>(I z).mp hz
 cases b with
 | true=>
  have a0:=zha.mp (hb.mp rfl);walk_at "cf";show hC ⟨rfl,l,_,_,_,_,_,rfl,L,λz=>?_⟩;rw[ag z,I z];constructor;exact .inl;rintro (z1 | rfl);exact z1;exact (I _).mp a0
 | false=>
  have an:chg st x.b x.r∉l:=λz=>by have:=hb.mpr (zha.mpr z);cases this
  walk_at "ct";show⟨by rw[ab];exact aO al (by ext),hC ⟨rfl,l++[chg st x.b x.r],_,_,_,_,_,by rw[az];rfl,?_,λz=>?_⟩⟩;rw[cS];exact⟨L,by simp,λa ha c hc e=>an (by rw[<- aD.mp hc,<- e];exact ha)⟩;rw[a9,aD,ag z,I z]
 rintro ρ m ⟨rfl,l,O,U,Y,Z,v7,rfl,L,I⟩;rw[bg] at I;left;show⟨l,rm.length,rfl,?_,hR.pos,λz hz=>zfE hB J z ((I z).mp hz),L,λl' hp hu=>?_⟩;have:=zfD hB h8 hR.box L λz hz=>(I z).mp hz;lia;rw[show l'=zop bk st [] from zcq (zfE hB J) hu λz=>hp.mem_iff.trans (I z)];exact r
def zmv  : FV:=λPn F n R=>∃ (rm:AG) (bk:AW) (B:Dt) (q:Int) (st:AG) (m:Nat),F=[.d B,.d (.int q),.d (.int (m:Int)),.d (stD st)]/\(BkD bk B)/\(RoomOk rm)/\(yS rm bk)/\(st.length=rm.length)/\(0<=q)/\(q<rm.length)/\((m:Int)=yt rm q)/\(R (.d (.lst ((lpE bk q st).map zQ))) n)
def zmv.i  {Pn:PN} {n:Nat} {R:AV} {rm:AG} {bk:AW} {B:Dt} {q:Int} {st:AG} {m:Nat} (F:BkD bk B) (J:RoomOk rm) (L:yS rm bk) (I:st.length=rm.length) (O:0<=q) (U:q<rm.length) (Y:(m:Int)=yt rm q) (h:R (.d (.lst ((lpE bk q st).map zQ))) n)  : zmv Pn [.d B,.d (.int q),.d (.int (m:Int)),.d (stD st)] n R:=⟨rm,bk,B,q,st,m,rfl,F,J,L,I,O,U,Y,h⟩
def zdv (T:Txt K mg t):FnOk P w K mg base CX0 2 t.f29 t.d29 ld (spV 4 true zmv):=by
 have G28:=zdx (P:=P) (w:=w) (base:=base) T
 show Fun.okW (k:=1) (fr:=true) [4] 5 T.q29.F yR rfl (by ext) rfl λas A ad s H E Pn hr=>⟨_,(zb (wS yq <| xf (i:=4) yR.nd (xB zd))
   (zb (yD aE rfl (wI yA <| zP rfl T.b_range (zh (kb 2) zl)) (wG zx <| zi (i:=5) yR.nd) (ze (yD aE rfl (wI yA <| zP rfl T.b_range (zh (kb 2) zl)) (wG zx <| zi (i:=6) yR.nd) (zb (wS zo <| zC (i:=7) yR.nd (zac yM xS (JE.bo (zac yM xS (JE.bo (wE xh <| za8 (kb 3) yd (wO zO <| ye (kb 1)))) (JE.bo (yP (za (kv 5) zd))))) (JE.bo (wE xh <| za8 (kb 3) (wO zO <| ye (JE.bo (zac yX zbN (kb 1) (JE.bo zt)))) yd))))
   (zb (wS zo <| zC (i:=8) yR.nd (zac yM xS (JE.bo (zac yM xS (JE.bo (wE xh <| za8 (kb 3) yd (wO zO <| ye (kb 1)))) (JE.bo (yP (za (kv 6) zd))))) (JE.bo (wE xh <| za8 (kb 3) (wO zO <| ye (JE.bo (zac yX zbN (kb 1) (JE.bo zt)))) yd))))
   (ze (wS zG <| yQ (wT zm <| zw (zoT hr.units) zr0 (kb 8) (JE.bo (wE zq <| yV T.q28 G28 hr (za (kv 0) (za (kv 7) zd)))) (by with_unfolding_all rfl)) (ze (wS ub <| zak 4 (yP (za (kv 5) (za (kv 6) zd))))) zJ)))))))
   (ze (wS uS <| zaU 4)))),λws n R hF=>?_⟩
 obtain⟨rm,bk,bd,q,st,m,rfl,ag,hR,hB,O,U,b1,hm,r⟩:=hF;left;have h8:=hR.few;have av:=yi hR.box U b1;have al:=zod (n:=m) hB O U b1 hm;have an:∀w:Int,(chg st q w).length=rm.length:=λw=>by rw[xN U (by lia)];exact O
 show⟨⟨by lia,by lia⟩,u6 (λi ρ Z=>Z=n/\∃v5 I J L,ρ=[some (.d bd),some (.d (.int q)),some (.d (.int (m:Int))),some (.d (stD st)),some (.d (.lst ((uL (zc3 bk q st) m i).map stD))),v5,I,J,L]) ⟨rfl,_,_,_,_,rfl⟩ ?_ ?_⟩;rintro i ρ Z hi ⟨rfl,v5,I,J,L,rfl⟩ C B X hC _ _;left;show⟨⟨by lia,by lia⟩,u6 (λj ρ m2=>m2=Z/\j<=m/\∃I J L,ρ=[some (.d bd),some (.d (.int q)),some (.d (.int (m:Int))),some (.d (stD st)),some (.d (.lst ((uL (zc3 bk q st) m i++zN (zc3 bk q st) i j).map stD))),some (.d (.int (i:Int))),I,J,L]) ⟨rfl,aG _,I,J,L,by simp[zN]⟩ ?_ ?_⟩;rintro j ρ m2 hj ⟨rfl,ap,I,J,L,rfl⟩ C' B' X' Y _ _;have hj:j<m:=by lia
 left;show⟨zaB (by lia),?_⟩;left;show⟨zaC (by lia),?_⟩;rw[zbz U (by lia)];left;show⟨zaB (by lia),?_⟩;left;show⟨zaC (by lia),?_⟩;rw[zbz U (by lia)];left;show zhy.i ag hR hB (an _) ?_;left;show⟨zcC,zbF _,λb hb=>?_⟩;have eb:b=zc3 bk q st i j:=by rw[bP,hb,zha];exact zlw hB O U b1
 rw[show xr false b=zc3 bk q st i j from eb];left;show zcf (λhp=>?_) (λhp=>?_);left;show⟨?_,Y ⟨rfl,hj,some (.d (.int (j:Int))),some (.d (stD (chg st q (i:Int)))),some (.d (stD (chg st q (j:Int)))),?_⟩⟩;have q1:=zbt (zc3 bk q st) m i;have q2:=zaz (zc3 bk q st) i j;have q3:i * m<=4 * 4:=du (by lia) (by lia);rw[ab,aj];exact aO (by lia:_<=100) (by ext);rw[xm,if_pos hp,<- bL,az (l₂:=[[(i:Int),(j:Int)]])];rfl;left;show Y ⟨rfl,hj,some (.d (.int (j:Int))),some (.d (stD (chg st q (i:Int)))),some (.d (stD (chg st q (j:Int)))),?_⟩;rw[xm,if_neg (by rw[hp];decide)];rintro ρ m2 ⟨rfl,ap,I,J,L,rfl⟩;left;exact hC ⟨rfl,_,_,_,_,rfl⟩;rintro ρ Z ⟨rfl,v5,I,J,L,rfl⟩;left;have:=r;rw[<- zqg,<- al] at this;exact this
def zhv  : FV:=λPn q n R=>∃ (rm:AG) (bk:AW),q=[.d (stD rm),.d (xp bk)]/\(RoomOk rm)/\(yS rm bk)/\(bk.length<=1000)/\(R (.d (uu (ut rm bk))) n)
def zhv.i{rm:AG}(q:RoomOk rm)(B:yS rm bk)(F:bk.length<=1000)(h:R (.d (uu (ut rm bk))) n)  : zhv Pn [.d (stD rm),.d (xp bk)] n R:=⟨rm,bk,rfl,q,B,F,h⟩
def zeE (T:Txt K mg t):FnOk P w K mg base CX0 3 t.f30 t.d30 ly (spV 2 true zhv):=by
 have G4:=xi (P:=P) (w:=w) (base:=base) T;have G29:=zdv (P:=P) (w:=w) (base:=base) T
 show Fun.okW (k:=2) (fr:=true) [3] 7 T.q30.F yw rfl (by ext) rfl λa4 A av s H E Pn q=>⟨_,(zb (wS zo <| zC (i:=2) yw.nd (wE zq <| yV T.q4 G4 q (za (kv 0) zd)))
   (zb (wS yq <| xf (i:=3) yw.nd (xB zd))
   (zb (yD aE rfl (wI yA <| zP rfl T.b_range (zh (JE.bo (zF z5 xz (by rfl) T.b_len aH (zh (kb 0) zl))) zl)) (wG zx <| zi (i:=4) yw.nd) (zb (wS zo <| zC (i:=5) yw.nd (xc (N:=lS) (cix:=[none,some 4]) rfl (by walk_at "c") (wI uR <| za9 K rfl (kv 1)) (λ_ _ _ _=>(wG zx <| zi (i:=0) (show (lS:AM).Nodup by decide +kernel))) (λ_ _ _ _=>(xg (wT zm <| zw xI zb6 (JE.bo (zab yF ug (kb 0) (JE.bo zt) (λ_ _=>rfl))) (kb 1) (zy _)))) (λ_ _ _ _=>(kv 0))))
   (zb (wS zo <| zC (i:=6) yw.nd (zs3 (xT (zmH rfl q.units) zrY (by rfl) T.b_dict PyProof.Rows.boot_dict (zh (JE.bo (xc (N:=lB) (cix:=[none,some 5,some 4,some 0]) rfl (by walk_at "c") (wI yp <| yz K rfl (kv 2)) (λ_ _ _ _=>(wG zx <| zi (i:=0) (show (lB:AM).Nodup by decide +kernel))) (λ_ _ _ _=>(xg (wT zm <| zw xI zb6 (JE.bo (zab yF ug (kb 0) (kb 2) (λ_ _=>rfl))) (JE.bo zt) (zy _)))) (λ_ _ _ _=>(yP (za (kv 0) (za (wE zq <| yV T.q29 G29 q (za (kv 1) (za (kv 2) (za (zab yF ug (kb 3) (kb 2) (λ_ _=>rfl)) (za (kv 0) zd))))) zd)))))) zl))))
   (ze (yD aE rfl (wI yA <| zP rfl T.b_range (zh (JE.bo (zF z5 xz (by rfl) T.b_len aH (zh (kb 0) zl))) zl)) (wG zx <| zi (i:=7) yw.nd) (zb (wS zo <| zes (i:=8) (zcm (ix:=8) yw.nd rfl rfl (N:=lK) (cix:=[none,some 6,some 7]) rfl (by walk_at "c") (zta (kv 6)) (λ_ _ _ _=>(wG zx <| zi (i:=0) (show (lK:AM).Nodup by decide +kernel))) (λ_ _ _ _=>(xg (wT zm <| zw (zga q.units) zmi (JE.bo (zer (uC q) (kb 1) (kb 0) (λ_ _=>rfl))) (JE.bo (zs5 (uC q) (kb 1) (JE.bo (zac yM xS (JE.bo (zac yM xS (JE.bo (wE xh <| za8 (kb 0) yd (wO zO <| ye (kb 2)))) (JE.bo (yP (za zt zd))))) (JE.bo (wE xh <| za8 (kb 0) (wO zO <| ye (JE.bo (zac yX zbN (kb 2) (JE.bo zt)))) yd)))) (zer (uC q) (kb 1) (kb 0) (λ_ _=>rfl)))) (zy _)))) (λ_ _ _ _=>(kv 0))))
   (ze (wS zG <| yQ (JW.t (wW ua <| zal (wT zm <| zw zf9 zpa (kb 7) (kb 4) (zy _)) (xC (.inl rfl) (wT zm <| zw (zga q.units) zmi (kb 8) (JE.bo (xB zd)) (zy _))))) (ze (wS ub <| zak 3 (yP (za (kv 4) (za (kv 7) zd))))) zJ))))))))
   (ze (wS uS <| zaU 3))))),λws n R hF=>?_⟩
 obtain⟨rm,bk,rfl,hR,hB,hl,r⟩:=hF;left;have h8:=hR.few;have a0:(Dt.lst []).eqOk:=zbF [];show zdD.i hR ?_;left;rw[ab];show⟨⟨by lia,by lia⟩,u6 (λi ρ m=>m=n/\i<=rm.length/\∃ (v4 v5 v6 I J:Option W),ρ=[some (.d (stD rm)),some (.d (xp bk)),some (.d (uu (xn (rm.map zk)))),some (.d (uu (uL (uh rm bk) rm.length i))),v4,v5,v6,I,J]) ⟨rfl,aG _,_,_,_,_,_,rfl⟩ ?_ ?_⟩;rintro i ρ m hi ⟨rfl,a1,v4,v5,v6,I,J,rfl⟩ C B X hC _ _;have hi:i<rm.length:=by lia
 have a5:=yi hR.box (b:=(i:Int)) (by lia) (by lia);left;show xZ bk (λx=>W.d (zU x)) (by rw[ao];rfl) (λρ=>∃v,ρ=[v,some (.d (.int (i:Int)))]) (λx=>decide (x.b=(i:Int))) (λx=>zU x) (ar hl (by ext)) ⟨_,rfl⟩ ?_ ?_;rintro x hx an ⟨v,rfl⟩ D dY dN;left;exact yW (λz=>dY (a6 z) ⟨_,rfl⟩) (λz=>dN (aU z) ⟨_,rfl⟩);left;have Y:BkD (zqF bk (i:Int)) (.lst ((bk.filter λx=>decide (x.b=(i:Int))).map λx=>zU x)):=.inr rfl;generalize (Dt.lst ((bk.filter λx=>decide (x.b=(i:Int))).map λx=>zU x))=od at Y;show xZ (xn (rm.map zk)) (λst=>W.d (stD st)) (by rw[ao];rfl) (λρ=>∃v,ρ=[v,some (.d od),some (.d (.int (i:Int))),some (.d (stD rm))]) (λst=>decide (yt st (i:Int)=0)) (λst=>Dt.tup [stD st,lpD bk (i:Int) st]) (ar (zgz hR) (by ext)) ⟨_,rfl⟩ ?_ ?_;rintro st L an ⟨v,rfl⟩ D dY dN;have U:=zbv _ _ L;have Z:=U.len;left;show onA (by lia) (by lia) ?_;left;show yW (λz=>?_) (λz=>dN (aU z) ⟨_,rfl⟩);left;show onA (by lia) (by lia) ?_;left;rw[show yt rm (i:Int)=(((yt rm (i:Int)).toNat:Nat):Int) by lia];show zmv.i Y hR (ztV hB) Z (by lia) (by lia) (by lia) ?_;rw[zkR];exact dY (a6 z) ⟨_,rfl⟩;generalize O:(xn (rm.map zk)).filter (λst=>decide (yt st (i:Int)=0))=fl;have ad:∀st,st∈fl↔StOk rm st/\yt st (i:Int)=0:=λst=>by rw[<- O,aN,bM];exact⟨λh=>⟨zbv _ _ h.1,h.2⟩,λh=>⟨ze5 h.1,h.2⟩⟩
 have ag:fl.length<=lim:=by rw[<- O];exact ar (dF _ _) (ar (zgz hR) (by ext))
 left;show⟨fl.map λst=>(st,lpD bk (i:Int) st),by rw[ao];rfl,?_,by rw[ab];exact ag,?_⟩;rw[ao,show ((λx:AG×Dt=>x.1) ∘ λst=>(st,lpD bk (i:Int) st))=id from rfl,List.map_id,<- O];exact (zon rm).filter _;left;rw[ab]
 have al:∀o:Int,fl.filter (zgK bk (i:Int) o)≠[]↔ziZ rm bk (i:Int) o=true:=λo=>by
  unfold ziZ;rw[cZ];constructor;intro h;obtain⟨st,hs⟩:=List.exists_mem_of_ne_nil _ h;rw[aN,<- O,aN] at hs;exact⟨st,hs.1.1,by rw[hs.1.2,hs.2];rfl⟩;rintro⟨st,h1,h2⟩ e;rw[aQ] at h2;have:st∈fl.filter (zgK bk (i:Int) o):=aN.mpr ⟨by rw[<- O];exact aN.mpr ⟨h1,h2.1⟩,h2.2⟩;rw[e] at this;cases this
 show⟨⟨by lia,by lia⟩,u6 (λj ρ m'=>m'=m/\j<=rm.length/\∃ (I J:Option W),ρ=[some (.d (stD rm)),some (.d (xp bk)),some (.d (uu (xn (rm.map zk)))),some (.d (uu (uL (uh rm bk) rm.length i++zN (uh rm bk) i j))),some (.d (.int (i:Int))),some (.d od),some (.df (fl.map λst=>(st,lpD bk (i:Int) st))),I,J]) ⟨rfl,aG _,I,J,by simp[zN]⟩ ?_ ?_⟩;rintro j ρ m' hj ⟨rfl,a2,I,J,rfl⟩ C' B' X' ap _ _;have hj:j<rm.length:=by lia
 left;intro _;show xZ fl (λst=>W.d (stD st)) (by rw[ao];rfl) (λρ=>∃v,ρ=[v,some (.df (fl.map λst=>(st,lpD bk (i:Int) st))),some (.d (.int (j:Int)))]) (λst=>zgK bk (i:Int) (j:Int) st) (λst=>stD st) ag ⟨_,rfl⟩ ?_ ?_;rintro st L an ⟨v,rfl⟩ D dY dN;obtain⟨U,h0⟩:=(ad st).mp L;have Z:=U.len
 have a3:chg st (j:Int) 0∈fl:=(ad _).mpr ⟨zcr U (by lia) (by lia) (by ext) (by have:=yi hR.box (b:=(j:Int)) (by lia) (by lia);lia),by
  rw[yo (by lia) (by lia) (by lia)];split;rfl;exact h0⟩
 left;show⟨_,rfl,y8 (zan L) ?_⟩;left;show⟨zaB (by lia),?_⟩;left;show⟨zaC (by lia),?_⟩;rw[zbz (by lia) (by lia)];left;show⟨_,rfl,y8 (zan L) ?_⟩;left;show⟨_,rfl,?_⟩;rw[zan a3];left;show⟨zh1,zh1,λr q=>?_⟩;rw[zsL q];left;exact zcf (λz=>dY z ⟨_,rfl⟩) (λz=>dN z ⟨_,rfl⟩);left;have as:uh rm bk i j=false->∀I J,C' [some (.d (stD rm)),some (.d (xp bk)),some (.d (uu (xn (rm.map zk)))),some (.d (uu (uL (uh rm bk) rm.length i++zN (uh rm bk) i j))),some (.d (.int (i:Int))),some (.d od),some (.df (fl.map λst=>(st,lpD bk (i:Int) st))),I,J] m':=λh I J=>by show ap ⟨rfl,hj,I,J,?_⟩;rw[xm,if_neg (by rw[h];decide)]
 show ziX (λhb=>?_) (λhb=>⟨as (by unfold uh;rw[aU (λz=>z (by lia))];rfl) _ _⟩);have hd:decide (j≠i)=true:=a6 λz=>hb (by lia);left;show⟨zbF _,a0,λr q=>?_⟩
 have er:(!r)=ziZ rm bk (i:Int) (j:Int):=by
  rw[bP,<- al (j:Int),Bool.not_eq_true'];constructor;rintro e z;have:r=true:=q.mpr (by rw[z];rfl);rw[e] at this;cases this;intro z
  cases r with
  | false=>rfl
  | true=>exact absurd (List.map_eq_nil_iff.mp (Dt.lst.inj (q.mp rfl))) z
 rw[er];left;show zcf (λhp=>?_) (λhp=>⟨as (by unfold uh;rw[hp,cN]) _ _⟩);left;have hq:uh rm bk i j=true:=by unfold uh;rw[hd,hp];rfl
 show⟨?_,ap ⟨rfl,hj,some (.d (.int (j:Int))),some (.d (uu (fl.filter λst=>zgK bk (i:Int) (j:Int) st))),?_⟩⟩;have q1:=zbt (C:=uh rm bk) (n:=rm.length) (i:=i);have q2:=zaz (uh rm bk) i j;have q3:i * rm.length<=8 * 8:=du (by lia) (by lia);rw[ab,aj];exact aO (by lia:_<=100) (by ext);rw[xm,if_pos hq,<- bL,uu,uu,az (l₂:=[[(i:Int),(j:Int)]])];rfl;rintro ρ m' ⟨rfl,a2,I,J,rfl⟩;left;exact hC ⟨rfl,hi,_,_,_,_,_,rfl⟩;rintro ρ m ⟨rfl,a1,v4,v5,v6,I,J,rfl⟩;left;exact r
def ztU (q:AG):(Dt.tup [.str "order",.lst (q.map .int)]).eqOk:=by
 have e:∀ns:AG,(Dt.toWs (ns.map .int)).all (PySem.W.kqdOk 6)=true:=by
  intro ns
  induction ns with
  | nil=>rfl
  | cons n ns B=>simp only[ax,Dt.toWs,b9,B,cv];rfl
 change (PySem.W.kqdOk 7 (Dt.str "order").toW&&((Dt.toWs (q.map .int)).all (PySem.W.kqdOk 6)&&true))=true;rw[e,show PySem.W.kqdOk 7 (Dt.str "order").toW=true by decide +kernel];rfl
def xt (m:Nat)(q:AG):AG:=(zk (m:Int)).filter λb=>!q.contains b
def zbb{q:AG}{b:Int}:b∈xt m q↔(0<=b/\b<m)/\b∉q:=by unfold xt;rw[aN,zW];simp
def znl (m:Nat)(q:AG):(xt m q).Nodup:=(xJ _).sublist c5
def zkK (m:Nat)(q:AG):(xt m q).length<=m:=by have:=dF (λb=>!q.contains b) (zk (m:Int));rw[zK] at this;unfold xt;lia
def zg2{q:AG}{b:Int}:(xt m q).erase b=xt m (q++[b]):=by
 rw[(znl m q).erase_eq_filter];unfold xt;rw[eJ];show List.filter_congr λx _=>?_;by_cases h:x=b;subst h;simp;simp[h]
def zfT {m:Nat}{q:AG}(I:q.Nodup)(J:∀x∈q,0<=x/\x<m):xt m q=[]↔q.length=m:=by
 constructor;intro h
 have h1:∀x∈zk (m:Int),x∈q:=λx B=>by
  by_cases z:x∈q;exact z;have:x∈xt m q:=zbb.mpr ⟨zW.mp B,z⟩;rw[h] at this;cases this
 have h2:=yr (xJ _) h1;have F:=yr I λx B=>zW.mpr (J x B);rw[zK] at h2 F;lia;intro h
 cases e:xt m q with
 | nil=>rfl
 | cons b l=>
  have L:b∈xt m q:=by rw[e];simp
  obtain⟨h1,h2⟩:=zbb.mp L
  have F:(b::q).length<=(zk (m:Int)).length:=yr (cj.mpr ⟨h2,I⟩) λx B=>by
   rcases aJ.mp B with z | z;subst z;exact zW.mpr h1;exact zW.mpr (J x z)
  rw[zK,aV] at F;lia
def zfB {E:List (Int×Int)}{m:Nat}{B:AG}(I:∀q∈E,0<=q.1/\q.1<m/\0<=q.2/\q.2<m):((xt m B).filter λb=>decide ((E.filter λq=>decide (q.1=b)&&(xt m B).contains q.2)=[]))=zem E m B:=by
 unfold zem;rw[xt,eJ];show List.filter_congr λb _=>?_;rw[Bool.and_comm];congr 1;rw[bP,decide_eq_true_iff,bm,List.filter_eq_nil_iff];constructor;intro h o F;have:=h _ (zbg.mp F);have h1:=I _ (zbg.mp F);rw[bA];by_cases z:o∈B;exact z;exact absurd (by simp[zW,z];lia) this;intro h q J z;rw[aQ,decide_eq_true_iff,bA] at z;obtain⟨L,O⟩:=z;have:=h q.2 (zbg.mpr (by rw[<- L];exact J));rw[bA] at this;exact (zbb.mp O).2 this
def zmt  : FV:=λPn F n R=>∃ (rm:AG) (E:List (Int×Int)),F=[.d (stD rm),.d (.lst (E.map zQ))]/\(∀q∈E,0<=q.1/\q.1<rm.length/\0<=q.2/\q.2<rm.length)/\(rm.length<=8)/\(E.length<=1000)/\((∀B,B.length<=8->zfd E rm.length rm.length []=some B->R (.d (lsD B)) n)/\(zfd E rm.length rm.length []=none->R (.d .non) n))
def zmt.i{rm:AG}{E:List (Int×Int)}(I:∀q∈E,0<=q.1/\q.1<rm.length/\0<=q.2/\q.2<rm.length)(J:rm.length<=8)(F:E.length<=1000)(h:(∀B,B.length<=8->zfd E rm.length rm.length []=some B->R (.d (lsD B)) n)/\(zfd E rm.length rm.length []=none->R (.d .non) n))  : zmt Pn [.d (stD rm),.d (.lst (E.map zQ))] n R:=⟨rm,E,rfl,I,J,F,h⟩
def zf2 (T:Txt K mg t):FnOk P w K mg base CX0 1 t.f31 t.d31 lF (spV 2 false zmt):=by
 show Fun.okW (k:=0) (fr:=false) [2,3] 3 T.q31.F uY rfl (by ext) rfl λcdv A outer s H E Pn hr=>⟨_,(zb (wS yq <| xf (i:=2) uY.nd (wE uc <| zaj T.b_list T.b_range (zh (JE.bo (zF z5 xz (by rfl) T.b_len aH (zh (kb 0) zl))) zl)))
   (zb (wS yq <| xf (i:=3) uY.nd (xB zd))
   (zb (zcn aE (wT zm <| zw (zga hr.units) zmi (kb 2) (JE.bo (xB zd)) (zy _)) (zb (wS zo <| zes (i:=4) (zkB (ix:=4) uY.nd rfl rfl (z := "_law_box") (N:=lL) (cix:=[none,some 1,some 2]) rfl (by walk_at "c") (wI yp <| ztb K rfl (kb 2)) (λ_ _ _ _ _=>(wG zx <| zi (i:=0) (show (lL:AM).Nodup by decide +kernel))) (λ_ _ _ _ _=>(xg (wT zm <| zw (zlt hr.units) zrZ (JE.bo (xc (N:=ln) (cix:=[none,none,some 0,some 2]) rfl (by walk_at "c") (wI yp <| yz K rfl (kv 1)) (λ_ _ _ _=>(wG x6 <| x8 (n:=2) K rfl rfl (wH zS <| zr (wG zx <| zi (i:=0) (show (ln:AM).Nodup by decide +kernel)) (wH zS <| zr (wG zx <| zi (i:=1) (show (ln:AM).Nodup by decide +kernel)) (wH x5 yY))))) (λ_ _ _ _=>(xg (JW.t (wW ua <| zal (wT zm <| zw xI zb6 (kb 0) (kb 2) (zy _)) (xC (.inl rfl) (wT zm <| zw zbk zr1 (kb 1) (kb 3) (by with_unfolding_all rfl))))))) (λ_ _ _ _=>(kv 1)))) (JE.bo (xB zd)) (zy _)))) (λ_ _ _ _ _=>(kv 0))))
   (zb (wS zG <| yQ (wT zm <| zw (zlt hr.units) zrZ (kb 4) (JE.bo (xB zd)) (zy _)) (ze (zV zs7)) zJ)
   (zb (wS ub <| zak 3 (zab y3 zbu (kb 4) (JE.bo zt) (λ_ _=>rfl)))
   (ze (ztf 2 (JE.bo (zab y3 zbu (kb 4) (JE.bo zt) (λ_ _=>rfl)))))))))
   (ze (wS uS <| zaU 3))))),λws n R hF=>?_⟩
 obtain⟨rm,E,rfl,hE,h8,hEl,r⟩:=hF;left;obtain⟨rO,rN⟩:=r;rw[ab];show⟨⟨by lia,by lia⟩,?_⟩;left;generalize em:rm.length=m at *;rw[aT,zlU];have hno:(Dt.lst []).eqOk:=zbF [];have e00:zk (m:Int)=xt m []:=by unfold xt;exact (c6.mpr λ_ _=>rfl).symm
 rw[e00];show zit (λk ρ n'=>n'=n/\∃ (row:AG) (v4:Option W),k=m - row.length/\ρ=[some (.d (stD rm)),some (.d (.lst (E.map zQ))),some (.d (lsD (xt m row))),some (.d (lsD row)),v4]/\row.length<=m/\row.Nodup/\(∀x∈row,0<=x/\x<m)/\zfd E m (m - row.length) row=zfd E m m []) m ⟨rfl,[],none,rfl,rfl,aG _,.nil,by simp,rfl⟩ ?_;rintro k ρ n' ⟨rfl,row,v4,rfl,rfl,hrl,hnd,hri,hor⟩ C B X hC hB hX;left;show⟨zbD,hno,λb hb=>?_⟩;have hb:b=true↔row.length=m:=hb.trans ⟨λh=>(zfT hnd hri).mp (by simpa using h),λh=>by rw[(zfT hnd hri).mpr h];rfl⟩;left;show zln (λhn=>?_) (λhn=>?_);rotate_left;have hle:row.length=m:=hb.mp hn;show hB ?_;left;show rO row (by lia) ?_;rw[<- hor,hle,eD];rfl
 have hlt:row.length<m:=by
  have:row.length≠m:=λz=>by rw[hb.mpr z] at hn;cases hn
  lia
 have hll:=zkK m row;left;show xZ (xt m row) (λb=>W.d (.int b)) (by rw[ao];rfl) (λρ=>∃u,ρ=[u,some (.d (.lst (E.map zQ))),some (.d (lsD (xt m row)))]) (λb=>decide ((E.filter λq=>decide (q.1=b)&&(xt m row).contains q.2)=[])) (λb=>.int b) (ar (by lia:_<=100) (by ext)) ⟨_,rfl⟩ ?_ ?_;rintro b hb' ρ2 ⟨u,rfl⟩ D dY dN;left;show xZ E (λq=>W.d (zQ q)) (by rw[ao];rfl) (λρ=>∃u v,ρ=[u,v,some (.d (.int b)),some (.d (lsD (xt m row)))]) (λq=>decide (q.1=b)&&(xt m row).contains q.2) (λq=>.int q.2) (ar hEl (by ext)) ⟨_,_,rfl⟩ ?_ ?_;rintro q hq ρ3 ⟨u,v,rfl⟩ D2 d2Y d2N;left;show yW (λz=>?_) (λz=>?_);left;show⟨xt m row,rfl,?_⟩;left;exact zcf (λy=>d2Y (by rw[a6 z,y];rfl) ⟨_,_,rfl⟩) (λy=>d2N (by rw[y,cN]) ⟨_,_,rfl⟩);exact d2N (by rw[aU z];rfl) ⟨_,_,rfl⟩;generalize E.filter (λq=>decide (q.1=b)&&(xt m row).contains q.2)=F at dY dN;rw[show F.map (λq=>Dt.int q.2)=(F.map (·.2)).map Dt.int by rw[ao];rfl];left;show⟨zbD,hno,λb2 hb2=>?_⟩;have hb2:b2=true↔F=[]:=hb2.trans ⟨λh=>by simpa using h,λh=>by rw[h];rfl⟩;left;exact zcf (λz=>dY (a6 (hb2.mp z)) ⟨_,rfl⟩) (λz=>dN (aU λy=>by rw[hb2.mpr y] at z;cases z) ⟨_,rfl⟩);rw[zfB hE];left;show⟨zbD,hno,λb2 hb2=>?_⟩;have hk:m - row.length=(m - (row.length+1))+1:=by lia
 cases ef:zem E m row with
 | nil=>
  obtain rfl:b2=true:=hb2.mpr (by rw[ef];rfl);left;show hX (rN ?_);rw[<- hor,hk];unfold zfd;rw[ef]
 | cons b l=>
  obtain rfl:b2=false:=by
   cases b2 with
   | false=>rfl
   | true=>have:=hb2.mp rfl;rw[ef] at this;cases this
  have hbl:b∈xt m row:=by
   have:b∈zem E m row:=by rw[ef];simp
   rw[<- zfB hE] at this;exact (aN.mp this).1
  obtain⟨hb1,hb3⟩:=zbb.mp hbl;left;have h0:atI ((b::l).map Dt.int) 0=some (.int b):=zbP (i:=0) rfl;show y8 h0 ?_;left;show⟨aO (by rw[ab];lia:_<=8) (by ext),?_⟩;left;show y8 h0 ?_;left;show⟨xt m row,rfl,hbl,?_⟩;rw[zg2,show row.map Dt.int++[Dt.int b]=(row++[b]).map Dt.int by rw[az];rfl];show hC (m - (row++[b]).length) (by rw[aj];simp;lia) ⟨rfl,row++[b],_,rfl,rfl,by rw[aj];simp;lia,?_,?_,?_⟩;exact cS.mpr ⟨hnd,by simp,λx hx y hy=>by rw[aD.mp hy];exact λz=>hb3 (z ▸ hx)⟩;intro x hx;rcases a9.mp hx with z | z;exact hri x z;rw[aD.mp z];exact hb1;rw[aj,dC,<- hor,hk,zfd,ef]
def zm0{rm:AG}(B:RoomOk rm)(F:yS rm bk):∀q∈zcb rm bk,q.1≠q.2:=λq I=>by obtain⟨r,J,rfl⟩:=aF.mp I;obtain⟨b,o,h1,h2,L,rfl⟩:=(zcM B F).mp J;have:=((zeM B F (by lia) (by lia) (by lia) (by lia)).mp L).1;exact λz=>this z.symm
def zux {E:List (Int×Int)}{B:AG}{m:Nat}(J:∀q∈E,0<=q.1/\q.1<m/\0<=q.2/\q.2<m)(F:IsRd E B){y:Int}(L:y∈B):y∈zk (m:Int):=by
 obtain⟨i,hi,e⟩:=ba.mp L;have I:y=B.getD i 0:=by simp[hi,e]
 have:∃q∈E,q.1=y:=by
  by_cases h1:i+1<B.length
  ·exact⟨_,F.next i h1,by rw[I]⟩
  exact⟨_,F.back,by rw[I,show i=B.length - 1 by lia]⟩
 obtain⟨q,O,U⟩:=this;have:=J q O;rw[<- U];exact zW.mpr ⟨this.1,this.2.1⟩
def zvs  : FV:=λPn F n R=>∃ (rm:AG) (E:List (Int×Int)) (B:AG),F=[.d (stD rm),.d (.lst (E.map zQ)),.d (lsD B)]/\(∀q∈E,0<=q.1/\q.1<rm.length/\0<=q.2/\q.2<rm.length)/\(∀q∈E,q.1≠q.2)/\(rm.length<=8)/\(IsRd E B)/\(R (.d (.bl true)) n)
def zvs.i{rm:AG}{E:List (Int×Int)}{B:AG}(J:∀q∈E,0<=q.1/\q.1<rm.length/\0<=q.2/\q.2<rm.length)(F:∀q∈E,q.1≠q.2)(L:rm.length<=8)(I:IsRd E B)(h:R (.d (.bl true)) n)  : zvs Pn [.d (stD rm),.d (.lst (E.map zQ)),.d (lsD B)] n R:=⟨rm,E,B,rfl,J,F,L,I,h⟩
def zaV (T:Txt K mg t):FnOk P w K mg base CX0 1 t.f32 t.d32 lq (spV 3 false zvs):=by
 show Fun.okW (k:=0) (fr:=false) [] 1 T.q32.F ul rfl (by ext) rfl λag A Y s H E Pn hr=>⟨_,(zb (wS zG <| yQ (JW.t (wW zbR <| zfN (wT zao <| zbQ (wT zm <| zba (JE.bo (wE zbG <| za7 (by rfl) T.b_isinstance T.b_list (kb 2))))) (wW zbR <| zfN (wT zm <| zw zhh zsg (JE.bo (zF z5 xz (by rfl) T.b_len aH (zh (kb 2) zl))) (JE.bo zt) (zy _)) (xC (.inr rfl) (wT zm <| zw zf9 zpa (JE.bo (zm9 rfl T.b_len T.b_set (kb 2))) (JE.bo (zF z5 xz (by rfl) T.b_len aH (zh (kb 2) zl))) (zy _)))))) (ze (zV zmn)) zJ)
   (zb (yD aE rfl (wI yp <| yz K rfl (kv 2)) (wG zx <| zi (i:=3) ul.nd) (ze (wS zG <| yQ (JW.t (wW zbR <| zfN (wT zao <| zbQ (wT zm <| zba (JE.bo (wE zbG <| zfL (by rfl) T.b_isinstance T.b_int (kb 3))))) (wW zbR <| zfN (wT zm <| zba (JE.bo (wE zbG <| za6 (by rfl) T.b_isinstance T.b_bool (kb 3)))) (xC (.inr rfl) (wT zao <| zbQ (wT znq <| zne zqE zhh zxB zsg (JE.bo zt) (kb 3) (JE.bo (zF z5 xz (by rfl) T.b_len aH (zh (kb 0) zl))))))))) (ze (zV zmn)) zJ)))
   (ze (zV (zF (zjB rfl) zrX (by rfl) T.b_all dH (zh (JE.bo (xc (N:=lw) (cix:=[none,none,some 1]) rfl (by walk_at "c") (wI zh2 <| zkz rfl T.b_zip (za (kv 2) (za (zac zqC zu7 (JE.bo (wE zap <| zfM (kb 2) (wO zO <| ye (JE.bo zt)) yd)) (JE.bo (wE zap <| zfM (kb 2) yd (wO zO <| ye (JE.bo zt))))) zd))) (λ_ _ _ _=>(wG x6 <| x8 (n:=2) K rfl rfl (wH zS <| zr (wG zx <| zi (i:=0) (show (lw:AM).Nodup by decide +kernel)) (wH zS <| zr (wG zx <| zi (i:=1) (show (lw:AM).Nodup by decide +kernel)) (wH x5 yY))))) (λ_ _ _ _=>yU) (λ_ _ _ _=>(zpZ (zoT hr.units) zr0 (JE.bo (yP (za (kv 0) (za (kv 1) zd)))) (kb 2) (by with_unfolding_all rfl))))) zl)))))),λws n R hF=>?_⟩
 obtain⟨rm,E,I,rfl,hE,Z,h8,J,r⟩:=hF;left;have h2:=zuy J Z;have L:=λy hy=>zux hE J (y:=y) hy;have ad:=yr J.nd L;rw[zK] at ad;rw[ab];show yW (λz=>absurd z (by lia)) (λ_=>?_);left;show⟨I,rfl,J.nd,by lia,?_⟩;left;rw[ab];show ziX (λz=>absurd rfl z) (λ_=>?_);left;show yk I (λi=>W.d (.int i)) (by rw[ao];rfl) (λi ρ n'=>n'=n/\∃v,ρ=[some (.d (stD rm)),some (.d (.lst (E.map zQ))),some (.d (lsD I)),v]) ⟨rfl,_,rfl⟩ ?_ ?_;rintro i y ρ n' hy ⟨rfl,v,rfl⟩ C B X hC _ _;have h1:=zW.mp (L y (aA hy));left;show yW (λ_=>?_) (λz=>absurd h1.1 z);left;rw[ab];show yW (λ_=>?_) (λz=>absurd h1.2 z);left;exact hC ⟨rfl,_,rfl⟩;rintro ρ n' ⟨rfl,v,rfl⟩;left;rw[xq,xq,zfs,zpt,<- az,show I.drop 1++I.take 1=rot I from rfl];show⟨by rw[ab,ab,cH,aM];exact ar (by lia:_<=100) (by ext),?_⟩;left;rw[ziw];have O:(I.zip (rot I)).length<=100:=by rw[List.length_zip];lia
 have U:∀q∈I.zip (rot I),q∈E:=λq hq=>zuz J hq;generalize I.zip (rot I)=zs at O U;show zah zs (λq=>W.d (zQ q)) rfl (λρ=>∃u v,ρ=[u,v,some (.d (.lst (E.map zQ)))]) (λ_=>.bl true) (ar O (by ext)) ⟨_,_,rfl⟩ ?_ ?_;rintro q hq al ⟨u,v,rfl⟩ D dY;left;show⟨zjY (q:=q),ziJ.2,λb hb=>?_⟩;have:b=true:=hb.mpr (zk5.mpr (U q hq));subst this;exact dY ⟨_,_,rfl⟩;left;show⟨zs.map λ_=>true,by rw[ao];rfl,?_⟩;rw[show (zs.map λ_=>true).all id=true by simp];exact r
def ztE (T:Txt K mg t):FnOk P w K mg base CX0 6 t.f33 t.d33 lj (zl6 K):=by
 have G27:=zlk (P:=P) (w:=w) (base:=base) T;have G0:FnOk P w K mg base CX0 1 t.f0 t.d0 lj (zob K):=zhe T;have G1:=zT (P:=P) (w:=w) (base:=base) T;have G3:=zeF (P:=P) (w:=w) (base:=base) T;have G8:=uD (P:=P) (w:=w) (base:=base) T;have G14:=zeD (P:=P) (w:=w) (base:=base) T;have G30:=zeE (P:=P) (w:=w) (base:=base) T;have G31:=zf2 (P:=P) (w:=w) (base:=base) T;have G32:=zaV (P:=P) (w:=w) (base:=base) T;have G15:=zeC (P:=P) (w:=w) (base:=base) T
 show zwX (S:=[9999]) (k:=5) (r:=9) [] T.q33.F uo rfl rfl (by ext) λb4 A a2 s H E Pn O=>⟨_,_,_,rfl,(xR (i:=1) uo.nd rfl (Or.inl rfl) (znQ T.q0 G0 O (zD (qv 0) yc))),(zb (zkD aE rfl (by rfl) T.b_range (zh (JE.bo zt) zl) (wG zx <| zi (i:=2) uo.nd) (zb (wS zo <| zC (i:=3) uo.nd (wE zq <| yV T.q1 G1 O (za (kv 1) (za zt zd))))
   (zb (wS zo <| zC (i:=4) uo.nd (zab y3 zbu (JE.bo (xB (za zt (za zt (za zt (za zt zd)))))) (JE.bo (wE zq <| yV T.q1 G1 O (za (kv 1) (za zt zd)))) (λ_ _=>rfl)))
   (zb (wS zG <| yQ (JW.t (wW ua <| zal (wT zm <| zw xI zb6 (kb 2) (JE.bo zt) (zy _)) (xC (.inl rfl) (wT zm <| zw xI zb6 (JE.bo (wE zq <| yV T.q1 G1 O (za (kv 1) (za zt zd)))) (JE.bo zt) (zy _))))) (ze (wS zo <| zC (i:=4) uo.nd zt)) zJ)
   (zb (wS zo <| zC (i:=5) uo.nd (wE zq <| yV T.q3 G3 O (za (kv 1) (za (kv 4) zd))))
   (zb (wS zo <| zC (i:=6) uo.nd (wE xh <| za8 (JE.bo (xT y6 zbO (by rfl) T.b_tuple bE (zh (JE.bo (wE zq <| yV T.q8 G8 O (za (kv 1) (za (kv 5) zd)))) zl))) yd (wO zO <| ye (JE.bo zt))))
   (zb (wS zG <| yQ (wT zm <| zw xI zb6 (kb 3) (JE.bo zt) (zy _)) (ze (wS zo <| zC (i:=6) uo.nd (zac yM xS (kb 6) (JE.bo (wE zq <| yV T.q15 G15 O (za (kv 1) (za (kv 5) zd))))))) zJ)
   (zb (wS zG <| yQ (wT zm <| zw xI zb6 (kb 3) (JE.bo zt) (zy _)) (ze (wS zo <| zC (i:=6) uo.nd (wE zq <| yV T.q14 G14 O (za (kv 1) (za (kv 5) zd))))) zJ)
   (zb (zkE (i:=7) uo.nd (wE zq <| yV T.q30 G30 O (za (kv 5) (za (kv 6) zd))))
   (zb (zkE (i:=8) uo.nd (wE zq <| yV T.q31 G31 O (za (kv 5) (za (u7 7) zd))))
   (ze (zkD aE rfl (by rfl) T.b_range (zh (JE.bo zt) zl) (wG zx <| zi (i:=9) uo.nd) (zb (zp7 (i:=10) uo.nd (wE zq <| yV T.q27 G27 O (za (kv 5) (za (kv 6) zd))))
   (zb (wS zG <| yQ (JW.t (wW zbR <| zfN (wT zao <| zbQ (wT zm <| zba (JE.bo (wE zbG <| zdt (by rfl) T.b_isinstance T.b_tuple (JE.bo (u7 10)))))) (xC (.inr rfl) (wT zm <| zw zf9 zpa (JE.bo (zF z5 xz (by rfl) T.b_len aH (zh (JE.bo (u7 10)) zl))) (JE.bo zt) (zy _))))) (ze (zV zmn)) zJ)
   (zb (wS zG <| yQ (JW.t (wW ua <| zal (wT zm <| zp8 (JE.bo (u7 8))) (xC (.inl rfl) (wT zm <| zw (zga O.units) zmi (JE.bo (u7 10)) (JE.bo (yP (za znb (za (u7 8) zd)))) (zy _))))) (ze (zV zmn)) zJ)
   (zb (wS zG <| yQ (JW.t (wW ua <| zal (wT zm <| ztg (JE.bo (u7 8))) (xC (.inl rfl) (JW.t (wW zbR <| zfN (wT zm <| zw zf9 zpa (JE.bo (zab yF ug (JE.bo (u7 10)) (JE.bo zt) (λ_ _=>rfl))) (JE.bo znb) (zy _)) (xC (.inr rfl) (wT zao <| zbQ (wT zm <| zba (JE.bo (wE zq <| yV T.q32 G32 O (za (kv 5) (za (u7 7) (za (zab yF ug (JE.bo (u7 10)) (JE.bo zt) (λ_ _=>rfl)) zd))))))))))))) (ze (zV zmn)) zJ)
   (zb (wS zG <| yQ (JW.t (wW zbR <| zfN (wT zao <| zbQ (wT zm <| zba (JE.bo (wE zbG <| za7 (by rfl) T.b_isinstance T.b_list (JE.bo (zab yF ug (JE.bo (u7 10)) (JE.bo zt) (λ_ _=>rfl))))))) (xC (.inr rfl) (wT zm <| zw zbk zxA (JE.bo zmn) (JE.bo (xc (N:=[As]) (cix:=[none]) rfl (by walk_at "c") (wI yp <| yz K rfl (zab yF ug (JE.bo (u7 10)) (JE.bo zt) (λ_ _=>rfl))) (λ_ _ _ _=>(wG zx <| zi (i:=0) (show ([As]:AM).Nodup by decide +kernel))) (λ_ _ _ _=>yU) (λ_ _ _ _=>(wE zbG <| za6 (by rfl) (by exact T.b_isinstance) (by exact T.b_bool) (kb 0))))) (by with_unfolding_all rfl))))) (ze (zV zmn)) zJ)
   (ze (znd 10)))))))))))))))))))
   (ze (zV zmn))),λp c ns a3=>?_⟩
 subst a3;have hP:IsP ⟨some (p,c,ns),J0⟩ p:=⟨c,ns,rfl⟩;show zuD ?_;left;show⟨⟨by ext,by ext⟩,u6 (λi ρ n=>n<=10000 * i/\∃ (v2 v3 v4 v5 v6 v7 v8 Y q:Option W),ρ=[none,some (.pen p),v2,v3,v4,v5,v6,v7,v8,Y,q]) ⟨af _,_,_,_,_,_,_,_,_,_,rfl⟩ ?_ ?_⟩;rotate_left;rintro ρ n ⟨hn,v2,v3,v4,v5,v6,v7,v8,Y,q,rfl⟩;left;rintro i ρ n hi ⟨hn,v2,v3,v4,v5,v6,v7,v8,Y,q,rfl⟩ C B E hC _ _;have hi:i<2:=hi;left;show dc hP λwy c0 c1=>?_;left;show dc hP λmo m0 m1=>?_;left;show ztG m0 m1 λx hx=>?_
 obtain⟨I,rfl,q1,q2⟩:∃I,x = .int I/\4<=I/\I<=256:=by
  simp at hx;rcases hx with rfl | rfl | rfl | rfl
  all_goals exact⟨_,rfl,by lia,by lia⟩
 clear hx;left;refine' zg9 (λ(mm:Int) (n1:Nat)=>4<=mm/\mm<=256/\n1<=n+3) _ (λz4=>?_) ?_;rotate_left
 ·show yW (λh0=>?_) (λh0=>?_);rotate_left;left;generalize hk:n+1+1=n1;generalize av:I=mm;exact z4 mm n1 ⟨av ▸ q1,av ▸ q2,by lia⟩;left;show dc hP λd8 d0 d1=>?_;left;show yW (λh5=>?_) (λh5=>?_);left;exact z4 256 _ ⟨by lia,by lia,by lia⟩;left;exact z4 I _ ⟨q1,q2,by lia⟩
 rintro mm n1 ⟨p1,p2,ca⟩;show zmw.i hP p1 p2 λrm m Z hp hm=>?_;left;show ziy.i hP Z λal m2 a4 a5 cc=>?_;left;rw[xq];have an:yS rm (xY al none (some 30)):=a4.cut _ _;have bb:(xY al none (some 30)).length<=400:=ar (zbC _ _ _) a5;generalize xY al none (some 30)=bk1 at an bb;refine' zg9 (λ(bk:AW) (n1:Nat)=>yS rm bk/\bk.length<=500/\n1<=m2+10) _ (λz4=>?_) ?_;rotate_left
 ·show yW (λh0=>?_) (λh0=>?_);rotate_left;left;generalize hk:m2=n4;generalize hb:bk1=bk;exact z4 bk n4 ⟨hb ▸ an,by rw[<- hb];lia,by lia⟩;left;show zmq.i hP Z λb2 m3 ap bd bs=>?_;left;show⟨ar (show _<=1000 by rw[ab,ab];lia) (by ext),?_⟩;rw[<- az];left;exact z4 (bk1++b2) m3 ⟨an.app ap,by rw[aj];lia,by lia⟩
 rintro bx n3 ⟨b0,cd,ch⟩;refine' zg9 (λ(bk:AW) (n1:Nat)=>yS rm bk/\bk.length<=500/\n1<=m2+3000) _ (λz4=>?_) ?_;rotate_left
 ·show yW (λh0=>?_) (λh0=>?_);rotate_left;left;generalize hk:n3=n4;generalize hb:bx=bk;exact z4 bk n4 ⟨hb ▸ b0,by rw[<- hb];lia,by lia⟩;left;show zhu.i hP Z (by lia) λb2 m3 ap bd bs=>?_;left;exact z4 b2 m3 ⟨ap,by lia,by lia⟩
 rintro bk n4 ⟨hB,hl,cl⟩;show zhv.i Z hB (by lia) ?_;left;rw[show (ut rm bk).map stD=(zcb rm bk).map zQ from zkf];show⟨zcY _,λa7=>?_⟩;left;show zmt.i zck Z.few (zfF Z) ⟨λa0 b1 ho=>?_,λho=>?_⟩
 ·show⟨zaq _,λa8=>?_⟩;left;show⟨⟨by ext,by ext⟩,u6 (λk ρ n=>n=n4/\∃ (Y q:Option W),ρ=[none,some (.pen p),some (.d (.int (i:Int))),some (.d (.int wy)),some (.d (.int mm)),some (.d (stD rm)),some (.d (xp bk)),some (.ad a7 (.lst ((zcb rm bk).map zQ))),some (.ad a8 (.lst (a0.map Dt.int))),Y,q]) ⟨rfl,_,_,rfl⟩ ?_ ?_⟩;rotate_left;rintro ρ n ⟨rfl,Y,q,rfl⟩;exact hC ⟨by lia,_,_,_,_,_,_,_,_,_,rfl⟩;rintro k ρ n hk ⟨rfl,Y,q,rfl⟩ C1 B1 E1 as _ _;left;show⟨_,zaH <| fg_p <| zaH <| zaH <| zaH <| zvw (zh6 rm) <| zvw (zh5 bk) <| zaH <| zaH <| zaH <| zaH zoH,?_⟩;left;show zjd.i Z hB (by lia) ⟨λJ a1 U=>?_,λrd U ag=>?_⟩
  obtain rfl:J=a0:=bz (U.symm.trans ho);show⟨rfl,zaq _,λad L=>?_⟩;have h7:a7≠ad:=L 7 a7 _ rfl;have h8:a8≠ad:=L 8 a8 _ rfl;left;with_reducible show zlm ?_ ?_
  rfl;left;show ztJ (ztU J) ?_;left;show y8 rfl ?_;left;show y8 rfl ?_;left;show y8 rfl ?_;left;show zah J (λi=>W.d (.int i)) (by rw[ao];rfl) (λρ=>∃u,ρ=[u]) (λ_=>.bl false) (ar (by lia:_<=100) (by ext)) ⟨_,rfl⟩ ?_ ?_;rintro w hw b3 ⟨u,rfl⟩ D dY;left;exact dY ⟨_,rfl⟩;left;show⟨J.map λ_=>false,by rw[ao];rfl,?_⟩;rw[zle];left;show⟨by rw[ab];lia,_,ziM <| fa_p <| zj5 rfl <| zj5 rfl <| zj5 rfl <| zj5 (zh6 rm) <| zj5 (zh5 bk) <| zww h7 <| zww h8 <| ziM <| ziM zoG,?_⟩;exact as ⟨rfl,_,_,rfl⟩;exact absurd (ho.symm.trans U) (by simp)
 ·left;show⟨⟨by ext,by ext⟩,u6 (λk ρ n=>n=n4/\∃ (Y q:Option W),ρ=[none,some (.pen p),some (.d (.int (i:Int))),some (.d (.int wy)),some (.d (.int mm)),some (.d (stD rm)),some (.d (xp bk)),some (.ad a7 (.lst ((zcb rm bk).map zQ))),some (.d .non),Y,q]) ⟨rfl,_,_,rfl⟩ ?_ ?_⟩;rotate_left;rintro ρ n ⟨rfl,Y,q,rfl⟩;exact hC ⟨by lia,_,_,_,_,_,_,_,_,_,rfl⟩;rintro k ρ n hk ⟨rfl,Y,q,rfl⟩ C1 B1 E1 as _ _;left;show⟨_,zaH <| fg_p <| zaH <| zaH <| zaH <| zvw (zh6 rm) <| zvw (zh5 bk) <| zaH <| zaH <| zaH <| zaH zoH,?_⟩;left;show zjd.i Z hB (by lia) ⟨λJ a1 U=>?_,λrd U ag=>?_⟩;exact absurd (ho.symm.trans U) (by simp);show⟨rfl,zaq _,λad L=>?_⟩;have h7:a7≠ad:=L 7 a7 _ rfl;have b1:rd.length<=8:=by have:=yr ag.nd λy hy=>zux zck ag (y:=y) hy;rw[zK] at this;have:=Z.few;lia
  left;with_reducible show zlm ?_ ?_
  rfl
  left;show y8 rfl ?_;left;show y8 rfl ?_;left;with_reducible show zlm ?_ ?_
  decide;left;show y8 rfl ?_;left;show zvs.i zck (zm0 Z hB) Z.few ag ?_;left;show y8 rfl ?_;left;show y8 rfl ?_;left;show zah rd (λi=>W.d (.int i)) (by rw[ao];rfl) (λρ=>∃u,ρ=[u]) (λ_=>.bl false) (ar (by lia:_<=100) (by ext)) ⟨_,rfl⟩ ?_ ?_;rintro w hw b3 ⟨u,rfl⟩ D dY;left;exact dY ⟨_,rfl⟩;left;show⟨rd.map λ_=>false,by rw[ao];rfl,?_⟩;rw[zle];left;show⟨by rw[ab];lia,_,ziM <| fa_p <| zj5 rfl <| zj5 rfl <| zj5 rfl <| zj5 (zh6 rm) <| zj5 (zh5 bk) <| zww h7 <| zj5 rfl <| ziM <| ziM zoG,?_⟩;exact as ⟨rfl,_,_,rfl⟩
end
def Dm {K:AH}{h:Heap}{mg:AI}{x:Str}{st:Stmt}{ps:AM}{f:Addr}{J kV dc B q ct:Value}{L F:Option Addr}{O:Array AJ}(X:K.In h)(G:h.Ns mainGlobals mg)(a:PySem.W.nsIn K mainGlobals x=some (some (.ref f)))(l:K.lookup f=some ⟨J,L,.func (PySem.W.fnOf x x (zaR st) (yy st) (zg st) .none kV dc B F q ct),O⟩)(c:PySem.W.codeIn K q x=true)(k:PySem.W.keepIn K (.ref f)=true)(b:∀ (kV dc B:Value) (F:Option Addr) (q ct:Value) (I:AN),I.length=ps.length->bindArgs (PySem.W.fnOf x x (zaR st) (yy st) (zg st) .none kV dc B F q ct) ⟨I,[]⟩=pure (ps.zip I)):Dfn K mg x st ps f (PySem.W.fnOf x x (zaR st) (yy st) (zg st) .none kV dc B F q ct):=⟨zoI l c k,(zoI l c k).binds b,PySem.W.mg_of X G a⟩
def fin {l:PySem.W.OpenLaw}{w:Ab}{K:AH}{mg:AI}{fa:Addr}{t:Ad}(q:mg "law" = some (.ref fa))(T:Txt K mg t)(b:∀ (s:AZ) (v:Value),BindsTo s t.d33 ⟨[v],[]⟩ [("_law_script",v)]):∃fd:Ac,(∀ (s:AZ) (v:Value),BindsTo s fd ⟨[v],[]⟩ [("_law_script",v)])/\∀base:Heap,K.In base->base.Ns mainGlobals mg->FnOk l.prog w K mg base CX0 6 fa fd lj (zl6 K):=by have e:=q.symm.trans T.q33.m;cases e;exact⟨_,b,λbase _ _=>ztE T⟩
def walk {l:PySem.W.OpenLaw}{q:Aa}{B:AM}{XP:(AI)->Heap->Prop}{YP:Ab->Heap->Prop}{d:DefRec}{K:Params->AH}(J:l.most=some 63)(I:d.params.defaults=[])
  (L:∀ (w:Ab) (h:Heap),YP w h->(K w.params).In h)
  (F:∀ (w:Ab) (mg:AI) (fa:Addr) (h:Heap),(K w.params).In h->h.Ns mainGlobals mg->mg d.name=some (.ref fa)->
   ∃fd:Ac,(∀ (s:AZ) (u:Value),BindsTo s fd ⟨[u],[]⟩ [("_law_script",u)])/\∀base:Heap,(K w.params).In base->base.Ns mainGlobals mg->FnOk l.prog w (K w.params) mg base CX0 6 fa fd lj (zl6 (K w.params))) :
  PySem.W.WalkO q B XP YP l.row.toRowW d [] (λf vs=>PySem.call f vs):=
 L2.zsb (n:=63) (k:=6) (x := "_law_script") (CX:=λ_=>CX0) (sp:=λw=>zl6 (K w.params)) J (by ext) I ⟨rfl,by ext,by ext⟩ L F (λ_ _ a ns O _ U=>⟨a,ns,rfl,U,O,λ_=>rfl⟩) λ_ _ _ _ _ z=>z
end Law
end
open PySem PySem.W PyProof.Rows
local macro_rules | `(tactic| walk_at "D")=>`(tactic| (dsimp only;refine' Law.Dm (by assumption) (by assumption) ?a ?l ?c ?k ?b;(case a=>k_is);(case l=>k_is);(case c=>k_is);(case k=>k_is);(case b=>(intro _ _ _ _ _ _ us hl;first | (obtain⟨_,e⟩:=L2.us_1 hl;subst e;rfl) | (obtain⟨_,_,e⟩:=L2.us_2 hl;subst e;rfl) | (obtain⟨_,_,_,e⟩:=L2.us_3 hl;subst e;rfl) | (obtain⟨_,_,_,_,e⟩:=L2.us_4 hl;subst e;rfl)))))
local macro_rules | `(tactic| walk_at "Z")=>`(tactic| (refine' PySem.W.mg_none_of (by assumption) (by assumption) ?z;(case z=>k_is)))
theorem PySem.W.Fast.te12988002548766115881:True:=.intro
set_option maxRecDepth 100000 in
set_option maxHeartbeats 0 in
theorem PySem.Challenge.cw_allelse_k29_orders_of_boxes_holds : PySem.Challenge.rw_allelse_k29_orders_of_boxes.Holds := by
 w_on;refine holds_law (by decide +kernel) λ_=>?_;k_head;(case hw=>w_witness2)
 k_fill
 refine Law.walk (l:=PySem.Challenge.rw_allelse_k29_orders_of_boxes) rfl rfl (λw h Y=>PySem.W.kIn_of Y) ?F
 case F=>
  intro w mg fa h KX G B;refine' Law.fin (t:=⟨_,_,_,_,_,_,_,_,_,_,_,_,_,_,_,_,_,_,_,_,_,_,_,_,_,_,_,_,_,_,_,_,_,_,_,_,_,_,_,_,_,_,_,_,_,_,_,_,_,_,_,_,_,_,_,_,_,_,_,_,_,_,_,_,_,_,_,_⟩) B ⟨?D0,?D1,?D2,?D3,?D4,?D5,?D6,?D7,?D8,?D9,?D10,?D11,?D12,?D13,?D14,?D15,?D16,?D17,?D18,?D19,?D20,?D21,?D22,?D23,?D24,?D25,?D26,?D27,?D28,?D29,?D30,?D31,?D32,?D33,?z_list,?z_sorted,?z_set,?z_tuple,?z_range,?z_enumerate,?z_len,?z_all,?z_dict,?z_abs,?z_zip,?z_isinstance,?z_bool,?q⟩ λs v=>?b
  (case D0 | D1 | D2 | D3 | D4 | D5 | D6 | D7 | D8 | D9 | D10 | D11 | D12 | D13 | D14 | D15 | D16 | D17 | D18 | D19 | D20 | D21 | D22 | D23 | D24 | D25 | D26 | D27 | D28 | D29 | D30 | D31 | D32 | D33=>walk_at "D")
  (case z_list | z_sorted | z_set | z_tuple | z_range | z_enumerate | z_len | z_all | z_dict | z_abs | z_zip | z_isinstance | z_bool | q=>walk_at "Z")
  (case b=>exact .of_eq rfl)


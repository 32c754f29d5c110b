import PyProof.Rows.All
import Wide.All
import OpenK.AllK
import Wide.FinOn
import Lean
import PyProof.EqAt
import PyProof.EqKinds
import PyProof.TupleCall
import PySem.Challenge.RW_allelse_k28_what_hangs_on_what
local macro_rules | `(tactic| walk_at "v") => `(tactic| (first | exact Or.inl rfl | exact Or.inr (Or.inl rfl) | exact Or.inr (Or.inr rfl)))
local macro_rules | `(tactic| walk_at "l") => `(tactic| (first | exact Or.inl rfl | exact Or.inr rfl | assumption))
local macro_rules | `(tactic| walk_at "f") => `(tactic| (exact ⟨rfl, rfl, rfl, by decide +kernel, rfl, by decide +kernel, by decide +kernel⟩))
local macro_rules | `(tactic| walk_at "c") => `(tactic| (exact ⟨rfl, by decide +kernel, rfl⟩))
set_option Elab.async false
set_option linter.all false
set_option maxRecDepth 100000
set_option maxHeartbeats 4000000
namespace L2
open PySem PySem.Spec PyProof.Rows
abbrev aa:=@wpAny_bind
abbrev ab:=@List.length_map
abbrev ac:=@wpAny_pure
abbrev ae:=@List.getElem?_eq_some_iff
abbrev af:=@Heap.get?_push_of_some
abbrev ag:=@Nat.le_refl
abbrev ah:=@List.getElem?_eq_getElem
abbrev ai:=@List.length_append
abbrev aj:=@List.length_range
abbrev ak:=@List.mem_append_right
abbrev am:=@List.mem_cons_of_mem
abbrev ao:=@List.mem_cons_self
abbrev aq:=@List.map_cons
abbrev ar:=@Bool.and_eq_true
abbrev au:=@List.getElem?_map
abbrev aw:=@List.getElem?_set_ne
abbrev ax:=@List.map_append
abbrev ay:=@Heap.lt_size
abbrev az:=@List.mem_singleton
abbrev aA:=@List.size_toArray
abbrev aB:=@Nat.le_trans
abbrev aC:=@List.map_map
abbrev aD:=@Bool.false_ne_true
abbrev aE:=@List.mem_cons
abbrev aF:=@List.getD_eq_getElem?_getD
abbrev aG:=@List.mem_of_getElem?
abbrev aH:=@List.mem_map
abbrev aI:=@Option.map_eq_some_iff
abbrev aJ:=@Array.length_toList
abbrev aK:=@Heap.get?_push_size
abbrev aL:=@decide_eq_true
abbrev aM:=@Nat.ne_of_lt
abbrev aN:=@List.length_take
abbrev aO:=@decide_eq_false
abbrev aP:=@List.mem_range
abbrev aQ:=@List.getElem?_set_self
abbrev aR:=@PassesOwn.never
abbrev aS:=@List.length_cons
abbrev aT:=@Nat.zero_le
abbrev aU:=@Nat.lt_of_lt_of_le
abbrev aV:=@Bool.false_eq_true
abbrev aW:=@List.mem_filter
abbrev aX:=@wpAny_mono
abbrev aY:=@List.length_set
abbrev aZ:=@List.mem_append
abbrev a6:=@List.lookup_cons
abbrev a8:=@Nat.lt_of_le_of_lt
abbrev a9:=@List.getElem?_append_left
abbrev ba:=@List.take_length
abbrev bc:=@List.getElem?_append_right
abbrev be:=@Option.some.inj
abbrev bf:=@Int.toNat_natCast
abbrev bg:=@List.getElem_mem
abbrev bh:=@Array.getElem?_eq_getElem
abbrev bi:=@PySem.boot_len
abbrev bj:=@wpAny_newObj_type
abbrev bm:=@wpAny_call_entry
abbrev bn:=@eq_of_beq
abbrev bp:=@List.eq_nil_of_length_eq_zero
abbrev bq:=@of_decide_eq_true
abbrev br:=@PyProof.Rows.boot_tuple
abbrev bt:=@List.dropLast_concat_getLast
abbrev bu:=@wpAny_askSetting
abbrev bv:=@Array.getD_eq_getD_getElem?
abbrev bw:=@List.pairwise_map
abbrev bz:=@decide_eq_true_eq
abbrev bA:=@List.getElem?_eq_none
abbrev bB:=@wpAny_holding
abbrev bC:=@wpAny_standAt
abbrev bD:=@List.length_drop
abbrev bE:=@List.all_eq_true
abbrev bF:=@List.append_assoc
abbrev bG:=@wpAny_setState_of
abbrev bH:=@List.mem_iff_getElem
abbrev bI:=@List.find?_cons
abbrev bJ:=@Nat.lt_trans
abbrev bK:=@List.getElem?_cons_succ
abbrev bL:=@List.mem_append_left
abbrev bM:=@List.mem_of_mem_take
abbrev bN:=@PySem.W.kia_one
abbrev bO:=@Classical.byContradiction
abbrev bP:=@List.not_mem_nil
abbrev bQ:=@Heap.SameBut.update
abbrev bR:=@List.map_congr_left
abbrev bS:=@wpAny_comprehension_free
abbrev bT:=@PySem.F.slot_dict_keyiterator_next
abbrev bU:=@Nat.lt_irrefl
abbrev bV:=@sizeLine_eq
abbrev bW:=@Int.emod_lt_of_pos
abbrev bX:=@List.getElem_range
abbrev bY:=@List.take_of_length_le
abbrev bZ:=@List.filterMap_cons
abbrev b5:=@List.replicate_succ
abbrev b6:=@List.getElem?_range
abbrev b7:=@Int.toNat_of_nonneg
abbrev b8:=@List.pairwise_iff_getElem
abbrev b9:=@Bool.eq_iff_iff
abbrev cb:=@List.nodup_cons
abbrev ce:=@List.pairwise_cons
abbrev cg:=@List.filter_append
abbrev ci:=@PyProof.Rows.boot_sorted
abbrev cj:=@List.getElem_inj
abbrev ck:=@Nat.lt_succ_self
abbrev cm:=@wpAny_typeNameOfWhole_keyiter
abbrev cq:=@List.any_cons
abbrev cr:=@PySem.F.plainAttrs_list
abbrev cu:=@List.pairwise_singleton
abbrev cv:=@Nat.le_of_lt
abbrev cw:=@Nat.lt_trichotomy
abbrev cx:=@PyProof.Rows.callWith_type1
abbrev cy:=@List.append_nil
abbrev cz:=@Int.emod_nonneg
abbrev cA:=@List.getElem_replicate
abbrev cB:=@Array.getElem?_eq_some_iff
abbrev cC:=@List.getElem_map
abbrev cD:=@List.any_eq_true
abbrev cE:=@Heap.get?_update_self
abbrev cF:=@List.contains_iff_mem
abbrev cG:=@Obj.data_mapFields
abbrev cH:=@List.length_filter_le
abbrev cI:=@Heap.size_push
abbrev cJ:=@Nat.pow_le_pow_right
abbrev cK:=@List.flatten_cons
abbrev cL:=@Nat.not_lt_zero
abbrev cM:=@Nat.le_of_lt_succ
abbrev cN:=@wpAny_typeNameOf_keyiter
abbrev cO:=@wpAny_typeOf
abbrev cP:=@PySem.mem_of_lookup
abbrev cQ:=@List.all_cons
abbrev cR:=@wpAny_isInstance
abbrev cS:=@Int.mul_le_mul_of_nonneg_left
abbrev cT:=@codeAny_compStart_list
abbrev cU:=@PyProof.Rows.boot_list
abbrev cV:=@List.mem_filterMap
abbrev cW:=@Nat.add_sub_cancel
abbrev cY:=@Int.natCast_nonneg
abbrev cZ:=@Array.getElem?_toList
abbrev c3:=@List.reverse_cons
abbrev c4:=@wpAny_attempt
abbrev c5:=@wpAny_newFunctionEnv
abbrev c6:=@Array.getElem_toList
abbrev c7:=@Int.mul_le_mul
abbrev c8:=@wpAny_setField
abbrev c9:=@PySem.F.args_dict_keyiterator_next_1
abbrev da:=@beq_eq_false_iff_ne
abbrev db:=@Bool.or_eq_true_iff
abbrev de:=@PySem.F.entry_dict_keyiterator_next
abbrev dg:=@Nat.ne_of_gt
abbrev dh:=@List.getElem?_take_of_lt
abbrev di:=@PySem.F.args_tuple_add_2
abbrev dj:=@List.Pairwise.imp_of_mem
abbrev dl:=@wpAny_passesOwn
abbrev dn:=@wpAny_Call_Name_kw
abbrev dq:=@PySem.F.entry_tuple_add
abbrev dr:=@Bool.and_true
abbrev du:=@List.getElem?_drop
abbrev dv:=@codeAny_of_tree
abbrev dw:=@Array.append_empty
abbrev dy:=@Calls.callWith_builtin
abbrev dz:=@PySem.F.slot_tuple_add
abbrev dA:=@List.take_sublist
abbrev dB:=@Nat.le_succ
abbrev dC:=@List.ext_getElem?
abbrev dD:=@List.getElem_take
abbrev dE:=@Bool.and_false
abbrev dF:=@List.drop_zero
abbrev dG:=@Nat.mul_le_mul
abbrev dH:=@isSubtype_stop
abbrev dJ:=@codeAny_mono
abbrev dL:=@List.length_replicate
abbrev dM:=@List.map_nil
abbrev dO:=@PySem.F.slot_dict_get
abbrev dP:=@Nat.succ_mul
abbrev dQ:=@List.take_append_drop
abbrev dR:=@builtinLookup_eq_fast
abbrev dS:=@Obj.isFreed_of_fields
abbrev dU:=@PyProof.Rows.boot_abs
abbrev dW:=@List.ext_getElem
abbrev dX:=@List.nodup_range
abbrev dZ:=@Array.mem_toList_iff
abbrev ee:=@Calls.evalArgs_plain
abbrev ef:=@List.pairwise_append
abbrev eh:=@List.length_dropLast
abbrev ei:=@Around.under_plainId
abbrev el:=@List.map_take
abbrev en:=@Int.lt_irrefl
abbrev eo:=@Array.getElem?_setIfInBounds
abbrev et:=@call_meets
abbrev eu:=@wpAny_rule
abbrev eA:=@List.nil_append
abbrev eB:=@List.length_reverse
abbrev eC:=@Heap.get?_update_ne
abbrev eD:=@wpAny_setEntries_of
abbrev eE:=@F.slot_zip_next
abbrev eF:=@Option.map_some
abbrev eG:=@codeAny_builtin
abbrev eI:=@List.map_eq_nil_iff
abbrev eJ:=@List.length_pos_iff
abbrev eK:=@Calls.spliced_cons
abbrev eL:=@tupleKind_room_in1
abbrev eM:=@List.filterMap_map
abbrev eO:=@Nat.sub_zero
abbrev eP:=@codeAny_loop
abbrev eQ:=@Nat.sub_self
abbrev eR:=@Nat.succ_pos
abbrev eS:=@List.find?_eq_none
abbrev eU:=@List.nodup_nil
abbrev eV:=@wpAny_fieldsOf
abbrev eW:=@wpAny_truthy_bool
abbrev eY:=@wpAny_assign_Name
abbrev eZ:=@wpAny_pyIter_list
abbrev e7:=@Bool.eq_false_iff
abbrev e8:=@Nat.mod_lt
abbrev ff:=@Nat.lt_succ_of_le
abbrev fg:=@Obj.cls_mapFields
abbrev fj:=@wpAny_pyIter_slot
abbrev fm:=@wpAny_dictEntries
abbrev fq:=@List.nodup_append
abbrev fw:=@Paired.length
abbrev fB:=@wpAny_noted
abbrev fD:=@List.map_drop
abbrev fE:=@Bool.not_true
abbrev fF:=@wpAny_alloc
abbrev fG:=@noFill_tuple_add
abbrev fH:=@Nat.min_eq_right
abbrev fJ:=@List.mem_flatMap
abbrev fK:=@wpAny_forIn_list
abbrev fL:=@Nat.add_comm
abbrev fM:=@Nat.lt_or_ge
abbrev fN:=@typeIs_int
abbrev Key:=Sum Int Str
def zfR:Key->Value->Bool
 | .inl k,v=>Value.isInt k v
 | .inr x,v=>Value.isStrOf x v
def keyH (w:World):Key->Int
 | .inl k=>hashInt k
 | .inr x=>hashStr w x
theorem zZ:∀ {k:Key} {v:Value},zfR k v=true->(∃i t,k=Sum.inl i/\v=Value.int i t)\/(∃x t,k=Sum.inr x/\v=Value.str x t)
 | .inl i,v,h=>by obtain⟨t,e⟩:=Value.isInt_shape (k:=i) (v:=v) h;exact .inl ⟨i,t,rfl,e⟩
 | .inr x,v,h=>by obtain⟨t,e⟩:=Value.isStrOf_shape (x:=x) (v:=v) h;exact .inr ⟨x,t,rfl,e⟩
theorem zeP (i:Int)(t:Tok):zfR (.inl i) (.int i t)=true:=by simp[zfR,Value.isInt]
theorem ziU (x:Str)(t:Tok):zfR (.inr x) (.str x t)=true:=by simp[zfR,Value.isStrOf]
theorem zp8 (a b:Int):decide ((Sum.inl a:Key)=Sum.inl b)=(a==b):=by
 by_cases e:a=b
 ·subst e;simp
 ·have h:¬ (Sum.inl a:Key)=Sum.inl b:=fun q=>e (Sum.inl.inj q);rw[aO h];exact (da.mpr e).symm
theorem zqb (a b:Str):decide ((Sum.inr a:Key)=Sum.inr b)=decide (a=b):=by
 by_cases e:a=b
 ·subst e;simp
 ·have h:¬ (Sum.inr a:Key)=Sum.inr b:=fun q=>e (Sum.inr.inj q);rw[aO h,aO e]
theorem zp9 (a:Int)(b:Str):decide ((Sum.inl a:Key)=Sum.inr b)=false:=aO (fun q=>nomatch q)
theorem zqa (a:Str)(b:Int):decide ((Sum.inr a:Key)=Sum.inl b)=false:=aO (fun q=>nomatch q)
def zR (prog:Program)(w:World):PySem.KeyKind prog w Key where
 is:=zfR
 hash:=keyH w
 inj:=fun v a b F D=>by
  rcases zZ F with ⟨i,t,rfl,rfl⟩ | ⟨x,t,rfl,rfl⟩
  ·rcases zZ D with ⟨j,u,rfl,e⟩ | ⟨y,u,rfl,e⟩
   ·injection e with q _;rw[q]
   ·exact nomatch e
  ·rcases zZ D with ⟨j,u,rfl,e⟩ | ⟨y,u,rfl,e⟩
   ·exact nomatch e
   ·injection e with q _;rw[q]
 byValue:=fun k v h=>by rcases zZ h with ⟨i,t,rfl,rfl⟩ | ⟨x,t,rfl,rfl⟩ <;> rfl
 pyHash:=fun B h=>by
  rcases zZ B with ⟨i,t,rfl,rfl⟩ | ⟨x,t,rfl,rfl⟩
  ·exact wpAny_pyHash_int h
  ·exact wpAny_pyHash_str h
 eqBool:=fun I B h=>by
  rcases zZ I with ⟨i,t,rfl,rfl⟩ | ⟨x,t,rfl,rfl⟩
  ·rcases zZ B with ⟨j,u,rfl,rfl⟩ | ⟨y,u,rfl,rfl⟩
   ·rw[zp8] at h;exact wpAny_eqBool_int h
   ·rw[zp9] at h;exact SeqAt.EqAt.int_str i t y u _ _ _ _ h
  ·rcases zZ B with ⟨j,u,rfl,rfl⟩ | ⟨y,u,rfl,rfl⟩
   ·rw[zqa] at h;exact SeqAt.EqAt.str_int x t j u _ _ _ _ h
   ·rw[zqb] at h;exact wpAny_eqBool_str h
 «strs»:=fun k x t v h=>by
  rcases zZ h with ⟨i,u,rfl,e⟩ | ⟨y,u,rfl,e⟩
  ·exact nomatch e
  ·injection e with q _;subst q;cases v <;> rfl
theorem zfY (prog:Program)(w:World)(i:Int)(t:Tok):(zR prog w).is (.inl i) (.int i t)=true:=zeP i t
theorem zfZ (prog:Program)(w:World)(x:Str)(t:Tok):(zR prog w).is (.inr x) (.str x t)=true:=ziU x t
inductive V where
 | non | bl (b:Bool) | int (i:Int) | str (x:Str) | byt (b:Array UInt8) | flt (b:UInt64) | ref (a:Addr) | ty (n:String)
 deriving DecidableEq
def yF:V->Value->Prop
 | .non,u=>u=Value.none
 | .bl b,u=>u=Value.bool b
 | .int i,u=>∃t,u=Value.int i t
 | .str x,u=>∃t,u=Value.str x t
 | .byt b,u=>∃t,u=Value.bytes b t
 | .flt b,u=>∃t,u=Value.float b t
 | .ref a,u=>u=Value.ref a
 | .ty n,u=>u=Value.type n
abbrev ya:List V->List Value->Prop:=Paired yF
theorem ya.length {xs:List V}{q:List Value}(r:ya xs q):xs.length=q.length:=fw r
theorem ya.get:∀ {xs:List V} {q:List Value} {i:Nat} {x:V},ya xs q->xs[i]?=some x->∃u,q[i]?=some u/\yF x u
 | _,_,_,_,.nil,e=>by simp at e
 | _,_,0,_,.cons r _,e=>by simp at e;subst e;exact⟨_,rfl,r⟩
 | _,_,i+1,x,.cons _ t,e=>by obtain⟨u,h1,h2⟩:=ya.get (i:=i) (x:=x) t (by simpa using e);exact⟨u,by simpa using h1,h2⟩
theorem ya.set {x:V}{u:Value}(r:yF x u):∀ {xs:List V} {B:List Value} (i:Nat),ya xs B->ya (xs.set i x) (B.set i u)
 | _,_,_,.nil=>.nil
 | _,_,0,.cons _ t=>.cons r t
 | _,_,i+1,.cons q t=>.cons q (ya.set r i t)
theorem ya.append:∀ {xs ys:List V} {q B:List Value},ya xs q->ya ys B->ya (xs++ys) (q++B)
 | _,_,_,_,.nil,s=>s
 | _,_,_,_,.cons r t,s=>.cons r (ya.append t s)
theorem ya.take:∀ {xs:List V} {q:List Value} (n:Nat),ya xs q->ya (xs.take n) (q.take n)
 | _,_,0,_=>.nil
 | _,_,_+1,.nil=>.nil
 | _,_,n+1,.cons r t=>.cons r (ya.take n t)
theorem ya.drop:∀ {xs:List V} {q:List Value} (n:Nat),ya xs q->ya (xs.drop n) (q.drop n)
 | _,_,0,r=>r
 | _,_,_+1,.nil=>.nil
 | _,_,n+1,.cons _ t=>ya.drop n t
def zha:Option V->Option Value->Prop
 | some v,some u=>yF v u
 | none,none=>True
 | _,_=>False
def KV {κ:Type}:List (κ×V)->List (κ×Value)->Prop:=Paired fun (p:κ×V) (q:κ×Value)=>p.1=q.1/\yF p.2 q.2
def kV:Key->V
 | .inl i=>.int i
 | .inr x=>.str x
inductive HO where
  | lst (xs:List V)
  | tup (xs:List V)
  | dK (kvs:List (Key×V)) | dT (kvs:List (List Key×V))
  | set (S:Int->Bool) (n:Nat)
  | ins (C dx:Addr) (fs:List (Str×V))
  | own (x:Addr)
  | xd (fs:List (Str×V))
  | met (f x:Addr)
  | rng (lo hi:Int)
  | frz (o:Obj) (u:HO)
  | tbl (ps:Array Value)
  | ext (φ:Heap->Prop)
abbrev Hp:=Addr->Option HO
def upd (H:Hp)(a:Addr)(o:HO):Hp:=fun b=>if b=a then some o else H b
theorem zj {H:Hp}{a:Addr}{o:HO}:upd H a o a=some o:=by unfold upd;rw[if_pos rfl]
theorem ze {H:Hp}{a b:Addr}{o:HO}(h:b≠a):upd H a o b=H b:=by unfold upd;rw[if_neg h]
theorem zo9 {H:Hp}{a:Addr}{o u:HO}:upd (upd H a o) a u=upd H a u:=by funext b;unfold upd;split <;> rfl
theorem zf0 {H:Hp}{a b:Addr}{o u:HO}(h:H a=some o)(h':H b=some u)(d:o≠u):a≠b:=by intro e;subst e;rw[h] at h';exact d (be h')
theorem zc {H:Hp}{a b:Addr}{o:HO}(h:H a=some o)(h':H b=none):a≠b:=by intro e;subst e;rw[h] at h';cases h'
def zan (h:Heap)(a:Addr)(items:Array Value):Prop:=∃o,h.get? a=some o/\o.cls = .type "tuple" /\ (∃n,o.data = .seq items n)/\o.dict=none
theorem zan.tup {h:Heap}{a:Addr}{items:Array Value}(x:zan h a items):IsTup h a items:=let ⟨o,h1,h2,h3,_⟩:=x;⟨o,h1,h2,h3⟩
theorem zan.lt {h:Heap}{a:Addr}{items:Array Value}(x:zan h a items):a<h.objs.size:=x.tup.lt
theorem zan.new (h:Heap)(items:Array Value):zan (h.push { cls:=.type "tuple",data:=.seq items }) h.objs.size items:=⟨_,aK _ rfl,rfl,⟨_,rfl⟩,rfl⟩
section
variable (P:Program)(w:World)
def yr (H:Hp)(h:Heap)(a:Addr):HO->Prop
 | .lst xs=>xs.length<=sizeLine/\∃ (its:List Value) (n:Nat),ya xs its/\h.get? a=some { cls:=.type "list",data:=.seq its.toArray n }
 | .tup xs=>xs.length<=sizeLine/\∃its:List Value,ya xs its/\zan h a its.toArray
 | .dK kvs=>kvs.length<=sizeLine/\(a==sysModules)=false/\∃vs,KV kvs vs/\h.DictOf (zR P w) a vs
 | .dT kvs=>kvs.length<=sizeLine/\(a==sysModules)=false/\∃xs:List (List Key×Addr×Value),
   Paired (fun (p:List Key×V) (q:List Key×Addr×Value)=>p.1=q.1/\H q.2.1=some (.tup (p.1.map kV))/\yF p.2 q.2.2) kvs xs/\
   ∃o es D,h.get? a=some o/\o.ExactDict/\o.data = .dict es D/\es.toList=xs.map (entryOfKey (tupleKind (zR P w)))/\(xs.map (·.1)).Nodup
 | .set S n=>h.SetOf (intKind P w) a S n
 | .ins C dx fs=>H dx=some (.own a)/\fs.length<=1000/\dx≠a/\h.get? a=some (PySem.W.instObj C dx)/\
   ∃mA,h.Ns1 dx mA/\(∀f,zha (fs.lookup f) (mA f))/\PySem.Within mA (fs.map (·.1))
 | .own _=>∃o,h.get? a=some o
 | .xd fs=>∃mA,h.Ns1 a mA/\∀f,zha (fs.lookup f) (mA f)
 | .rng lo hi=>∃t u v,h.get? a=some { cls:=.type "range",data:=.fields #[.int lo t,.int hi u,.int 1 v] }
 | .frz o u=>h.get? a=some o/\yr H h a u
 | .tbl ps=>h.get? a=some { cls:=.none,data:=.fields ps }
 | .met f x=>h.get? a=some (PySem.W.methodObj (.ref f) (.ref x))
 | .ext B=>B h/\(∃o,h.get? a=some o)/\∀h1 h2:Heap,B h1->(∀o,h1.get? a=some o->h2.get? a=some o)->B h2
def HOk (H:Hp)(h:Heap):Prop:=∀a o,H a=some o->yr P w H h a o
end
section
variable {P:Program}{w:World}{H H':Hp}{h h':Heap}{a:Addr}{o:HO}
theorem yr.lt (x:yr P w H h a o):a<h.objs.size:=by
 cases o with
 | lst xs=>obtain⟨_,_,_,_,e⟩:=x;exact ay e
 | tup xs=>obtain⟨_,_,_,p⟩:=x;exact p.lt
 | dK kvs=>obtain⟨_,_,_,_,o,_,_,e,_⟩:=x;exact ay e
 | dT kvs=>obtain⟨_,_,_,_,o,_,_,e,_⟩:=x;exact ay e
 | set S n=>obtain⟨o,_,_,_,e,_⟩:=x;exact ay e
 | ins C dx fs=>obtain⟨_,_,_,e,_⟩:=x;exact ay e
 | own y=>obtain⟨_,e⟩:=x;exact ay e
 | xd fs=>obtain⟨_,⟨_,_,_,e,_⟩,_⟩:=x;exact ay e
 | rng lo hi=>obtain⟨_,_,_,e⟩:=x;exact ay e
 | frz q u=>obtain⟨e,_⟩:=x;exact ay e
 | tbl ps=>exact ay (show h.get? a=some _ from x)
 | met f y=>exact ay (show h.get? a=some _ from x)
 | ext B=>obtain⟨_,⟨_,e⟩,_⟩:=x;exact ay e
theorem Paired.mapP {α q:Type}{F G:α->q->Prop}:∀ {l₁:List α} {l₂:List q},Paired F l₁ l₂->(∀a b,F a b->G a b)->Paired G l₁ l₂
 | _,_,.nil,_=>.nil
 | _,_,.cons r t,f=>.cons (f _ _ r) (Paired.mapP t f)
theorem Paired.imp' {α q:Type}{F G:α->q->Prop}(f:∀a b,F a b->G a b){l₁:List α}{l₂:List q}(r:Paired F l₁ l₂):Paired G l₁ l₂:=Paired.mapP r f
theorem yr.stay (x:yr P w H h a o)(k:∀b u,(b=a\/H b=some (.own a))->h.get? b=some u->h'.get? b=some u)
  (I:∀b,H b=some (.own a)->H' b=some (.own a)) (J:∀b xs,H b=some (.tup xs)->H' b=some (.tup xs)):yr P w H' h' a o:=by
 induction o with
 | lst xs=>obtain⟨z,its,n,r,e⟩:=x;exact⟨z,its,n,r,k _ _ (.inl rfl) e⟩
 | tup xs=>obtain⟨z,its,r,B,e,c⟩:=x;exact⟨z,its,r,B,k _ _ (.inl rfl) e,c⟩
 | dK kvs=>obtain⟨z,y,vs,r,B,es,D,e,c⟩:=x;exact⟨z,y,vs,r,B,es,D,k _ _ (.inl rfl) e,c⟩
 | dT kvs=>
  obtain⟨z,y,xs,r,B,es,D,e,c⟩:=x;exact⟨z,y,xs,Paired.mapP r fun p q z=>⟨z.1,J _ _ z.2.1,z.2.2⟩,B,es,D,k _ _ (.inl rfl) e,c⟩
 | set S n=>obtain⟨B,es,D,t,e,c⟩:=x;exact⟨B,es,D,t,k _ _ (.inl rfl) e,c⟩
 | ins C dx fs=>
  obtain⟨d,z,L,e,mA,⟨F,es,D,O,c⟩,r⟩:=x;exact⟨I _ d,z,L,k _ _ (.inl rfl) e,mA,⟨F,es,D,k _ _ (.inr d) O,c⟩,r⟩
 | own y=>obtain⟨B,e⟩:=x;exact⟨B,k _ _ (.inl rfl) e⟩
 | xd fs=>obtain⟨mA,⟨F,es,D,e,c⟩,r⟩:=x;exact⟨mA,⟨F,es,D,k _ _ (.inl rfl) e,c⟩,r⟩
 | rng lo hi=>obtain⟨t,u,v,e⟩:=x;exact⟨t,u,v,k _ _ (.inl rfl) e⟩
 | frz B u U=>obtain⟨e,q⟩:=x;exact⟨k _ _ (.inl rfl) e,U q⟩
 | tbl ps=>
  have e:h.get? a=some { cls:=.none,data:=.fields ps }:=x;show h'.get? a=some { cls:=.none,data:=.fields ps };exact k a _ (.inl rfl) e
 | met f y=>
  have e:h.get? a=some (PySem.W.methodObj (.ref f) (.ref y)):=x;show h'.get? a=some (PySem.W.methodObj (.ref f) (.ref y));exact k a _ (.inl rfl) e
 | ext Y=>obtain⟨p,⟨o,e⟩,st⟩:=x;exact⟨st _ _ p fun o q=>k _ _ (.inl rfl) q,⟨o,k _ _ (.inl rfl) e⟩,st⟩
theorem HOk.lt (x:HOk P w H h)(e:H a=some o):a<h.objs.size:=(x a o e).lt
theorem HOk.fresh (x:HOk P w H h)(e:h.objs.size<=a):H a=none:=by
 cases q:H a with
 | none=>rfl
 | some u=>exact absurd (aU (x.lt q) e) (bU _)
theorem HOk.kept (x:HOk P w H h)(k:∀b u,h.get? b=some u->h'.get? b=some u):HOk P w H h':=fun a o e=>
 (x a o e).stay (fun b u _ q=>k b u q) (fun _ q=>q) fun _ _ q=>q
theorem HOk.laid (x:HOk P w H h)(k:∀b u,h.get? b=some u->h'.get? b=some u)(I:h.objs.size<=a)(B:yr P w (upd H a o) h' a o):HOk P w (upd H a o) h':=fun b u e=>by
 have D:=x.fresh I;by_cases F:b=a
 ·subst F;rw[zj] at e;cases e;exact B
 ·rw[ze F] at e;exact (x b u e).stay (fun c v _ q=>k c v q) (fun c q=>by rw[ze (zc q D)];exact q) fun c xs q=>by rw[ze (zc q D)];exact q
end
def Rd (H:Hp)(a:Addr)(u:HO):Prop:=H a=some u\/∃o,H a=some (.frz o u)
theorem Rd.ok {P:Program}{w:World}{H:Hp}{h:Heap}{a:Addr}{u:HO}(r:Rd H a u)(x:HOk P w H h):yr P w H h a u:=by
 rcases r with r | ⟨o,r⟩
 ·exact x a u r
 ·obtain⟨_,q⟩:=x a _ r;exact q
def Mut:Option HO->Prop
 | some (.lst _)=>True
 | some (.dK _)=>True
 | some (.dT _)=>True
 | some (.set _ _)=>True
 | some (.ins _ _ _)=>True
 | some (.ext _)=>True
 | _=>False
section
variable {P:Program}{w:World}{H:Hp}{h h':Heap}{x e:Addr}{o':HO}
theorem HOk.write (ok:HOk P w H h)(I:Mut (H x))(Y:e=x\/H e=some (.own x))(k:∀b u,b≠e->h.get? b=some u->h'.get? b=some u)(O:∃u,h'.get? e=some u)
  (U:yr P w (upd H x o') h' x o'):HOk P w (upd H x o') h':=fun b u q=>by
 have D:∀c y,H c=some (.own y)->c≠x:=fun c y r z=>by subst z;rw[r] at I;exact I
 have F:∀c xs,H c=some (.tup xs)->c≠x:=fun c xs r z=>by subst z;rw[r] at I;exact I
 by_cases J:b=x
 ·subst J;rw[zj] at q;cases q;exact U
 ·rw[ze J] at q;by_cases B:b=e
  ·have Z:H b=some (.own x):=by
    rcases Y with z | z
    ·exact absurd (B.trans z) J
    ·rw[B];exact z
   rw[q] at Z;cases Z;obtain⟨v,hv⟩:=O;exact⟨v,by rw[B];exact hv⟩
  ·refine (ok b u q).stay (fun c v L r=>k c v ?_ r) (fun c r=>by rw[ze (D c b r)];exact r) fun c xs r=>by rw[ze (F c xs r)];exact r
   rcases L with rfl | L
   ·exact B
   ·rintro rfl;rcases Y with z | z
    ·exact D c b L z
    ·rw[L] at z;cases z;exact J rfl
end
structure Un (fs ex:List Addr)(H H':Hp)(h h':Heap):Prop where
 keep:∀b o,h.get? b=some o->H b=none->b∉fs->b∉ex->h'.get? b=some o
 slot:∀b o,h.get? b=some o->H b=none->b∈fs->b∉ex->∃sl,h'.get? b=some { o with slots:=sl }
 free:∀b o,h.get? b=some o->H b=none->b∉ex->H' b=none
 there:∀b o,h.get? b=some o->b∉ex->∃o',h'.get? b=some o'
 tups:∀b xs,H b=some (.tup xs)->H' b=some (.tup xs)
 frzs:∀b o u,H b=some (.frz o u)->H' b=some (.frz o u)
 tbls:∀b ps,H b=some (.tbl ps)->∃more,H' b=some (.tbl (ps++more))
section
variable {fs fs' ex ex':List Addr}{H H1 H2:Hp}{h h1 h2 h':Heap}{a x e:Addr}{o:HO}
theorem Un.any (u:Un fs ex H H1 h h1){b:Addr}{B:Obj}(q:h.get? b=some B)(n:H b=none)(D:b∉ex):∃I,h1.get? b=some { B with slots:=I }:=by
 by_cases F:b∈fs
 ·exact u.slot b B q n F D
 ·exact⟨B.slots,u.keep b B q n F D⟩
theorem Un.kept (k:∀b u,h.get? b=some u->h'.get? b=some u):Un fs ex H H h h':=
 ⟨fun b B q _ _ _=>k b B q,fun b B q _ _ _=>⟨B.slots,k b B q⟩,fun _ _ _ n _=>n,fun b B q _=>⟨B,k b B q⟩,fun _ _ q=>q,fun _ _ _ q=>q,fun _ ps q=>⟨#[],by rw[q];simp⟩⟩
theorem Un.refl:Un fs ex H H h h:=Un.kept fun _ _ q=>q
theorem Un.laid (k:∀b u,h.get? b=some u->h'.get? b=some u)(D:h.objs.size<=a)(B:H a=none):Un fs ex H (upd H a o) h h' where
 keep:=fun b u q _ _ _=>k b u q
 slot:=fun b u q _ _ _=>⟨u.slots,k b u q⟩
 free:=fun b u q n _=>by rw[ze (aM (aU (ay q) D))];exact n
 there:=fun b u q _=>⟨u,k b u q⟩
 tups:=fun b xs q=>by rw[ze (zc q B)];exact q
 frzs:=fun b u xs q=>by rw[ze (zc q B)];exact q
 tbls:=fun b ps q=>⟨#[],by rw[ze (zc q B),q];simp⟩
theorem Un.write (D:Mut (H x))(O:e=x\/H e=some (.own x))(k:∀b u,b≠e->h.get? b=some u->h'.get? b=some u)(F:∃u,h'.get? e=some u):Un fs ex H (upd H x o) h h':=by
 have J:∀b,H b=none->b≠x:=fun b n z=>by subst z;rw[n] at D;exact D
 have L:∀b,H b=none->b≠e:=fun b n z=>by
  subst z;rcases O with r | r
  ·exact J b n r
  ·rw[n] at r;cases r
 have I:∀b u,H b=some u->¬ Mut (some u)->b≠x:=fun b u q nm z=>by subst z;rw[q] at D;exact nm D
 refine⟨fun b u q n _ _=>k b u (L b n) q,fun b u q n _ _=>⟨u.slots,k b u (L b n) q⟩,fun b u q n _=>by rw[ze (J b n)];exact n,fun b u q _=>?_,
  fun b xs q=>by rw[ze (I b _ q fun z=>z)];exact q,fun b u xs q=>by rw[ze (I b _ q fun z=>z)];exact q,fun b ps q=>⟨#[],by rw[ze (I b _ q fun z=>z),q];simp⟩⟩
 by_cases B:b=e
 ·subst B;exact F
 ·exact⟨u,k b u B q⟩
end
def trk (h:Heap)(H:Hp):List Addr:=(List.range h.objs.size).filter fun a=>(H a).isSome
def zkU (h:Heap)(H:Hp):Heap:=PySem.W.hideAll h (trk h H)
theorem ziz (h:Heap)(H:Hp):(zkU h H).objs.size=h.objs.size:=PySem.W.hideAll_size _ _
theorem zkV {h:Heap}{H:Hp}{b:Addr}{o:Obj}(e:h.get? b=some o)(n:H b=none):(zkU h H).get? b=some o:=
 PySem.W.hideAll_get _ e fun B=>by have q:(H b).isSome=true:=(aW.mp B).2;rw[n] at q;simp at q
theorem znP {h:Heap}{H:Hp}{b:Addr}{o:Obj}(e:(zkU h H).get? b=some o):h.get? b=some o/\H b=none:=by
 have B:h.get? b=some o:=PySem.W.of_hideAll (trk h H) e;refine⟨B,?_⟩
 cases q:H b with
 | none=>rfl
 | some x=>
  have D:b∈trk h H:=aW.mpr ⟨aP.mpr (ay B),by simp[q]⟩;have z:(zkU h H).get? b=none:=PySem.W.hideAll_none (trk h H) D;rw[z] at e;cases e
def zmN (g h:Heap)(L:Addr):List (Addr×Obj):=(List.range h.objs.size).filterMap fun a=>if a=L\/(g.get? a).isSome=true then none else (h.get? a).map fun o=>(a,o)
def zV (g h:Heap)(L d:Addr):List (Addr×Obj):=(zmN g h L).filter fun p=>decide (p.1≠d)
structure Mod (K:PySem.W.Frag)(mg:Str->Option Value)(base:Heap):Prop where
 kin:K.In base
 glob:base.Ns mainGlobals mg
 blt:∃mb,base.Ns builtinsNs mb/\∀x:Str,x ≠ "__name__" -> mb x=bootBuiltins x
 nolimit:base.NoLimit
structure Cx where
 prog:Program
 w:World
 K:PySem.W.Frag
 mg:Str->Option Value
 base:Heap
 A:Around
 N:List Str
 s₀:Shared
 H₀:Hp
 env:Env
 outer:List Env
 stack:List Env
 ex:List Addr
 fn:Str->Bool
 calm:Bool
 pn:List (Addr×Obj)
 xe:Value->Shared->Prop
def frs (l:List Env):List Addr:=l.filterMap (·.frame)
abbrev Cx.fs (X:Cx):List Addr:=frs X.outer
def Vis (q:Scope)(x:Str):Prop:=q.names.lookup x=some .local\/q.names.lookup x=some .cell\/q.names.lookup x=some .free
def Loc (q:Scope)(x:Str):Prop:=q.names.lookup x=some .local\/q.names.lookup x=some .cell
def Look (env:Env)(h:Heap)(m:Str->Option Value)(x:Str)(u:Value):Prop:=
 (env.kindOf x=some .local/\m x=some u)\/((env.kindOf x=some .cell\/env.kindOf x=some .free)/\∃c,env.cells.lookup x=some c/\h.IsCell c (some u))
structure Cx.Ok (X:Cx):Prop where
 mod:Mod X.K X.mg X.base
 kind:X.env.scope.kind = .function
 glob:X.env.globals=mainGlobals
 blt:X.env.builtins=builtinsNs
 above:X.s₀.heap.objs.size<=X.env.locals
 inj:∀x y c,X.env.cells.lookup x=some c->X.env.cells.lookup y=some c->x=y
 has:∀x,(X.env.kindOf x=some .cell\/X.env.kindOf x=some .free)->∃c,X.env.cells.lookup x=some c
 cab:∀x c,X.fn x=true->X.env.cells.lookup x=some c->X.s₀.heap.objs.size<=c
 hd:X.calm=true->X.A.handled=none
 frames:X.A.frames=some X.stack
 stk:X.stack=X.outer\/(X.stack=X.env::X.outer/\X.env.frame=some X.env.locals)
 exf:∀b∈X.ex,b≠X.env.locals/\∀x c,X.env.cells.lookup x=some c->c≠b
 bs:∀b o,X.base.get? b=some o->X.s₀.heap.get? b=some o/\X.H₀ b=none
 bsz:X.base.objs.size<=X.s₀.heap.objs.size
 noex:∀b o,X.base.get? b=some o->b∉X.ex
 exfs:∀b∈X.ex,b∉X.fs
 funs:X.s₀.heap.FunFrames X.base X.outer
 frf:∀b∈X.fs,X.H₀ b=none
structure Inv (X:Cx)(pins:List (Addr×Obj))(σ:List (Option V))(H:Hp)(s:Shared):Prop where
 ok:X.Ok
 os:s.os=X.s₀.os
 bare:AllBare s.gens
 base:Un X.fs X.ex X.H₀ H X.s₀.heap s.heap
 loc:∃m,s.heap.Ns X.env.locals m/\∀ (i:Nat) (x:Str) (v:V),X.N[i]?=some x->σ[i]?=some (some v)->Vis X.env.scope x->∃u,yF v u/\Look X.env s.heap m x u
 cell:∀x c,X.env.cells.lookup x=some c->∃v,s.heap.IsCell c v
 free:H X.env.locals=none
 freeC:∀x c,X.env.cells.lookup x=some c->H c=none
 pin:∀p∈X.pn++pins,s.heap.get? p.1=some p.2/\H p.1=none/\p.1≠X.env.locals/\p.1∉X.fs/\∀v,p.2.data≠.cell v
 hok:HOk X.prog X.w H s.heap
 len:σ.length=X.N.length
section
variable {X:Cx}{pins:List (Addr×Obj)}{σ:List (Option V)}{H H':Hp}{s:Shared}{h':Heap}
theorem Cx.Ok.nofr (q:X.Ok){b:Addr}{o:Obj}(e:X.base.get? b=some o):b∉X.fs:=fun B=>by have:=(q.funs.mem B).1;rw[e] at this;cases this
theorem Inv.bs (I:Inv X pins σ H s):∀b o,X.base.get? b=some o->s.heap.get? b=some o/\H b=none:=fun b o e=>
 ⟨I.base.keep b o (I.ok.bs b o e).1 (I.ok.bs b o e).2 (I.ok.nofr e) (I.ok.noex b o e),I.base.free b o (I.ok.bs b o e).1 (I.ok.bs b o e).2 (I.ok.noex b o e)⟩
theorem Inv.bk (I:Inv X pins σ H s):∀b o,X.base.get? b=some o->s.heap.get? b=some o:=fun b o e=>(I.bs b o e).1
theorem Inv.mod (I:Inv X pins σ H s):Mod X.K X.mg X.base:=I.ok.mod
theorem Inv.kIn (I:Inv X pins σ H s):X.K.In s.heap:=I.ok.mod.kin.keeps I.bk
theorem Inv.lt (I:Inv X pins σ H s):X.env.locals<s.heap.objs.size:=let ⟨_,hn,_⟩:=I.loc;hn.lt
theorem Inv.sz (I:Inv X pins σ H s):X.s₀.heap.objs.size<=s.heap.objs.size:=aB I.ok.above (cv I.lt)
theorem Inv.nofs (I:Inv X pins σ H s){a:Addr}(h:s.heap.objs.size<=a):a∉X.fs:=fun q=>by obtain⟨_,o,B,_⟩:=I.ok.funs.mem q;exact absurd (aU (ay B) (aB I.sz h)) (bU _)
theorem Inv.cne (I:Inv X pins σ H s):∀x c,X.env.cells.lookup x=some c->c≠X.env.locals:=fun x c e z=>by obtain⟨v,o,D,F⟩:=I.cell x c e;obtain⟨m,⟨o',es,J,q,B,_⟩,_⟩:=I.loc;rw[z,q] at D;cases D;rw[B] at F;cases F
theorem Inv.funs (I:Inv X pins σ H s):s.heap.FunFrames X.base X.outer:=by
 have all:∀ (l:List Env),(∀b∈frs l,b∈X.fs)->X.s₀.heap.FunFrames X.base l->s.heap.FunFrames X.base l:=by
  intro l
  induction l with
  | nil=>intro _ _;trivial
  | cons env r J=>
   intro F O;obtain⟨U,⟨L,o,q,Y,Z,hd⟩,hr⟩:=O;have B:L∈X.fs:=F L (by unfold frs;rw[bZ,q];exact ao);obtain⟨sl,e⟩:=I.base.slot L o Z (I.ok.frf L B) B fun z=>I.ok.exfs L z B;exact⟨U,⟨L,_,q,Y,e,hd⟩,J (fun b D=>F b (by unfold frs;rw[bZ,q];exact am _ D)) hr⟩
 exact all X.outer (fun _ D=>D) I.ok.funs
theorem Inv.stack (I:Inv X pins σ H s):s.heap.FunFrames X.base X.stack:=by
 rcases I.ok.stk with e | ⟨e,hf⟩
 ·rw[e];exact I.funs
 ·rw[e];obtain⟨m,q,_⟩:=I.loc;refine .cons (by rw[I.ok.kind];decide) hf q ?_ I.funs;exact Heap.get?_none_of_le (aB I.ok.bsz I.ok.above)
theorem Inv.stkSub (I:Inv X pins σ H s):∀b∈frs X.stack,b∈X.env.locals::X.fs:=fun b q=>by
 rcases I.ok.stk with e | ⟨e,hf⟩
 ·rw[e] at q;exact am _ q
 ·rw[e] at q;unfold frs at q;rw[bZ,hf] at q;exact q
theorem Inv.stkFree (I:Inv X pins σ H s):∀b∈frs X.stack,H b=none:=fun b q=>by
 rcases aE.mp (I.stkSub b q) with e | q
 ·rw[e];exact I.free
 ·obtain⟨_,o,B,_⟩:=I.ok.funs.mem q;exact I.base.free b o B (I.ok.frf b q) fun z=>I.ok.exfs b z q
theorem Inv.step {g':Array GenState}{t':Nat}{d':Drawn}{ch:List Addr}(I:Inv X pins σ H s)
  (F:∀b∈ch,(b∈X.ex\/X.s₀.heap.objs.size<=b)/\b≠X.env.locals/\(∀x c,X.env.cells.lookup x=some c->c≠b)/\∀p∈X.pn++pins,p.1≠b)
  (J:∀b o,b≠X.env.locals->b∉X.fs->b∉ch->s.heap.get? b=some o->H b=none->h'.get? b=some o)
  (Z:∀b o,b≠X.env.locals->b∈X.fs->b∉ch->s.heap.get? b=some o->H b=none->∃sl,h'.get? b=some { o with slots:=sl }) (D:∀b o,b∉ch->s.heap.get? b=some o->H b=none->H' b=none)
  (ad:∀b o,b∉ch->s.heap.get? b=some o->∃o',h'.get? b=some o')
  (al:∀b xs,H b=some (.tup xs)->H' b=some (.tup xs)) (an:∀b o u,H b=some (.frz o u)->H' b=some (.frz o u)) (ap:∀b ps,H b=some (.tbl ps)->∃more,H' b=some (.tbl (ps++more)))
  (ns:∀m,s.heap.Ns X.env.locals m->h'.Ns X.env.locals m) (av:HOk X.prog X.w H' h') (hg:AllBare g') :
  Inv X pins σ H' { s with heap:=h',gens:=g',drawn:=d',toks:=t' }:=by
 have as:∀b o,X.s₀.heap.get? b=some o->b≠X.env.locals:=fun b o e=>aM (aU (ay e) I.ok.above)
 have U:∀b o,X.s₀.heap.get? b=some o->b∉X.ex->b∉ch:=fun b o e B hb=>by
  rcases (F b hb).1 with z | z
  ·exact B z
  ·exact absurd (aU (ay e) z) (bU _)
 have L:∀x c,X.env.cells.lookup x=some c->∀v,s.heap.IsCell c v->h'.IsCell c v:=by
  rintro x c e v ⟨o,ho,hd⟩;have O:c∉ch:=fun z=>(F c z).2.2.1 x c e rfl;by_cases hc:c∈X.fs
  ·obtain⟨sl,q⟩:=Z c o (I.cne x c e) hc O ho (I.freeC x c e);exact⟨_,q,hd⟩
  ·exact⟨o,J c o (I.cne x c e) hc O ho (I.freeC x c e),hd⟩
 refine⟨I.ok,I.os,hg,⟨fun b o e n hb B=>?_,fun b o e n hb B=>?_,fun b o e n B=>?_,fun b o e B=>?_,fun b xs e=>al b xs (I.base.tups b xs e),fun b o xs e=>an b o xs (I.base.frzs b o xs e),fun b ps e=>?_⟩,?_,fun x c e=>?_,?_,fun x c e=>?_,fun p hp=>?_,av,I.len⟩
 ·exact J b o (as b o e) hb (U b o e B) (I.base.keep b o e n hb B) (I.base.free b o e n B)
 ·obtain⟨sl,Y⟩:=I.base.slot b o e n hb B;obtain⟨a0,e2⟩:=Z b _ (as b o e) hb (U b o e B) Y (I.base.free b o e n B);exact⟨a0,e2⟩
 ·obtain⟨o',Y⟩:=I.base.there b o e B;exact D b o' (U b o e B) Y (I.base.free b o e n B)
 ·obtain⟨o',Y⟩:=I.base.there b o e B;exact ad b o' (U b o e B) Y
 ·obtain⟨m1,Y⟩:=I.base.tbls b ps e;obtain⟨m2,e2⟩:=ap b _ Y;exact⟨m1++m2,by rw[e2,Array.append_assoc]⟩
 ·obtain⟨m,hn,hl⟩:=I.loc;refine⟨m,ns m hn,fun i x v Y e2 e3=>?_⟩;obtain⟨u,r,l⟩:=hl i x v Y e2 e3;refine⟨u,r,?_⟩;rcases l with l | ⟨k,c,e,z⟩
  ·exact .inl l
  ·exact .inr ⟨k,c,e,L x c e _ z⟩
 ·obtain⟨v,z⟩:=I.cell x c e;exact⟨v,L x c e v z⟩
 ·obtain⟨m,⟨o,_,_,ho,_⟩,_⟩:=I.loc;exact D _ o (fun z=>(F _ z).2.1 rfl) ho I.free
 ·obtain⟨v,o,ho,hd⟩:=I.cell x c e;exact D c o (fun z=>(F c z).2.2.1 x c e rfl) ho (I.freeC x c e)
 ·obtain⟨e,n,ne,nf,d⟩:=I.pin p hp;have O:p.1∉ch:=fun z=>(F p.1 z).2.2.2 p hp rfl;exact⟨J p.1 p.2 ne nf O e n,D p.1 p.2 O e n,ne,nf,d⟩
theorem Inv.un {t':Nat}(I:Inv X pins σ H s)(u:Un X.fs [] H H' s.heap h')(B:HOk X.prog X.w H' h'):Inv X pins σ H' { s with heap:=h',toks:=t' }:=by
 obtain⟨m,⟨o,es,Y,J,r⟩,_⟩:=id I.loc;obtain⟨Z,L⟩:=u.any J I.free (by simp)
 exact I.step (g':=s.gens) (d':=s.drawn) (ch:=[]) (fun _ z=>nomatch z) (fun b o _ D _ e n=>u.keep b o e n D (by simp)) (fun b o _ D _ e n=>u.slot b o e n D (by simp)) (fun b o _ e n=>u.free b o e n (by simp)) (fun b o _ e=>u.there b o e (by simp)) u.tups u.frzs u.tbls (fun m' O=>by obtain⟨o',es',F,q,U⟩:=O;rw[J] at q;cases q;exact⟨_,es',F,L,U⟩) B I.bare
theorem Inv.call {g':Array GenState}{t':Nat}{d':Drawn}{ch:List Addr}(I:Inv X pins σ H s)(u:Un (frs X.stack) ch H H' s.heap h')(F:HOk X.prog X.w H' h')(U:AllBare g')
  (B:∀b∈ch,(b∈X.ex\/X.s₀.heap.objs.size<=b)/\b≠X.env.locals/\(∀x c,X.env.cells.lookup x=some c->c≠b)/\∀p∈X.pn++pins,p.1≠b) :
  Inv X pins σ H' { s with heap:=h',gens:=g',drawn:=d',toks:=t' }:=by
 obtain⟨m,⟨o,es,ep,O,r⟩,_⟩:=id I.loc;obtain⟨sl,J⟩:=u.any O I.free fun z=>(B _ z).2.1 rfl
 exact I.step (ch:=ch) B (fun b o J Y q e n=>u.keep b o e n (fun z=>(aE.mp (I.stkSub b z)).elim J Y) q) (fun b o _ _ q e n=>u.any e n q) (fun b o q e n=>u.free b o e n q) (fun b o q e=>u.there b o e q) u.tups u.frzs u.tbls (fun m' Z=>by obtain⟨o',es',L,D,r'⟩:=Z;rw[O] at D;cases D;exact⟨_,es',L,J,r'⟩) F U
theorem Inv.turned {t':Nat}{B:Addr}(I:Inv X pins σ H s)(k:∀b o,b≠B->s.heap.get? b=some o->h'.get? b=some o)(L:H B=none)(J:B≠X.env.locals)
  (h1:B∈X.ex\/X.s₀.heap.objs.size<=B) (h2:∀x c,X.env.cells.lookup x=some c->c≠B) (O:∀p∈X.pn++pins,p.1≠B):Inv X pins σ H { s with heap:=h',toks:=t' }:=by
 have F:∀b u,H b=some u->b≠B:=fun b u e z=>by rw[z,L] at e;cases e
 refine I.step (g':=s.gens) (d':=s.drawn) (ch:=[B]) (fun b U=>?_) (fun b o _ _ D e _=>k b o (fun z=>D (by simp[z])) e) (fun b o _ _ D e _=>⟨o.slots,k b o (fun z=>D (by simp[z])) e⟩) (fun _ _ _ _ n=>n)
  (fun b o D e=>⟨o,k b o (fun z=>D (by simp[z])) e⟩) (fun _ _ e=>e) (fun _ _ _ e=>e) (fun b ps e=>⟨#[],by rw[e];simp⟩) (fun m Y=>?_) (fun b u e=>?_) I.bare
 ·have e:b=B:=by simpa using U
  subst e;exact⟨h1,J,h2,O⟩
 ·obtain⟨o,es,Z,ho,r⟩:=Y;exact⟨o,es,Z,k _ o (Ne.symm J) ho,r⟩
 ·refine (I.hok b u e).stay (fun c v D q=>k c v ?_ q) (fun _ q=>q) fun _ _ q=>q;rcases D with z | z
  ·rw[z];exact F b u e
  ·exact F c _ z
theorem Inv.tok (I:Inv X pins σ H s)(t:Nat):Inv X pins σ H { s with toks:=t }:=I.un (h':=s.heap) (t':=t) Un.refl I.hok
theorem Inv.kept {t':Nat}(I:Inv X pins σ H s)(k:∀b u,s.heap.get? b=some u->h'.get? b=some u):Inv X pins σ H { s with heap:=h',toks:=t' }:=I.un (Un.kept k) (I.hok.kept k)
theorem Inv.laid {a:Addr}{o:HO}{t':Nat}(I:Inv X pins σ H s)(k:∀b u,s.heap.get? b=some u->h'.get? b=some u)(q:s.heap.objs.size<=a)(B:yr X.prog X.w (upd H a o) h' a o) :
  Inv X pins σ (upd H a o) { s with heap:=h',toks:=t' }:=I.un (Un.laid k q (I.hok.fresh q)) (I.hok.laid k q B)
theorem Inv.write {x e:Addr}{o:HO}{t':Nat}(I:Inv X pins σ H s)(D:Mut (H x))(F:e=x\/H e=some (.own x))(k:∀b u,b≠e->s.heap.get? b=some u->h'.get? b=some u)(q:∃u,h'.get? e=some u)
  (B:yr X.prog X.w (upd H x o) h' x o):Inv X pins σ (upd H x o) { s with heap:=h',toks:=t' }:=I.un (Un.write D F k q) (I.hok.write D F k q B)
theorem Inv.pins_of {q:List (Addr×Obj)}(I:Inv X pins σ H s)(h:∀p∈q,s.heap.get? p.1=some p.2/\H p.1=none/\p.1≠X.env.locals/\p.1∉X.fs/\∀v,p.2.data≠.cell v):Inv X q σ H s:=
 ⟨I.ok,I.os,I.bare,I.base,I.loc,I.cell,I.free,I.freeC,fun p B=>(aZ.mp B).elim (fun z=>I.pin p (bL _ z)) (h p),I.hok,I.len⟩
theorem zgO {N:List Str}(q:N.Nodup){i j:Nat}{x:Str}(a:N[i]?=some x)(b:N[j]?=some x):i=j:=by obtain⟨h1,B⟩:=ae.mp a;obtain⟨h2,D⟩:=ae.mp b;exact (cj q).mp (B.trans D.symm)
theorem zcK {M:Model}{A:Around}{E:Value->Shared->Prop}{i:Nat}{x:Str}{v:V}{u:Value}{Q:Unit->Shared->Prop}(I:Inv X pins σ H s)(hN:X.N.Nodup)(hi:X.N[i]?=some x)(L:Loc X.env.scope x)(r:yF v u)
  (h:∀s',Inv X pins (σ.set i (some v)) H s'->(∃a,Heap.SameBut a s.heap s'.heap/\(a=X.env.locals\/X.env.cells.lookup x=some a))->Q () s') (hf:X.fn x=true\/X.env.scope.names.lookup x=some .local:=by walk_at "l"):wpAny M A (storeName X.env x u) Q E s:=by
 obtain⟨m,hn,hl⟩:=id I.loc;have an:(X.env.scope.kind==.class || (X.env.scope.kind==.module&&X.env.locals != X.env.globals))=false:=by rw[I.ok.kind];rfl
 have Y:i<σ.length:=by rw[I.len];exact (ae.mp hi).1
 have ad:=I.cne
 have D:∀ {a:Addr} {h':Heap},(∃o,s.heap.get? a=some o/\H a=none)->Heap.SameBut a s.heap h'->HOk X.prog X.w H h':=fun {a h'} ha B b ob e=>by
  obtain⟨_,_,O⟩:=ha;refine (I.hok b ob e).stay (fun c w' J q=>(B.2 c ?_).trans q) (fun _ q=>q) fun _ _ q=>q;rintro rfl;rcases J with rfl | J
  ·rw[O] at e;cases e
  ·rw[O] at J;cases J
 rcases L with Z | Z
 ·refine wpAny_storeName_local Z hn (fun h' a1 B=>?_) an;obtain⟨oL,_,_,a2,_⟩:=id hn;refine h _ ⟨I.ok,I.os,I.bare,⟨fun b o e n hb L=>?_,fun b o e n hb L=>?_,I.base.free,fun b o e L=>?_,I.base.tups,I.base.frzs,I.base.tbls⟩,⟨_,a1,fun j y v' F U e3=>?_⟩,fun y c e=>?_,I.free,I.freeC,fun p hp=>?_,D ⟨oL,a2,I.free⟩ B,by simpa using I.len⟩ ⟨_,B,.inl rfl⟩
  ·exact (B.2 b (aM (aU (ay e) I.ok.above))).trans (I.base.keep b o e n hb L)
  ·obtain⟨sl,F⟩:=I.base.slot b o e n hb L;exact⟨sl,(B.2 b (aM (aU (ay e) I.ok.above))).trans F⟩
  ·obtain⟨o',F⟩:=I.base.there b o e L;exact⟨o',(B.2 b (aM (aU (ay e) I.ok.above))).trans F⟩
  ·by_cases hj:j=i
   ·subst hj;rw[hi] at F;cases F;rw[aQ Y] at U;cases U;exact⟨u,r,.inl ⟨Z,by simp⟩⟩
   ·rw[aw (Ne.symm hj)] at U;obtain⟨u',r',q⟩:=hl j y v' F U e3;refine⟨u',r',?_⟩;rcases q with ⟨k,e⟩ | ⟨k,c,e,z⟩
    ·refine .inl ⟨k,?_⟩;have:y≠x:=fun e=>hj (zgO hN F (e ▸ hi));simp[this,e]
    ·exact .inr ⟨k,c,e,z.sameBut B (ad y c e)⟩
  ·obtain⟨w',z⟩:=I.cell y c e;exact⟨w',z.sameBut B (ad y c e)⟩
  ·obtain⟨e,n,ne,nf,d⟩:=I.pin p hp;exact⟨(B.2 p.1 ne).trans e,n,ne,nf,d⟩
 ·have al:X.fn x=true:=by
   rcases hf with z | z
   ·exact z
   ·rw[z] at Z;cases Z
  obtain⟨c,J⟩:=I.ok.has x (.inl Z);obtain⟨w',z⟩:=I.cell x c J;refine wpAny_storeName_cell I.ok.kind Z J z (fun h' ap B=>?_);obtain⟨oc,as,av⟩:=id z;refine h { s with heap:=h' } ⟨I.ok,I.os,I.bare,⟨fun b o e n hb L=>?_,fun b o e n hb L=>?_,I.base.free,fun b o e L=>?_,I.base.tups,I.base.frzs,I.base.tbls⟩,⟨m,hn.sameBut B (Ne.symm (ad x c J)),fun j y v' F U e3=>?_⟩,fun y c' e=>?_,I.free,I.freeC,fun p hp=>?_,D ⟨oc,as,I.freeC x c J⟩ B,by simpa using I.len⟩ ⟨c,B,.inr J⟩
  ·exact (B.2 b (aM (aU (ay e) (I.ok.cab x c al J)))).trans (I.base.keep b o e n hb L)
  ·obtain⟨sl,F⟩:=I.base.slot b o e n hb L;exact⟨sl,(B.2 b (aM (aU (ay e) (I.ok.cab x c al J)))).trans F⟩
  ·obtain⟨o',F⟩:=I.base.there b o e L;exact⟨o',(B.2 b (aM (aU (ay e) (I.ok.cab x c al J)))).trans F⟩
  ·by_cases hj:j=i
   ·subst hj;rw[hi] at F;cases F;rw[aQ Y] at U;cases U;exact⟨u,r,.inr ⟨.inl Z,c,J,ap⟩⟩
   ·rw[aw (Ne.symm hj)] at U;obtain⟨u',r',q⟩:=hl j y v' F U e3;refine⟨u',r',?_⟩;rcases q with q | ⟨k,c',e,z'⟩
    ·exact .inl q
    ·refine .inr ⟨k,c',e,z'.sameBut B ?_⟩;rintro rfl;exact hj (zgO hN F (I.ok.inj _ _ _ e J ▸ hi))
  ·by_cases a0:c'=c
   ·subst a0;exact⟨_,ap⟩
   ·obtain⟨w2,z2⟩:=I.cell y c' e;exact⟨w2,z2.sameBut B a0⟩
  ·obtain⟨e,n,ne,nf,d⟩:=I.pin p hp;refine⟨(B.2 p.1 ?_).trans e,n,ne,nf,d⟩;intro q;rw[q,as] at e;have q':oc=p.2:=be e;exact d w' (by rw[<- q'];exact av)
theorem zg5 {M:Model}{A:Around}{E:Value->Shared->Prop}{i:Nat}{x:Str}{v:V}{u:Value}{Q:Unit->Shared->Prop}(I:Inv X pins σ H s)(q:X.N.Nodup)(hi:X.N[i]?=some x)(B:Loc X.env.scope x)(r:yF v u)
  (h:∀s',Inv X pins (σ.set i (some v)) H s'->Q () s') (D:X.fn x=true\/X.env.scope.names.lookup x=some .local:=by walk_at "l"):wpAny M A (storeName X.env x u) Q E s:=
 zcK I q hi B r (fun s' I' _=>h s' I') D
theorem Inv.call' {s':Shared}{ch:List Addr}(I:Inv X pins σ H s)(D:s'.os=s.os)(u:Un (frs X.stack) ch H H' s.heap s'.heap)(q:HOk X.prog X.w H' s'.heap)(F:AllBare s'.gens)
  (B:∀b∈ch,(b∈X.ex\/X.s₀.heap.objs.size<=b)/\b≠X.env.locals/\(∀x c,X.env.cells.lookup x=some c->c≠b)/\∀p∈X.pn++pins,p.1≠b):Inv X pins σ H' s':=by
 obtain⟨h',g',d',t',o'⟩:=s';have e:o'=s.os:=D;subst e;exact I.call (g':=g') (t':=t') (d':=d') u q F B
end
abbrev XK:=Value->Option Addr->Hp->Prop
abbrev St:=List (Option V)
abbrev VK:=V->Hp->Prop
abbrev TE:=St->Hp->VK->Prop
abbrev TT:=St->Hp->(Bool->Hp->Prop)->Prop
abbrev TA:=St->Hp->(List V->Hp->Prop)->Prop
structure Ends where
 nx:St->Hp->Prop
 rt:VK
 bk:St->Hp->Prop:=fun _ _=>False
 ct:St->Hp->Prop:=fun _ _=>False
abbrev TS:=Ends->St->Hp->Prop
def EP (X:Cx)(pins:List (Addr×Obj))(σ:St)(Q:VK)(u:Value)(s':Shared):Prop:=∃v H',Inv X pins σ H' s'/\yF v u/\Q v H'
def TP (X:Cx)(pins:List (Addr×Obj))(σ:St)(Q:Bool->Hp->Prop)(b:Bool)(s':Shared):Prop:=∃H',Inv X pins σ H' s'/\Q b H'
def AP (X:Cx)(pins:List (Addr×Obj))(σ:St)(Q:List V->Hp->Prop)(q:List Value)(s':Shared):Prop:=∃vs H',Inv X pins σ H' s'/\ya vs q/\Q vs H'
def SP (X:Cx)(pins:List (Addr×Obj))(D:Ends)(f:Flow)(s':Shared):Prop:=
 match f with
 | .next=>∃ q H',Inv X pins q H' s'/\D.nx q H'
 | .brk=>∃ q H',Inv X pins q H' s'/\D.bk q H'
 | .cont=>∃ q H',Inv X pins q H' s'/\D.ct q H'
 | .ret u=>∃v q H',Inv X pins q H' s'/\yF v u/\D.rt v H'
def PE (X:Cx)(e:Expr)(t:TE):Prop:=
 ∀ (pins:List (Addr×Obj)) (s:Shared) (σ:St) (H:Hp) (Q:VK),Inv X pins σ H s->t σ H Q->wpAny (model X.prog X.w) X.A (eval e X.env) (EP X pins σ Q) X.xe s
def PT (X:Cx)(e:Expr)(t:TT):Prop:=
 ∀ (pins:List (Addr×Obj)) (s:Shared) (σ:St) (H:Hp) (Q:Bool->Hp->Prop),Inv X pins σ H s->t σ H Q->wpAny (model X.prog X.w) X.A (isTrue e X.env (eval e X.env)) (TP X pins σ Q) X.xe s
def PW (X:Cx)(e:Expr)(t:TT):Prop:=
 ∀ (q:Sem Value) (pins:List (Addr×Obj)) (s:Shared) (σ:St) (H:Hp) (Q:Bool->Hp->Prop),Inv X pins σ H s->t σ H Q->wpAny (model X.prog X.w) X.A (isTrue e X.env q) (TP X pins σ Q) X.xe s
theorem PW.pt {X:Cx}{e:Expr}{t:TT}(h:PW X e t):PT X e t:=h _
def PA (X:Cx)(es:List Expr)(t:TA):Prop:=
 ∀ (pos:Pos) (pins:List (Addr×Obj)) (s:Shared) (σ:St) (H:Hp) (Q:List V->Hp->Prop),Inv X pins σ H s->t σ H Q->wpAny (model X.prog X.w) X.A (spliced (backTo pos (starEach es X.env))) (AP X pins σ Q) X.xe s
def PS (X:Cx)(st:Stmt)(t:TS):Prop:=
 ∀ (pins:List (Addr×Obj)) (s:Shared) (σ:St) (H:Hp) (D:Ends),Inv X pins σ H s->t D σ H->wpAny (model X.prog X.w) X.A (exec st X.env) (SP X pins D) X.xe s
def PSs (X:Cx)(st:List Stmt)(t:TS):Prop:=
 ∀ (pins:List (Addr×Obj)) (s:Shared) (σ:St) (H:Hp) (D:Ends),Inv X pins σ H s->t D σ H->wpAny (model X.prog X.w) X.A (execs st X.env) (SP X pins D) X.xe s
theorem thn {α:Type}{t:Sem α}{Q Q':α->Shared->Prop}{M:Model}{A:Around}{E:Value->Shared->Prop}{s:Shared}(h:wpAny M A t Q E s)(q:∀a s,Q a s->Q' a s):wpAny M A t Q' E s:=aX h q fun _ _ x=>x
section
variable {X:Cx}
def zkl (i:Nat):TE:=fun σ H Q=>∃v,σ[i]?=some (some v)/\Q v H
def tC (v:V):TE:=fun _ H Q=>Q v H
theorem zqH {i:Nat}{x:Str}{pos:Pos}(F:X.N[i]?=some x)(J:Vis X.env.scope x)(B:(x==("__debug__" : Str))=false:=by decide)(D:(x==("__classdict__" : Str))=false:=by decide):PE X (.Name x pos) (zkl i):=by
 intro pins s σ H Q I h;obtain⟨v,e,h⟩:=h;obtain⟨m,L,O⟩:=I.loc;obtain⟨u,r,l⟩:=O i x v F e J;have fin:EP X pins σ Q u s:=⟨v,H,I,r,h⟩;rcases l with ⟨q,hm⟩ | ⟨q,c,hc,hcell⟩
 ·exact wpAny_Name (wpAny_loadName_local I.ok.kind q L hm fin) B
 ·rcases q with q | q
  ·exact wpAny_Name (wpAny_loadName_cell I.ok.kind q hc hcell fin) B
  ·exact wpAny_Name (wpAny_loadName_free I.ok.kind q hc hcell fin D) B
theorem zmt {i j pos}:PE X (.Constant (.int i) j pos) (tC (.int i)):=fun _ _ _ H _ I h=>wpAny_Constant_int ⟨.int i,H,I.tok _,⟨_,rfl⟩,h⟩
theorem ztv {b j pos}:PE X (.Constant (.bool b) j pos) (tC (.bl b)):=fun _ _ _ H _ I h=>Constant_bool ⟨.bl b,H,I,rfl,h⟩
theorem zqG {x j pos}:PE X (.Constant (.str x) j pos) (tC (.str x)):=fun _ _ _ H _ I h=>Calls.Constant_str ⟨.str x,H,I.tok _,⟨_,rfl⟩,h⟩
def Gl (X:Cx)(x:Str):Prop:=X.env.kindOf x=some .globalImplicit
theorem znx {E:Value->Shared->Prop}{pins:List (Addr×Obj)}{s:Shared}{σ:St}{H:Hp}{x:Str}{u:Value}{pos:Pos}{Q:Value->Shared->Prop}(I:Inv X pins σ H s)(q:Gl X x)(B:X.mg x=some u)(h:Q u s)
  (D:(x==("__debug__" : Str))=false:=by decide):wpAny (model X.prog X.w) X.A (eval (.Name x pos) X.env) Q E s:=
 Calls.Name_function_global I.ok.kind q (Calls.loadGlobal_global (by rw[I.ok.glob];exact I.mod.glob.keeps I.bk) B h) D
theorem zcg {E:Value->Shared->Prop}{pins:List (Addr×Obj)}{s:Shared}{σ:St}{H:Hp}{x:Str}{u:Value}{pos:Pos}{Q:Value->Shared->Prop}(I:Inv X pins σ H s)(q:Gl X x)(B:X.mg x=none)(D:bootBuiltins x=some u)(h:Q u s)
  (F:x ≠ "__name__" := by decide) (J:(x==("__debug__" : Str))=false:=by decide):wpAny (model X.prog X.w) X.A (eval (.Name x pos) X.env) Q E s:=by
 obtain⟨L,h1,h2⟩:=I.mod.blt;exact Calls.Name_function_global I.ok.kind q (Calls.loadGlobal_builtin (by rw[I.ok.glob];exact I.mod.glob.keeps I.bk) B (by rw[I.ok.blt];exact h1.keeps I.bk) ((h2 x F).trans D) h) J
theorem znY {x:Str}{v:V}{u:Value}{pos:Pos}(q:Gl X x)(B:X.mg x=none)(D:bootBuiltins x=some u)(r:yF v u)(F:x ≠ "__name__" := by decide)(J:(x==("__debug__" : Str))=false:=by decide):PE X (.Name x pos) (tC v):=
 fun _ _ _ H _ I h=>zcg I q B D ⟨v,H,I,r,h⟩ F J
variable {a b:Expr}{ta tb:TE}{pos:Pos}
def tB (t:TE):TT:=fun σ H Q=>t σ H fun x H1=>∃c,x = .bl c/\Q c H1
theorem zqV {e:Expr}{t:TE}(h:PE X e t)(he:∀whole,isTrue e X.env whole=(do let v <- whole;standAt e.pos;holding [v] (truthy v)):=by intro _;rfl):PT X e (tB t):=by intro pins s σ H Q I hw;refine isTrue_plain (thn (h pins s σ H _ I hw) fun v s1 ⟨x,H1,I1,r1,q1⟩=>?_) (he _);obtain⟨d,rfl,q⟩:=q1;cases r1;exact eW ⟨H1,I1,q⟩
variable {tA tB':TT}{zV:List Expr}
def ztP (t u:TT):TT:=fun σ H Q=>t σ H fun c H1=>if c=true then u σ H1 Q else Q false H1
def tOr (t u:TT):TT:=fun σ H Q=>t σ H fun c H1=>if c=true then Q true H1 else u σ H1 Q
def tNot (t:TT):TT:=fun σ H Q=>t σ H fun c H1=>Q (!c) H1
theorem zon (q:PT X a tA):PW X (.BoolOp .And [a] pos) tA:=by
 intro B pins s σ H Q I h;refine isTrue_and (thn (q pins s σ H Q I h) fun c D e=>?_)
 cases c with
 | true=>exact isTrue_and_nil e
 | false=>exact e
theorem zqX (q:PT X a tA):PW X (.BoolOp .Or [a] pos) tA:=by
 intro B pins s σ H Q I h;refine isTrue_or (thn (q pins s σ H Q I h) fun c D e=>?_)
 cases c with
 | false=>exact isTrue_or_nil e
 | true=>exact e
theorem zqW (B:PT X a tA)(D:PW X (.BoolOp .And (b::zV) pos) tB'):PW X (.BoolOp .And (a::b::zV) pos) (ztP tA tB'):=by
 intro F pins s σ H Q I h;refine isTrue_and (thn (B pins s σ H _ I h)  ?_);rintro c J ⟨H1,I1,q⟩
 cases c with
 | true=>exact D F pins J σ H1 Q I1 q
 | false=>exact⟨H1,I1,q⟩
theorem ztD (B:PT X a tA)(D:PW X (.BoolOp .Or (b::zV) pos) tB'):PW X (.BoolOp .Or (a::b::zV) pos) (tOr tA tB'):=by
 intro F pins s σ H Q I h;refine isTrue_or (thn (B pins s σ H _ I h)  ?_);rintro c J ⟨H1,I1,q⟩
 cases c with
 | true=>exact⟨H1,I1,q⟩
 | false=>exact D F pins J σ H1 Q I1 q
theorem zqU (q:PT X a tA):PT X (.UnaryOp .Not a pos) (tNot tA):=by intro pins s σ H Q I h;exact isTrue_not (q pins s σ H (fun c H1=>Q (!c) H1) I h)
end
def SqL (K:PySem.W.Frag)(H:Hp)(a:Addr)(xs:List V):Prop:=
 Rd H a (.lst xs)\/
  ∃ (o:Obj) (its:Array Value) (n:Nat),K.lookup a=some o/\o.cls = .type "list" /\ o.dict=none/\o.data = .seq its n/\its.size<=sizeLine/\ya xs its.toList
def SqT (K:PySem.W.Frag)(H:Hp)(a:Addr)(xs:List V):Prop:=
 Rd H a (.tup xs)\/
  ∃ (o:Obj) (its:Array Value) (n:Nat),K.lookup a=some o/\o.cls = .type "tuple" /\ o.data = .seq its n/\its.size<=sizeLine/\ya xs its.toList
def absV:Value->Option V
 | .none=>some .non
 | .bool b=>some (.bl b)
 | .int i _=>some (.int i)
 | .str x _=>some (.str x)
 | .bytes b _=>some (.byt b)
 | .float b _=>some (.flt b)
 | .ref a=>some (.ref a)
 | .type n=>some (.ty n)
 | _=>none
theorem yF.abs {x:V}{u:Value}(r:yF x u):absV u=some x:=by
 cases x with
 | non=>cases r;rfl
 | bl _=>cases r;rfl
 | int _=>obtain⟨t,rfl⟩:=r;rfl
 | str _=>obtain⟨t,rfl⟩:=r;rfl
 | byt _=>obtain⟨t,rfl⟩:=r;rfl
 | flt _=>obtain⟨t,rfl⟩:=r;rfl
 | ref _=>cases r;rfl
 | ty _=>cases r;rfl
theorem yF.inj {x y:V}{u:Value}(r:yF x u)(q:yF y u):x=y:=be (r.abs.symm.trans q.abs)
theorem ya.inj:∀ {xs ys:List V} {q:List Value},ya xs q->ya ys q->xs=ys
 | _,_,_,.nil,.nil=>rfl
 | _,_,_,.cons r t,.cons B t'=>by rw[r.inj B,ya.inj t t']
section
variable {X:Cx}{pins:List (Addr×Obj)}{σ:St}{H:Hp}{s:Shared}{a:Addr}{xs ys:List V}
theorem SqL.of {K:PySem.W.Frag}(h:H a=some (.lst xs)):SqL K H a xs:=.inl (.inl h)
theorem SqT.of {K:PySem.W.Frag}(h:H a=some (.tup xs)):SqT K H a xs:=.inl (.inl h)
theorem Inv.list (I:Inv X pins σ H s)(h:SqL X.K H a xs):∃its:List Value,ya xs its/\PlainL s.heap a its.toArray/\xs.length<=sizeLine:=by
 rcases h with h | ⟨o,its,n,hk,hc,hd,hs,hz,r⟩
 ·obtain⟨z,its,n,r,e⟩:=h.ok I.hok;exact⟨its,r,⟨_,n,e,rfl,rfl,rfl⟩,z⟩
 ·refine⟨its.toList,r,⟨o,n,I.kIn a o hk,hc,hd,by simpa using hs⟩,?_⟩;have e:=r.length;simp only[aJ] at e;lia
theorem Inv.tuple (I:Inv X pins σ H s)(h:SqT X.K H a xs):∃its:List Value,ya xs its/\IsTup s.heap a its.toArray/\xs.length<=sizeLine:=by
 rcases h with h | ⟨o,its,n,hk,hc,hs,hz,r⟩
 ·obtain⟨z,its,r,p⟩:=h.ok I.hok;exact⟨its,r,p.tup,z⟩
 ·refine⟨its.toList,r,⟨o,I.kIn a o hk,hc,n,by simpa using hs⟩,?_⟩;have e:=r.length;simp only[aJ] at e;lia
theorem Inv.list_inj (I:Inv X pins σ H s)(h:SqL X.K H a xs)(h':SqL X.K H a ys):xs=ys:=by
 obtain⟨its,r,⟨o,n,e,_,_,d⟩,_⟩:=I.list h;obtain⟨its',B,⟨o',F,q,_,_,d'⟩,_⟩:=I.list h';rw[e] at q;cases q;rw[d] at d';injection d' with D _;have:its=its':=by simpa using congrArg Array.toList D
 subst this;exact r.inj B
theorem Inv.tuple_inj (I:Inv X pins σ H s)(h:SqT X.K H a xs)(h':SqT X.K H a ys):xs=ys:=by
 obtain⟨its,r,⟨o,e,_,n,d⟩,_⟩:=I.tuple h;obtain⟨its',B,⟨o',q,_,F,d'⟩,_⟩:=I.tuple h';rw[e] at q;cases q;rw[d] at d';injection d' with D _;have:its=its':=by simpa using congrArg Array.toList D
 subst this;exact r.inj B
end
abbrev Cx.wish (X:Cx)(E:Value->Shared->Prop):Cx:={ X with xe:=E }
abbrev Cx.nox (X:Cx):Cx:=X.wish fun _ _=>False
theorem Cx.Ok.wish {X:Cx}(q:X.Ok)(E:Value->Shared->Prop):(X.wish E).Ok:=
 ⟨q.mod,q.kind,q.glob,q.blt,q.above,q.inj,q.has,q.cab,q.hd,q.frames,q.stk,q.exf,q.bs,q.bsz,q.noex,q.exfs,q.funs,q.frf⟩
theorem Cx.Ok.unwish {X:Cx}{E:Value->Shared->Prop}(q:(X.wish E).Ok):X.Ok:=
 ⟨q.mod,q.kind,q.glob,q.blt,q.above,q.inj,q.has,q.cab,q.hd,q.frames,q.stk,q.exf,q.bs,q.bsz,q.noex,q.exfs,q.funs,q.frf⟩
section
variable {X:Cx}{pins:List (Addr×Obj)}{σ:St}{H:Hp}{s:Shared}{E:Value->Shared->Prop}
theorem Inv.wish (I:Inv X pins σ H s)(E:Value->Shared->Prop):Inv (X.wish E) pins σ H s:=⟨I.ok.wish E,I.os,I.bare,I.base,I.loc,I.cell,I.free,I.freeC,I.pin,I.hok,I.len⟩
theorem Inv.unwish (I:Inv (X.wish E) pins σ H s):Inv X pins σ H s:=⟨I.ok.unwish,I.os,I.bare,I.base,I.loc,I.cell,I.free,I.freeC,I.pin,I.hok,I.len⟩
theorem SP.unwish {D:Ends}{f:Flow}{s':Shared}(h:SP (X.wish E) pins D f s'):SP X pins D f s':=by
 cases f with
 | next=>obtain⟨B,H',I,q⟩:=h;exact⟨B,H',I.unwish,q⟩
 | brk=>obtain⟨B,H',I,q⟩:=h;exact⟨B,H',I.unwish,q⟩
 | cont=>obtain⟨B,H',I,q⟩:=h;exact⟨B,H',I.unwish,q⟩
 | ret u=>obtain⟨v,B,H',I,r,q⟩:=h;exact⟨v,B,H',I.unwish,r,q⟩
theorem PSs.nox {st:List Stmt}{t:TS}(h:PSs X.nox st t):PSs X st t:=fun pins s σ H D I B=>
 aX (h pins s σ H D (I.wish _) B) (fun _ _ q=>q.unwish) fun _ _ z=>False.elim z
end
section
variable {X:Cx}{st:Stmt}{zV:List Stmt}{t u:TS}{e:Expr}{te:TE}{pos:Pos}
def zrx:TS:=fun D σ H=>D.nx σ H
def ztR (t u:TS):TS:=fun D σ H=>t { D with nx:=u D } σ H
theorem zoi:PSs X [] zrx:=fun _ _ σ H _ I h=>wpAny_execs_nil ⟨σ,H,I,h⟩
theorem zlz (h1:PS X st t)(h2:PSs X zV u):PSs X (st::zV) (ztR t u):=by
 intro pins s σ H D I h;refine wpAny_execs_cons (thn (h1 pins s σ H { D with nx:=u D } I h) fun f F q=>?_)
 cases f with
 | next=>
  obtain⟨B,H',I',q⟩:=q;exact h2 pins F B H' D I' q
 | ret v=>exact q
 | brk=>exact q
 | cont=>exact q
theorem zoj (h1:PS X st t):PSs X [st] t:=by
 intro pins s σ H D I h;refine wpAny_execs_cons (thn (h1 pins s σ H D I h) fun f B q=>?_)
 cases f with
 | next=>exact wpAny_execs_nil q
 | ret v=>exact q
 | brk=>exact q
 | cont=>exact q
theorem Inv.quiet {pins:List (Addr×Obj)}{σ:St}{H:Hp}{s:Shared}(I:Inv X pins σ H s):interactive X.env=false:=by simp[interactive,I.ok.kind]
def zlR (te:TE):TS:=fun D σ H=>te σ H fun _ H1=>D.nx σ H1
theorem zog (q:PE X e te)(B:swapsWith e none pos.line X.env=pure false:=by rfl):PS X (.Expr e pos) (zlR te):=by intro pins s σ H D I h;exact wpAny_Expr_any (thn (q pins s σ H _ I h) <| by rintro v J ⟨x,H1,I1,L,F⟩;exact⟨σ,H1,I1,F⟩) I.quiet B
def zsk (te:TE):TS:=fun D σ H=>te σ H D.rt
theorem zqS (q:PE X e te):PS X (.Return (some e) pos) (zsk te):=by intro pins s σ H D I h;exact wpAny_Return_some (thn (q pins s σ H _ I h) <| by rintro v J ⟨x,H1,I1,B,F⟩;exact⟨x,σ,H1,I1,B,F⟩)
def tIfS (c:TT)(t u:TS):TS:=fun D σ H=>c σ H fun b H1=>if b=true then t D σ H1 else u D σ H1
theorem ztC {c:Expr}{a b:List Stmt}{tc:TT}(F:PT X c tc)(J:PSs X a t)(L:PSs X b u):PS X (.If c a b pos) (tIfS tc t u):=by
 intro pins s σ H D I h;refine wpAny_If (thn (F pins s σ H _ I h)  ?_);rintro d q ⟨H1,I1,B⟩
 cases d with
 | true=>exact J pins q σ H1 D I1 B
 | false=>exact L pins q σ H1 D I1 B
end
abbrev TG:=V->St->Hp->(St->Hp->Prop)->Prop
abbrev TGs:=List V->St->Hp->(St->Hp->Prop)->Prop
def PG (X:Cx)(q:Expr)(t:TG):Prop:=
 ∀ (pins:List (Addr×Obj)) (s:Shared) (σ:St) (H:Hp) (v:V) (u:Value) (Q:St->Hp->Prop),Inv X pins σ H s->yF v u->t v σ H Q->
  wpAny (model X.prog X.w) X.A (assign q X.env u) (fun _ s'=>∃ B H',Inv X pins B H' s'/\Q B H') X.xe s
def PGs (X:Cx)(D:List Expr)(t:TGs):Prop:=
 ∀ (pins:List (Addr×Obj)) (s:Shared) (σ:St) (H:Hp) (vs:List V) (B:List Value) (Q:St->Hp->Prop),Inv X pins σ H s->ya vs B->t vs σ H Q->
  wpAny (model X.prog X.w) X.A (assignInOrder ((assignEach D X.env).map (·.2)) B) (fun _ s'=>∃ q H',Inv X pins q H' s'/\Q q H') X.xe s
abbrev zsq:=V->V->V->Hp->(Hp->Prop)->Prop
def PSet (X:Cx)(t:zsq):Prop:=
 ∀ (pins:List (Addr×Obj)) (s:Shared) (σ:St) (H:Hp) (o i v:V) (q B u:Value) (Q:Hp->Prop),Inv X pins σ H s->yF o q->yF i B->yF v u->t o i v H Q->
  wpAny (model X.prog X.w) X.A (setItem q B u) (fun _ s'=>∃H',Inv X pins σ H' s'/\Q H') X.xe s
section
variable {X:Cx}{pos:Pos}
def uT (i:Nat):TG:=fun v σ H Q=>Q (σ.set i (some v)) H
theorem zn7 {i:Nat}{x:Str}(q:X.N.Nodup)(hi:X.N[i]?=some x)(B:Loc X.env.scope x)(D:X.fn x=true\/X.env.scope.names.lookup x=some .local:=by walk_at "l"):PG X (.Name x pos) (uT i):=by intro pins s σ H v u Q I r h;exact eY (zg5 I q hi B r (fun s' I'=>⟨_,H,I',h⟩) D)
def gNil:TGs:=fun vs σ H Q=>vs=[]/\Q σ H
def zpS (t:TG)(u:TGs):TGs:=fun vs σ H Q=>∃v r,vs=v::r/\t v σ H fun q H'=>u r q H' Q
theorem zn8:PGs X [] gNil:=by intro pins s σ H vs q Q I r h;obtain⟨e,h⟩:=h;subst e;cases r;exact assignInOrder_nil ⟨σ,H,I,h⟩
theorem zlu {e:Expr}{es:List Expr}{t:TG}{u:TGs}(h1:PG X e t)(h2:PGs X es u)
  (B:(assignEach (e::es) X.env).map (·.2)=assign e X.env::(assignEach es X.env).map (·.2):=by rfl):PGs X (e::es) (zpS t u):=by
 intro pins s σ H vs O Q I r h;obtain⟨v,U,D,h⟩:=h;subst D
 cases r with
 | cons r F=>
  rw[B];refine assignInOrder_cons (thn (h1 pins s σ H _ _ _ I r h)  ?_);rintro _ J ⟨q,H1,I1,L⟩;exact h2 pins J q H1 _ _ Q I1 F L
def zsQ (K:PySem.W.Frag)(n:Nat)(t:TGs):TG:=fun v σ H Q=>∃a xs,v = .ref a/\SqT K H a xs/\xs.length=n/\t xs σ H Q
theorem zqO {es:List Expr}{k:Nat}{t:TGs}{n:Nat}(F:X.calm=true)(h:PGs X es t)
  (J:(assignEach es X.env).length=n:=by rfl) (q:(assignEach es X.env).findIdx? (·.1)=none:=by rfl):PG X (.Tuple es k pos) (zsQ X.K n t):=by
 intro pins s σ H v u Q I r B;obtain⟨a,xs,L,O,U,B⟩:=B;subst L;cases r;obtain⟨its,D,Y,hz⟩:=I.tuple O;refine assign_Tuple_tuple (I.ok.hd F) Y (by simp[J,<- U,D.length]) q fun h' Z=>?_;have I1:Inv X pins σ H { s with heap:=h' }:=I.kept (t':=s.toks) fun b o e=>Z b o (aM (ay e)) e;exact h pins _ σ H xs _ Q I1 (by simpa using D) B
def gSub (to ti:TE)(t:zsq):TG:=fun v σ H Q=>to σ H fun o H1=>ti σ H1 fun i H2=>t o i v H2 fun H3=>Q σ H3
theorem zqN {o i:Expr}{to ti:TE}{t:zsq}(ho:PE X o to)(hi:PE X i ti)(hs:PSet X t)
  (ha:∀v,assign (.Subscript o i pos) X.env v=(do
   let ov <- holding [v] (eval o X.env)
   let iv <- holding [v,ov] (eval i X.env)
   standAt pos
   holding [v,ov,iv] (setItem ov iv v)
   release [v,ov,iv] []):=by intro _;rfl):PG X (.Subscript o i pos) (gSub to ti t):=by
 intro pins s σ H v u Q I r h;rw[ha];refine aa (bB (thn (ho pins s σ H _ I h)  ?_));rintro ov s1 ⟨x,H1,I1,r1,q1⟩;refine aa (bB (thn (hi pins s1 σ H1 _ I1 q1)  ?_));rintro iv s2 ⟨y,H2,I2,r2,q2⟩;refine aa (bC (aa (bB (thn (hs pins s2 σ H2 x y v ov iv u _ I2 r1 r2 r q2)  ?_))));rintro _ s3 ⟨H3,I3,q3⟩;exact wpAny_release ⟨σ,H3,I3,q3⟩
def zfp (te:TE)(g:TG):TS:=fun D σ H=>te σ H fun x H1=>g x σ H1 D.nx
theorem zqQ {tg e:Expr}{te:TE}{g:TG}(B:PE X e te)(F:PG X tg g)(J:swapsWithSole [tg] e pos.line X.env=pure false:=by rfl)(L:swappedStores [tg] e X.env=pure none:=by rfl)
  (h1:(assignEach [tg] X.env).map (·.2)=[assign tg X.env]:=by rfl):PS X (.Assign [tg] e pos) (zfp te g):=by
 intro pins s σ H D I h;refine wpAny_Assign_stores (thn (B pins s σ H _ I h) fun v O ⟨x,H1,I1,U,Y⟩=>?_) J L;rw[h1];exact thn (F pins O σ H1 x v _ I1 U Y) fun _ Z q=>q
theorem zqT {i:Nat}{x:Str}{e:Expr}{te:TE}{pos':Pos}(q:X.N.Nodup)(hi:X.N[i]?=some x)(B:Loc X.env.scope x)(F:PE X e te)(J:swapsWith e (some (.Name x pos')) pos.line X.env=pure false:=by rfl)(L:X.fn x=true\/X.env.scope.names.lookup x=some .local:=by walk_at "l") :
  PS X (.Assign [.Name x pos'] e pos) (zfp te (uT i)):=by
 intro pins s σ H D I h;refine wpAny_Assign_Name (thn (F pins s σ H _ I h) fun v Y ⟨y,H1,I1,O,U⟩=>?_) J;exact zg5 I1 q hi B O (fun Z I2=>⟨_,H1,I2,U⟩) L
end
section
variable {X:Cx}{pos:Pos}
end
structure It where
 go:Nat->Hp->Prop
 yld:Nat->Hp->V->Hp->Prop
 stop:Nat->Hp->Prop
def zbt (X:Cx)(pins:List (Addr×Obj))(H:Hp)(b:Addr):Prop:=
 H b=none/\b≠X.env.locals/\b∉X.fs/\(b∈X.ex\/X.s₀.heap.objs.size<=b)/\(∀x c,X.env.cells.lookup x=some c->c≠b)/\∀p∈X.pn++pins,p.1≠b
theorem Inv.fpOk {X:Cx}{pins:List (Addr×Obj)}{σ:St}{H H':Hp}{s:Shared}{b:Addr}(I:Inv X pins σ H s)(B:s.heap.objs.size<=b)(D:H' b=none):zbt X pins H' b:=by
 refine⟨D,dg (aU I.lt B),I.nofs B,.inr (aB I.sz B),fun x c e z=>?_,fun p F z=>?_⟩
 ·obtain⟨v,q⟩:=I.cell x c e;exact absurd (aU q.lt (by rw[z];exact B)) (bU _)
 ·exact absurd (aU (ay (I.pin p F).1) (by rw[z];exact B)) (bU _)
structure Turn (P:Program)(w:World)(K:PySem.W.Frag)(tg:Expr)(J:It)(fp:List Addr)(it:Addr)(tn:Nat->Heap->Prop):Prop where
 mem:it∈fp
 obj:∀i h,tn i h->∀b∈fp,∃o,h.get? b=some o/\∀v,o.data≠.cell v
 keep:∀i h h',tn i h->(∀b∈fp,∀o,h.get? b=some o->h'.get? b=some o)->tn i h'
 item:∀ (X:Cx),X.prog=P->X.w=w->X.K=K->X.calm=true->∀ (i:Nat) (pins:List (Addr×Obj)) (s:Shared) (σ:St) (H:Hp) (E:Value->Shared->Prop),Inv X pins σ H s->(∀b∈fp,zbt X pins H b)->tn i s.heap->J.go i H->
  wpAny (model P w) X.A (pyNext (.ref it)) (fun r s1=>∃u,r=some u/\
   wpAny (model P w) X.A (letOwnedTupleGo tg (.ref it) u) (fun _ s2=>∃x H',Inv X pins σ H' s2/\yF x u/\J.yld i H x H'/\tn (i+1) s2.heap/\∀b∈fp,H' b=none) E s1) E s
 done:∀ (X:Cx),X.prog=P->X.w=w->X.K=K->X.calm=true->∀ (i:Nat) (pins:List (Addr×Obj)) (s:Shared) (σ:St) (H:Hp) (E:Value->Shared->Prop),Inv X pins σ H s->(∀b∈fp,zbt X pins H b)->tn i s.heap->J.stop i H->
  wpAny (model P w) X.A (pyNext (.ref it)) (fun r s1=>r=none/\Inv X pins σ H s1) E s
 self:∀ (A:Around) (i:Nat) (s:Shared) (Q:Value->Shared->Prop) (E:Value->Shared->Prop),tn i s.heap->Q (.ref it) s->wpAny (model P w) A (pyIter (.ref it)) Q E s
abbrev TI:=St->Hp->(It->Hp->Prop)->Prop
def PIE (X:Cx)(pins:List (Addr×Obj))(σ:St)(tg:Expr)(R:It->Hp->Prop)(q:Value)(B:Shared):Prop:=
 ∃ (D:Addr) (fp:List Addr) (F:Nat->Heap->Prop) (J:It) (H':Hp),q = .ref D/\Inv X pins σ H' B/\Turn X.prog X.w X.K tg J fp D F/\F 0 B.heap/\(∀b∈fp,zbt X pins H' b)/\R J H'
def PI (X:Cx)(tg q:Expr)(B:TI):Prop:=
 ∀ (pins:List (Addr×Obj)) (s:Shared) (σ:St) (H:Hp) (R:It->Hp->Prop),Inv X pins σ H s->B σ H R->
  wpAny (model X.prog X.w) X.A (eval q X.env) (fun v D=>wpAny (model X.prog X.w) X.A (pyIter v) (PIE X pins σ tg R) X.xe D) X.xe s
theorem zkT {M:Model}{A:Around}{E:Value->Shared->Prop}{s:Shared}{tg:Expr}{B:Addr}{u:Value}{o:Obj}{n:String}{vs:Array Value}{Q:Unit->Shared->Prop}(D:s.heap.get? B=some o)(F:o.cls = .type n)(I:o.data = .fields vs)
  (J:["enumerate","zip","dict_itemiterator","dict_reverseitemiterator","odict_iterator","itertools.zip_longest","itertools.pairwise"].contains n=false) (q:Q () s):wpAny M A (letOwnedTupleGo tg (.ref B) u) Q E s:=by
 unfold letOwnedTupleGo
 cases tg <;> first
  | exact ac q
  | (cases u <;> first
    | exact ac q
    | (refine aa (wpAny_load D ?_)
       rw[F,I];show wpAny M A (if (["enumerate","zip","dict_itemiterator","dict_reverseitemiterator","odict_iterator","itertools.zip_longest","itertools.pairwise"].contains n&&vs[0]?==some (rawInt _))=true then _ else _) Q E s;rw[if_neg (by intro h;rw[J,Bool.false_and] at h;cases h)];exact ac q))
def Itl (K:PySem.W.Frag)(a:Addr):It:=
 ⟨fun i H=>∃xs x,SqL K H a xs/\xs[i]?=some x,fun i H x H'=>H'=H/\∀xs,SqL K H a xs->xs[i]?=some x,fun i H=>∃xs,SqL K H a xs/\xs.length<=i⟩
def Itt (K:PySem.W.Frag)(a:Addr):It:=
 ⟨fun i H=>∃xs x,SqT K H a xs/\xs[i]?=some x,fun i H x H'=>H'=H/\∀xs,SqT K H a xs->xs[i]?=some x,fun i H=>∃xs,SqT K H a xs/\xs.length<=i⟩
def Itr (lo:Int)(n:Nat):It:=⟨fun i _=>i<n,fun i H x H'=>H'=H/\x = .int (lo+i),fun i _=>n<=i⟩
theorem zkg {P:Program}{w:World}{K:PySem.W.Frag}{tg:Expr}(a q:Addr):Turn P w K tg (Itl K a) [q] q (fun i h=>h.IsListIter q a i) where
 mem:=by simp
 obj:=fun i h st b B=>by
  have e:b=q:=by simpa using B
  subst e;obtain⟨o,e,c,d⟩:=st;exact⟨o,e,fun v z=>by rw[d] at z;cases z⟩
 keep:=fun i h h' st k=>st.at fun o e=>k q (by simp) o e
 item:=by intro X L O U hc i pins s σ H E I F st Y;subst L O U;obtain⟨xs,x,J,Z⟩:=Y;obtain⟨its,rv,p,hz⟩:=I.list J;obtain⟨u,hu,ru⟩:=rv.get Z;obtain⟨f0,f1,f2,f3,f4,f5⟩:=F q (by simp);refine wpAny_pyNext_list_item st p.isList (x:=u) (by simpa using hu) fun h' D sb=>?_;have I1:Inv X pins σ H { s with heap:=h' }:=I.turned (t':=s.toks) (fun b o B e=>(sb.2 b B).trans e) f0 f1 f3 f4 f5;obtain⟨o,e,c,d⟩:=id D;exact⟨u,rfl,zkT (s:={ s with heap:=h' }) e c d (by decide) ⟨x,H,I1,ru,⟨rfl,fun ys hy=>by rw[I.list_inj hy J];exact Z⟩,D,fun b B=>(F b B).1⟩⟩
 done:=by intro X L O U hc i pins s σ H E I F st Y;subst L O U;obtain⟨xs,J,Z⟩:=Y;obtain⟨its,rv,p,hz⟩:=I.list J;obtain⟨f0,f1,f2,f3,f4,f5⟩:=F q (by simp);have hl:=rv.length;exact wpAny_pyNext_list_end (I.ok.hd hc) st p.isList (by simp;lia) fun h' eb=>⟨rfl,I.turned (t':=s.toks) (fun b o B e=>eb b o B e) f0 f1 f3 f4 f5⟩
 self:=fun _ _ _ _ _ st h=>wpAny_pyIter_listiter st h
theorem zhB {P:Program}{w:World}{K:PySem.W.Frag}{tg:Expr}(a q:Addr):Turn P w K tg (Itt K a) [q] q (fun i h=>h.IsTupleIter q a i) where
 mem:=by simp
 obj:=fun i h st b B=>by
  have e:b=q:=by simpa using B
  subst e;obtain⟨o,e,c,d⟩:=st;exact⟨o,e,fun v z=>by rw[d] at z;cases z⟩
 keep:=fun i h h' st k=>st.at fun o e=>k q (by simp) o e
 item:=by intro X L O U hc i pins s σ H E I F st Y;subst L O U;obtain⟨xs,x,J,Z⟩:=Y;obtain⟨its,rv,p,hz⟩:=I.tuple J;obtain⟨u,hu,ru⟩:=rv.get Z;obtain⟨f0,f1,f2,f3,f4,f5⟩:=F q (by simp);refine wpAny_pyNext_tuple_item st (show s.heap.IsTuple a its.toArray from p) (x:=u) (by simpa using hu) fun h' D sb=>?_;have I1:Inv X pins σ H { s with heap:=h' }:=I.turned (t':=s.toks) (fun b o B e=>(sb.2 b B).trans e) f0 f1 f3 f4 f5;obtain⟨o,e,c,d⟩:=id D;exact⟨u,rfl,zkT (s:={ s with heap:=h' }) e c d (by decide) ⟨x,H,I1,ru,⟨rfl,fun ys hy=>by rw[I.tuple_inj hy J];exact Z⟩,D,fun b B=>(F b B).1⟩⟩
 done:=by intro X L O U hc i pins s σ H E I F st Y;subst L O U;obtain⟨xs,J,Z⟩:=Y;obtain⟨its,rv,p,hz⟩:=I.tuple J;obtain⟨f0,f1,f2,f3,f4,f5⟩:=F q (by simp);have hl:=rv.length;exact wpAny_pyNext_tuple_end (I.ok.hd hc) st (show s.heap.IsTuple a its.toArray from p) (by simp;lia) fun h' eb=>⟨rfl,I.turned (t':=s.toks) (fun b o B e=>eb b o B e) f0 f1 f3 f4 f5⟩
 self:=fun _ _ _ _ _ st h=>wpAny_pyIter_tupleiter st h
theorem zhA {P:Program}{w:World}{K:PySem.W.Frag}{tg:Expr}(q:Addr)(lo:Int)(n:Nat):Turn P w K tg (Itr lo n) [q] q (fun i h=>IsRangeIter h q (lo+(i:Nat) * 1) ((n:Int) - (i:Nat)) 1) where
 mem:=by simp
 obj:=fun i h st b B=>by
  have e:b=q:=by simpa using B
  subst e
  exact⟨_,st,fun v z=>by have z':Data.fields _=Data.cell v:=z;cases z'⟩
 keep:=fun i h h' st k=>k q (by simp) _ st
 item:=by intro X J L O U i pins s σ H E I F st Y;subst J L O;obtain⟨Z,f1,f2,f3,f4,f5⟩:=F q (by simp);have W:=Walks.range (prog:=X.prog) (w:=X.w) (I.ok.hd U) q lo 1 n;refine W.item i s _ _ Y st fun v h' tk hv D kk=>?_;obtain⟨t,rfl⟩:=hv;have I1:Inv X pins σ H { s with heap:=h',toks:=tk }:=I.turned (fun b o B e=>kk b o (by simpa using B) e) Z f1 f3 f4 f5;refine⟨_,rfl,zkT (s:={ s with heap:=h',toks:=tk }) (n := "range_iterator") D rfl rfl (by decide) ⟨.int (lo+i),H,I1,⟨t,?_⟩,⟨rfl,rfl⟩,D,fun b B=>(F b B).1⟩⟩;rw[Int.mul_one]
 done:=by intro X J L O U i pins s σ H E I F st Y;subst J L O;obtain⟨Z,f1,f2,f3,f4,f5⟩:=F q (by simp);exact wpAny_pyNext_range_end (I.ok.hd U) st (by have:n<=i:=Y;lia) fun h' eb=>⟨rfl,I.turned (t':=s.toks) (fun b o B e=>eb b o B e) Z f1 f3 f4 f5⟩
 self:=fun _ _ _ _ _ st h=>wpAny_pyIter_rangeiter st h
section
variable {X:Cx}{tg:Expr}
def zng (K:PySem.W.Frag)(tl:TE):TI:=fun σ H R=>tl σ H fun x H1=>∃a,x = .ref a/\(∃xs,SqL K H1 a xs)/\R (Itl K a) H1
def zsT (K:PySem.W.Frag)(tl:TE):TI:=fun σ H R=>tl σ H fun x H1=>∃a,x = .ref a/\(∃xs,SqT K H1 a xs)/\R (Itt K a) H1
theorem zn9 {l:Expr}{tl:TE}(D:PE X l tl):PI X tg l (zng X.K tl):=by
 intro pins s σ H R I h;refine thn (D pins s σ H _ I h)  ?_;rintro v B ⟨x,H1,I1,F,J⟩;obtain⟨a,e,⟨xs,L⟩,q⟩:=J;subst e;cases F;obtain⟨its,U,p,Y⟩:=I1.list L;refine eZ p.isList ?_;refine⟨B.heap.objs.size,[B.heap.objs.size],_,_,H1,rfl,I1.kept (t':=B.toks) fun b o e=>af _ e,zkg a _,⟨_,aK _ rfl,rfl,rfl⟩,fun b O=>?_,q⟩;have e:b=B.heap.objs.size:=by simpa using O
 subst e;exact I1.fpOk (ag _) (I1.hok.fresh (ag _))
theorem zqP {l:Expr}{tl:TE}(D:PE X l tl):PI X tg l (zsT X.K tl):=by
 intro pins s σ H R I h;refine thn (D pins s σ H _ I h)  ?_;rintro v B ⟨x,H1,I1,F,J⟩;obtain⟨a,e,⟨xs,L⟩,q⟩:=J;subst e;cases F;obtain⟨its,U,p,Y⟩:=I1.tuple L;refine wpAny_pyIter_tuple (show B.heap.IsTuple a its.toArray from p) ?_;refine⟨B.heap.objs.size,[B.heap.objs.size],_,_,H1,rfl,I1.kept (t':=B.toks) fun b o e=>af _ e,zhB a _,⟨_,aK _ rfl,rfl,rfl⟩,fun b O=>?_,q⟩;have e:b=B.heap.objs.size:=by simpa using O
 subst e;exact I1.fpOk (ag _) (I1.hok.fresh (ag _))
theorem zlG {pins:List (Addr×Obj)}{σ:St}{H:Hp}{s:Shared}{R:It->Hp->Prop}{E:Value->Shared->Prop}{lo hi:Int}{t u v:Tok}{tk:Nat}(I:Inv X pins σ H s)(h1:-(2 ^ 62)<=lo)(h2:lo<2 ^ 62)(B:-(2 ^ 62)<=hi)(D:hi<2 ^ 62)
  (q:R (Itr lo (hi - lo).toNat) H):wpAny (model X.prog X.w) X.A (pyIter (.ref s.heap.objs.size)) (PIE X pins σ tg R) E { s with heap:=s.heap.push { cls:=.type "range",data:=.fields #[.int lo t,.int hi u,.int 1 v] },toks:=tk }:=by
 refine wpAny_pyIter_range (IsRange.new ..) (small_one h1 h2 B D) ?_;have I1:Inv X pins σ H { s with heap:=s.heap.push { cls:=.type "range",data:=.fields #[.int lo t,.int hi u,.int 1 v] },toks:=tk }:=I.kept fun b o e=>af _ e
 refine⟨(s.heap.push { cls:=.type "range",data:=.fields #[.int lo t,.int hi u,.int 1 v] }).objs.size,[(s.heap.push { cls:=.type "range",data:=.fields #[.int lo t,.int hi u,.int 1 v] }).objs.size],_,_,H,rfl,
  I1.kept (t':=tk) fun b o e=>af _ e,zhA _ lo (hi - lo).toNat,?_,fun b F=>?_,q⟩
 ·have J:lo+((0:Nat):Int) * 1=lo:=by simp
  have L:(((hi - lo).toNat:Nat):Int) - ((0:Nat):Int)=Builtin.Range.rangeSize lo hi 1:=by rw[rangeSize_one];split <;> lia
  show IsRangeIter _ _ (lo+((0:Nat):Int) * 1) ((((hi - lo).toNat:Nat):Int) - ((0:Nat):Int)) 1;rw[J,L];exact aK _ rfl
 ·have e:b=(s.heap.push { cls:=.type "range",data:=.fields #[.int lo t,.int hi u,.int 1 v] }).objs.size:=by simpa using F
  subst e;exact I1.fpOk (ag _) (I1.hok.fresh (ag _))
def zpU (ta:TA):TI:=fun σ H R=>ta σ H fun vs H1=>∃j:Int,vs=[.int j]/\-(2 ^ 62)<=j/\j<2 ^ 62/\R (Itr 0 j.toNat) H1
theorem zjC {a:Expr}{ta:TA}{p pos:Pos}(D:Gl X "range")(F:X.mg "range" = none)(J:PA X [a] ta)(L:starEach [a] X.env=[(false,eval a X.env)]:=by rfl):PI X tg (.Call (.Name "range" p) [a] [] pos) (zpU ta):=by
 intro pins s σ H R I h;refine Call_ (zcg I D F boot_range (cx (thn (J pos pins s σ H _ I h) fun Z s1 ⟨vs,H1,I1,O,B⟩=>?_) L rfl));obtain⟨j,e,B,U,q⟩:=B;subst e
 cases O with
 | cons r Y=>
  cases Y;obtain⟨t,rfl⟩:=r;exact call_range_1 (zlG I1 (by lia) (by lia) B U (by simpa using q))
def ztQ (I:TI)(g:TG)(tb:TS):TS:=fun D σ H=>I σ H fun J H1=>∃W:Nat->Nat->St->Hp->Prop,(∃m,W 0 m σ H1)/\∀i m σ H,W i m σ H->
 (J.stop i H/\D.nx σ H)\/(J.go i H/\∃N:St->Hp->Prop,(∀ q H',N q H'->∃F,F<m/\W (i+1) F q H')/\∀x H',J.yld i H x H'->g x σ H' fun B H2=>tb { D with nx:=N,ct:=N,bk:=D.nx } B H2)
def xP (fp:List Addr)(h:Heap):List (Addr×Obj):=fp.filterMap fun b=>(h.get? b).map fun o=>(b,o)
theorem zG {fp:List Addr}{h:Heap}{b:Addr}{o:Obj}(q:b∈fp)(e:h.get? b=some o):(b,o)∈xP fp h:=cV.mpr ⟨b,q,by rw[e];rfl⟩
theorem zjn {fp:List Addr}{h:Heap}{p:Addr×Obj}(B:p∈xP fp h):p.1∈fp/\h.get? p.1=some p.2:=by
 obtain⟨b,D,e⟩:=cV.mp B
 cases q:h.get? b with
 | none=>rw[q] at e;cases e
 | some o=>
  rw[q] at e;have F:(b,o)=p:=be e;subst F;exact⟨D,q⟩
theorem Inv.pinned {pins:List (Addr×Obj)}{σ:St}{H:Hp}{s:Shared}{fp:List Addr}(I:Inv X pins σ H s)(D:∀b∈fp,zbt X pins H b)(F:∀b∈fp,∃o,s.heap.get? b=some o/\∀v,o.data≠.cell v):Inv X (pins++xP fp s.heap) σ H s:=
 I.pins_of fun p J=>(aZ.mp J).elim (fun z=>I.pin p (ak _ z)) fun z=>by obtain⟨q,e⟩:=zjn z;obtain⟨L,O,U,_⟩:=D p.1 q;obtain⟨o,B,d⟩:=F p.1 q;rw[e] at B;cases B;exact⟨e,L,O,U,d⟩
theorem Inv.unpinned {pins q:List (Addr×Obj)}{σ:St}{H:Hp}{s:Shared}(I:Inv X (pins++q) σ H s):Inv X pins σ H s:=I.pins_of fun p B=>I.pin p (ak _ (bL _ B))
theorem zqR {B:Expr}{body:List Stmt}{wi:TI}{g:TG}{tb:TS}{pos:Pos}(hp:PassesOwn (model X.prog X.w) X.A X.env X.xe)(hc:X.calm=true)(hi:PI X tg B wi)(hg:PG X tg g)(F:PSs X body tb)
  (hs:∀x,foldedSetIterable B X.env x=pure x:=by intro _;rfl):PS X (.For tg B body [] pos) (ztQ wi g tb):=by
 intro pins s σ H D I h;refine wpAny_For (thn (hi pins s σ H _ I h) fun v s1 h1=>thn h1 fun a1 s2 h2=>?_) hs;obtain⟨it,fp,tn,J,H2,e,I2,T,as,f2,W,⟨m0,w0⟩,al⟩:=h2;subst e;have L:∀ {H':Hp},(∀b∈fp,H' b=none)->∀b∈fp,zbt X pins H' b:=fun hn b F=>⟨hn b F,(f2 b F).2⟩;refine codeAny_forLoop_any (fun n s'=>∃i O H',Inv X pins O H' s'/\tn i s'.heap/\(∀b∈fp,H' b=none)/\W i n O H') ?_ m0 ⟨0,σ,H2,I2,as,fun b F=>(f2 b F).1,w0⟩;rintro n s3 ⟨i,U,H3,I3,an,ap,w3⟩;rcases al i n U H3 w3 with ⟨stop,qn⟩ | ⟨go,N,hN,step⟩
 ·refine dl hp (thn (T.done X rfl rfl rfl hc i pins s3 U H3 X.xe I3 (L ap) an stop)  ?_);rintro r s4 ⟨hr,I4⟩;subst hr;exact wpAny_execs_nil ⟨U,H3,I4,qn⟩
 ·refine dl hp (thn (T.item X rfl rfl rfl hc i pins s3 U H3 X.xe I3 (L ap) an go)  ?_);rintro r s4 ⟨u,hr,h4⟩;subst hr;refine dl hp (thn h4  ?_);rintro _ s5 ⟨x,H5,I5,r5,y5,ad,av⟩;have I5':=I5.pinned (L av) (T.obj _ _ ad);refine dl hp (thn (hg _ s5 U H5 x u _ I5' r5 (step x H5 y5))  ?_);rintro _ s6 ⟨a0,H6,I6,q6⟩;refine dl hp (thn (F _ s6 a0 H6 _ I6 q6) fun f s7 Z=>?_)
  have Y:∀ {q:St} {H7:Hp},Inv X (pins++xP fp s5.heap) q H7 s7->N q H7->∃m,m<n/\∃i O H',Inv X pins O H' s7/\tn i s7.heap/\(∀b∈fp,H' b=none)/\W i m O H':=fun {q H7} I7 n7=>by obtain⟨m',hm,w7⟩:=hN q H7 n7;refine⟨m',hm,i+1,q,H7,I7.unpinned,T.keep _ _ _ ad fun b F o e=>(I7.pin (b,o) (ak _ (ak _ (zG F e)))).1,fun b F=>?_,w7⟩;obtain⟨o,e,d⟩:=T.obj _ _ ad b F;exact (I7.pin (b,o) (ak _ (ak _ (zG F e)))).2.1
  cases f with
  | next=>obtain⟨q,H7,I7,n7⟩:=Z;exact Y I7 n7
  | cont=>obtain⟨q,H7,I7,n7⟩:=Z;exact Y I7 n7
  | brk=>obtain⟨q,H7,I7,Z⟩:=Z;exact⟨q,H7,I7.unpinned,Z⟩
  | ret v=>obtain⟨x7,q,H7,I7,r7,Z⟩:=Z;exact⟨x7,q,H7,I7.unpinned,r7,Z⟩
end
theorem zkP {K:PySem.W.Frag}{a:Addr}{xs:List V}{g:TG}{tb:TS}{D:Ends}{σ:St}{H:Hp}(Pv:Nat->St->Hp->Prop)(L:Pv 0 σ H)(O:∀i σ H,i<=xs.length->Pv i σ H->SqL K H a xs)
  (U:∀i x σ H,xs[i]?=some x->Pv i σ H->g x σ H fun B H2=>tb { D with nx:=Pv (i+1),ct:=Pv (i+1),bk:=D.nx } B H2) (Y:∀ σ H,Pv xs.length σ H->D.nx σ H) :
  ∃W:Nat->Nat->St->Hp->Prop,(∃m,W 0 m σ H)/\∀i m σ H,W i m σ H->
   ((Itl K a).stop i H/\D.nx σ H)\/((Itl K a).go i H/\∃N:St->Hp->Prop,(∀ F H',N F H'->∃J,J<m/\W (i+1) J F H')/\∀x H',(Itl K a).yld i H x H'->g x σ H' fun B H2=>tb { D with nx:=N,ct:=N,bk:=D.nx } B H2):=by
 refine⟨fun i m σ H=>m=xs.length - i/\i<=xs.length/\Pv i σ H,⟨xs.length,by simp,aT _,L⟩,?_⟩;rintro i m σ H ⟨rfl,hi,p⟩;have q:=O i σ H hi p;by_cases I:i<xs.length
 ·refine .inr ⟨⟨xs,xs[i],q,by simp[I]⟩,Pv (i+1),fun F H' Z=>⟨xs.length - (i+1),by lia,rfl,I,Z⟩,fun x H' y=>?_⟩;obtain⟨e,y⟩:=y;subst e;exact U i x σ _ (y xs q) p
 ·have e:i=xs.length:=by lia
  subst e;exact .inl ⟨⟨xs,q,ag _⟩,Y σ H p⟩
abbrev R2:=V->V->Hp->VK->Prop
def OpR (X:Cx)(f:Value->Value->Sem Value)(r:R2):Prop:=
 ∀ (pins:List (Addr×Obj)) (s:Shared) (σ:St) (H:Hp) (x y:V) (v u:Value) (Q:VK),Inv X pins σ H s->yF x v->yF y u->r x y H Q->
  wpAny (model X.prog X.w) X.A (f v u) (EP X pins σ Q) X.xe s
def UnR (X:Cx)(f:Value->Sem Value)(r:V->Hp->VK->Prop):Prop:=
 ∀ (pins:List (Addr×Obj)) (s:Shared) (σ:St) (H:Hp) (x:V) (v:Value) (Q:VK),Inv X pins σ H s->yF x v->r x H Q->
  wpAny (model X.prog X.w) X.A (f v) (EP X pins σ Q) X.xe s
def zcN (X:Cx)(f:Value)(r:List V->Hp->VK->Prop):Prop:=
 ∀ (pins:List (Addr×Obj)) (s:Shared) (σ:St) (H:Hp) (xs:List V) (q:List Value) (Q:VK),Inv X pins σ H s->ya xs q->r xs H Q->
  wpAny (model X.prog X.w) X.A (call f q) (EP X pins σ Q) X.xe s
def tOp (r:R2)(ta tb:TE):TE:=fun σ H Q=>ta σ H fun x H1=>tb σ H1 fun y H2=>r x y H2 Q
def tUn (r:V->Hp->VK->Prop)(ta:TE):TE:=fun σ H Q=>ta σ H fun x H1=>r x H1 Q
def rI (C:Int->Int->Prop)(g:Int->Int->V):R2:=fun x y H Q=>∃i j,x = .int i/\y = .int j/\C i j/\Q (g i j) H
def rI0 (g:Int->Int->V):R2:=fun x y H Q=>∃i j,x = .int i/\y = .int j/\Q (g i j) H
def rU (g:Int->V):V->Hp->VK->Prop:=fun x H Q=>∃i,x = .int i/\Q (g i) H
section
variable {X:Cx}{a b c:Expr}{ta tb tc:TE}{pos:Pos}
theorem zss (F:PE X a ta)(J:PE X b tb){pins:List (Addr×Obj)}{s:Shared}{σ:St}{H:Hp}{R:V->V->Hp->Prop}(I:Inv X pins σ H s)
  (h:ta σ H fun x H1=>tb σ H1 fun y H2=>R x y H2) {Q:Value->Shared->Prop} {f:Value->Value->Sem Value}
  (L:∀v u D x y H2,Inv X pins σ H2 D->yF x v->yF y u->R x y H2->wpAny (model X.prog X.w) X.A (f v u) Q X.xe D) :
  wpAny (model X.prog X.w) X.A (eval a X.env) (fun v q=>wpAny (model X.prog X.w) X.A (eval b X.env) (fun u B=>wpAny (model X.prog X.w) X.A (f v u) Q X.xe B) X.xe q) X.xe s:=by
 refine thn (F pins s σ H _ I h)  ?_;rintro v O ⟨x,H1,I1,U,Y⟩;refine thn (J pins O σ H1 _ I1 Y)  ?_;rintro u D ⟨y,H2,I2,Z,q2⟩;exact L v u D x y H2 I2 U Z q2
theorem zty {B:Operator}{r:R2}(D:OpR X (binaryOp B) r)(F:PE X a ta)(J:PE X b tb):PE X (.BinOp a B b pos) (tOp r ta tb):=by intro pins s σ H Q I h;exact wpAny_BinOp (zss F J I h fun v u L x y H2 I2 O U q=>D pins L σ H2 x y v u Q I2 O U q)
theorem ztz {q:UnaryOp}{r:V->Hp->VK->Prop}(B:UnR X (unaryOp q) r)(D:PE X a ta):PE X (.UnaryOp q a pos) (tUn r ta):=by intro pins s σ H Q I h;exact UnaryOp_ (thn (D pins s σ H _ I h) <| by rintro v F ⟨x,H1,I1,J,L⟩;exact B pins F σ H1 x v Q I1 J L)
theorem opI {f:Value->Value->Sem Value}{C:Int->Int->Prop}{g:Int->Int->Int}
  (B:∀ (i j:Int) (t u:Tok) (s:Shared) (Q:Value->Shared->Prop) (E:Value->Shared->Prop),C i j->Q (.int (g i j) s.toks) { s with toks:=s.toks+1 }->wpAny (model X.prog X.w) X.A (f (.int i t) (.int j u)) Q E s) :
  OpR X f (rI C fun i j=>.int (g i j)):=by
 intro pins s σ H x y v u Q I D F h;obtain⟨i,j,rfl,rfl,J,q⟩:=h;obtain⟨t,rfl⟩:=D;obtain⟨t',rfl⟩:=F;exact B i j t t' s _ _ J ⟨.int (g i j),H,I.tok _,⟨_,rfl⟩,q⟩
theorem opI0 {f:Value->Value->Sem Value}{g:Int->Int->Int}
  (B:∀ (i j:Int) (t u:Tok) (s:Shared) (Q:Value->Shared->Prop) (E:Value->Shared->Prop),Q (.int (g i j) s.toks) { s with toks:=s.toks+1 }->wpAny (model X.prog X.w) X.A (f (.int i t) (.int j u)) Q E s) :
  OpR X f (rI0 fun i j=>.int (g i j)):=by
 intro pins s σ H x y v u Q I D F h;obtain⟨i,j,rfl,rfl,q⟩:=h;obtain⟨t,rfl⟩:=D;obtain⟨t',rfl⟩:=F;exact B i j t t' s _ _ ⟨.int (g i j),H,I.tok _,⟨_,rfl⟩,q⟩
theorem zsc {f:Value->Value->Sem Value}{g:Int->Int->Bool}
  (B:∀ (i j:Int) (t u:Tok) (s:Shared) (Q:Value->Shared->Prop) (E:Value->Shared->Prop),Q (.bool (g i j)) s->wpAny (model X.prog X.w) X.A (f (.int i t) (.int j u)) Q E s) :
  OpR X f (rI0 fun i j=>.bl (g i j)):=by
 intro pins s σ H x y v u Q I D F h;obtain⟨i,j,rfl,rfl,q⟩:=h;obtain⟨t,rfl⟩:=D;obtain⟨t',rfl⟩:=F;exact B i j t t' s _ _ ⟨.bl (g i j),H,I,rfl,q⟩
def zpf (i j:Int):Prop:=0<j/\j<1073741824
def CPow (i j:Int):Prop:=0<=j/\j<=1000000/\i.natAbs<2 ^ 64
def zrW (i j:Int):Prop:=(-(2 ^ 64)<i/\i<2 ^ 64)\/(-(2 ^ 64)<j/\j<2 ^ 64)
theorem zrW.ok {i j:Int}(h:zrW i j):IntMulOk i j:=by
 rcases h with ⟨h1,h2⟩ | ⟨h1,h2⟩
 ·exact .of_left (intBits_le_64 h1 h2)
 ·exact .of_right (intBits_le_64 h1 h2)
theorem zqr:OpR X (binaryOp .Add) (rI0 fun i j=>.int (i+j)):=opI0 fun _ _ _ _ _ _ _ q=>add_int q
theorem zqz:OpR X (binaryOp .Sub) (rI0 fun i j=>.int (i - j)):=opI0 fun _ _ _ _ _ _ _ q=>sub_int q
theorem zqv:OpR X (binaryOp .Mult) (rI zrW fun i j=>.int (i * j)):=opI fun _ _ _ _ _ _ _ B q=>mul_int q B.ok
theorem znT:OpR X (binaryOp .FloorDiv) (rI zpf fun i j=>.int (i / j)):=opI fun i j _ _ _ _ _ B q=>by have h1:(0:Int)<j:=B.1;have h2:j<1073741824:=B.2;exact floordiv_int (by lia) (by rw[Int.fdiv_eq_ediv_of_nonneg i (by lia)];exact q) (.inl (PyProof.noPylong_small (by lia)))
theorem zqu:OpR X (binaryOp .Mod) (rI (fun _ j=>0<j) fun i j=>.int (i % j)):=opI fun i j _ _ _ _ _ B q=>by have h1:(0:Int)<j:=B;exact mod_int' (by lia) (by rw[Int.fmod_eq_emod_of_nonneg i (by lia)];exact q)
theorem zqx:OpR X (binaryOp .Pow) (rI CPow fun i j=>.int (i ^ j.toNat)):=opI fun _ _ _ _ _ _ _ B q=>pow_int_small B.1 B.2.1 B.2.2 q
theorem unI {f:Value->Sem Value}{g:Int->Int}
  (B:∀ (i:Int) (t:Tok) (s:Shared) (Q:Value->Shared->Prop) (E:Value->Shared->Prop),Q (.int (g i) s.toks) { s with toks:=s.toks+1 }->wpAny (model X.prog X.w) X.A (f (.int i t)) Q E s) :
  UnR X f (rU fun i=>.int (g i)):=by
 intro pins s σ H x v Q I D h;obtain⟨i,rfl,q⟩:=h;obtain⟨t,rfl⟩:=D;exact B i t s _ _ ⟨.int (g i),H,I.tok _,⟨_,rfl⟩,q⟩
theorem zrL:UnR X (unaryOp .USub) (rU fun i=>.int (-i)):=unI fun _ _ _ _ _ q=>neg_int q
end
def ztN:V->V->Bool
 | .non,.non=>true | .non,.int _=>true | .int _,.non=>true | .non,.bl _=>true | .bl _,.non=>true | .non,.str _=>true | .str _,.non=>true
 | .int _,.int _=>true | .bl _,.bl _=>true | .str _,.str _=>true | .byt _,.byt _=>true
 | .int _,.str _=>true | .str _,.int _=>true | .bl _,.str _=>true | .str _,.bl _=>true
 | _,_=>false
def rEq:R2:=fun x y H Q=>ztN x y=true/\Q (.bl (decide (x=y))) H
def rNe:R2:=fun x y H Q=>ztN x y=true/\Q (.bl (!decide (x=y))) H
theorem zh9 {i j:Int}:decide (V.int i=V.int j)=(i==j):=by rw[b9];simp
theorem zmb {i j:Bool}:decide (V.bl i=V.bl j)=(i==j):=by rw[b9];simp
theorem zia {i j:Str}:decide (V.str i=V.str j)=(i==j):=by rw[b9];simp
theorem zh8 {i j:Array UInt8}:decide (V.byt i=V.byt j)=(i.toList==j.toList):=by rw[b9];cases i;cases j;simp
section
variable {X:Cx}{a b c:Expr}{ta tb tc:TE}{pos:Pos}
theorem z4 {pins:List (Addr×Obj)}{σ:St}{H:Hp}{s:Shared}{Q:VK}{k B:Bool}(I:Inv X pins σ H s)(q:Q (.bl k) H)(e:k=B):EP X pins σ Q (.bool B) s:=by subst e;exact⟨.bl k,H,I,rfl,q⟩
theorem ztn:OpR X (compareOp .Eq) rEq:=by
 intro pins s σ H x y v u Q I F B h;obtain⟨D,q⟩:=h
 cases x with
 | non=>
  cases F
  cases y with
  | non=>cases B;exact PySem.EqNone.eq_none_none (z4 I q (by simp))
  | bl j=>cases B;exact PySem.EqNone.eq_none_bool (z4 I q (by simp))
  | int j=>obtain⟨t',rfl⟩:=B;exact PySem.EqNone.eq_none_int (z4 I q (by simp))
  | str j=>obtain⟨t',rfl⟩:=B;exact PySem.EqNone.eq_none_str (z4 I q (by simp))
  | _=>exact absurd (show false=true from D) aD
 | bl i=>
  cases F
  cases y with
  | non=>cases B;exact PySem.EqNone.eq_bool_none (z4 I q (by simp))
  | bl j=>cases B;exact eq_bool (z4 I q zmb)
  | str j=>obtain⟨t',rfl⟩:=B;exact PySem.EqMixed.eq_bool_str (z4 I q (by simp))
  | _=>exact absurd (show false=true from D) aD
 | int i=>
  obtain⟨t,rfl⟩:=F
  cases y with
  | non=>cases B;exact PySem.EqNone.eq_int_none (z4 I q (by simp))
  | int j=>obtain⟨t',rfl⟩:=B;exact eq_int (z4 I q zh9)
  | str j=>obtain⟨t',rfl⟩:=B;exact PySem.EqMixed.eq_int_str (z4 I q (by simp))
  | _=>exact absurd (show false=true from D) aD
 | str i=>
  obtain⟨t,rfl⟩:=F
  cases y with
  | non=>cases B;exact PySem.EqNone.eq_str_none (z4 I q (by simp))
  | bl j=>cases B;exact PySem.EqMixed.eq_str_bool (z4 I q (by simp))
  | int j=>obtain⟨t',rfl⟩:=B;exact PySem.EqMixed.eq_str_int (z4 I q (by simp))
  | str j=>obtain⟨t',rfl⟩:=B;exact eq_str (z4 I q zia)
  | _=>exact absurd (show false=true from D) aD
 | byt i=>
  obtain⟨t,rfl⟩:=F
  cases y with
  | byt j=>obtain⟨t',rfl⟩:=B;exact PySem.W.eq_bytes (z4 I q zh8)
  | _=>exact absurd (show false=true from D) aD
 | _=>cases y <;> exact absurd (show false=true from D) aD
theorem zts:OpR X (compareOp .NotEq) rNe:=by
 intro pins s σ H x y v u Q I F B h;obtain⟨D,q⟩:=h
 cases x with
 | non=>
  cases F
  cases y with
  | non=>cases B;exact PySem.EqNone.ne_none_none (z4 I q (by simp))
  | bl j=>cases B;exact PySem.EqNone.ne_none_bool (z4 I q (by simp))
  | int j=>obtain⟨t',rfl⟩:=B;exact PySem.EqNone.ne_none_int (z4 I q (by simp))
  | str j=>obtain⟨t',rfl⟩:=B;exact PySem.EqNone.ne_none_str (z4 I q (by simp))
  | _=>exact absurd (show false=true from D) aD
 | bl i=>
  cases F
  cases y with
  | non=>cases B;exact PySem.EqNone.ne_bool_none (z4 I q (by simp))
  | bl j=>cases B;exact ne_bool (z4 I q (congrArg not zmb))
  | str j=>obtain⟨t',rfl⟩:=B;exact PySem.EqMixed.ne_bool_str (z4 I q (by simp))
  | _=>exact absurd (show false=true from D) aD
 | int i=>
  obtain⟨t,rfl⟩:=F
  cases y with
  | non=>cases B;exact PySem.EqNone.ne_int_none (z4 I q (by simp))
  | int j=>obtain⟨t',rfl⟩:=B;exact ne_int (z4 I q (congrArg not zh9))
  | str j=>obtain⟨t',rfl⟩:=B;exact PySem.EqMixed.ne_int_str (z4 I q (by simp))
  | _=>exact absurd (show false=true from D) aD
 | str i=>
  obtain⟨t,rfl⟩:=F
  cases y with
  | non=>cases B;exact PySem.EqNone.ne_str_none (z4 I q (by simp))
  | bl j=>cases B;exact PySem.EqMixed.ne_str_bool (z4 I q (by simp))
  | int j=>obtain⟨t',rfl⟩:=B;exact PySem.EqMixed.ne_str_int (z4 I q (by simp))
  | str j=>obtain⟨t',rfl⟩:=B;exact ne_str (z4 I q (congrArg not zia))
  | _=>exact absurd (show false=true from D) aD
 | byt i=>
  obtain⟨t,rfl⟩:=F
  cases y with
  | byt j=>obtain⟨t',rfl⟩:=B;exact PySem.W.ne_bytes (z4 I q (congrArg not zh8))
  | _=>exact absurd (show false=true from D) aD
 | _=>cases y <;> exact absurd (show false=true from D) aD
theorem ztr:OpR X (compareOp .Lt) (rI0 fun i j=>.bl (decide (i<j))):=zsc fun _ _ _ _ _ _ _ q=>lt_int q
theorem ztq:OpR X (compareOp .LtE) (rI0 fun i j=>.bl (decide (i<=j))):=zsc fun _ _ _ _ _ _ _ q=>le_int q
theorem ztp:OpR X (compareOp .Gt) (rI0 fun i j=>.bl (decide (j<i))):=zsc fun _ _ _ _ _ _ _ q=>gt_int q
theorem zto:OpR X (compareOp .GtE) (rI0 fun i j=>.bl (decide (j<=i))):=zsc fun _ _ _ _ _ _ _ q=>ge_int q
theorem zD (b:Expr){q:CmpOp}(h:q≠.In:=by decide)(h2:q≠.NotIn:=by decide):behindInMarks q b=false:=by
 have B:(q==CmpOp.In)=false:=by cases q <;> first | rfl | exact absurd rfl h
 have D:(q==CmpOp.NotIn)=false:=by cases q <;> first | rfl | exact absurd rfl h2
 cases b <;> simp[behindInMarks,B,D]
theorem zn0 {B:CmpOp}{r:R2}(D:OpR X (compareOp B) r)(F:PE X a ta)(J:PE X b tb)(L:behindInMarks B b=false):PE X (.Compare a [B] [b] pos) (tOp r ta tb):=by intro pins s σ H Q I h;exact wpAny_Compare1 (zss F J I h fun v u O x y H2 I2 U Y q=>D pins O σ H2 x y v u Q I2 U Y q) L
def zo0 (t:TE):TT:=fun σ H Q=>t σ H fun x H'=>∃k,x = .bl k/\Q k H'
theorem zok {q:CmpOp}{r:R2}(B:OpR X (compareOp q) r)(D:PE X a ta)(F:PE X b tb)(J:behindInMarks q b=false):PT X (.Compare a [q] [b] pos) (zo0 (tOp r ta tb)):=by
 intro pins s σ H Q I h
 refine wpAny_isTrue_Compare1 (thn (D pins s σ H _ I h) fun v L ⟨x,H1,I1,O,U⟩=>thn (F pins L σ H1 _ I1 U) fun u Y ⟨y,H2,I2,Z,q2⟩=>
  thn (B pins Y σ H2 x y v u _ I2 O Z q2) fun c s3 ⟨z,H3,I3,r3,k,e,q3⟩=>?_) J
 subst e;cases r3;exact eW ⟨H3,I3,q3⟩
theorem zgJ:(sizeLine:Nat)<2 ^ 63:=by rw[bV];decide
theorem za0 {x:V}{q:List Value}(r:ya [x] q):∃u,q=[u]/\yF x u:=by
 cases r with
 | cons B D=>cases D;exact⟨_,rfl,B⟩
theorem zt5 {x y:V}{q:List Value}(r:ya [x,y] q):∃u w',q=[u,w']/\yF x u/\yF y w':=by
 cases r with
 | cons B D=>
  cases D with
  | cons F I=>cases I;exact⟨_,_,rfl,B,F⟩
theorem zkx:zcN X (.builtin "abs") (fun xs H Q=>∃i,xs=[.int i]/\Q (.int (if i<0 then -i else i)) H):=by intro pins s σ H xs B Q I r h;obtain⟨i,rfl,q⟩:=h;obtain⟨u,rfl,t,rfl⟩:=za0 r;exact call_abs_int fun u tk=>⟨.int (if i<0 then -i else i),H,I.tok _,⟨_,rfl⟩,q⟩
def zpl (K:PySem.W.Frag)(x:V)(H:Hp)(n:Nat):Prop:=
 match x with
 | .str y=>y.length<=sizeLine/\n=y.length
 | .byt y=>y.size<=sizeLine/\n=y.size
 | .ref p=>(∃xs,SqL K H p xs/\n=xs.length)\/∃xs,SqT K H p xs/\n=xs.length
 | _=>False
theorem zkz:zcN X (.builtin "len") (fun xs H Q=>∃x n,xs=[x]/\zpl X.K x H n/\Q (.int n) H):=by
 intro pins s σ H xs us Q I r h;obtain⟨x,n,rfl,e,q⟩:=h;obtain⟨u,rfl,rx⟩:=za0 r;have hl:=zgJ;have hs:sizeLine=16777216:=bV
 cases x with
 | str y=>
  obtain⟨t,rfl⟩:=rx;obtain⟨hy,e'⟩:y.length<=sizeLine/\n=y.length:=e;subst e';exact len_str (by lia) ⟨.int _,H,I.tok _,⟨_,rfl⟩,q⟩
 | byt y=>
  obtain⟨t,rfl⟩:=rx;obtain⟨hy,e'⟩:y.size<=sizeLine/\n=y.size:=e;subst e';exact PySem.W.len_bytes (by lia) ⟨.int _,H,I.tok _,⟨_,rfl⟩,q⟩
 | ref p=>
  cases rx;have e':(∃xs,SqL X.K H p xs/\n=xs.length)\/∃xs,SqT X.K H p xs/\n=xs.length:=e;rcases e' with ⟨xs,hx,e'⟩ | ⟨xs,hx,e'⟩
  ·subst e';obtain⟨its,r',pl,hz⟩:=I.list hx;have hlen:=r'.length;exact Calls.call_len_list pl.isList (by simp only[aA];lia) ⟨.int xs.length,H,I.tok _,⟨_,by simp only[aA];rw[hlen]⟩,q⟩
  ·subst e';obtain⟨its,r',pl,hz⟩:=I.tuple hx;have hlen:=r'.length;exact len_tuple pl (by simp only[aA];lia) ⟨.int xs.length,H,I.tok _,⟨_,by simp only[aA];rw[hlen]⟩,q⟩
 | _=>exact (show False from e).elim
end
structure ObjM (h:Heap)(x dx C:Addr)(mA:Str->Option Value):Prop where
 obj:h.get? x=some (PySem.W.instObj C dx)
 ns:h.Ns1 dx mA
 ne:dx≠x
theorem zi3 {h:Heap}{dx:Addr}{mA:Str->Option Value}(n:h.Ns1 dx mA):∃D,h.get? dx=some D/\∀name,PySem.W.lookIn name D=some (mA name):=by
 obtain⟨o,es,Y,F,I,J,_,L⟩:=n;refine⟨o,F,fun name=>?_⟩;have e:=L name;unfold nsFind findBy at e;rw[<- Array.find?_toList] at e;unfold PySem.W.lookIn;rw[I];dsimp only;split
 ·rename_i y q;rw[q] at e;exact congrArg some e
 ·rename_i q;rw[q] at e
  have a:es.toList.any (·.refKey)=false:=by rw[List.any_eq_false];intro y O;obtain⟨z,t,B⟩:=J y (dZ.mp O);simp[DictEntry.refKey,B]
  have U:¬ es.toList.any (·.refKey)=true:=by rw[a];exact aD
  rw[if_neg U];exact congrArg some e
theorem ObjM.look {h:Heap}{x dx C:Addr}{mA:Str->Option Value}(I:ObjM h x dx C mA):∃q,PySem.W.InstAt h x (PySem.W.instObj C dx) C (some q)/\∀name,PySem.W.lookIn name q=some (mA name):=
 let ⟨q,ho,hl⟩:=zi3 I.ns
 ⟨q,⟨I.obj,rfl,rfl,ho⟩,hl⟩
section
variable {prog:Program}{w:World}{A:Around}{E:Value->Shared->Prop}{s:Shared}{K:PySem.W.Frag}{x dx C f:Addr}{mA:Str->Option Value}{name:Str}{v:Value}
end
theorem zha.some_of {v:V}{o:Option Value}(r:zha (some v) o):∃u,o=some u/\yF v u:=by
 cases o with
 | none=>exact (show False from r).elim
 | some u=>exact⟨u,rfl,r⟩
section
variable {P:Program}{w:World}{H H':Hp}{h h':Heap}{a C dx:Addr}{fs fs':List (Str×V)}
theorem zni (B:HOk P w H h)(e:H a=some (.ins C dx fs)):∃mA,ObjM h a dx C mA/\(∀f,zha (fs.lookup f) (mA f))/\PySem.Within mA (fs.map (·.1))/\fs.length<=1000/\H dx=some (.own a):=by obtain⟨d,z,D,F,mA,n,r,q⟩:=(show yr P w H h a (.ins C dx fs) from B a _ e);exact⟨mA,⟨F,n,D⟩,r,q,z,d⟩
end
structure Cls (K:PySem.W.Frag)(C:Addr):Prop where
 pg:PySem.W.plainGet K C Str.empty=true
 hd:PySem.W.hasDictIn K C=true
 po:PySem.W.plainOver K C=true
 sa:PySem.W.findIn K (.ref C) "__setattr__" = some (some (.builtin "object.__setattr__"))
theorem Cls.get {K:PySem.W.Frag}{C:Addr}(c:Cls K C)(f:Str):PySem.W.plainGet K C f=true:=c.pg
section
variable {X:Cx}{pins:List (Addr×Obj)}{σ:St}{H:Hp}{s:Shared}{a C dx:Addr}{fs:List (Str×V)}{f:Str}{v:V}{A:Around}{E:Value->Shared->Prop}
end
section
variable {X:Cx}{o e value:Expr}{f:Str}{pos pos' tpos:Pos}{ta tv:TE}
end
section
variable {X:Cx}{pins:List (Addr×Obj)}{σ:St}{H:Hp}{s:Shared}{A:Around}{E:Value->Shared->Prop}{Q:Value->Shared->Prop}{c:Value}{b:Bool}
inductive TyOf (K:PySem.W.Frag) (H:Hp):V->Value->Prop where
 | non:TyOf K H .non (.type "NoneType")
 | bl (x:Bool):TyOf K H (.bl x) (.type "bool")
 | int (i:Int):TyOf K H (.int i) (.type "int")
 | str (x:Str):TyOf K H (.str x) (.type "str")
 | flt (x:UInt64):TyOf K H (.flt x) (.type "float")
 | lst {a:Addr} {xs:List V} (e:H a=some (.lst xs)):TyOf K H (.ref a) (.type "list")
 | frz {a:Addr} {o:Obj} {xs:List V} (e:H a=some (.frz o (.lst xs))):TyOf K H (.ref a) (.type "list")
 | tup {a:Addr} {xs:List V} (e:H a=some (.tup xs)):TyOf K H (.ref a) (.type "tuple")
 | dK {a:Addr} {kvs:List (Key×V)} (e:H a=some (.dK kvs)):TyOf K H (.ref a) (.type "dict")
 | dT {a:Addr} {kvs:List (List Key×V)} (e:H a=some (.dT kvs)):TyOf K H (.ref a) (.type "dict")
 | ins {a C dx:Addr} {fs:List (Str×V)} (e:H a=some (.ins C dx fs)) (cl:Cls K C) (ha:PySem.W.findIn K (.ref C) "__class__" = some (some (.builtin "object.__class__")))
   (hn:PySem.W.specialIn K (.builtin "object.__class__") "__get__" = some (some (.builtin "getset_descriptor.__get__"))) (htk:PySem.W.takesIn K (.builtin "object.__class__")=some true)
   (hm:PySem.W.mroIn K C (.type "object")=some true):TyOf K H (.ref a) (.ref C)
theorem ziJ {x:V}{u t:Value}(I:Inv X pins σ H s)(B:yF x u)(ty:TyOf X.K H x t)(e:PySem.W.kitOne X.K t c=some b)(h:∀tk,Q (.bool b) { s with toks:=tk }) :
  wpAny (model X.prog X.w) A (call (.builtin "isinstance") [u,c]) Q E s:=by
 cases ty with
 | non=>cases (show u=Value.none from B);exact bN PySem.W.kitx_none I.kIn True.intro e (fun z=>nomatch z) h
 | bl y=>cases (show u=Value.bool y from B);exact bN PySem.W.kitx_bool I.kIn True.intro e (fun z=>nomatch z) h
 | int i=>obtain⟨t,q⟩:=(show ∃t,u=Value.int i t from B);cases q;exact bN PySem.W.kitx_int I.kIn True.intro e (fun z=>nomatch z) h
 | str y=>obtain⟨t,q⟩:=(show ∃t,u=Value.str y t from B);cases q;exact bN PySem.W.kitx_str I.kIn True.intro e (fun z=>nomatch z) h
 | flt y=>obtain⟨t,q⟩:=(show ∃t,u=Value.float y t from B);cases q;exact bN PySem.W.kitx_float I.kIn True.intro e (fun z=>nomatch z) h
 | @lst a xs D=>
  cases (show u=Value.ref a from B);obtain⟨_,_,n,_,h1⟩:=(show yr X.prog X.w H s.heap a (.lst xs) from I.hok a _ D);exact bN PySem.W.kitx_list I.kIn ⟨_,h1,rfl⟩ e (fun z=>nomatch z) h
 | @frz a U xs D=>
  cases (show u=Value.ref a from B);obtain⟨_,_,_,n,_,h1⟩:=(show yr X.prog X.w H s.heap a (.frz U (.lst xs)) from I.hok a _ D);exact bN PySem.W.kitx_list I.kIn ⟨_,h1,rfl⟩ e (fun z=>nomatch z) h
 | @tup a xs D=>
  cases (show u=Value.ref a from B);obtain⟨_,_,_,p⟩:=(show yr X.prog X.w H s.heap a (.tup xs) from I.hok a _ D);obtain⟨o,h1,h2,_⟩:=p;exact bN PySem.W.kitx_tuple I.kIn ⟨o,h1,h2⟩ e (fun z=>nomatch z) h
 | @dK a kvs D=>
  cases (show u=Value.ref a from B);obtain⟨_,_,vs,_,p⟩:=(show yr X.prog X.w H s.heap a (.dK kvs) from I.hok a _ D);obtain⟨o,es,Y,h1,h2,_⟩:=p;exact bN PySem.W.kitx_dict I.kIn ⟨o,h1,h2.1⟩ e (fun z=>nomatch z) h
 | @dT a kvs D=>
  cases (show u=Value.ref a from B);obtain⟨_,_,xs,_,o,es,Y,h1,h2,_⟩:=(show yr X.prog X.w H s.heap a (.dT kvs) from I.hok a _ D);exact bN PySem.W.kitx_dict I.kIn ⟨o,h1,h2.1⟩ e (fun z=>nomatch z) h
 | @ins a C dx fs D L Z hn F hm=>
  cases (show u=Value.ref a from B);obtain⟨mA,O,_⟩:=zni I.hok D;obtain⟨od,J,_⟩:=O.look;exact bN (PySem.W.kitx_own (L.get _) L.hd Z hn F hm) I.kIn J e (fun z=>nomatch z) h
end
structure Room (k:Nat)(A:Around):Prop where
 hd:A.handled=none
 dp:A.depth+3 * k+5<recursionLimit
 un:A.units+16 * k+200<cLine
theorem Room.mono {j k:Nat}{A:Around}(r:Room k A)(h:j<=k):Room j A:=⟨r.hd,by have:=r.dp;lia,by have:=r.un;lia⟩
theorem Room.deeper {k:Nat}{A:Around}(r:Room (k+1) A)(env:Env):Room k (A.deeper env):=
 ⟨r.hd,by have:=r.dp;show A.depth+1+3 * k+5<_;lia,by have:=r.un;show A.units+3+16 * k+200<_;lia⟩
theorem Room.depth {k:Nat}{A:Around}(r:Room k A):A.depth<recursionLimit:=by have:=r.dp;lia
theorem Room.units {k:Nat}{A:Around}(r:Room k A):A.units+64<cLine:=by have:=r.un;lia
def zkb:TA:=fun _ H Q=>Q [] H
def zbC (ta:TE)(q:TA):TA:=fun σ H Q=>ta σ H fun x H1=>q σ H1 fun xs H2=>Q (x::xs) H2
section
variable {X:Cx}{e:Expr}{es:List Expr}{te:TE}{t:TA}{pos:Pos}
theorem zqE:PA X [] zkb:=fun _ _ _ _ H Q I h=>Calls.spliced_nil ⟨[],H,I,.nil,h⟩
theorem znX (q:PE X e te)(B:PA X es t)(D:starEach (e::es) X.env=(false,eval e X.env)::starEach es X.env:=by rfl):PA X (e::es) (zbC te t):=by intro pos pins s σ H Q I h;rw[D];show wpAny _ _ (spliced ((false,eval e X.env)::backTo pos (starEach es X.env))) _ _ s;refine eK (thn (q pins s σ H _ I h)  ?_);rintro u F ⟨x,H1,I1,J,L⟩;exact thn (B pos pins F σ H1 _ I1 L) <| by rintro Y Z ⟨xs,H2,I2,O,U⟩;exact⟨x::xs,H2,I2,.cons J O,U⟩
end
abbrev Sp:=List V->Hp->VK->XK->Prop
abbrev CXT:=List Env->Hp->Shared->XK->Value->Shared->Prop
structure Env0 (P:Program)(w:World)(K:PySem.W.Frag)(mg:Str->Option Value)(base:Heap)(A:Around)(outer:List Env)(s:Shared)(H:Hp):Prop where
 frames:A.frames=some outer
 mod:Mod K mg base
 bs:∀b o,base.get? b=some o->s.heap.get? b=some o/\H b=none
 bsz:base.objs.size<=s.heap.objs.size
 funs:s.heap.FunFrames base outer
 frf:∀b∈frs outer,H b=none
 hok:HOk P w H s.heap
 bare:AllBare s.gens
def CE (q:List Env)(P:Program)(w:World)(H:Hp)(s:Shared)(Q:VK)(u:Value)(s':Shared):Prop:=
 ∃v H',s'.os=s.os/\AllBare s'.gens/\Un (frs q) [] H H' s.heap s'.heap/\HOk P w H' s'.heap/\yF v u/\Q v H'
def CR (CX:CXT)(q:List Env)(P:Program)(w:World)(H:Hp)(s:Shared)(Q:VK)(E:XK)(r:Result)(s':Shared):Prop:=
 match r with
 | .ok (.ret u)=>CE q P w H s Q u s'
 | .ok _=>False
 | .error e=>CX q H s E e s'
structure FnOk (P:Program)(w:World)(K:PySem.W.Frag)(mg:Str->Option Value)(base:Heap)(CX:CXT)(k:Nat)(f:Addr)(fd:FuncData)(ps:List Str)(sp:Sp):Prop where
 len:∀vs H Q E,sp vs H Q E->vs.length=ps.length
 run:∀ (A:Around) (outer:List Env) (s:Shared) (H:Hp) (args:Args) (us:List Value) (vs:List V) (Q:VK) (E:XK),Room k A->Env0 P w K mg base A outer s H->BindsTo s fd args (ps.zip us)->ya vs us->sp vs H Q E->
  codeAny (model P w) A (.call (.ref f) args) (CR CX outer P w H s Q E) s
theorem FnOk.mono {P:Program}{w:World}{K:PySem.W.Frag}{mg:Str->Option Value}{base:Heap}{CX:CXT}{j k:Nat}{f:Addr}{fd:FuncData}{ps:List Str}{sp:Sp}(F:FnOk P w K mg base CX j f fd ps sp)(h:j<=k) :
  FnOk P w K mg base CX k f fd ps sp:=⟨F.len,fun A q s H args B vs Q E D=>F.run A q s H args B vs Q E (D.mono h)⟩
theorem FnOk.imp {P:Program}{w:World}{K:PySem.W.Frag}{mg:Str->Option Value}{base:Heap}{CX:CXT}{k:Nat}{f:Addr}{fd:FuncData}{ps:List Str}{sp D:Sp}(F:FnOk P w K mg base CX k f fd ps sp)
  (h:∀vs H Q E,D vs H Q E->sp vs H Q E):FnOk P w K mg base CX k f fd ps D:=
 ⟨fun vs H Q E q=>F.len vs H Q E (h _ _ _ _ q),fun A B s H args I vs Q E J L O U Y=>F.run A B s H args I vs Q E J L O U (h _ _ _ _ Y)⟩
section
variable {X:Cx}{pins:List (Addr×Obj)}{σ:St}{H:Hp}{s s':Shared}
theorem Inv.env0 (I:Inv X pins σ H s):Env0 X.prog X.w X.K X.mg X.base X.A X.stack s H:=
 ⟨I.ok.frames,I.ok.mod,I.bs,aB I.ok.bsz I.sz,I.stack,I.stkFree,I.hok,I.bare⟩
theorem Inv.after {Q:VK}{u:Value}(I:Inv X pins σ H s)(h:CE X.stack X.prog X.w H s Q u s'):EP X pins σ Q u s':=by obtain⟨v,H',J,B,L,D,r,q⟩:=h;obtain⟨O,g,d,t,F⟩:=s';obtain rfl:F=s.os:=J;exact⟨v,H',I.call (h':=O) (g':=g) (d':=d) (t':=t) (ch:=[]) L D B (fun b z=>absurd z (by simp)),r,q⟩
end
def zfh (sp:Sp)(dvs:List V)(E:XK)(t:TA):TE:=fun σ H Q=>t σ H fun vs H1=>sp (vs++dvs) H1 Q E
def zg9 (K:PySem.W.Frag)(fd:FuncData)(ps:List Str)(ds:List Value):Prop:=
 ∀ (s:Shared) (q:List Value),K.In s.heap->(q++ds).length=ps.length->BindsTo s fd ⟨q,[]⟩ (ps.zip (q++ds))
theorem zg9.all {K:PySem.W.Frag}{fd:FuncData}{ps:List Str}(h:∀q:List Value,q.length=ps.length->bindArgs fd ⟨q,[]⟩=pure (ps.zip q)):zg9 K fd ps []:=fun s q _ B=>by rw[cy] at B ⊢;exact .of_eq (h q B)
def zhF (CX:CXT)(X:Cx)(E:XK):Prop:=∀ (pins:List (Addr×Obj)) (σ:St) (H:Hp) (s:Shared) (e:Value) (s':Shared),Inv X pins σ H s->CX X.stack H s E e s'->X.xe e s'
section
variable {X:Cx}{CX:CXT}{k:Nat}{f C:Addr}{fd:FuncData}{ps:List Str}{sp:Sp}{dvs:List V}{ds:List Value}{E:XK}{x m:Str}{p pos apos:Pos}{e o:Expr}{es:List Expr}{ta:TE}{t:TA}
theorem zrm {pins:List (Addr×Obj)}{σ:St}{H:Hp}{s:Shared}{Q:VK}{q:List Value}{vs:List V}(F:FnOk X.prog X.w X.K X.mg X.base CX k f fd ps sp)(J:Room k X.A)(L:zg9 X.K fd ps ds)(O:ya dvs ds)(U:zhF CX X E)
  (I:Inv X pins σ H s) (r:ya vs q) (h:sp (vs++dvs) H Q E):wpAny (model X.prog X.w) X.A (call (.ref f) q) (EP X pins σ Q) X.xe s:=by
 have D:ya (vs++dvs) (q++ds):=r.append O;have Y:(q++ds).length=ps.length:=by rw[<- D.length];exact F.len _ _ _ _ h
 refine wpAny_call (dJ (F.run X.A X.stack s H ⟨q,[]⟩ (q++ds) (vs++dvs) Q E J I.env0 (L s q I.kIn Y) D h) fun r s' B=>?_)
 cases r with
 | error e=>exact U pins σ H s e s' I B
 | ok fl=>
  cases fl with
  | ret u=>exact I.after B
  | next=>exact False.elim B
  | brk=>exact False.elim B
  | cont=>exact False.elim B
theorem znZ (F:FnOk X.prog X.w X.K X.mg X.base CX k f fd ps sp)(J:Room k X.A)(L:Gl X x)(O:X.mg x=some (.ref f))(U:PySem.W.keepIn X.K (.ref f)=true)(Y:zg9 X.K fd ps ds)(Z:ya dvs ds)(hx:zhF CX X E)
  (ha:PA X (e::es) t) (B:(x==("__debug__" : Str))=false:=by decide) (he:starEach (e::es) X.env=(false,eval e X.env)::starEach es X.env:=by rfl) (D:(backTo pos (starEach es X.env)).any (·.1)=false:=by rfl) :
  PE X (.Call (.Name x p) (e::es) [] pos) (zfh sp dvs E t):=by
 intro pins s σ H Q I h;refine dn (znx I L O ?_ B);refine PySem.W.callWith_K (h₀:=X.base) I.ok.mod.kin U (thn (ha pos pins s σ H _ I h) fun us s1 ⟨vs,H1,I1,r,q⟩=>⟨I1.kIn,?_⟩) he D;exact zrm F J Y Z hx I1 r q
end
section
variable {X:Cx}{CX:CXT}{k:Nat}{f C:Addr}{fd:FuncData}{ps ks:List Str}{sp:Sp}{E:XK}{x m:Str}{p pos apos kpos:Pos}{e o:Expr}{es:List Expr}{kws:List Keyword}{te ta:TE}{t tk:TA}{nm:Option Str}
variable {g:List Value->List Value->List Value}{gV:List V->List V->List V}
end
structure FnScope (N P:List Str)(sc:Scope):Prop where
 kind:sc.kind = .function
 co:sc.isCoroutine=false
 gen:sc.isGenerator=false
 nd:N.Nodup
 pre:N.take P.length=P
 par:∀x∈P,sc.names.lookup x=some .local\/sc.names.lookup x=some .cell
 nofree:∀y∈sc.names,y.2≠.free
theorem zeu {B:Str->Option NameKind}{x:Str}:∀ {q:List (Str×Value)} {m:Str->Option Value},(∀v,(x,v)∉q)->bindL B q m x=m x
 | [],_,_=>rfl
 | (n,v)::r,m,h=>by
  unfold bindL;rw[zeu fun w D=>h w (am _ D)];split
  ·have:x≠n:=by rintro rfl;exact h v ao
   simp[this]
  ·rfl
theorem zes {B:Str->Option NameKind}{x:Str}:∀ {q:List (Str×Value)} {m:Str->Option Value},(∀v,(x,v)∉q)->bindC B q m x=m x
 | [],_,_=>rfl
 | (n,v)::r,m,h=>by
  unfold bindC;rw[zes fun w D=>h w (am _ D)];split
  ·rfl
  ·have:x≠n:=by rintro rfl;exact h v ao
   simp[this]
theorem zet {q:Str->Option NameKind}{x:Str}{v:Value}:∀ {P:List Str} {vs:List Value} {i:Nat} {m:Str->Option Value},P.Nodup->P[i]?=some x->vs[i]?=some v->q x=some .local->
  bindL q (P.zip vs) m x=some v
 | [],_,_,_,_,h,_,_=>by simp at h
 | _::_,[],_,_,_,_,h,_=>by simp at h
 | p::P,w::vs,0,m,B,h1,h2,D=>by simp at h1 h2;subst h1;subst h2;show bindL q ((p,w)::P.zip vs) m p=_;unfold bindL;rw[zeu fun v F=>(cb.mp B).1 (List.of_mem_zip F).1,if_pos D];simp
 | p::P,w::vs,i+1,m,B,h1,h2,D=>by show bindL q ((p,w)::P.zip vs) m x=_;unfold bindL;exact zet (i:=i) (cb.mp B).2 (by simpa using h1) (by simpa using h2) D
theorem zer {q:Str->Option NameKind}{x:Str}{v:Value}:∀ {P:List Str} {vs:List Value} {i:Nat} {m:Str->Option Value},P.Nodup->P[i]?=some x->vs[i]?=some v->q x≠some .local->
  bindC q (P.zip vs) m x=some v
 | [],_,_,_,_,h,_,_=>by simp at h
 | _::_,[],_,_,_,_,h,_=>by simp at h
 | p::P,w::vs,0,m,B,h1,h2,D=>by simp at h1 h2;subst h1;subst h2;show bindC q ((p,w)::P.zip vs) m p=_;unfold bindC;rw[zes fun v F=>(cb.mp B).1 (List.of_mem_zip F).1,if_neg D];simp
 | p::P,w::vs,i+1,m,B,h1,h2,D=>by show bindC q ((p,w)::P.zip vs) m x=_;unfold bindC;exact zer (i:=i) (cb.mp B).2 (by simpa using h1) (by simpa using h2) D
def xg (N:List Str)(vs:List V):St:=vs.map some++List.replicate (N.length - vs.length) none
def zdB (CX:CXT)(P:Program)(w:World)(K:PySem.W.Frag)(mg:Str->Option Value)(base:Heap)(N:List Str)(qual:Str)(scope:Scope)(f:Addr)(cd:Value)(A:Around)(outer:List Env)(s:Shared)(H:Hp)(E:XK):Cx where
 prog:=P
 w:=w
 K:=K
 mg:=mg
 base:=base
 A:=A.deeper (envOfC qual scope s.heap.objs.size f cd)
 N:=N
 s₀:=s
 H₀:=H
 env:=envOfC qual scope s.heap.objs.size f cd
 outer:=outer
 stack:=envOfC qual scope s.heap.objs.size f cd::outer
 ex:=[]
 calm:=true
 fn:=fun _=>true
 pn:=[]
 xe:=fun e s'=>wpAny (model P w) (A.deeper (envOfC qual scope s.heap.objs.size f cd)) (leaving (envOfC qual scope s.heap.objs.size f cd) e) (fun _ s''=>CX outer H s E e s'') (fun e' s''=>CX outer H s E e' s'') s'
theorem zgs {B:Scope}{n:Nat}{x:Str}(h:B.names.lookup x=some .cell):∃c,(cellsFrom n B.names []).lookup x=some c:=by have q:=PySem.W.cellsFrom_some B.names n [] (.inl h);exact Option.isSome_iff_exists.mp q
theorem ziD {CX:CXT}{P:Program}{w:World}{K:PySem.W.Frag}{mg:Str->Option Value}{base:Heap}{N ps:List Str}{qual:Str}{scope:Scope}{f:Addr}{cd:Value}{A:Around}{outer:List Env}{s s1:Shared}{H:Hp}{E:XK}{us:List Value}{vs:List V}
  (S:FnScope N ps scope) (hd:A.handled=none) (e0:Env0 P w K mg base A outer s H) (hl:vs.length=ps.length) (r:ya vs us)
  (x:InCallC s s.heap.objs.size (bindL (envOfC qual scope s.heap.objs.size f cd).kindOf (ps.zip us) fun _=>none) (cellsFrom (s.heap.objs.size+1) scope.names []) (bindC (envOfC qual scope s.heap.objs.size f cd).kindOf (ps.zip us) fun _=>none) s1) :
  Inv (zdB CX P w K mg base N qual scope f cd A outer s H E) [] (xg N vs) H s1:=by
 have hpl:ps.length<=N.length:=by have:=congrArg List.length S.pre;rw[aN] at this;lia
 obtain⟨h1,tk,rfl,hk⟩:=x.done;have noA:∀b:Addr,b∉(zdB CX P w K mg base N qual scope f cd A outer s H E).ex:=fun b z=>absurd (show b∈([]:List Addr) from z) (by simp)
 refine⟨⟨e0.mod,S.kind,rfl,rfl,ag _,fun y z c h1 h2=>?_,fun y hy=>?_,fun y c _ h=>?_,fun _=>hd,Around.frames_deeper e0.frames,.inr ⟨rfl,rfl⟩,fun b z=>absurd z (noA b),e0.bs,e0.bsz,fun b _ _=>noA b,fun b z=>absurd z (noA b),e0.funs,e0.frf⟩,
  rfl,e0.bare,Un.kept hk,⟨_,x.toInCall.ns,fun i y v h1 h2 h3=>?_⟩,fun y c h=>⟨_,x.cell y c h⟩,e0.hok.fresh (ag _),fun y c h=>?_,fun p hp=>absurd (show p∈([]:List (Addr×Obj)) from hp) (by simp),e0.hok.kept hk,?_⟩
 ·exact name_of_addr x.apart (cP h1) (cP h2)
 ·have hy:scope.names.lookup y=some .cell\/scope.names.lookup y=some .free:=hy;rcases hy with hy | hy
  ·exact zgs hy
  ·exact absurd rfl (S.nofree _ (cP hy))
 ·exact cv (x.above y c (cP h))
 ·have hi:i<vs.length:=by
   unfold xg at h2;by_cases hi:i<vs.length
   ·exact hi
   ·rw[bc (by simpa using hi)] at h2;rw[List.getElem?_replicate] at h2;split at h2 <;> cases h2
  have ha:vs[i]?=some v:=by
   unfold xg at h2;rw[a9 (by simpa using hi),au] at h2
   cases e:vs[i]? with
   | none=>rw[e] at h2;cases h2
   | some a=>rw[e] at h2;cases h2;rfl
  obtain⟨u,hu,rv⟩:=r.get ha
  have hp:ps[i]?=some y:=by rw[<- S.pre,dh (by lia)];exact h1
  have ndP:ps.Nodup:=by rw[<- S.pre];exact S.nd.sublist (dA _ _)
  refine⟨u,rv,?_⟩;rcases S.par y (aG hp) with k | k
  ·exact .inl ⟨k,zet ndP hp hu k⟩
  ·obtain⟨c,e⟩:=zgs (n:=s.heap.objs.size+1) k;refine .inr ⟨.inl k,c,e,?_⟩;have q:=x.cell y c e;rw[zer ndP hp hu (by show scope.names.lookup y≠_;rw[k];decide)] at q;exact q
 ·exact e0.hok.fresh (cv (x.above y c (cP h)))
 ·unfold xg;show _=N.length;rw[ai,ab,dL];lia
theorem zsP {CX:CXT}{P:Program}{w:World}{K:PySem.W.Frag}{mg:Str->Option Value}{base:Heap}{k:Nat}{f:Addr}{name qual:Str}{params:Arguments}{body:List Stmt}{scope:Scope}{dV kV doc pm cdv ct oc:Value}{an od:Option Addr}
  {osl:Array (Option Value)} {N ps:List Str} {sp:Sp} (lk:K.lookup f=some ⟨oc,od,.func (PySem.W.fnOf name qual params body scope dV kV doc pm an cdv ct),osl⟩) (hcd:PySem.W.codeIn K cdv qual=true) (S:FnScope N ps scope)
  (len:∀vs H Q E,sp vs H Q E->vs.length=ps.length)
  (hbody:∀ (A:Around) (outer:List Env) (s:Shared) (H:Hp) (vs:List V) (Q:VK) (E:XK),Room k (A.deeper (envOfC qual scope s.heap.objs.size f cdv))->sp vs H Q E->
   ∃t,PSs (zdB CX P w K mg base N qual scope f cdv A outer s H E) body t/\t { nx:=fun _ H'=>Q .non H',rt:=Q } (xg N vs) H) :
  FnOk P w K mg base CX (k+1) f (PySem.W.fnOf name qual params body scope dV kV doc pm an cdv ct) ps sp:=by
 refine⟨len,fun A outer s H args us vs Q E hr e0 hb r hsp=>?_⟩;have hl:=len _ _ _ _ hsp;have KX:K.In s.heap:=e0.mod.kin.keeps fun b o e=>(e0.bs b o e).1;have lim:s.heap.NoLimit:=e0.mod.nolimit.keeps fun b o e=>(e0.bs b o e).1
 have hkind:∀y∈ps.zip us,scope.names.lookup y.1=some .local\/(scope.names.lookup y.1=some .cell/\((cellsFrom (s.heap.objs.size+1) scope.names []).lookup y.1).isSome=true):=by
  rintro⟨n,v⟩ hy;rcases S.par n (List.of_mem_zip hy).1 with q | q
  ·exact .inl q
  ·exact .inr ⟨q,PySem.W.cellsFrom_some _ _ _ (.inl q)⟩
 refine codeAny_call_function hr.depth (KX _ _ lk) rfl S.co S.gen rfl (PySem.W.codeRec_of KX hcd) (hb _ _ _ _ ?_);refine wpAny_newFunctionEnv_cells S.kind hkind fun env he s1 x=>?_;subst he;refine⟨lim.keeps x.toInCall.keep,codeAny_func ?_⟩;obtain⟨t,ht,hq⟩:=hbody A outer s H vs Q E (hr.deeper _) hsp;have I:Inv (zdB CX P w K mg base N qual scope f cdv A outer s H E) [] (xg N vs) H s1:=ziD S hr.hd e0 hl r x;refine aX (ht [] s1 (xg N vs) H _ I hq) (fun fl s' hs=>?_) fun e s' hs=>hs
 have fin:∀ {σ':St} {H':Hp} {v:V} {u:Value},Inv (zdB CX P w K mg base N qual scope f cdv A outer s H E) [] σ' H' s'->yF v u->Q v H'->CE outer P w H s Q u s':=
  fun {σ' H' v u} J rv q=>⟨v,H',J.os,J.bare,J.base,J.hok,rv,q⟩
 cases fl with
 | ret u=>
  obtain⟨v,σ',H',J,rv,q⟩:=hs;exact fin J rv q
 | next=>
  obtain⟨σ',H',J,q⟩:=hs;exact fin (v:=V.non) (u:=Value.none) J rfl q
 | brk=>
  obtain⟨_,_,_,q⟩:=hs;exact False.elim q
 | cont=>
  obtain⟨_,_,_,q⟩:=hs;exact False.elim q
section
variable {X:Cx}{x:Str}{p pos:Pos}{e:Expr}{es:List Expr}{t:TA}{id T:String}{r:List V->Hp->VK->Prop}
def tCB (r:List V->Hp->VK->Prop)(t:TA):TE:=fun σ H Q=>t σ H fun vs H1=>r vs H1 Q
theorem zln (D:zcN X (.builtin id) r)(F:Gl X x)(J:X.mg x=none)(L:bootBuiltins x=some (.builtin id))(O:PA X (e::es) t)(U:x ≠ "__name__" := by decide)(q:(x==("__debug__" : Str))=false:=by decide)
  (Y:starEach (e::es) X.env=(false,eval e X.env)::starEach es X.env:=by rfl) (B:(backTo pos (starEach es X.env)).any (·.1)=false:=by rfl):PE X (.Call (.Name x p) (e::es) [] pos) (tCB r t):=by
 intro pins s σ H Q I h;refine dn (zcg I F J L ?_ U q);exact PyProof.Rows.callWith_builtin1 (thn (O pos pins s σ H _ I h) <| by rintro Z s1 ⟨vs,H1,I1,r1,q1⟩;exact D pins s1 σ H1 vs Z Q I1 r1 q1) Y B
theorem zjA (D:zcN X (.type T) r)(F:Gl X x)(J:X.mg x=none)(L:bootBuiltins x=some (.type T))(O:PA X (e::es) t)(U:x ≠ "__name__" := by decide)(q:(x==("__debug__" : Str))=false:=by decide)
  (Y:starEach (e::es) X.env=(false,eval e X.env)::starEach es X.env:=by rfl) (B:(backTo pos (starEach es X.env)).any (·.1)=false:=by rfl):PE X (.Call (.Name x p) (e::es) [] pos) (tCB r t):=by
 intro pins s σ H Q I h;refine dn (zcg I F J L ?_ U q);exact cx (thn (O pos pins s σ H _ I h) <| by rintro Z s1 ⟨vs,H1,I1,r1,q1⟩;exact D pins s1 σ H1 vs Z Q I1 r1 q1) Y B
theorem zhr (B:zcN X (.type T) r)(D:Gl X x)(F:X.mg x=none)(J:bootBuiltins x=some (.type T))(L:x ≠ "__name__" := by decide)(q:(x==("__debug__" : Str))=false:=by decide) :
  PE X (.Call (.Name x p) [] [] pos) (tCB r zkb):=by
 intro pins s σ H Q I h;refine dn (zcg I D F J ?_ L q);exact PyProof.Rows.callWith_type0 (B pins s σ H [] [] Q I .nil h)
end
section
variable {κ:Type}[DecidableEq κ]
def zaZ (kvs:List (κ×V))(k:κ):Option V:=(kvs.find? fun kv=>decide (kv.1=k)).map (·.2)
def zam (kvs:List (κ×V))(k:κ)(v:V):List (κ×V):=
 if (kvs.any fun kv=>decide (kv.1=k))=true then kvs.map (fun kv=>if kv.1=k then (kv.1,v) else kv) else kvs++[(k,v)]
theorem xk {p:κ×V}{r:List (κ×V)}{k:κ}(e:p.1=k):zaZ (p::r) k=some p.2:=by simp[zaZ,bI,e]
theorem xE {p:κ×V}{r:List (κ×V)}{k:κ}(e:¬ p.1=k):zaZ (p::r) k=zaZ r k:=by simp[zaZ,bI,e]
theorem zei (k:κ):∀kvs:List (κ×V),(kvs.any fun kv=>decide (kv.1=k))=(zaZ kvs k).isSome
 | []=>rfl
 | p::r=>by
  rw[cq];by_cases e:p.1=k
  ·simp only[xk e,aL e,Bool.true_or,Option.isSome_some]
  ·rw[xE e,aO e,Bool.false_or];exact zei k r
theorem xJ (kvs:List (κ×V))(k:κ)(v:V):(zam kvs k v).length<=kvs.length+1:=by
 unfold zam;split
 ·rw[ab];lia
 ·rw[ai,aS,List.length_nil];lia
theorem zlA {kvs:List (κ×V)}{k:κ}(v:V)(h:zaZ kvs k=none):zam kvs k v=kvs++[(k,v)]:=by unfold zam;rw[zei,h];exact if_neg (by decide)
theorem zha.isSome_eq {o:Option V}{u:Option Value}(r:zha o u):o.isSome=u.isSome:=by
 cases o with
 | none=>cases u with
  | none=>rfl
  | some _=>exact (show False from r).elim
 | some _=>cases u with
  | none=>exact (show False from r).elim
  | some _=>rfl
theorem zha.getD {o:Option V}{u:Option Value}{d:V}{d':Value}(r:zha o u)(q:yF d d'):yF (o.getD d) (u.getD d'):=by
 cases o with
 | none=>cases u with
  | none=>exact q
  | some _=>exact (show False from r).elim
 | some _=>cases u with
  | none=>exact (show False from r).elim
  | some _=>exact r
theorem KV.val {kvs:List (κ×V)}{vs:List (κ×Value)}(r:KV kvs vs)(k:κ):zha (zaZ kvs k) (valueAt vs k):=by
 unfold KV at r
 induction r with
 | nil=>exact True.intro
 | @cons p q ps B h t F=>
  obtain⟨h1,h2⟩:=h;by_cases e:p.1=k
  ·have D:q.1=k:=h1.symm.trans e;have b:valueAt (q::B) k=some q.2:=by simp[valueAt,bI,D]
   rw[xk e,b];exact h2
  ·have D:¬ q.1=k:=fun z=>e (h1.trans z);have b:valueAt (q::B) k=valueAt B k:=by simp[valueAt,bI,D]
   rw[xE e,b];exact F
theorem KV.any {kvs:List (κ×V)}{vs:List (κ×Value)}(r:KV kvs vs)(k:κ):(kvs.any fun kv=>decide (kv.1=k))=vs.any fun kv=>decide (kv.1=k):=by
 unfold KV at r
 induction r with
 | nil=>rfl
 | cons h t q=>rw[cq,cq,q,h.1]
theorem KV.repl {kvs:List (κ×V)}{vs:List (κ×Value)}(r:KV kvs vs)(k:κ){y:V}{u:Value}(B:yF y u) :
  KV (kvs.map fun kv=>if kv.1=k then (kv.1,y) else kv) (vs.map fun kv=>if kv.1=k then (kv.1,u) else kv):=by
 unfold KV at r ⊢
 induction r with
 | nil=>exact .nil
 | @cons p q ps F h t D=>
  rw[aq,aq];refine .cons ?_ D;obtain⟨h1,h2⟩:=h;by_cases e:p.1=k
  ·rw[if_pos e,if_pos (h1.symm.trans e)];exact⟨h1,B⟩
  ·rw[if_neg e,if_neg (fun z=>e (h1.trans z))];exact⟨h1,h2⟩
theorem KV.put {kvs:List (κ×V)}{vs:List (κ×Value)}(r:KV kvs vs)(k:κ){y:V}{u:Value}(q:yF y u):KV (zam kvs k y) (stored vs k u):=by
 unfold zam stored;rw[r.any k];by_cases e:(vs.any fun kv=>decide (kv.1=k))=true
 ·rw[if_pos e,if_pos e];exact r.repl k q
 ·rw[if_neg e,if_neg e];exact Paired.snoc r ⟨rfl,q⟩
theorem KV.length {kvs:List (κ×V)}{vs:List (κ×Value)}(r:KV kvs vs):kvs.length=vs.length:=fw r
end
theorem zhk {P:Program}{w:World}{k:Key}{u:Value}(r:yF (kV k) u):(zR P w).is k u=true:=by
 cases k with
 | inl i=>obtain⟨t,e⟩:=(show ∃t,u=Value.int i t from r);subst e;exact zfY P w i t
 | inr x=>obtain⟨t,e⟩:=(show ∃t,u=Value.str x t from r);subst e;exact zfZ P w x t
theorem zeN {P:Program}{w:World}:∀ {ks:List Key} {q:List Value},ya (ks.map kV) q->ItemsAre (zR P w) ks q
 | [],_,r=>by rw[dM] at r;cases r;exact .nil
 | k::ks,_,r=>by
  rw[aq] at r
  cases r with
  | cons h t=>exact .cons (zhk h) (zeN t)
abbrev KT (H:Hp):List (List Key×V)->List (List Key×Addr×Value)->Prop:=Paired fun p q=>p.1=q.1/\H q.2.1=some (.tup (p.1.map kV))/\yF p.2 q.2.2
theorem KT.val {H:Hp}{kvs:List (List Key×V)}{xs:List (List Key×Addr×Value)}(r:KT H kvs xs)(k:List Key):zha (zaZ kvs k) ((atKey xs k).map (·.2)):=by
 induction r with
 | nil=>exact True.intro
 | @cons p q ps B h t F=>
  obtain⟨h1,_,h2⟩:=h;by_cases e:p.1=k
  ·have D:q.1=k:=h1.symm.trans e;have b:atKey (q::B) k=some q.2:=by simp[atKey,bI,D]
   rw[xk e,b];exact h2
  ·have D:¬ q.1=k:=fun z=>e (h1.trans z);have b:atKey (q::B) k=atKey B k:=by simp[atKey,bI,D]
   rw[xE e,b];exact F
theorem KT.repl {H:Hp}{kvs:List (List Key×V)}{xs:List (List Key×Addr×Value)}(r:KT H kvs xs)(k:List Key){y:V}{u:Value}(B:yF y u) :
  KT H (kvs.map fun kv=>if kv.1=k then (kv.1,y) else kv) (xs.map (putAt k u)):=by
 induction r with
 | nil=>exact .nil
 | @cons p q ps I h t D=>
  rw[aq,aq];refine .cons ?_ D;obtain⟨h1,h2,F⟩:=h;unfold putAt;by_cases e:p.1=k
  ·rw[if_pos e,if_pos (h1.symm.trans e)];exact⟨h1,h2,B⟩
  ·rw[if_neg e,if_neg (fun z=>e (h1.trans z))];exact⟨h1,h2,F⟩
theorem KT.put {H:Hp}{kvs:List (List Key×V)}{xs:List (List Key×Addr×Value)}(r:KT H kvs xs)(k:List Key){b:Addr}{y:V}{u:Value}(D:H b=some (.tup (k.map kV)))(B:yF y u) :
  KT H (zam kvs k y) (storedH xs k b u):=by
 have e:(kvs.any fun kv=>decide (kv.1=k))=(atKey xs k).isSome:=by rw[zei,(r.val k).isSome_eq,Option.isSome_map]
 unfold zam storedH;rw[e];by_cases q:(atKey xs k).isSome=true
 ·rw[if_pos q,if_pos q];exact r.repl k B
 ·rw[if_neg q,if_neg q];exact Paired.snoc r ⟨rfl,D,B⟩
theorem KT.keeps {H H':Hp}{kvs:List (List Key×V)}{xs:List (List Key×Addr×Value)}(r:KT H kvs xs)(q:∀b ys,H b=some (.tup ys)->H' b=some (.tup ys)):KT H' kvs xs:=
 Paired.mapP r fun _ _ z=>⟨z.1,q _ _ z.2.1,z.2.2⟩
section
variable {P:Program}{w:World}{H:Hp}{h:Heap}{a:Addr}
theorem zlH {u:HO}(q:HOk P w H h)(e:Rd H a u):yr P w H h a u:=e.ok q
theorem zid {kvs:List (Key×V)}(q:HOk P w H h)(e:Rd H a (.dK kvs)):kvs.length<=sizeLine/\(a==sysModules)=false/\∃vs,KV kvs vs/\h.DictOf (zR P w) a vs:=
 show yr P w H h a (.dK kvs) from zlH q e
theorem zmZ {kvs:List (Key×V)}(q:HOk P w H h)(e:H a=some (.dK kvs)):kvs.length<=sizeLine/\(a==sysModules)=false/\∃vs,KV kvs vs/\h.DictOf (zR P w) a vs:=zid q (.inl e)
theorem zeQ {ks:List Key}(q:HOk P w H h)(e:H a=some (.tup (ks.map kV))):(tupleKind (zR P w)).is h ks a:=by obtain⟨_,its,r,o,h1,h2,⟨n,B⟩,_⟩:=(show yr P w H h a (.tup (ks.map kV)) from q a _ e);exact⟨o,its.toArray,n,h1,h2,B,by simpa using zeN r⟩
theorem zie {kvs:List (List Key×V)}(D:HOk P w H h)(e:Rd H a (.dT kvs)):kvs.length<=sizeLine/\(a==sysModules)=false/\
  ∃xs,KT H kvs xs/\h.DictOfH (tupleKind (zR P w)) a xs:=by
 obtain⟨z,y,xs,r,o,es,I,h1,h2,J,L,O⟩:=(show yr P w H h a (.dT kvs) from zlH D e);refine⟨z,y,xs,r,o,es,I,h1,h2,J,L,fun x B=>?_,O⟩
 have all:∀ {l:List (List Key×V)} {m:List (List Key×Addr×Value)},KT H l m->∀x∈m,(tupleKind (zR P w)).is h x.1 x.2.1:=by
  intro l m q
  induction q with
  | nil=>intro x B;exact nomatch B
  | @cons p q ps Y F t U=>
   intro x B;rcases aE.mp B with e | B
   ·subst e;exact zeQ D (by rw[<- F.1];exact F.2.1)
   ·exact U x B
 exact all r x B
theorem zpJ {kvs:List (List Key×V)}(q:HOk P w H h)(e:H a=some (.dT kvs)):kvs.length<=sizeLine/\(a==sysModules)=false/\
  ∃xs,KT H kvs xs/\h.DictOfH (tupleKind (zR P w)) a xs:=zie q (.inl e)
end
def zbQ (H:Hp)(a:Addr)(y:V)(r:Option V):Prop:=
 (∃kvs k,Rd H a (.dK kvs)/\y=kV k/\r=zaZ kvs k)\/∃kvs k b,Rd H a (.dT kvs)/\y = .ref b/\H b=some (.tup (k.map kV))/\r=zaZ kvs k
def zek (H:Hp)(a:Addr)(y v:V)(H':Hp):Prop:=
 (∃kvs k,H a=some (.dK kvs)/\y=kV k/\kvs.length<sizeLine/\H'=upd H a (.dK (zam kvs k v)))\/
 ∃kvs k b,H a=some (.dT kvs)/\y = .ref b/\H b=some (.tup (k.map kV))/\kvs.length<sizeLine/\H'=upd H a (.dT (zam kvs k v))
theorem zbQ.k {H:Hp}{a:Addr}{kvs:List (Key×V)}{k:Key}(e:H a=some (.dK kvs)):zbQ H a (kV k) (zaZ kvs k):=.inl ⟨kvs,k,.inl e,rfl,rfl⟩
theorem zbQ.t {H:Hp}{a b:Addr}{kvs:List (List Key×V)}{k:List Key}(e:H a=some (.dT kvs))(q:H b=some (.tup (k.map kV))):zbQ H a (.ref b) (zaZ kvs k):=.inr ⟨kvs,k,b,.inl e,rfl,q,rfl⟩
theorem zek.k {H:Hp}{a:Addr}{kvs:List (Key×V)}{k:Key}{v:V}(e:H a=some (.dK kvs))(q:kvs.length<sizeLine):zek H a (kV k) v (upd H a (.dK (zam kvs k v))):=.inl ⟨kvs,k,e,rfl,q,rfl⟩
theorem zek.t {H:Hp}{a b:Addr}{kvs:List (List Key×V)}{k:List Key}{v:V}(e:H a=some (.dT kvs))(q:H b=some (.tup (k.map kV)))(B:kvs.length<sizeLine) :
  zek H a (.ref b) v (upd H a (.dT (zam kvs k v))):=.inr ⟨kvs,k,b,e,rfl,q,B,rfl⟩
section
variable {X:Cx}{pins:List (Addr×Obj)}{σ:St}{H:Hp}{s:Shared}{a:Addr}{y v:V}{u r:Value}{o:Option V}{A:Around}{E:Value->Shared->Prop}
theorem Inv.big (I:Inv X pins σ H s):sysModules<s.heap.objs.size:=by have h:mainGlobals<s.heap.objs.size:=(I.mod.glob.keeps I.bk).lt;exact bJ (by decide) h
theorem zh6 {Q:Value->Shared->Prop}(O:A.units+1<cLine)(I:Inv X pins σ H s)(g:zbQ H a y (some v))(L:yF y u)(h:∀w' s',Inv X pins σ H s'->yF v w'->Q w' s') :
  wpAny (model X.prog X.w) A (getItem (.ref a) u) Q E s:=by
 rcases g with ⟨kvs,k,e,ey,l⟩ | ⟨kvs,k,b,e,ey,eb,l⟩
 ·subst ey;obtain⟨z,U,vs,q,D⟩:=zid I.hok e;obtain⟨w',F,B⟩:=zha.some_of (v:=v) (o:=valueAt vs k) (by rw[l];exact q.val k);exact wpAny_getItem_of (zhk L) D.mapOf F (h w' _ (I.tok _) B)
 ·subst ey;cases (show u=Value.ref b from L);obtain⟨z,U,xs,q,D⟩:=zie I.hok e;obtain⟨w',F,B⟩:=zha.some_of (v:=v) (o:=(atKey xs k).map (·.2)) (by rw[l];exact q.val k);obtain⟨p,Y,J⟩:=aI.mp F;refine wpAny_getItem_heap (eL O) (zeQ I.hok eb) D Y ?_;rw[J];exact h w' _ (I.tok _) B
theorem zbZ {h':Heap}{t':Nat}{B:HO}(I:Inv X pins σ H s)(F:Mut (H a))(J:Heap.SameBut a s.heap h')(L:∃q,h'.get? a=some q)(D:yr X.prog X.w (upd H a B) h' a B) :
  Inv X pins σ (upd H a B) { s with heap:=h',toks:=t' }:=
 I.write (x:=a) (e:=a) F (.inl rfl) (fun b q O z=>(J.2 b O).trans z) L D
theorem zic {P:Program}{w:World}{H':Hp}{h':Heap}{kvs:List (Key×V)}{vs:List (Key×Value)}(z:kvs.length<=sizeLine)(B:(a==sysModules)=false)(q:KV kvs vs)(D:h'.DictOf (zR P w) a vs) :
  yr P w H' h' a (.dK kvs):=⟨z,B,vs,q,D⟩
theorem zh7 {H':Hp}{Q:Unit->Shared->Prop}(hu:A.units+1<cLine)(I:Inv X pins σ H s)(g:zek H a y v H')(Z:yF y u)(rv:yF v r)(h:∀s',Inv X pins σ H' s'->Q () s') :
  wpAny (model X.prog X.w) A (setItem (.ref a) u r) Q E s:=by
 rcases g with ⟨kvs,k,e,ey,l,eH⟩ | ⟨kvs,k,b,e,ey,eb,l,eH⟩
 ·subst ey eH;obtain⟨z,J,vs,B,L⟩:=zmZ I.hok e;have O:vs.length<=sizeLine:=by rw[<- B.length];exact z
  have U:(zam kvs k v).length<=sizeLine:=by have:=xJ kvs k v;lia
  refine wpAny_setItem_pairs (hsz:=O) (zhk Z) L fun h' D Y=>h _ ?_;have he:∃q,h'.get? a=some q:=let ⟨q,_,_,F,_⟩:=D;⟨q,F⟩;exact zbZ I (by rw[e];exact True.intro) Y he (zic U J (B.put k rv) D)
 ·subst ey eH;cases (show u=Value.ref b from Z);obtain⟨z,J,xs,B,L⟩:=zpJ I.hok e;have O:xs.length<=sizeLine:=by rw[<- fw B];exact z
  have U:(zam kvs k v).length<=sizeLine:=by have:=xJ kvs k v;lia
  refine wpAny_setItem_heap (hsz:=O) (eL hu) (zeQ I.hok eb) L fun h' D Y=>h _ ?_;obtain⟨q,es,ep,F,h2,h3,h4,_,h5⟩:=D;refine zbZ I (by rw[e];exact True.intro) Y ⟨q,F⟩ ⟨U,J,_,(B.put k eb rv).keeps fun c ys ec=>?_,q,es,ep,F,h2,h3,h4,h5⟩;rw[ze (zf0 ec e (fun z=>nomatch z))];exact ec
end
section
variable {X:Cx}{pins:List (Addr×Obj)}{σ:St}{H:Hp}{s:Shared}{a:Addr}{kvs:List (Key×V)}{k:Key}{u:Value}{A:Around}{E:Value->Shared->Prop}
end
def zpn (i:Expr):Prop:=∀q B,subscripted i false q B=operate [q,B] (getItem q B)
theorem zoX {prog:Program}{w:World}{A:Around}{E:Value->Shared->Prop}{s:Shared}{env:Env}{value q:Expr}{pos:Pos}{T id:String}{Q:Value->Shared->Prop}
  (O:typeLookup (.type T) "__getitem__" = pure (some (.builtin id))) (U:zpn q)
  (h:wpAny (model prog w) A (eval value env) (fun o F=>wpAny (model prog w) A (eval q env) (fun i B=>B.TypeIs o T/\wpAny (model prog w) A (getItem o i) Q E B) E F) E s) :
  wpAny (model prog w) A (eval (.Subscript value q pos) env) Q E s:=by
 refine Subscript_ (aX h (fun o F h₁=>aX h₁ (fun i B D=>?_) fun _ _ x=>x) fun _ _ x=>x);obtain⟨L,D⟩:=D;unfold subscriptTail;refine aa ?_;rw[getitemInPython_of_ne L.not_modules];refine aa (wpAny_specialOf L O ?_)
 have fin:wpAny (model prog w) A (subscripted q false o i) (fun r I=>wpAny (model prog w) A (letTemporaryGo value o r >>= fun _=>pure r) Q E I) E B:=by rw[U o i];exact wpAny_operating (aX D (fun r I J=>aa (wpAny_letTemporaryGo (ac J))) fun _ _ x=>x)
 first
  | exact ac (aa fin)
  | exact aa (ac (aa fin))
  | exact aa fin
theorem zfB {X:Cx}{pins:List (Addr×Obj)}{σ:St}{H:Hp}{s:Shared}{a:Addr}{y:V}{o:Option V}(I:Inv X pins σ H s)(g:zbQ H a y o):s.TypeIs (.ref a) "dict" := by
 rcases g with ⟨kvs,k,e,_,_⟩ | ⟨kvs,k,b,e,_,_,_⟩
 ·obtain⟨_,_,vs,_,q⟩:=zid I.hok e;exact q.typeIs
 ·obtain⟨_,_,xs,_,q⟩:=zie I.hok e;exact q.typeIs
def zrs (td ty:TE):TE:=fun σ H Q=>td σ H fun x H1=>ty σ H1 fun y H2=>∃a v,x = .ref a/\zbQ H2 a y (some v)/\Q v H2
def zrn (td ty tv:TE):TS:=fun D σ H=>tv σ H fun v H1=>td σ H1 fun x H2=>ty σ H2 fun y H3=>∃a H4,x = .ref a/\zek H3 a y v H4/\D.nx σ H4
section
variable {X:Cx}{o i e value:Expr}{pos pos' tpos:Pos}{td ty tv:TE}
theorem zn2 (B:X.A.units+1<cLine)(D:PE X o td)(hi:PE X i ty)(J:zpn i):PE X (.Subscript o i pos) (zrs td ty):=by intro pins s σ H Q I h;refine zoX PySem.F.slot_dict_getitem.lookup J (thn (D pins s σ H _ I h) fun u L ⟨x,H1,I1,O,U⟩=>thn (hi pins L σ H1 _ I1 U)  ?_);rintro iv s2 ⟨y,H2,I2,Y,a,v,ex,g,Z⟩;subst ex;obtain rfl:u=Value.ref a:=O;exact⟨zfB I2 g,zh6 B I2 g Y fun w' s3 I3 q=>⟨v,H2,I3,q,Z⟩⟩
theorem zof (q:X.A.units+1<cLine)(B:PE X o td)(hi:PE X i ty)(F:PE X value tv)(J:swapsWith value (some (.Subscript o i pos')) pos.line X.env=pure false) :
  PS X (.Assign [.Subscript o i pos'] value pos) (zrn td ty tv):=by
 intro pins s σ H D I h;refine wpAny_Assign_Subscript (thn (F pins s σ H _ I h) fun r L ⟨v,H1,I1,O,U⟩=>thn (B pins L σ H1 _ I1 U) fun u Y ⟨x,H2,I2,Z,q2⟩=>thn (hi pins Y σ H2 _ I2 q2) fun iv s3 ⟨y,H3,I3,ry,a,H4,ex,g,q3⟩=>?_) J;subst ex;obtain rfl:u=Value.ref a:=Z;exact zh7 q I3 g ry O fun s4 I4=>⟨σ,H4,I4,q3⟩
end
theorem zgx {P:Program}{w:World}{H:Hp}(h:Heap)(q:sysModules<h.objs.size):yr P w H (h.push { cls:=.type "dict",data:=.dict #[] }) h.objs.size (.dK []):=
 ⟨aT _,da.mpr (Ne.symm (aM q)),[],.nil,Heap.DictOf.new h⟩
theorem zgy {P:Program}{w:World}{H:Hp}(h:Heap)(q:sysModules<h.objs.size):yr P w H (h.push { cls:=.type "dict",data:=.dict #[] }) h.objs.size (.dT []):=
 ⟨aT _,da.mpr (Ne.symm (aM q)),[],.nil,_,#[],0,aK _ rfl,⟨rfl,rfl,rfl⟩,rfl,rfl,eU⟩
def zru:TE:=fun _ H Q=>∀p,H p=none->Q (.ref p) (upd H p (.dT []))
section
variable {X:Cx}{pos:Pos}
theorem zlq:PE X (.Dict [] [] pos) zru:=fun pins s σ H Q I h=>
 wpAny_Dict_empty ⟨.ref s.heap.objs.size,_,I.laid (a:=s.heap.objs.size) (o:=.dT []) (t':=s.toks) (fun _ _ q=>af _ q) (ag _) (zgy s.heap I.big),rfl,h _ (I.hok.fresh (ag _))⟩
end
def zkd:List (TE×TE)->St->Hp->(List (V×V)->Hp->Prop)->Prop
 | [],_,H,Q=>Q [] H
 | (tk,tv)::r,σ,H,Q=>tk σ H fun x H1=>tv σ H1 fun y H2=>zkd r σ H2 fun ps H3=>Q ((x,y)::ps) H3
abbrev VV:List (V×V)->List (Value×Value)->Prop:=Paired fun p q=>yF p.1 q.1/\yF p.2 q.2
def PPs (X:Cx)(pos:Pos)(B:List (Option Expr))(q:List Expr)(D:List (TE×TE)):Prop:=
 ∀ (pins:List (Addr×Obj)) (s:Shared) (σ:St) (H:Hp) (Q:List (V×V)->Hp->Prop),Inv X pins σ H s->zkd D σ H Q->
  wpAny (model X.prog X.w) X.A (evalPairs (pairTrees B q X.env pos)) (fun vs s'=>∃ps H',Inv X pins σ H' s'/\VV ps vs/\Q ps H') X.xe s
theorem zod {X:Cx}{pos:Pos}:PPs X pos [] [] []:=fun pins s σ H Q I h=>pairTrees_nil_walk ⟨[],H,I,.nil,h⟩
theorem zlx {X:Cx}{pos:Pos}{k v:Expr}{ks:List (Option Expr)}{vs:List Expr}{tk tv:TE}{q:List (TE×TE)}(D:PE X k tk)(F:PE X v tv)(J:PPs X pos ks vs q) :
  PPs X pos (some k::ks) (v::vs) ((tk,tv)::q):=fun pins s σ H Q I h=>
 pairTrees_cons_walk (thn (D pins s σ H _ I h) fun u L ⟨x,H1,I1,O,U⟩=>thn (F pins L σ H1 _ I1 U) fun w2 Y ⟨y,H2,I2,Z,q2⟩=>
  thn (J pins Y σ H2 _ I2 q2) <| by rintro ws s3 ⟨ps,H3,I3,B,q3⟩;exact⟨(x,y)::ps,H3,I3,.cons ⟨O,Z⟩ B,q3⟩)
def zcl (kvs more:List (Key×V)):List (Key×V):=more.foldl (fun acc kv=>zam acc kv.1 kv.2) kvs
theorem KV.merge:∀ {more:List (Key×V)} {B:List (Key×Value)} {kvs:List (Key×V)} {vs:List (Key×Value)},KV more B->KV kvs vs->KV (zcl kvs more) (merged vs B):=by
 intro more B kvs vs r;unfold KV at r
 induction r generalizing kvs vs with
 | nil=>intro q;exact q
 | @cons p q ps I h t D=>
  intro F
  have e:KV (zam kvs p.1 p.2) (stored vs q.1 q.2):=by have:=F.put p.1 h.2;rw[<- h.1];exact this
  exact D e
theorem zaI:∀ (more kvs:List (Key×V)),(zcl kvs more).length<=kvs.length+more.length
 | [],kvs=>by show kvs.length<=kvs.length+0;lia
 | p::r,kvs=>by have h1:=zaI r (zam kvs p.1 p.2);have h2:=xJ kvs p.1 p.2;show (zcl (zam kvs p.1 p.2) r).length<=_;rw[aS];lia
theorem zc7 {P:Program}{w:World}:∀ {kvs:List (Key×V)} {D:List (Value×Value)},VV (kvs.map fun kv=>(kV kv.1,kv.2)) D->∃B,Carries (zR P w) D B/\KV kvs B
 | [],_,r=>by rw[dM] at r;cases r;exact⟨[],True.intro,.nil⟩
 | p::kvs,_,r=>by
  rw[aq] at r
  cases r with
  | @cons a b as I h t=>
   obtain⟨B,c,q⟩:=zc7 (P:=P) (w:=w) t;obtain⟨J,F⟩:=b;exact⟨(p.1,F)::B,⟨zhk h.1,rfl,c⟩,.cons ⟨rfl,h.2⟩ q⟩
def zrv (q:List (TE×TE)):TE:=fun σ H Q=>∀p,H p=none->zkd q σ (upd H p (.dK [])) fun ps H2=>H2 p=some (.dK [])/\∃kvs:List (Key×V),ps=kvs.map (fun kv=>(kV kv.1,kv.2))/\kvs.length<=15/\Q (.ref p) (upd H2 p (.dK (zcl [] kvs)))
theorem zn3 {X:Cx}{pos:Pos}{B:List (Option Expr)}{D:List Expr}{F:List (TE×TE)}(h:PPs X pos B D F)(J:B.all (·.isSome)=true)(Y:B.length=D.length)(Z:B≠[])
  (O:B.length<=15):PE X (.Dict B D pos) (zrv F):=by
 intro pins s σ H Q I q;have hn:=I.hok.fresh (ag s.heap.objs.size);have I1:=I.laid (a:=s.heap.objs.size) (o:=.dK []) (h':=s.heap.push { cls:=.type "dict",data:=.dict #[] }) (t':=s.toks) (fun _ _ q=>af _ q) (ag _) (zgx s.heap I.big);refine wpAny_Dict_walk (knd:=zR X.prog X.w) J Y Z O (thn (h pins _ σ _ _ I1 (q _ hn))  ?_);rintro ws s2 ⟨ps,H2,I2,U,e,kvs,ep,lk,q2⟩;subst ep;obtain⟨rs,c,rk⟩:=zc7 (P:=X.prog) (w:=X.w) U;obtain⟨z,hd,ad,r0,dd⟩:=zmZ I2.hok e;cases r0;refine⟨rs,c,dd,fun h' L hs=>⟨.ref s.heap.objs.size,_,?_,rfl,q2⟩⟩
 have hz:(zcl [] kvs).length<=sizeLine:=by have h1:=zaI kvs [];rw[List.length_nil] at h1;rw[bV];lia
 have he:∃q,h'.get? s.heap.objs.size=some q:=let ⟨q,_,_,hq,_⟩:=L;⟨q,hq⟩;exact zbZ I2 (by rw[e];exact True.intro) hs he (zic hz hd (rk.merge .nil) L)
structure M2 (X:Cx)(o:Expr)(m:Str)(apos:Pos)(e f:Expr)(cpos:Pos):Prop where
 base:attributeBase o m X.env (eval o X.env)=eval o X.env
 few:((backTo cpos (starEach [e,f] X.env)).all (fun x=>!x.1)&&(backToKw cpos (keywordEach [] X.env)).all (fun x=>x.1.isSome)
  && decide (([e,f]:List Expr).length+([]:List Keyword).length+(if ([]:List Keyword).isEmpty then 0 else 1)<30))=true
 line:(apos.endLine==cpos.line)=true
 trees:backTo cpos (starEach [e,f] X.env)=[(false,eval e X.env),(false,eval f X.env)]
def IsD (H:Hp)(a:Addr):Prop:=(∃kvs,Rd H a (.dK kvs))\/∃kvs,Rd H a (.dT kvs)
theorem zpW {X:Cx}{pins:List (Addr×Obj)}{σ:St}{H:Hp}{s:Shared}{a:Addr}(I:Inv X pins σ H s)(d:IsD H a) :
  s.TypeIs (.ref a) "dict" /\ (∀b,Value.ref a = .ref b->∃B,s.heap.get? b=some B/\B.dict=none)/\(a==sysModules)=false:=by
 rcases d with ⟨kvs,e⟩ | ⟨kvs,e⟩
 ·obtain⟨_,F,vs,_,D⟩:=zid I.hok e;refine⟨D.typeIs,fun b q=>?_,F⟩;cases q;obtain⟨B,_,_,h1,h2,_⟩:=D;exact⟨B,h1,h2.2.1⟩
 ·obtain⟨_,F,xs,_,D⟩:=zie I.hok e;refine⟨D.typeIs,fun b q=>?_,F⟩;cases q;obtain⟨B,_,_,h1,h2,_⟩:=D;exact⟨B,h1,h2.2.1⟩
section
variable {X:Cx}{pins:List (Addr×Obj)}{σ:St}{H:Hp}{s:Shared}{a:Addr}{y d:V}{u r:Value}{o:Option V}{A:Around}{E:Value->Shared->Prop}
theorem zpG {Q:Value->Shared->Prop}(O:A.units+1<cLine)(I:Inv X pins σ H s)(g:zbQ H a y o)(J:yF y u)(L:yF d r)(h:∀w' s',Inv X pins σ H s'->yF (o.getD d) w'->Q w' s') :
  wpAny (model X.prog X.w) A (call (.builtin "dict.get") [.ref a,u,r]) Q E s:=by
 rcases g with ⟨kvs,k,e,ey,l⟩ | ⟨kvs,k,b,e,ey,eb,l⟩
 ·subst ey;obtain⟨z,D,vs,q,B⟩:=zid I.hok e;refine call_meetsIn dO B.typeIs PySem.F.entry_dict_get (PySem.F.args_dict_get_3 _ _ _) (meets_dict_get_default (zR X.prog X.w) a (zhk J) D r) ⟨_,B.mapOf,h _ _ (I.tok _) ?_⟩;rw[l];exact (q.val k).getD L
 ·subst ey;cases (show u=Value.ref b from J);obtain⟨z,D,xs,q,B⟩:=zie I.hok e;refine call_meetsIn dO B.typeIs PySem.F.entry_dict_get (PySem.F.args_dict_get_3 _ _ _) (meetsH_dict_get_default (tupleKind (zR X.prog X.w)) a b D r) ⟨eL O,k,xs,zeQ I.hok eb,B,h _ _ (I.tok _) ?_⟩;rw[l];exact (q.val k).getD L
end
def zrt (td ty tx:TE):TE:=fun σ H Q=>td σ H fun x H1=>∃a,x = .ref a/\IsD H1 a/\ty σ H1 fun y H2=>tx σ H2 fun z H3=>∃o,zbQ H3 a y o/\Q (o.getD z) H3
section
variable {X:Cx}{o e f:Expr}{apos cpos:Pos}{td ty tx:TE}
theorem zlp (B:X.A.units+1<cLine)(D:PE X o td)(J:PE X e ty)(L:PE X f tx)(m:M2 X o "get" apos e f cpos):PE X (.Call (.Attribute o "get" apos) [e,f] [] cpos) (zrt td ty tx):=by
 intro pins s σ H Q I h;refine wpAny_Call_method m.base m.few m.line PySem.F.plainAttrs_dict dO PySem.F.type_dict_get (thn (D pins s σ H _ I h)  ?_);rintro u O ⟨x,H1,I1,U,a,ex,d,Y⟩;subst ex;obtain rfl:u=Value.ref a:=U;obtain⟨Z,t2,_⟩:=zpW I1 d;refine⟨Z,t2,?_⟩;rw[m.trees]
 refine dy rfl (ee (eK (thn (J pins O σ H1 _ I1 Y) fun iv s2 ⟨y,H2,I2,ry,q2⟩=>
  eK (thn (L pins s2 σ H2 _ I2 q2) fun fv s3 ⟨z,H3,I3,rz,ov,g,q3⟩=>Calls.spliced_nil ?_))))
 exact zpG B I3 g ry rz fun w' s4 I4 q=>⟨_,H3,I4,q,q3⟩
end
section
variable {X:Cx}{pins:List (Addr×Obj)}{σ:St}{H:Hp}{s:Shared}{a:Addr}{kvs:List (Key×V)}{A:Around}{E:Value->Shared->Prop}
end
section
variable {X:Cx}{pins:List (Addr×Obj)}{σ:St}{H:Hp}{s:Shared}{a:Addr}{y:V}{u:Value}{A:Around}{E:Value->Shared->Prop}
end
end L2
namespace HT
open PySem PyProof.Rows
def lexLt:List Int->List Int->Bool
 | [],[]=>false
 | [],_::_=>true
 | _::_,[]=>false
 | x::xs,y::ys=>if x=y then lexLt xs ys else decide (x<y)
section
open PySem.SeqAt
open PySem.AutoSeq1 (wpAny_loadPart')
open PySem.MeetsSeq PySem.MeetsSeq2 PySem.MeetsSeq3
end
section
variable {prog:Program}{w:World}{A:Around}{E:Value->Shared->Prop}{s:Shared}
theorem cat_tup {t b:Addr}{vs q:List Value}{Q:Value->Shared->Prop}(ht:IsTup s.heap t vs.toArray)(hb:IsTup s.heap b q.toArray)(Z:vs≠[])
  (h1:q=[]->Q (.ref t) s) (h2:q≠[]->Q (.ref s.heap.objs.size) { s with heap:=s.heap.push { cls:=.type "tuple",data:=.seq (vs++q).toArray } })
  (hsz:vs.length+q.length<=sizeLine):wpAny (model prog w) A (binaryOp .Add (.ref t) (.ref b)) Q E s:=by
 obtain⟨⟨cls,dd,data,sl⟩,O,hc,n,hd⟩:=id ht;obtain⟨⟨ad,D,Y,I⟩,B,J,n2,L⟩:=id hb;simp only at hc hd J L;subst hc hd J L;have e:vs.toArray++q.toArray=(vs++q).toArray:=by simp
 by_cases U:q=[]
 ·exact concat_meets ⟨_,O,rfl⟩ ⟨_,B,rfl⟩ noFill_tuple_add seq_tuple_add PySem.F.slot_tuple_add PySem.F.entry_tuple_add (PySem.F.args_tuple_add_2 _ _)
   (tuple_addW1 t b vs.toArray q.toArray n n2 dd D sl I (by simpa using Z) (by simp[U])) ⟨O,B,h1 U⟩
 ·refine concat_meets ⟨_,O,rfl⟩ ⟨_,B,rfl⟩ noFill_tuple_add seq_tuple_add PySem.F.slot_tuple_add PySem.F.entry_tuple_add (PySem.F.args_tuple_add_2 _ _)
   (tuple_addW2 t b vs.toArray q.toArray n n2 dd D sl I (by simpa using Z) (by simpa using U) (by rw[List.size_toArray,List.size_toArray];exact hsz)) ⟨O,B,?_⟩
  rw[e];exact h2 U
def sIx (n d:Nat):Option Int->Nat
 | none=>d
 | some v=>if v<0 then (v+(n:Int)).toNat else min v.toNat n
theorem sIx_none (n d:Nat):sIx n d none=d:=rfl
theorem sIx_nat (n d k:Nat):sIx n d (some (k:Int))=min k n:=by show (if (k:Int)<0 then ((k:Int)+(n:Int)).toNat else min (k:Int).toNat n)=min k n;rw[if_neg (by lia),Int.toNat_natCast]
theorem zro (n d:Nat)(B:d<=n)(o:Option Int):sIx n d o<=n:=by
 cases o with
 | none=>exact B
 | some v=>
  show (if v<0 then (v+(n:Int)).toNat else min v.toNat n)<=n;by_cases q:v<0
  ·rw[if_pos q];lia
  ·rw[if_neg q];exact Nat.min_le_right _ _
theorem zhR (v:Int)(n d:Nat):(if v<0 then max (v+(n:Int)) 0 else min v (n:Int))=((sIx n d (some v):Nat):Int):=by
 show (if v<0 then max (v+(n:Int)) 0 else min v (n:Int))=(((if v<0 then (v+(n:Int)).toNat else min v.toNat n):Nat):Int);by_cases q:v<0
 ·simp only[if_pos q];lia
 ·simp only[if_neg q];lia
theorem zhb (lo hi:Option Int)(n:Nat):Builtin.Slice.sliceAdjust lo hi 1 (n:Int)=(((sIx n 0 lo:Nat):Int),((sIx n n hi:Nat):Int)):=by
 have h1:¬ ((1:Int)<0):=by lia
 unfold Builtin.Slice.sliceAdjust;simp only[h1,if_false];refine Prod.ext ?_ ?_
 ·cases lo with
  | none=>rfl
  | some v=>exact zhR v n 0
 ·cases hi with
  | none=>rfl
  | some v=>exact zhR v n n
theorem zht (i j:Nat):Builtin.Slice.slicePlaces (i:Int) (j:Int) 1=j - i:=by
 unfold Builtin.Slice.slicePlaces;have h1:(1:Int) > 0:=by lia
 simp only[h1,if_true,Int.ediv_one];split <;> lia
theorem zdo {v:Value}{o:Option Int}{Q:Option Int->Shared->Prop}(p:IsPart v o)(h:Q o s):wpAny (model prog w) A (Builtin.Slice.slicePartIndex v) Q E s:=by
 cases p with
 | none=>exact slicePart_none h
 | int i t=>exact slicePart_int h
theorem uL {I:Addr}{D F:Value}{lo hi:Option Int}{n:Nat}{Q:Int×Int×Nat->Shared->Prop}(J:s.heap.IsSliceOf I D F .none)(L:IsPart D lo)(O:IsPart F hi)
  (h:Q (((sIx n 0 lo:Nat):Int),1,sIx n n hi - sIx n 0 lo) s):wpAny (model prog w) A (Builtin.Slice.sliceApplied (.ref I) (pure (n:Int))) Q E s:=by
 obtain⟨Y,q,U,B⟩:=id J;unfold Builtin.Slice.sliceApplied Builtin.Slice.sliceFields;refine wpAny_bind (wpAny_bind (wpAny_field q B (x:=D) rfl (wpAny_bind (wpAny_field q B (x:=F) rfl (wpAny_bind (wpAny_field q B (x:=.none) rfl (wpAny_pure ?_)))))));refine wpAny_bind (slicePart_none ?_);show wpAny _ _ (if ((1:Int)==0)=true then _ else _) _ _ s;rw[if_neg (by decide)];refine wpAny_bind (zdo L (wpAny_bind (zdo O (wpAny_bind (wpAny_pure ?_)))));show wpAny _ _ (match Builtin.Slice.sliceAdjust lo hi 1 (n:Int) with | (lo,hi)=>pure (lo,(1:Int),Builtin.Slice.slicePlaces lo hi 1)) _ _ s;rw[zhb lo hi n];show wpAny _ _ (pure (((sIx n 0 lo:Nat):Int),(1:Int),Builtin.Slice.slicePlaces ((sIx n 0 lo:Nat):Int) ((sIx n n hi:Nat):Int) 1)) _ _ s;rw[zht];exact wpAny_pure h
theorem zlw (xs:Array Value)(i k:Nat):((List.range k).filterMap fun (m:Nat)=>xs[((i:Int)+(m:Int) * 1).toNat]?).toArray=((xs.toList.drop i).take k).toArray:=by
 have e:(fun (m:Nat)=>xs[((i:Int)+(m:Int) * 1).toNat]?)=fun m=>xs[i+m]?:=by
  funext m;have:((i:Int)+(m:Int) * 1).toNat=i+m:=by lia
  rw[this]
 rw[e];have:=pick_run xs i k;rw[List.filterMap_map] at this;have q:((fun x=>xs[x]?) ∘ fun x=>i+x)=fun m=>xs[i+m]?:=rfl;rw[q] at this;rw[this]
theorem getItem_tuple_cut {t F:Addr}{items:Array Value}{U Y:Value}{lo hi:Option Int}{Q:Value->Shared->Prop}(D:IsTup s.heap t items)(Z:s.heap.IsSliceOf F U Y .none)(pl:IsPart U lo)(pu:IsPart Y hi)
  (hw:¬ (sIx items.size 0 lo=0/\sIx items.size items.size hi=items.size))
  (h:Q (.ref s.heap.objs.size) { s with heap:=s.heap.push { cls:=.type "tuple",data:=.seq ((items.toList.drop (sIx items.size 0 lo)).take (sIx items.size items.size hi - sIx items.size 0 lo)).toArray } })
  (hsz:items.size<=sizeLine):wpAny (model prog w) A (getItem (.ref t) (.ref F)) Q E s:=by
 have B:sizeOk (.seq ((items.toList.drop (sIx items.size 0 lo)).take (sIx items.size items.size hi - sIx items.size 0 lo)).toArray):=by show ((items.toList.drop (sIx items.size 0 lo)).take (sIx items.size items.size hi - sIx items.size 0 lo)).toArray.size<=sizeLine;rw[List.size_toArray,List.length_take,List.length_drop,Array.length_toList];lia
 have hj:sIx items.size items.size hi<=items.size:=zro _ _ (Nat.le_refl _) hi;obtain⟨os,I,J,ad⟩:=id Z;have L:s.TypeIs (.ref F) "slice" := ⟨os,I,J⟩;unfold getItem;try with_reducible refine wpAny_holding ?_
 first | refine wpAny_bind (wpAny_pure ?_) | skip
 refine wpAny_bind (wpAny_sequenceKey D.typeIs (by decide) ?_)
 refine wpAny_bind (wpAny_callSpecial?_slot (name:=Str.ofString "__getitem__") D.typeIs PyProof.Rows.slot_tuple_getitem
  (wpAny_call_entry PyProof.Rows.slot_tuple_getitem D.typeIs entry_tuple_getitem ?_ (args_tuple_getitem _ _)))
 show wpAny _ _ (Builtin.Tuple.tupleItemsOf (.ref t) >>= _) _ _ s;refine wpAny_bind (tupleItemsOf_ D ?_);refine wpAny_bind (wpAny_typeOf L ?_);rw[if_pos (by decide)];refine wpAny_bind (uL Z pl pu ?_)
 have O:¬ ((((sIx items.size 0 lo:Nat):Int)==0&&(1:Int)==1&&(sIx items.size items.size hi - sIx items.size 0 lo)==items.size)=true):=by intro q;rw[Bool.and_eq_true,Bool.and_eq_true] at q;have q1:((sIx items.size 0 lo:Nat):Int)=0:=eq_of_beq q.1.1;have q2:sIx items.size items.size hi - sIx items.size 0 lo=items.size:=eq_of_beq q.2;exact hw ⟨by lia,by lia⟩
 show wpAny _ _ (if (((sIx items.size 0 lo:Nat):Int)==0&&(1:Int)==1&&(sIx items.size items.size hi - sIx items.size 0 lo)==items.size)=true then _ else _) _ _ s;rw[if_neg O,zlw]
 first
  | exact wpAny_bind (m:=Builtin.Tuple.tupleExact _) (wpAny_newObj_type (wpAny_pure ⟨_,rfl,wpAny_pure h⟩) B)
  | exact wpAny_bind (m:=Builtin.Tuple.tupleExact _) (wpAny_newObj_type (wpAny_bind (wpAny_pure (wpAny_pure ⟨_,rfl,wpAny_pure h⟩))) B)
  | exact wpAny_bind (wpAny_bind (m:=Builtin.Tuple.tupleExact _) (wpAny_newObj_type (wpAny_pure (wpAny_pure ⟨_,rfl,wpAny_pure h⟩)) B))
  | exact wpAny_bind (wpAny_bind (m:=Builtin.Tuple.tupleExact _) (wpAny_newObj_type (wpAny_pure ⟨_,rfl,wpAny_pure h⟩) B))
end
end HT
namespace L2
open PySem PySem.Spec PyProof.Rows
abbrev TO:=St->Hp->(Option Int->Hp->Prop)->Prop
def PO (X:Cx)(e:Option Expr)(t:TO):Prop:=
 ∀ (pins:List (Addr×Obj)) (s:Shared) (σ:St) (H:Hp) (Q:Option Int->Hp->Prop),Inv X pins σ H s->t σ H Q->
  wpAny (model X.prog X.w) X.A (evalPart e X.env) (fun u s'=>∃o H',Inv X pins σ H' s'/\IsPart u o/\Q o H') X.xe s
def zkc:TO:=fun _ H Q=>Q none H
def zry (t:TE):TO:=fun σ H Q=>t σ H fun x H1=>∃i,x = .int i/\Q (some i) H1
section
variable {X:Cx}{e:Expr}{te:TE}{lo hi:Option Expr}{tl th:TO}{pos p2:Pos}
theorem zob:PO X none zkc:=by intro pins s σ H Q I h;rw[evalPart_none];exact ac ⟨none,H,I,.none,h⟩
theorem zoc (h:PE X e te):PO X (some e) (zry te):=by intro pins s σ H Q I B;rw[evalPart_some];refine thn (h pins s σ H _ I B)  ?_;rintro u J ⟨x,H1,I1,D,F⟩;obtain⟨i,rfl,q⟩:=F;obtain⟨t,rfl⟩:=D;exact⟨some i,H1,I1,.int i t,q⟩
def SlR (X:Cx)(r:V->Option Int->Option Int->Hp->VK->Prop):Prop:=
 ∀ (pins:List (Addr×Obj)) (s:Shared) (σ:St) (H:Hp) (x:V) (v q B:Value) (lo hi:Option Int) (D:Addr) (Q:VK),Inv X pins σ H s->yF x v->s.heap.IsSliceOf D q B .none->IsPart q lo->IsPart B hi->r x lo hi H Q->
  ∃T id,typeLookup (.type T) "__getitem__" = pure (some (.builtin id))/\s.TypeIs v T/\wpAny (model X.prog X.w) X.A (getItem v (.ref D)) (EP X pins σ Q) X.xe s
def tSl (r:V->Option Int->Option Int->Hp->VK->Prop)(te:TE)(tl th:TO):TE:=fun σ H Q=>te σ H fun x H1=>tl σ H1 fun l H2=>th σ H2 fun u H3=>r x l u H3 Q
theorem zlr {r:V->Option Int->Option Int->Hp->VK->Prop}(J:SlR X r)(L:PE X e te)(O:PO X lo tl)(U:PO X hi th):PE X (.Subscript e (.Slice lo hi none p2) pos) (tSl r te tl th):=by intro pins s σ H Q I h;refine Subscript_ (thn (L pins s σ H _ I h)  ?_);rintro v Y ⟨x,H1,I1,Z,q1⟩;refine wpAny_Slice (thn (O pins Y σ H1 _ I1 q1) fun D s2 ⟨l,H2,I2,pl,q2⟩=>thn (U pins s2 σ H2 _ I2 q2)  ?_);rintro F B ⟨u,H3,I3,pu,q3⟩;rw[evalPart_none];refine ac ?_;have I4:Inv X pins σ H3 { B with heap:=B.heap.push { cls:=.type "slice",data:=.fields #[D,F,.none] } }:=I3.kept (t':=B.toks) fun b ob q=>af _ q;obtain⟨T,id,hT,ht,hg⟩:=J pins { B with heap:=B.heap.push { cls:=.type "slice",data:=.fields #[D,F,.none] } } σ H3 x v D F l u B.heap.objs.size Q I4 Z (Heap.IsSliceOf.new ..) pl pu q3;show wpAny (model X.prog X.w) X.A (subscriptTail e (.Slice lo hi none p2) v (.ref B.heap.objs.size)) (EP X pins σ Q) X.xe { B with heap:=B.heap.push { cls:=.type "slice",data:=.fields #[D,F,.none] } };exact tail_any (ops:=[.ref B.heap.objs.size,v]) ht hT hg (by with_unfolding_all rfl)
def zcS (xs:List V)(lo hi:Option Int):List V:=(xs.drop (HT.sIx xs.length 0 lo)).take (HT.sIx xs.length xs.length hi - HT.sIx xs.length 0 lo)
theorem zbX (xs:List V)(lo hi:Option Int):(zcS xs lo hi).length<=xs.length:=by unfold zcS;rw[aN,bD];lia
def rSlT (K:PySem.W.Frag):V->Option Int->Option Int->Hp->VK->Prop:=fun x lo hi H Q=>∃a xs,x = .ref a/\SqT K H a xs/\
 ¬ (HT.sIx xs.length 0 lo=0/\HT.sIx xs.length xs.length hi=xs.length)/\∀p,H p=none->Q (.ref p) (upd H p (.tup (zcS xs lo hi)))
theorem zrq:SlR X (rSlT X.K):=by
 intro pins s σ H x v vl vu lo hi sl Q I J L O U h;obtain⟨a,xs,rfl,Y,Z,q⟩:=h;cases J;obtain⟨its,r,D,F⟩:=I.tuple Y;have B:its.toArray.size=xs.length:=by rw[aA];exact r.length.symm
 refine⟨"tuple",_,PyProof.Rows.slot_tuple_getitem.lookup,D.typeIs,?_⟩;refine HT.getItem_tuple_cut D L O U (by rw[B];exact Z) ?_ (by rw[B];exact F);rw[B];refine⟨.ref s.heap.objs.size,_,I.laid (t':=s.toks) (o:=.tup (zcS xs lo hi)) (fun b ob q=>af _ q) (ag _) ?_,rfl,q _ (I.hok.fresh (ag _))⟩;exact⟨aB (zbX xs lo hi) F,_,(r.drop (HT.sIx xs.length 0 lo)).take (HT.sIx xs.length xs.length hi - HT.sIx xs.length 0 lo),zan.new _ _⟩
def ztH (K:PySem.W.Frag):R2:=fun x y H Q=>∃a b xs ys,x = .ref a/\y = .ref b/\SqT K H a xs/\SqT K H b ys/\xs≠[]/\xs.length+ys.length<=sizeLine/\
 (ys=[]->Q (.ref a) H)/\(ys≠[]->∀p,H p=none->Q (.ref p) (upd H p (.tup (xs++ys))))
theorem ya.nil_iff {xs:List V}{q:List Value}(r:ya xs q):q=[]↔xs=[]:=by
 cases r with
 | nil=>simp
 | cons _ _=>simp
theorem znS:OpR X (binaryOp .Add) (ztH X.K):=by intro pins s σ H x y v u Q I L O h;obtain⟨a,b,xs,ys,rfl,rfl,U,Y,Z,F,q1,q2⟩:=h;cases L;cases O;obtain⟨its,D,p1,_⟩:=I.tuple U;obtain⟨J,B,p2,_⟩:=I.tuple Y;refine HT.cat_tup p1 p2 (fun z=>Z (D.nil_iff.mp z)) (fun z=>⟨.ref a,H,I,rfl,q1 (B.nil_iff.mp z)⟩) (fun z=>?_) (by rw[<- D.length,<- B.length];exact F);refine⟨.ref s.heap.objs.size,_,I.laid (t':=s.toks) (o:=.tup (xs++ys)) (fun b ob q=>af _ q) (ag _) ?_,rfl,q2 (fun w=>z (B.nil_iff.mpr w)) _ (I.hok.fresh (ag _))⟩;exact⟨by rw[ai];exact F,_,D.append B,zan.new _ _⟩
end
def ixN (n:Nat)(i:Int):Option Nat:=if 0<=i then (if i<n then some i.toNat else none) else if -(n:Int)<=i then some (i+n).toNat else none
def atI {α:Type}(xs:List α)(i:Int):Option α:=(ixN xs.length i).bind fun j=>xs[j]?
theorem zfO {n:Nat}{i:Int}{j:Nat}(h:ixN n i=some j):seqIndex? i n=some j/\j<n/\-(n:Int)<=i/\i<n:=by
 unfold ixN at h;by_cases q:0<=i
 ·rw[if_pos q] at h;by_cases h1:i<n
  ·rw[if_pos h1] at h;have e:i.toNat=j:=be h;exact⟨by rw[seqIndex_of q h1,e],by lia,by lia,h1⟩
  ·rw[if_neg h1] at h;cases h
 ·rw[if_neg q] at h;by_cases h1:-(n:Int)<=i
  ·rw[if_pos h1] at h;have e:(i+n).toNat=j:=be h;exact⟨by rw[seqIndex_neg (by lia) h1,e],by lia,h1,by lia⟩
  ·rw[if_neg h1] at h;cases h
theorem zhJ {α:Type}{xs:List α}{i:Int}{v:α}(h:atI xs i=some v):∃j,seqIndex? i xs.length=some j/\xs[j]?=some v/\j<xs.length/\-(xs.length:Int)<=i/\i<xs.length:=by
 unfold atI at h
 cases e:ixN xs.length i with
 | none=>rw[e] at h;cases h
 | some j=>
  rw[e] at h;obtain⟨h1,h2,q,B⟩:=zfO e;exact⟨j,h1,h,h2,q,B⟩
theorem zhK {α:Type}{xs:List α}{j:Nat}{v:α}(h:xs[j]?=some v):atI xs (j:Int)=some v:=by
 have q:j<xs.length:=(ae.mp h).1
 have e:ixN xs.length (j:Int)=some j:=by unfold ixN;rw[if_pos (by lia),if_pos (by lia)];simp
 unfold atI;rw[e];exact h
def zfr (b:Expr):Prop:=∀o i,subscripted b false o i=operate [o,i] (getItem o i)
def IxR (X:Cx)(r:R2):Prop:=
 ∀ (value q:Expr) (pins:List (Addr×Obj)) (s:Shared) (σ:St) (H:Hp) (x y:V) (v u:Value) (Q:VK),Inv X pins σ H s->yF x v->yF y u->r x y H Q->
  subscripted q false v u=operate [v,u] (getItem v u)->wpAny (model X.prog X.w) X.A (subscriptTail value q v u) (EP X pins σ Q) X.xe s
def MtR (X:Cx)(id:String)(r:V->List V->Hp->VK->Prop):Prop:=
 ∀ (pins:List (Addr×Obj)) (s:Shared) (σ:St) (H:Hp) (x:V) (xs:List V) (v:Value) (q:List Value) (Q:VK),Inv X pins σ H s->yF x v->ya xs q->r x xs H Q->
  wpAny (model X.prog X.w) X.A (call (.builtin id) (v::q)) (EP X pins σ Q) X.xe s
section
variable {X:Cx}{a b:Expr}{ta tb:TE}{pos:Pos}
theorem ztx {r:R2}(B:IxR X r)(D:PE X a ta)(F:PE X b tb)(J:zfr b):PE X (.Subscript a b pos) (tOp r ta tb):=by intro pins s σ H Q I h;exact Subscript_ (zss D F I h fun v u L x y H2 I2 O U q=>B a b pins L σ H2 x y v u Q I2 O U q (J _ _))
def zsf (K:PySem.W.Frag):R2:=fun x y H Q=>∃p xs i v,x = .ref p/\y = .int i/\SqL K H p xs/\atI xs i=some v/\Q v H
def zsg (K:PySem.W.Frag):R2:=fun x y H Q=>∃p xs i v,x = .ref p/\y = .int i/\SqT K H p xs/\atI xs i=some v/\Q v H
theorem znn:IxR X (zsf X.K):=by
 intro value slice pins s σ H x y v u Q I rx ry h hs;obtain⟨p,xs,i,z,rfl,rfl,hq,he,q⟩:=h;cases rx;obtain⟨t,rfl⟩:=ry;obtain⟨its,r,pl,hz⟩:=I.list hq;obtain⟨j,h1,h2,h3,h4,h5⟩:=zhJ he;obtain⟨w,ew,rw'⟩:=r.get h2;have hl:=r.length;have hn:=zgJ;have fin:EP X pins σ Q w s:=⟨z,H,I,rw',q⟩;by_cases h0:0<=i
 ·have hj:i.toNat=j:=by
   rw[seqIndex_of h0 h5] at h1;exact be h1
  exact item_listR pl.isList h0 (by lia) (by rw[hj];simpa using ew) fin hs
 ·have hj:(i+(its.toArray.size:Int)).toNat=j:=by
   rw[seqIndex_neg (by lia) h4] at h1;rw[aA,<- hl];exact be h1
  exact subscriptTail_builtinR (x:=w) pl.isList.typeIs slot_list_getitem.lookup
   (wpAny_getItem_list_neg (Q:=fun r s'=>r=w/\EP X pins σ Q r s') pl.isList (by lia) (by rw[aA] <;> lia) (by lia) (by rw[hj];simpa using ew) ⟨rfl,fin⟩) hs
theorem zpZ:IxR X (zsg X.K):=by
 intro value slice pins s σ H x y v u Q I rx ry h hs;obtain⟨p,xs,i,z,rfl,rfl,hq,he,q⟩:=h;cases rx;obtain⟨t,rfl⟩:=ry;obtain⟨its,r,pl,hz⟩:=I.tuple hq;obtain⟨j,h1,h2,h3,h4,h5⟩:=zhJ he;obtain⟨w,ew,rw'⟩:=r.get h2;have hl:=r.length;have hn:=zgJ;have fin:EP X pins σ Q w s:=⟨z,H,I,rw',q⟩
 exact subscriptTail_builtinR (x:=w) pl.typeIs slot_tuple_getitem.lookup
  (getItem_tuple (j:=j) (Q:=fun r s'=>r=w/\EP X pins σ Q r s') pl (by lia) (by lia) (by rw[aA,<- hl];exact h1) (by simpa using ew) ⟨rfl,fin⟩) hs
theorem zhl (its:List Value)(n j:Nat)(u:Value):Obj.mapSeq (·.setIfInBounds j u) { cls:=.type "list",data:=.seq its.toArray n }={ cls:=.type "list",data:=.seq (its.set j u).toArray n }:=by simp[Obj.mapSeq]
theorem Inv.lst {pins:List (Addr×Obj)}{σ:St}{H:Hp}{s:Shared}{p:Addr}{xs:List V}(I:Inv X pins σ H s)(h:H p=some (.lst xs)) :
  ∃ (its:List Value) (n:Nat),ya xs its/\s.heap.get? p=some { cls:=.type "list",data:=.seq its.toArray n }/\xs.length<=sizeLine:=by
 obtain⟨z,its,n,r,e⟩:=I.hok p _ h;exact⟨its,n,r,e,z⟩
theorem Inv.lstUpd {pins:List (Addr×Obj)}{σ:St}{H:Hp}{s:Shared}{p:Addr}{xs ys:List V}{its its':List Value}{n B:Nat}{f:Obj->Obj}(I:Inv X pins σ H s)(h:H p=some (.lst xs))
  (F:s.heap.get? p=some { cls:=.type "list",data:=.seq its.toArray n }) (D:f { cls:=.type "list",data:=.seq its.toArray n }={ cls:=.type "list",data:=.seq its'.toArray B }) (r:ya ys its') (J:ys.length<=sizeLine) (t:Nat) :
  Inv X pins σ (upd H p (.lst ys)) { s with heap:=s.heap.update p f,toks:=t }:=by
 have e:(s.heap.update p f).get? p=some { cls:=.type "list",data:=.seq its'.toArray B }:=by rw[cE f F (by rw[D] <;> rfl),D]
 refine I.write (x:=p) (e:=p) (by rw[h];trivial) (.inl rfl) (fun b u L q=>(Heap.get?_update_other _ _ (Ne.symm L)).trans q) ⟨_,e⟩ ?_;exact⟨J,its',B,r,e⟩
def ztI:V->V->V->Hp->(Hp->Prop)->Prop:=fun o i v H Q=>∃p xs k j,o = .ref p/\i = .int k/\H p=some (.lst xs)/\ixN xs.length k=some j/\Q (upd H p (.lst (xs.set j v)))
theorem zlO:PSet X ztI:=by
 intro pins s σ H o i v ov iv u Q I ro ri rv h;obtain⟨p,xs,k,j,rfl,rfl,hp,hj,q⟩:=h;cases ro;obtain⟨t,rfl⟩:=ri;obtain⟨its,n,r,ho,hz⟩:=I.lst hp;obtain⟨h1,h2,h3,h4⟩:=zfO hj;have hl:=r.length;have hn:=zgJ
 have I':Inv X pins σ (upd H p (.lst (xs.set j v))) { s with heap:=s.heap.update p (Obj.mapSeq (·.setIfInBounds j u)) }:=
  I.lstUpd hp ho (zhl its n j u) (r.set rv j) (by rw[aY];exact hz) s.toks
 by_cases h0:0<=k
 ·have hk:k.toNat=j:=by
   rw[seqIndex_of h0 h4] at h1;exact be h1
  exact PySem.W.ki_setAt ho h0 (by lia) (by rw[aA,<- hl];exact h4) (by rw[hk];exact⟨_,I',q⟩)
 ·have hk:(k+(its.toArray.size:Int)).toNat=j:=by
   rw[seqIndex_neg (by lia) h3] at h1;rw[aA,<- hl];exact be h1
  exact PySem.W.ki_setBack ho (by lia) (by rw[aA,<- hl];exact h3) (by lia) (by rw[hk];exact⟨_,I',q⟩)
theorem zfe (lo hi:Option Int)(n:Nat):(sliceBounds lo hi none n).1=((HT.sIx n 0 lo:Nat):Int)/\(sliceBounds lo hi none n).2.1=((HT.sIx n n hi:Nat):Int)/\(sliceBounds lo hi none n).2.2=1:=by
 refine⟨?_,?_,rfl⟩
 ·cases lo with
  | none=>simp[sliceBounds,HT.sIx]
  | some i=>
   simp only[sliceBounds,HT.sIx,Option.getD_none,show (1:Int) > 0 by decide,if_true];by_cases h:i<0
   ·simp only[h,if_true] <;> lia
   ·simp only[h,if_false] <;> lia
 ·cases hi with
  | none=>simp[sliceBounds,HT.sIx]
  | some i=>
   simp only[sliceBounds,HT.sIx,Option.getD_none,show (1:Int) > 0 by decide,if_true];by_cases h:i<0
   ·simp only[h,if_true] <;> lia
   ·simp only[h,if_false] <;> lia
theorem zd9 (its:List Value)(lo hi:Option Int):slicePick its.toArray lo hi none=((its.drop (HT.sIx its.length 0 lo)).take (HT.sIx its.length its.length hi - HT.sIx its.length 0 lo)).toArray:=by obtain⟨h1,h2,q⟩:=zfe lo hi its.toArray.size;unfold slicePick;rw[h1,h2,q];simp only[sliceRange_one,pick_run,aA] <;> rfl
def rSlL (K:PySem.W.Frag):V->Option Int->Option Int->Hp->VK->Prop:=fun x lo hi H Q=>∃a xs,x = .ref a/\SqL K H a xs/\∀p,H p=none->Q (.ref p) (upd H p (.lst (zcS xs lo hi)))
theorem zoR:SlR X (rSlL X.K):=by intro pins s σ H x v Z vu lo hi sl Q I F J L O h;obtain⟨a,xs,rfl,U,q⟩:=h;cases F;obtain⟨its,r,D,Y⟩:=I.list U;have B:=r.length;refine⟨"list",_,slot_list_getitem.lookup,D.isList.typeIs,?_⟩;refine wpAny_getItem_list_slice D.isList J L O .none (by simp) ?_ (by rw[aA] <;> lia);rw[zd9,<- B];refine⟨.ref s.heap.objs.size,_,I.laid (t':=s.toks) (o:=.lst (zcS xs lo hi)) (fun b ob q=>af _ q) (ag _) ?_,rfl,q _ (I.hok.fresh (ag _))⟩;exact⟨aB (zbX xs lo hi) Y,_,0,(r.drop (HT.sIx xs.length 0 lo)).take (HT.sIx xs.length xs.length hi - HT.sIx xs.length 0 lo),aK _ rfl⟩
def zcV:V->Bool
 | .non=>true
 | .bl _=>true
 | .int _=>true
 | .str _=>true
 | _=>false
def eqV:V->V->Bool
 | .non,.non=>true
 | .bl a,.bl b=>a==b
 | .bl a,.int b=>(if a then 1 else 0)==b
 | .int a,.bl b=>a==(if b then 1 else 0)
 | .int a,.int b=>a==b
 | .str a,.str b=>a==b
 | _,_=>false
theorem zpL {A:Around}{s:Shared}{y x:V}{u v:Value}(B:yF y u)(q:yF x v)(F:zcV y=true)(D:zcV x=true):SeqAt.EqAt A s u v (eqV y x):=by
 cases y with
 | non=>
  cases B
  cases x with
  | non=>cases q;exact SeqAt.EqAt.same _
  | bl b=>cases q;exact SeqAt.EqAt.none_bool b
  | int b=>obtain⟨t,rfl⟩:=q;exact SeqAt.EqAt.none_int b t
  | str b=>obtain⟨t,rfl⟩:=q;exact SeqAt.EqAt.none_str b t
  | _=>exact absurd (show false=true from D) aD
 | bl a=>
  cases B
  cases x with
  | non=>cases q;exact SeqAt.EqAt.bool_none a
  | bl b=>cases q;exact SeqAt.EqAt.bool_bool a b
  | int b=>obtain⟨t,rfl⟩:=q;exact SeqAt.EqAt.bool_int a b t
  | str b=>obtain⟨t,rfl⟩:=q;exact SeqAt.EqAt.bool_str a b t
  | _=>exact absurd (show false=true from D) aD
 | int a=>
  obtain⟨t',rfl⟩:=B
  cases x with
  | non=>cases q;exact SeqAt.EqAt.int_none a t'
  | bl b=>cases q;exact SeqAt.EqAt.int_bool a t' b
  | int b=>obtain⟨t,rfl⟩:=q;exact SeqAt.EqAt.int_int a t' b t
  | str b=>obtain⟨t,rfl⟩:=q;exact SeqAt.EqAt.int_str a t' b t
  | _=>exact absurd (show false=true from D) aD
 | str a=>
  obtain⟨t',rfl⟩:=B
  cases x with
  | non=>cases q;exact SeqAt.EqAt.str_none a t'
  | bl b=>cases q;exact SeqAt.EqAt.str_bool a t' b
  | int b=>obtain⟨t,rfl⟩:=q;exact SeqAt.EqAt.str_int a t' b t
  | str b=>obtain⟨t,rfl⟩:=q;exact SeqAt.EqAt.str_str a t' b t
  | _=>exact absurd (show false=true from D) aD
 | _=>exact absurd (show false=true from F) aD
def eqU (x:V)(u:Value):Bool:=match u with
 | .none=>eqV .non x
 | .bool b=>eqV (.bl b) x
 | .int i _=>eqV (.int i) x
 | .str z _=>eqV (.str z) x
 | _=>false
theorem zmc {x y:V}{u:Value}(r:yF y u)(f:zcV y=true):eqU x u=eqV y x:=by
 cases y with
 | non=>cases r;rfl
 | bl b=>cases r;rfl
 | int i=>obtain⟨t,rfl⟩:=r;rfl
 | str z=>obtain⟨t,rfl⟩:=r;rfl
 | _=>exact absurd (show false=true from f) aD
theorem zbS {x:V}:∀ {xs:List V} {q:List Value},ya xs q->xs.all zcV=true->q.any (eqU x)=xs.any fun y=>eqV y x
 | _,_,.nil,_=>rfl
 | y::xs,u::q,.cons r t,f=>by rw[cQ,ar] at f;rw[cq,cq,zmc r f.1,zbS t f.2]
theorem zaK {A:Around}{s:Shared}{x:V}{v:Value}(D:yF x v)(F:zcV x=true):∀ {xs:List V} {B:List Value},ya xs B->xs.all zcV=true->∀u∈B,SeqAt.EqAt A s u v (eqU x u)
 | _,_,.nil,_=>fun u q=>by cases q
 | y::xs,u::B,.cons r t,f=>fun I q=>by
  rw[cQ,ar] at f;rcases aE.mp q with rfl | q
  ·rw[zmc r f.1];exact zpL r D f.1 F
  ·exact zaK D F t f.2 I q
def inV (x:V)(xs:List V):Bool:=xs.any fun y=>eqV y x
def rIn (K:PySem.W.Frag)(q:Bool):R2:=fun x y H Q=>∃p xs,y = .ref p/\(SqL K H p xs\/SqT K H p xs)/\zcV x=true/\xs.all zcV=true/\Q (.bl (if q then !inV x xs else inV x xs)) H
theorem zjt:OpR X (compareOp .In) (rIn X.K false):=by
 intro pins s σ H x y v u Q I J O h;obtain⟨p,xs,rfl,B,L,fs,q⟩:=h;cases O;rcases B with B | B
 ·obtain⟨its,r,D,U⟩:=I.list B;refine SeqAt.in_listAt (eqU x) D.isList (fun w F=>zaK J L r fs w (by simpa using F)) ⟨.bl _,H,I,rfl,?_⟩;rw[show its.toArray.any (eqU x)=its.any (eqU x) by simp,zbS r fs];exact q
 ·obtain⟨its,r,D,U⟩:=I.tuple B;refine SeqAt.in_tupleAt (eqU x) D (fun w F=>zaK J L r fs w (by simpa using F)) ⟨.bl _,H,I,rfl,?_⟩;rw[show its.toArray.any (eqU x)=its.any (eqU x) by simp,zbS r fs];exact q
theorem ze2:OpR X (compareOp .NotIn) (rIn X.K true):=by
 intro pins s σ H x y v u Q I J O h;obtain⟨p,xs,rfl,B,L,fs,q⟩:=h;cases O;rcases B with B | B
 ·obtain⟨its,r,D,U⟩:=I.list B;refine SeqAt.notIn_listAt (eqU x) D.isList (fun w F=>zaK J L r fs w (by simpa using F)) ⟨.bl _,H,I,rfl,?_⟩;rw[show its.toArray.any (eqU x)=its.any (eqU x) by simp,zbS r fs];exact q
 ·obtain⟨its,r,D,U⟩:=I.tuple B;refine SeqAt.notIn_tupleAt (eqU x) D (fun w F=>zaK J L r fs w (by simpa using F)) ⟨.bl _,H,I,rfl,?_⟩;rw[show its.toArray.any (eqU x)=its.any (eqU x) by simp,zbS r fs];exact q
theorem zev:zcN X (.type "list") (fun xs H Q=>∃p ys,xs=[.ref p]/\(SqL X.K H p ys\/SqT X.K H p ys)/\∀l,H l=none->Q (.ref l) (upd H l (.lst ys))):=by
 intro pins s σ H xs us Q I r h;obtain⟨p,ys,rfl,F,q⟩:=h;obtain⟨u,rfl,rx⟩:=za0 r;cases rx
 have fin:∀ (its:List Value),ya ys its->ys.length<=sizeLine->∀ (h':Heap) (B:Nat),(∀b o',s.heap.get? b=some o'->h'.get? b=some o')->
   h'.get? s.heap.objs.size=some { cls:=.type "list",dict:=none,data:=.seq its.toArray B,slots:=#[] }->EP X pins σ Q (.ref s.heap.objs.size) { s with heap:=h' }:=fun its D J h' B L e=>
  ⟨.ref s.heap.objs.size,_,I.laid (t':=s.toks) L (ag _) (show yr X.prog X.w _ h' _ (.lst ys) from ⟨J,its,B,D,e⟩),rfl,q _ (I.hok.fresh (ag _))⟩
 rcases F with F | F
 ·obtain⟨its,D,U,J⟩:=I.list F;have O:=D.length;obtain⟨o,Y,Z,n,hd⟩:=U.isList;exact call_list_seq p (.inl rfl) Y Z hd (fun h' B L e=>fin its D J h' B L e) (by simp only[aA] <;> lia)
 ·obtain⟨its,D,U,J⟩:=I.tuple F;have O:=D.length;obtain⟨o,Y,Z,n,hd⟩:=U;exact call_list_seq p (.inr rfl) Y Z hd (fun h' B L e=>fin its D J h' B L e) (by simp only[aA] <;> lia)
theorem zdy:zcN X (.type "tuple") (fun xs H Q=>∃p ys,xs=[.ref p]/\((SqL X.K H p ys/\∀l,H l=none->Q (.ref l) (upd H l (.tup ys)))\/(SqT X.K H p ys/\Q (.ref p) H))):=by
 intro pins s σ H xs U Q I r h;obtain⟨p,ys,rfl,h⟩:=h;obtain⟨u,rfl,L⟩:=za0 r;cases L;rcases h with ⟨hq,q⟩ | ⟨hq,q⟩
 ·obtain⟨its,B,D,F⟩:=I.list hq;have J:=B.length;refine call_tuple_list D.isList (fun h' O=>?_) (by simp only[aA] <;> lia);have I1:Inv X pins σ H { s with heap:=h' }:=I.kept (t':=s.toks) O
  have I2:Inv X pins σ (upd H h'.objs.size (.tup ys)) { s with heap:=h'.push { cls:=.type "tuple",data:=.seq its.toArray } }:=
   I1.laid (t':=s.toks) (fun b o e=>af _ e) (ag _) (show yr X.prog X.w _ _ _ (.tup ys) from ⟨F,its,B,zan.new _ _⟩)
  exact⟨.ref h'.objs.size,_,I2,rfl,q _ (I1.hok.fresh (ag _))⟩
 ·obtain⟨its,B,D,F⟩:=I.tuple hq;exact call_tuple_same D ⟨.ref p,H,I,rfl,q⟩
def tyV (K:PySem.W.Frag)(T:String)(x:V)(H:Hp):Prop:=match x with
 | .str _=>T = "str"
 | .int _=>T = "int"
 | .ref p=>(T = "list" /\ ∃xs,SqL K H p xs)\/(T = "tuple" /\ ∃o,K.lookup p=some o/\o.cls = .type "tuple" /\ o.dict=none)\/
   (T = "dict" /\ ((∃kvs,H p=some (.dK kvs))\/∃kvs,H p=some (.dT kvs)))\/(T = "set" /\ ∃S n,H p=some (.set S n))
 | _=>False
theorem zrD {pins:List (Addr×Obj)}{σ:St}{H:Hp}{s:Shared}{T:String}{x:V}{v:Value}(I:Inv X pins σ H s)(r:yF x v)(ty:tyV X.K T x H) :
  s.TypeIs v T/\∀a,v = .ref a->∃F,s.heap.get? a=some F/\F.dict=none:=by
 cases x with
 | str z=>
  obtain⟨t,rfl⟩:=r;cases (show T = "str" from ty);exact⟨typeIs_str s z t,fun _ e=>nomatch e⟩
 | int i=>
  obtain⟨t,rfl⟩:=r;cases (show T = "int" from ty);exact⟨fN s i t,fun _ e=>nomatch e⟩
 | ref p=>
  cases r;rcases ty with ⟨rfl,xs,hq⟩ | ⟨rfl,o,q,hc,B⟩ | ⟨rfl,q⟩ | ⟨rfl,S,n,q⟩
  ·obtain⟨its,_,J,_⟩:=I.list hq;refine⟨J.isList.typeIs,fun a e=>?_⟩;cases e;obtain⟨o,n,e,c,B,_⟩:=J;exact⟨o,e,B⟩
  ·refine⟨⟨o,I.kIn p o q,hc⟩,fun a e=>?_⟩;cases e;exact⟨o,I.kIn _ o q,B⟩
  ·have z:∃o,s.heap.get? p=some o/\o.ExactDict:=by
    rcases q with ⟨kvs,q⟩ | ⟨kvs,q⟩
    ·obtain⟨_,_,_,_,o,_,_,e,ex,_⟩:=I.hok p _ q;exact⟨o,e,ex⟩
    ·obtain⟨_,_,_,_,o,_,_,e,ex,_⟩:=I.hok p _ q;exact⟨o,e,ex⟩
   obtain⟨o,e,ex⟩:=z;refine⟨⟨o,e,ex.1⟩,fun a D=>?_⟩;cases D;exact⟨o,e,ex.2.1⟩
  ·obtain⟨o,_,_,_,e,ex,_⟩:=I.hok p _ q;refine⟨⟨o,e,ex.1⟩,fun a D=>?_⟩;cases D;exact⟨o,e,ex.2.1⟩
 | _=>exact False.elim ty
def tBM (K:PySem.W.Frag)(T:String)(r:V->List V->Hp->VK->Prop)(to:TE)(t:TA):TE:=fun σ H Q=>to σ H fun x H1=>tyV K T x H1/\t σ H1 fun xs H2=>r x xs H2 Q
variable {o e:Expr}{es:List Expr}{to:TE}{t:TA}{name:Str}{apos cpos:Pos}{T id:String}{r:V->List V->Hp->VK->Prop}
theorem zqF (Y:PlainAttrs T)(F:Slot T name id)(L:typeOf (.builtin id)=pure (.type "method_descriptor"))(Z:MtR X id r)(ho:PE X o to)(ha:PA X (e::es) t)
  (B:attributeBase o name X.env (eval o X.env)=eval o X.env:=by rfl)
  (J:((backTo cpos (starEach (e::es) X.env)).all (fun x=>!x.1)&&(backToKw cpos (keywordEach [] X.env)).all (fun x=>x.1.isSome)
   && decide ((e::es).length+([]:List Keyword).length+(if ([]:List Keyword).isEmpty then 0 else 1)<30))=true:=by rfl)
  (D:(apos.endLine==cpos.line)=true:=by rfl) (hs:starEach (e::es) X.env=(false,eval e X.env)::starEach es X.env:=by rfl) (q:(backTo cpos (starEach es X.env)).any (·.1)=false:=by rfl) :
  PE X (.Call (.Attribute o name apos) (e::es) [] cpos) (tBM X.K T r to t):=by
 intro pins s σ H Q I h;refine wpAny_Call_method_late B J D rfl (thn (ho pins s σ H _ I h)  ?_);rintro v s1 ⟨x,H1,I1,O,ty,q1⟩;obtain⟨h1,h2⟩:=zrD I1 O ty;refine⟨T,id,Y,F,L,h1,h2,?_⟩;have U:=ha cpos pins s1 σ H1 _ I1 q1;rw[hs] at U ⊢;refine dy (by show (false || (backTo cpos (starEach es X.env)).any (·.1))=false;rw[q] <;> rfl) (ee ?_);exact thn U <| by rintro us s2 ⟨vs,H2,I2,r2,q2⟩;exact Z pins s2 σ H2 x vs v us Q I2 O r2 q2
end
def MtM (X:Cx)(id:String)(r:V->List V->Hp->VK->Prop):Prop:=
 ∀ (pins:List (Addr×Obj)) (s:Shared) (σ:St) (H:Hp) (x:V) (xs:List V) (v:Value) (q:List Value) (Q:VK),Inv X pins σ H s->yF x v->ya xs q->r x xs H Q->
  wpAny (model X.prog X.w) X.A (call (.builtin id) (v::q)) (EP X pins σ Q) X.xe s
theorem ya.one:∀ {x:V} {q:List Value},ya [x] q->∃u,q=[u]/\yF x u
 | _,_,.cons r .nil=>⟨_,rfl,r⟩
theorem ya.eraseIdx:∀ {xs:List V} {q:List Value} (i:Nat),ya xs q->ya (xs.eraseIdx i) (q.eraseIdx i)
 | _,_,_,.nil=>.nil
 | _,_,0,.cons _ t=>t
 | _,_,i+1,.cons r t=>.cons r (ya.eraseIdx i t)
theorem ya.rep {xs:List V}{q:List Value}(h:ya xs q):∀k:Nat,ya (List.replicate k xs).flatten (List.replicate k q).flatten
 | 0=>.nil
 | k+1=>by rw[b5,b5,cK,cK];exact ya.append h (ya.rep h k)
theorem zeT {α:Type}:∀ (l:List α) (i:Nat),(l.eraseIdx i).length<=l.length
 | [],_=>ag _
 | _::_,0=>dB _
 | _::r,i+1=>Nat.succ_le_succ (zeT r i)
theorem zeD (its:List Value):∀ (k:Nat) (acc:List Value),
  List.foldl (fun q B=>q++B) acc.toArray (List.replicate k its.toArray)=(acc++(List.replicate k its).flatten).toArray
 | 0,acc=>by simp
 | k+1,acc=>by
  have e:acc.toArray++its.toArray=(acc++its).toArray:=by simp
  have D:(acc++its)++(List.replicate k its).flatten=acc++(List.replicate (k+1) its).flatten:=by rw[b5,cK,bF]
  rw[<- D,<- zeD its k (acc++its),<- e,b5,List.foldl_cons]
section
variable {X:Cx}{pins:List (Addr×Obj)}{σ:St}{H:Hp}{s:Shared}{l b:Addr}{xs ys zs:List V}
theorem Inv.lset {its its':List Value}{n:Nat}{f:Array Value->Array Value}{t':Nat}(I:Inv X pins σ H s)(B:H l=some (.lst xs))
  (e:s.heap.get? l=some { cls:=.type "list",data:=.seq its.toArray n }) (D:f its.toArray=its'.toArray) (F:ya ys its') (J:ys.length<=sizeLine) :
  Inv X pins σ (upd H l (.lst ys)) { s with heap:=s.heap.update l (Obj.mapSeq f),toks:=t' }:=by
 have q:=PySem.IsL.update e f;rw[D] at q;refine I.write (x:=l) (e:=l) (by rw[B];exact trivial) (.inl rfl) (fun U u L O=>(Heap.get?_update_other s.heap (Obj.mapSeq f) (Ne.symm L)).trans O) ⟨_,q⟩ ?_;exact⟨J,its',_,F,q⟩
theorem Inv.lnew {its:List Value}{t':Nat}(I:Inv X pins σ H s)(B:ya ys its)(D:ys.length<=sizeLine) :
  Inv X pins σ (upd H s.heap.objs.size (.lst ys)) { s with heap:=s.heap.push { cls:=.type "list",data:=.seq its.toArray },toks:=t' }:=
 I.laid (fun _ _ q=>af _ q) (ag _) ⟨D,its,0,B,aK _ rfl⟩
theorem Inv.fresh (I:Inv X pins σ H s):H s.heap.objs.size=none:=I.hok.fresh (ag _)
theorem Inv.lstM (I:Inv X pins σ H s)(q:H l=some (.lst xs)):xs.length<=sizeLine/\∃ (its:List Value) (n:Nat),ya xs its/\xs.length=its.length/\s.heap.get? l=some { cls:=.type "list",data:=.seq its.toArray n }:=by obtain⟨z,its,n,r,e⟩:=I.hok l _ q;exact⟨z,its,n,r,r.length,e⟩
theorem zgP {n:Nat}(h:n<=sizeLine):Builtin.List.listTooLong n=false:=by unfold Builtin.List.listTooLong;exact aO (by lia)
end
section
variable {X:Cx}
def zf5:V->List V->Hp->VK->Prop:=fun x vs H Q=>∃l xs y,x = .ref l/\vs=[y]/\H l=some (.lst xs)/\xs.length<sizeLine/\Q .non (upd H l (.lst (xs++[y])))
theorem uZ:MtM X "list.append" zf5:=by intro pins s σ H x vs v O Q I D J h;obtain⟨l,xs,y,rfl,rfl,B,U,q⟩:=h;cases D;obtain⟨u,rfl,L⟩:=J.one;obtain⟨z,its,n,r,Y,e⟩:=I.lstM B;refine et F.slot_list_append ⟨_,e,rfl⟩ F.entry_list_append (F.args_list_append_2 _ _) (PySem.list_append l its.toArray n u (by rw[aA];lia)) ⟨e,?_⟩;refine⟨.non,_,I.lset (its':=its++[u]) B e (by simp) (r.append (.cons L .nil)) ?_,rfl,q⟩;rw[ai,List.length_singleton];lia
def zoF:V->List V->Hp->VK->Prop:=fun x vs H Q=>∃l b xs zs,x = .ref l/\vs=[.ref b]/\H l=some (.lst xs)/\H b=some (.lst zs)/\xs.length+zs.length<=sizeLine/\Q .non (upd H l (.lst (xs++zs)))
theorem zjf:MtM X "list.extend" zoF:=by
 intro pins s σ H x vs v us Q I L O h;obtain⟨l,b,xs,zs,rfl,rfl,J,U,hz,q⟩:=h;cases L;obtain⟨u,rfl,Y⟩:=O.one;cases Y;obtain⟨z,its,n,r,hl,e⟩:=I.lstM J;obtain⟨z2,B,Z,r2,ad,e2⟩:=I.lstM U;have hsz:its.toArray.size+B.toArray.size<=sizeLine:=by rw[aA,aA];lia
 have D:¬ (!its.toArray.isEmpty&&Builtin.List.listTooLong (its.toArray.size+B.toArray.size))=true:=by rw[zgP hsz,dE];exact aD
 refine et F.slot_list_extend ⟨_,e,rfl⟩ F.entry_list_extend (F.args_list_extend_2 _ _)
  (AutoSeq1.list_extend_list_list_0 l its.toArray n b B.toArray Z D (by rw[aA];lia) (by lia)) ⟨e,e2,?_⟩
 refine⟨.non,_,I.lset (its':=its++B) J e (by simp) (r.append r2) ?_,rfl,q⟩;rw[ai];lia
def zmz:V->List V->Hp->VK->Prop:=fun x vs H Q=>∃l xs i k y,x = .ref l/\vs=[.int i]/\H l=some (.lst xs)/\-(2 ^ 63)<=i/\i<2 ^ 63/\seqIndex? i xs.length=some k/\xs[k]?=some y/\Q y (upd H l (.lst (xs.eraseIdx k)))
theorem zgN:MtM X "list.pop" zmz:=by
 intro pins s σ H x vs v us Q I J L h;obtain⟨l,xs,i,k,y,rfl,rfl,D,h1,h2,O,U,q⟩:=h;cases J;obtain⟨u,rfl,Y⟩:=L.one;obtain⟨t,rfl⟩:=Y;obtain⟨z,its,n,r,Z,e⟩:=I.lstM D;obtain⟨w,hw,B⟩:=r.get U
 refine et F.slot_list_pop ⟨_,e,rfl⟩ F.entry_list_pop (F.args_list_pop_2 _ _)
  (MeetsSeq.list_pop_at l its.toArray n i t k w (fitsIndex_both h1 h2) (by rw[aA,<- Z];exact O) (by rw[<- cZ];exact hw) (by rw[aA];lia)) ⟨e,?_⟩
 refine⟨y,_,I.lset (its':=its.eraseIdx k) D e ?_ (r.eraseIdx k) ?_,B,q⟩
 ·show its.toArray.eraseIdxIfInBounds k=(its.eraseIdx k).toArray;rw[List.eraseIdxIfInBounds_toArray]
 ·have:=zeT xs k;lia
def rCat:R2:=fun x y H Q=>∃l b xs zs,x = .ref l/\y = .ref b/\H l=some (.lst xs)/\H b=some (.lst zs)/\xs.length+zs.length<=sizeLine/\∀p,H p=none->Q (.ref p) (upd H p (.lst (xs++zs)))
theorem zqs:OpR X (binaryOp .Add) rCat:=by
 intro pins s σ H x y v u Q I D F h;obtain⟨l,b,xs,zs,rfl,rfl,J,L,hz,q⟩:=h;cases D;cases F;obtain⟨z,its,n,r,hl,e⟩:=I.lstM J;obtain⟨z2,B,n2,O,U,Y⟩:=I.lstM L;refine PySem.P.add_list e Y ?_ (by rw[aA,aA];lia);have Z:its.toArray++B.toArray=(its++B).toArray:=by simp
 rw[Z];exact⟨.ref _,_,I.lnew (t':=s.toks) (r.append O) (by rw[ai];lia),rfl,q _ I.fresh⟩
def zsi:R2:=fun x y H Q=>∃l k xs,x = .ref l/\y = .int k/\H l=some (.lst xs)/\-(2 ^ 63)<=k/\k<2 ^ 63/\xs.length * k.toNat<=sizeLine/\
 ∀p,H p=none->Q (.ref p) (upd H p (.lst (List.replicate k.toNat xs).flatten))
theorem zny {α:Type}(xs:List α)(k:Nat):(List.replicate k xs).flatten.length=k * xs.length:=by
 induction k with
 | zero=>simp
 | succ k q=>rw[b5,cK,ai,q,dP,fL]
theorem zqy:OpR X (binaryOp .Mult) zsi:=by
 intro pins s σ H x y v u Q I rx ry h;obtain⟨l,k,xs,rfl,rfl,hH,h1,h2,hz,q⟩:=h;cases rx;obtain⟨t,rfl⟩:=ry;obtain⟨z,its,n,r,hl,e⟩:=I.lstM hH;have hlen:its.toArray.size * k.toNat<=sizeLine:=by rw[aA,<- hl];exact hz
 have hcap:¬ its.toArray.size * k.toNat > (2 ^ 63 - 1) / 8:=by
  have:(sizeLine:Nat)<=(2 ^ 63 - 1) / 8:=by decide
  lia
 have hfit:¬ (!Builtin.List.listFitsIndex k)=true:=by rw[fitsIndex_both h1 h2];exact aD
 have hlong:¬ Builtin.List.listTooLong (its.toArray.size * k.toNat)=true:=by rw[zgP hlen];exact aD
 have hnew:List.foldl (fun x1 x2=>x1++x2) #[] (List.replicate (if its.toArray.isEmpty=true then 0 else k.toNat) its.toArray)=(List.replicate k.toNat its).flatten.toArray:=by
  have f0:∀m:Nat,List.foldl (fun x1 x2=>x1++x2) #[] (List.replicate m its.toArray)=(List.replicate m its).flatten.toArray:=fun m=>by have:=zeD its m [];rw[eA] at this;exact this
  rw[f0]
  cases its with
  | nil=>simp
  | cons a r'=>rw[if_neg (by simp)]
 refine wpAny_binaryOp_repeat_ref (T := "list") (U := "int") (by decide) ⟨_,e,rfl⟩ (fun s'=>fN s' k t) noFill_list_mul F.fills_int_mul F.slot_int_rmul repeat_list F.slot_int_index.lookup
  (et F.slot_int_rmul (fN s k t) F.entry_int_rmul (F.args_int_rmul_2 _ _) (int___rmul___int_list k t l its.toArray n)
   ⟨e,rfl,⟨_,e,rfl⟩,et F.slot_list_mul ⟨_,e,rfl⟩ F.entry_list_mul (F.args_list_mul_2 _ _) (AutoListH.list___mul___list_int_3 l its.toArray n k t hfit hcap hlong) ⟨e,?_⟩⟩)
 rw[hnew];exact⟨.ref _,_,I.lnew (t':=s.toks) (r.rep k.toNat) (by rw[zny,Nat.mul_comm];exact hz),rfl,q _ I.fresh⟩
end
section
variable {prog:Program}{w:World}{A:Around}{E:Value->Shared->Prop}{s:Shared}
end
section
variable {X:Cx}
end
end L2
namespace Att
open PySem PySem.W PySem.Calls PyProof.Rows
theorem zcb {P:Params}{h:Heap}:∀ (ns:List Int) (vs:List Value),WellAll P h vs (ns.map WData.int)->IntsAre vs ns:=by
 intro ns
 induction ns with
 | nil=>
  intro vs w;rw[List.map_nil] at w;cases w;exact .nil
 | cons n ns q=>
  intro vs w;rw[List.map_cons] at w
  cases w with
  | cons a b=>
   cases a;exact .cons _ _ (q _ b)
theorem zj2 {l:OpenLaw}{n:Nat}(Z:l.most=some n){P:Params}{h:Heap}{args:List WData}{B:List Value}
  (D:l.row.toRowW.claim.pre args=true) (O:WellAll P h B args) :
  ∃a vs ns,B=[Value.ref a]/\args=[WData.list (ns.map WData.int)]/\h.get? a=some { cls:=.type "list",data:=.seq vs.toArray }/\IntsAre vs ns/\ns.length<=n:=by
 have U:WShape.hasAll [] args [.list .int]=true:=(pre_splitW D).1;have Y:l.pre.holds [] { args:=args }=true:=(pre_splitW D).2;obtain⟨d,r,rfl,h1,h2⟩:=hasAllW_cons U;obtain rfl:=hasAllW_nil h2;obtain⟨xs,rfl,h3⟩:=hasW_list h1;obtain⟨ns,rfl⟩:=items_int h3
 have F:ns.length<=n:=by
  unfold OpenLaw.pre at Y
  have J:(WTm.not (.lt (.lit (.int (n:Int))) (.len (.arg 0)))).holds [] { args:=[.list (ns.map .int)] }=true:=by have J:=(holds_andW Y).1;rw[Z] at J;exact J
  have L:=condW_of J (w_not (w_lt w_lit (w_len_list (w_arg rfl))));rw[List.length_map] at L;refine Nat.le_of_not_lt fun q=>?_;have q':(n:Int)<((ns.length:Nat):Int):=by lia
  first
   | (rw[decide_eq_true q'] at L;exact absurd L (by decide))
   | (simp at L;lia)
 cases O with
 | cons w1 w2=>
  cases w2
  cases w1 with
  | list ho I=>exact⟨_,_,ns,rfl,rfl,ho,zcb ns _ I,F⟩
theorem zjD (l:OpenLaw)(args:List WData):l.row.toRowW.claim.post args (.bool true) args=true:=
 postW_of (r:=l.row.toRowW) (X:=(true==true))
  (show WShape.has [] (.bool true) .bool=true by first | rfl | decide | simp[WShape.has,WShape.arms,WShape.armsAll])
  (show (WTm.eq .res (.lit (.bool true))).value [] { args:=args,res:=some (.bool true),after:=args }=some (.bool (true==true)) from w_eq_bool (w_res rfl) w_lit) rfl
theorem attach_call {l:OpenLaw}{n:Nat}{q:Program}{D:List Str}{XP:(Str->Option Value)->Heap->Prop}{YP:World->Heap->Prop}{d:DefRec}
  (hn:l.most=some n) (ad:d.params.defaults=[])
  (L:∀ (w:World) (F B:Shared) (mg mb:Str->Option Value) (fa:Addr) (o:Obj) (pm cd I:Value) (a:Addr) (vs:List Value) (ns:List Int),
   Ground q D [] XP w F mg mb B.heap->YP w B.heap->
   B.heap.get? fa=some o->o.data = .func (docDef d.name d.params d.body d.scope pm cd I)->B.heap.CodeRec cd d.name->mg d.name=some (.ref fa)->
   B.heap.get? a=some { cls:=.type "list",data:=.seq vs.toArray }->IntsAre vs ns->ns.length<=n->B.gens = #[]->
   codeAny (model l.prog w) callerA (.call (.ref fa) ⟨[.ref a],[]⟩) (fun r s'=>r = .ok (.ret (.bool true))/\OldK B.heap s'.heap/\s'.os=B.os/\AllBare s'.gens) B) :
  WalkO q D XP YP l.row.toRowW d [] (fun f vs=>PySem.call f vs):=by
 intro w F B mg mb G Y fa o pm cd I dV kV ho hd al hD an hg args av as O a0 a1 ap a2;obtain rfl:dV = .none:=Dflts.none hD ad;obtain rfl:kV = .none:=Dflts.noKw hD;obtain⟨a,vs,ns,rfl,rfl,U,J,Z⟩:=zj2 hn O ap;refine enter_call (codeAny_mono (L w F B mg mb fa o pm cd I a vs ns G Y ho (fd_plain hd) al an U J Z hg) fun r s' hq=>?_);obtain⟨rfl,h2,h3,h4⟩:=hq;exact⟨.inl ⟨.bool true,.bool true,[],rfl,fun _=>rfl,.bool true,zjD l _,fun _=>⟨List.Pairwise.nil,fun _ hm=>(nomatch hm)⟩⟩,h2,h3,h4⟩
section
variable {prog:Program}{w:World}{A:Around}{E:Value->Shared->Prop}{s:Shared}{K:Frag}
def ledger (h:Heap)(L d:Addr):List (Addr×Obj):=(List.range h.objs.size).filterMap fun a=>if a=L\/a=d then none else (h.get? a).map fun o=>(a,o)
end
end Att
namespace L2
open PySem PySem.Spec PyProof.Rows
theorem zfi:∀ {vs:List Value} {ns:List Int},IntsAre vs ns->ya (ns.map V.int) vs
 | _,_,.nil=>.nil
 | _,_,.cons n t h=>.cons ⟨t,rfl⟩ (zfi h)
def zso (H:Hp):Prop:=∀b,H b=none\/∃o xs,H b=some (.frz o (.lst xs))
theorem zla {P:Program}{w:World}{K:PySem.W.Frag}{mg mb:Str->Option Value}{CX:CXT}{k:Nat}{fa a:Addr}{fd:FuncData}{x:Str}{sp:Sp}{B:Shared}{vs:List Value}{ns:List Int}
  (KX:K.In B.heap) (U:B.heap.Ns mainGlobals mg) (I:B.heap.Ns builtinsNs mb) (as:∀x:Str,x ≠ "__name__" -> mb x=bootBuiltins x) (Y:B.heap.NoLimit) (hg:B.gens = #[])
  (ha:B.heap.get? a=some { cls:=.type "list",data:=.seq vs.toArray }) (hi:IntsAre vs ns) (hl:ns.length<=sizeLine) (hr:Room k callerA)
  (F:∀base:Heap,K.In base->base.Ns mainGlobals mg->FnOk P w K mg base CX k fa fd [x] sp) (O:∀ (s:Shared) (u:Value),BindsTo s fd ⟨[u],[]⟩ [(x,u)])
  (av:∀H:Hp,zso H->SqL K H a (ns.map V.int)->sp [.ref a] H (fun v _=>v = .bl true) fun _ _ _=>False)
  (a0:∀H e s',CX [] H B (fun _ _ _=>False) e s'->False) :
  codeAny (model P w) callerA (.call (.ref fa) ⟨[.ref a],[]⟩) (fun r s'=>r = .ok (.ret (.bool true))/\OldK B.heap s'.heap/\s'.os=B.os/\AllBare s'.gens) B:=by
 have rv:=zfi hi;have Z:=hi.length
 have L:∀H:Hp,zso H->SqL K H a (ns.map V.int)->HOk P w H B.heap->(∀b,H b≠none->b=a)->(H a≠none->K.lookup a=none)->
   codeAny (model P w) callerA (.call (.ref fa) ⟨[.ref a],[]⟩) (fun r s'=>r = .ok (.ret (.bool true))/\OldK B.heap s'.heap/\s'.os=B.os/\AllBare s'.gens) B:=by
  intro H hO hS ad hA hK;have D:∀ {b:Addr} {o:Obj},B.heap.get? b=some o->H b=none->(zkU B.heap H).get? b=some o:=fun e n=>zkV e n
  have a1:∀ {b:Addr} {o:Obj} {es:Array DictEntry} {ep:Nat},B.heap.get? b=some o->o.data = .dict es ep->H b=none:=fun {b o es ep} e d=>by
   cases q:H b with
   | none=>rfl
   | some u=>
    have e':b=a:=hA b (by rw[q];simp);subst e';rw[ha] at e;cases e;have d':Data.seq vs.toArray _=Data.dict es ep:=d;cases d'
  have J:∀ {b:Addr} {m:Str->Option Value},B.heap.Ns b m->(zkU B.heap H).Ns b m:=fun {b m} ⟨o,es,ep,e,d,r⟩=>⟨o,es,ep,D e (a1 e d),d,r⟩
  have al:K.In (zkU B.heap H):=fun b o e=>D (KX b o e) (by
   cases q:H b with
   | none=>rfl
   | some u=>
    have e':b=a:=hA b (by rw[q];simp);subst e';rw[hK (by rw[q];simp)] at e;cases e)
  have hM:Mod K mg (zkU B.heap H):=⟨al,J U,⟨mb,J I,as⟩,let ⟨mc,h1,h2⟩:=Y;⟨mc,J h1,h2⟩⟩;have e0:Env0 P w K mg (zkU B.heap H) callerA [] B H:=⟨rfl,hM,fun b o e=>znP e,Nat.le_of_eq (ziz _ _),trivial,fun b I=>absurd (show b∈([]:List Addr) from I) (by simp),ad,.of_eq hg⟩;refine dJ ((F _ al (J U)).run callerA [] B H ⟨[.ref a],[]⟩ [.ref a] [.ref a] _ _ hr e0 (O B (.ref a)) (.cons rfl .nil) (av H hO hS)) fun r s' h=>?_
  cases r with
  | error e=>exact (a0 H e s' h).elim
  | ok fl=>
   cases fl with
   | next=>exact False.elim h
   | brk=>exact False.elim h
   | cont=>exact False.elim h
   | ret u=>
    obtain⟨v,H',os,an,un,ap,r',q⟩:=h;have q':v = .bl true:=q;subst q';obtain rfl:u=Value.bool true:=r';refine⟨rfl,OldK.of_keep fun b o e=>?_,os,an⟩
    cases q:H b with
    | none=>exact un.keep b o e q (by intro z;exact absurd (show b∈([]:List Addr) from z) (by simp)) (by simp)
    | some u=>
     rcases hO b with z | ⟨ob,xs,z⟩
     ·rw[q] at z;cases z
     ·have z2:=un.frzs b ob _ z;obtain⟨e1,_⟩:=ad b _ z;obtain⟨e2,_⟩:=ap b _ z2;rw[e] at e1;cases e1;exact e2
 cases hk:K.lookup a with
 | some o=>
  have e:=KX a o hk;rw[ha] at e;cases e;refine L (fun _=>none) (fun _=>.inl rfl) (.inr ⟨_,vs.toArray,_,hk,rfl,rfl,rfl,by rw[aA,Z];exact hl,by simpa using rv⟩) (fun b u z=>by have z':(none:Option HO)=some u:=z;cases z') (fun b z=>absurd rfl z) fun z=>absurd rfl z
 | none=>
  refine L (fun b=>if b=a then some (.frz { cls:=.type "list",data:=.seq vs.toArray } (.lst (ns.map V.int))) else none) (fun b=>?_) (.inl (.inr ⟨{ cls:=.type "list",data:=.seq vs.toArray },if_pos rfl⟩)) (fun b u z=>?_) (fun b z=>?_) fun _=>hk
  ·by_cases I:b=a
   ·exact .inr ⟨_,_,if_pos I⟩
   ·exact .inl (if_neg I)
  ·by_cases I:b=a
   ·have z':=(if_pos I).symm.trans z;cases z';subst I;exact⟨ha,by rw[ab];exact hl,vs,_,rv,ha⟩
   ·have z':=(if_neg I).symm.trans z;cases z'
  ·by_cases I:b=a
   ·exact I
   ·exact absurd (if_neg I) z
theorem zpd {l:PySem.W.OpenLaw}{n k:Nat}{q:Program}{D:List Str}{XP:(Str->Option Value)->Heap->Prop}{YP:World->Heap->Prop}{d:DefRec}{K:Params->PySem.W.Frag}{CX:World->CXT}{sp:World->Sp}{x:Str}
  (hn:l.most=some n) (O:n<=sizeLine) (U:d.params.defaults=[]) (hr:Room k callerA)
  (hY:∀ (w:World) (h:Heap),YP w h->(K w.params).In h)
  (F:∀ (w:World) (mg:Str->Option Value) (fa:Addr) (h:Heap),(K w.params).In h->h.Ns mainGlobals mg->mg d.name=some (.ref fa)->
   ∃fd:FuncData,(∀ (s:Shared) (u:Value),BindsTo s fd ⟨[u],[]⟩ [(x,u)])/\
    ∀base:Heap,(K w.params).In base->base.Ns mainGlobals mg->FnOk l.prog w (K w.params) mg base (CX w) k fa fd [x] (sp w))
  (Z:∀ (w:World) (H:Hp) (a:Addr) (ns:List Int),ns.length<=n->zso H->SqL (K w.params) H a (ns.map V.int)->sp w [.ref a] H (fun v _=>v = .bl true) fun _ _ _=>False)
  (ad:∀ (w:World) (H:Hp) (s:Shared) (e:Value) (s':Shared),CX w [] H s (fun _ _ _=>False) e s'->False) :
  PySem.W.WalkO q D XP YP l.row.toRowW d [] (fun f vs=>PySem.call f vs):=by
 refine Att.attach_call hn U fun w an J mg mb fa o pm cd ap a vs ns G Y ho hd as al L I B hg=>?_;have KX:=hY w _ Y;obtain⟨fd,hb,hF⟩:=F w mg fa _ KX G.T.g al;exact zla KX G.T.g G.T.b G.T.builtins G.T.nolimit hg L I (aB B O) hr hF hb (fun H hO hS=>Z w H a ns B hO hS) fun H e s'=>ad w H J e s'
def zav (s:Stmt):Arguments:=match s with
 | .FunctionDef _ a _ _ _ _ _ _ _ _=>a
 | _=>{ posonlyargs:=[],args:=[],vararg:=none,kwonlyargs:=[],kw_defaults:=[],kwarg:=none,defaults:=[] }
def ym (s:Stmt):List Stmt:=match s with
 | .FunctionDef _ _ b _ _ _ _ _ _ _=>b
 | _=>[]
def zg (s:Stmt):Scope:=match s with
 | .FunctionDef _ _ _ _ _ _ q _ _ _=>q
 | _=>{ kind:=.function,names:=[],isGenerator:=false,isCoroutine:=false }
abbrev CX0:CXT:=fun _ _ _ _ _ _=>False
abbrev E0:XK:=fun _ _ _=>False
theorem ztu {X:Cx}:zhF CX0 X E0:=fun _ _ _ _ _ _ _ h=>h.elim
structure Fun (K:PySem.W.Frag)(x qual:Str)(st:Stmt)(f:Addr)(fd:FuncData):Prop where
 ex:∃ (oc:Value) (od:Option Addr) (kV doc pm:Value) (an:Option Addr) (cdv ct:Value) (osl:Array (Option Value)),
  fd=PySem.W.fnOf x qual (zav st) (ym st) (zg st) .none kV doc pm an cdv ct/\K.lookup f=some ⟨oc,od,.func fd,osl⟩/\PySem.W.codeIn K cdv qual=true
 kp:PySem.W.keepIn K (.ref f)=true
section
variable {P:Program}{w:World}{K:PySem.W.Frag}{mg:Str->Option Value}{base:Heap}
theorem Fun.ok {x D:Str}{st:Stmt}{f:Addr}{fd:FuncData}{N ps:List Str}{k:Nat}{sp:Sp}(F:Fun K x D st f fd)(S:FnScope N ps (zg st))(L:∀vs H Q E,sp vs H Q E->vs.length=ps.length)
  (J:∀ (I:Value) (A:Around) (B:List Env) (s:Shared) (H:Hp) (vs:List V) (Q:VK) (E:XK),Room k (A.deeper (envOfC D (zg st) s.heap.objs.size f I))->sp vs H Q E->
   ∃t,PSs (zdB CX0 P w K mg base N D (zg st) f I A B s H E).nox (ym st) t/\t { nx:=fun _ H'=>Q .non H',rt:=Q } (xg N vs) H):FnOk P w K mg base CX0 (k+1) f fd ps sp:=by
 obtain⟨oc,od,kV,Y,pm,an,I,ct,Z,rfl,lk,O⟩:=F.ex;refine zsP lk O S L fun A B s H vs Q E hr U=>?_;obtain⟨t,h,q⟩:=J I A B s H vs Q E hr U;exact⟨t,h.nox,q⟩
theorem Fun.binds {x q:Str}{st:Stmt}{f:Addr}{fd:FuncData}{ps:List Str}(F:Fun K x q st f fd)
  (h:∀ (kV B I:Value) (J:Option Addr) (D ct:Value) (L:List Value),L.length=ps.length->bindArgs (PySem.W.fnOf x q (zav st) (ym st) (zg st) .none kV B I J D ct) ⟨L,[]⟩=pure (ps.zip L)):zg9 K fd ps []:=by
 obtain⟨Y,Z,kV,B,I,J,D,ct,O,rfl,lk,U⟩:=F.ex;exact .all (h kV B I J D ct)
theorem zme {x q:Str}{st:Stmt}{f:Addr}{L:Value}{O I:Option Addr}{F:Array (Option Value)}{kV D J B ct:Value}(l:K.lookup f=some ⟨L,O,.func (PySem.W.fnOf x q (zav st) (ym st) (zg st) .none kV D J I B ct),F⟩)
  (c:PySem.W.codeIn K B q=true) (k:PySem.W.keepIn K (.ref f)=true):Fun K x q st f (PySem.W.fnOf x q (zav st) (ym st) (zg st) .none kV D J I B ct):=⟨⟨L,O,kV,D,J,I,B,ct,F,rfl,l,c⟩,k⟩
end
theorem zbz {A:Around}{k:Nat}(q:Room k A):A.units+1<cLine:=a8 (Nat.add_le_add_left (by decide:1<=64) _) q.units
theorem zaW {n:Nat}(h:n<=1000):n<sizeLine:=a8 h (by decide)
section
variable {X:Cx}
end
theorem iteF {A B:Prop}(h:B):if false=true then A else B:=by rw[if_neg aD];exact h
theorem zr3 {c A B:Prop}[Decidable c](h1:c->A)(h2:¬ c->B):if c then A else B:=by
 by_cases h:c
 ·rw[if_pos h];exact h1 h
 ·rw[if_neg h];exact h2 h
def y4 (H H':Hp):Prop:=∀b o,H b=some o->H' b=some o
theorem y4.trans {H H1 H2:Hp}(a:y4 H H1)(b:y4 H1 H2):y4 H H2:=fun c o h=>b c o (a c o h)
theorem y4.free {H H':Hp}(e:y4 H H'){l:Addr}(h:H' l=Option.none):H l=Option.none:=by
 cases q:H l with
 | none=>rfl
 | some o=>
  rw[e l o q] at h;cases h
theorem y4.seq {K:PySem.W.Frag}{H H':Hp}{a:Addr}{xs:List V}(e:y4 H H')(h:SqL K H a xs):SqL K H' a xs:=by
 rcases h with (h | ⟨o,h⟩) | h
 ·exact .inl (.inl (e _ _ h))
 ·exact .inl (.inr ⟨o,e _ _ h⟩)
 ·exact .inr h
section
variable {κ:Type}[DecidableEq κ]
end
section
variable {X:Cx}
theorem zfw:zcN X (.builtin "isinstance") (fun xs H Q=>∃x T t b,xs=[x,.ty T]/\TyOf X.K H x t/\PySem.W.kitOne X.K t (.type T)=some b/\Q (.bl b) H):=by intro pins s σ H xs F Q I r h;obtain⟨x,T,t,b,rfl,ty,e,q⟩:=h;obtain⟨u,c,rfl,B,D⟩:=zt5 r;cases D;exact ziJ I B ty e fun tk=>⟨.bl b,H,I.tok tk,rfl,q⟩
def zjO (K:PySem.W.Frag):R2:=fun x y H Q=>∃a b xs ys,x = .ref a/\y = .ref b/\H a=some (.tup xs)/\H b=some (.tup ys)/\xs.length+ys.length<=sizeLine/\
 ∀p H',H' p=some (.tup (xs++ys))->y4 H H'->Q (.ref p) H'
theorem znR:OpR X (binaryOp .Add) (zjO X.K):=by
 intro pins s σ H x y v u Q I rx ry h;obtain⟨a,b,xs,ys,rfl,rfl,L,O,hz,q⟩:=h;by_cases hx:xs=[]
 ·subst hx;cases rx;cases ry;obtain⟨its,r1,p1,_⟩:=I.tuple (.of L);obtain⟨B,r2,p2,_⟩:=I.tuple (.of O);obtain⟨⟨cls,dd,data,sl⟩,ho,hc,n,hd⟩:=id p1;obtain⟨⟨ad,U,Y,Z⟩,D,F,n2,J⟩:=id p2;simp only at hc hd F J;subst hc hd F J;have hi:its=[]:=r1.nil_iff.mpr rfl
  exact concat_meets ⟨_,ho,rfl⟩ ⟨_,D,rfl⟩ fG seq_tuple_add dz dq (di _ _)
   (tuple_addW0 a b its.toArray B.toArray n n2 dd U sl Z (by simp[hi])) ⟨ho,D,⟨.ref b,H,I,rfl,q b H O fun _ _ e=>e⟩⟩
 ·refine znS pins s σ H _ _ v u Q I rx ry ⟨a,b,xs,ys,rfl,rfl,.of L,.of O,hx,hz,fun e=>?_,fun e p hp=>?_⟩
  ·subst e;exact q a H (by rw[cy];exact L) fun _ _ e=>e
  ·exact q p _ zj fun c o e=>by rw[ze (zc e hp)];exact e
end
section
variable {X:Cx}
end
end L2
namespace HT
open PySem PySem.Spec PyProof.Rows
section
variable {prog:Program}{w:World}{A:Around}{E:Value->Shared->Prop}{s:Shared}
theorem getItem_tuple_whole {t D:Addr}{items:Array Value}{L O:Value}{lo hi:Option Int}{Q:Value->Shared->Prop}(q:IsTup s.heap t items)(U:s.heap.IsSliceOf D L O .none)(Z:IsPart L lo)(pu:IsPart O hi)
  (Y:sIx items.size 0 lo=0/\sIx items.size items.size hi=items.size) (h:Q (.ref t) s) (hsz:items.size<=sizeLine):wpAny (model prog w) A (getItem (.ref t) (.ref D)) Q E s:=by
 obtain⟨os,F,I,ad⟩:=id U;have J:s.TypeIs (.ref D) "slice" := ⟨os,F,I⟩;unfold getItem;try with_reducible refine wpAny_holding ?_
 first | refine wpAny_bind (wpAny_pure ?_) | skip
 refine wpAny_bind (wpAny_sequenceKey q.typeIs (by decide) ?_)
 refine wpAny_bind (wpAny_callSpecial?_slot (name:=Str.ofString "__getitem__") q.typeIs PyProof.Rows.slot_tuple_getitem
  (wpAny_call_entry PyProof.Rows.slot_tuple_getitem q.typeIs entry_tuple_getitem ?_ (args_tuple_getitem _ _)))
 show wpAny _ _ (Builtin.Tuple.tupleItemsOf (.ref t) >>= _) _ _ s;refine wpAny_bind (tupleItemsOf_ q ?_);refine wpAny_bind (wpAny_typeOf J ?_);rw[if_pos (by decide)];refine wpAny_bind (uL U Z pu ?_)
 have B:(((sIx items.size 0 lo:Nat):Int)==0&&(1:Int)==1&&(sIx items.size items.size hi - sIx items.size 0 lo)==items.size)=true:=by rw[Y.1,Y.2];simp
 show wpAny _ _ (if (((sIx items.size 0 lo:Nat):Int)==0&&(1:Int)==1&&(sIx items.size items.size hi - sIx items.size 0 lo)==items.size)=true then _ else _) _ _ s;rw[if_pos B];unfold Builtin.Tuple.tupleIsExact;refine wpAny_bind (wpAny_bind (wpAny_typeOf q.typeIs ?_));refine wpAny_pure ?_;rw[if_pos (by decide)];refine wpAny_bind (wpAny_rule ?_);exact wpAny_pure ⟨_,rfl,wpAny_pure h⟩
end
end HT
namespace L2
open PySem PySem.Spec PyProof.Rows
section
variable {X:Cx}
def rSlA:V->Option Int->Option Int->Hp->VK->Prop:=fun x lo hi H Q=>∃a xs,x = .ref a/\H a=some (.tup xs)/\∀p H',H' p=some (.tup (zcS xs lo hi))->y4 H H'->Q (.ref p) H'
theorem zoS:SlR X rSlA:=by
 intro pins s σ H x v Z vu lo hi sl Q I J L O U h;obtain⟨a,xs,rfl,F,q⟩:=h;by_cases D:HT.sIx xs.length 0 lo=0/\HT.sIx xs.length xs.length hi=xs.length
 ·cases J;obtain⟨its,r,Y,hz⟩:=I.tuple (.of F);have B:its.toArray.size=xs.length:=by rw[aA];exact r.length.symm
  refine⟨"tuple",_,PyProof.Rows.slot_tuple_getitem.lookup,Y.typeIs,?_⟩;refine HT.getItem_tuple_whole Y L O U (by rw[B];exact D) ⟨.ref a,H,I,rfl,q a H ?_ fun _ _ e=>e⟩ (by rw[B];exact hz);unfold zcS;rw[D.1,D.2,dF,eO,ba];exact F
 ·exact zrq pins s σ H _ v Z vu lo hi sl Q I J L O U ⟨a,xs,rfl,.of F,D,fun p hp=>q p _ zj fun c o e=>by rw[ze (zc e hp)];exact e⟩
inductive Dt where
 | non | bl (b:Bool) | int (i:Int) | str (x:Str) | tup (l:List Dt) | lst (l:List Dt) | dct
mutual
def Is (H:Hp):Dt->V->Prop
 | .non,v=>v = .non
 | .bl b,v=>v = .bl b
 | .int i,v=>v = .int i
 | .str x,v=>v = .str x
 | .tup l,v=>∃a xs,v = .ref a/\H a=some (.tup xs)/\IsL H l xs
 | .lst l,v=>∃a xs,v = .ref a/\H a=some (.lst xs)/\IsL H l xs
 | .dct,v=>∃a kvs,v = .ref a/\H a=some (.dK kvs)/\zaZ kvs (Sum.inr "at" : Key)=none
def IsL (H:Hp):List Dt->List V->Prop
 | [],xs=>xs=[]
 | d::ds,xs=>∃x r,xs=x::r/\Is H d x/\IsL H ds r
end
def zv (H H':Hp):Prop:=∀b o,H b=some o->(∀kvs,o = .dK kvs->zaZ kvs (Sum.inr "at" : Key)=none)->H' b=some o
theorem zv.refl (H:Hp):zv H H:=fun _ _ e _=>e
theorem zv.trans {H H1 H2:Hp}(a:zv H H1)(b:zv H1 H2):zv H H2:=fun c o e n=>b c o (a c o e n) n
theorem zv.same {H H1:Hp}(a:y4 H H1):zv H H1:=fun c o e _=>a c o e
theorem zv.upd {H:Hp}{p:Addr}{o:HO}(h:H p=none):zv H (upd H p o):=fun c u e _=>by rw[ze (zc e h)];exact e
theorem y4.upd {H:Hp}{p:Addr}{o:HO}(h:H p=none):y4 H (upd H p o):=fun c u e=>by rw[ze (zc e h)];exact e
theorem zv.tup {H H1:Hp}(a:zv H H1){p:Addr}{xs:List V}(h:H p=some (.tup xs)):H1 p=some (.tup xs):=a _ _ h fun _ e=>by cases e
theorem zv.lst {H H1:Hp}(a:zv H H1){p:Addr}{xs:List V}(h:H p=some (.lst xs)):H1 p=some (.lst xs):=a _ _ h fun _ e=>by cases e
mutual
theorem Is.stay {H H1:Hp}(a:zv H H1):∀ {d:Dt} {v:V},Is H d v->Is H1 d v
 | .non,_,h=>h
 | .bl _,_,h=>h
 | .int _,_,h=>h
 | .str _,_,h=>h
 | .tup l,v,h=>by obtain⟨p,xs,e,hp,hl⟩:=h;exact⟨p,xs,e,a.tup hp,IsL.stay a hl⟩
 | .lst l,v,h=>by obtain⟨p,xs,e,hp,hl⟩:=h;exact⟨p,xs,e,a.lst hp,IsL.stay a hl⟩
 | .dct,v,h=>by obtain⟨p,kvs,e,hp,hl⟩:=h;exact⟨p,kvs,e,a _ _ hp fun kvs' e=>by cases e;exact hl,hl⟩
theorem IsL.stay {H H1:Hp}(a:zv H H1):∀ {ds:List Dt} {xs:List V},IsL H ds xs->IsL H1 ds xs
 | [],_,h=>h
 | d::ds,xs,h=>by obtain⟨x,r,e,h1,h2⟩:=h;exact⟨x,r,e,Is.stay a h1,IsL.stay a h2⟩
end
theorem IsL.length {H:Hp}:∀ {ds:List Dt} {xs:List V},IsL H ds xs->xs.length=ds.length
 | [],_,h=>by cases h;rfl
 | d::ds,xs,h=>by obtain⟨x,r,rfl,_,h2⟩:=h;rw[aS,aS,IsL.length h2]
theorem IsL.get {H:Hp}:∀ {ds:List Dt} {xs:List V} {i:Nat} {x:V},IsL H ds xs->xs[i]?=some x->∃d,ds[i]?=some d/\Is H d x
 | [],_,_,_,h,e=>by cases h;simp at e
 | d::ds,xs,i,x,h,e=>by
  obtain⟨y,r,rfl,h1,h2⟩:=h
  cases i with
  | zero=>simp at e;subst e;exact⟨d,rfl,h1⟩
  | succ i=>
   obtain⟨d',q,B⟩:=IsL.get (i:=i) (x:=x) h2 (by simpa using e);exact⟨d',by simpa using q,B⟩
theorem IsL.getD {H:Hp}:∀ {ds:List Dt} {xs:List V} {i:Nat} {d:Dt},IsL H ds xs->ds[i]?=some d->∃x,xs[i]?=some x/\Is H d x
 | [],_,_,_,_,e=>by simp at e
 | d::ds,xs,i,x,h,e=>by
  obtain⟨y,r,rfl,h1,h2⟩:=h
  cases i with
  | zero=>simp at e;subst e;exact⟨y,rfl,h1⟩
  | succ i=>
   obtain⟨d',q,B⟩:=IsL.getD (i:=i) (d:=x) h2 (by simpa using e);exact⟨d',by simpa using q,B⟩
theorem IsL.append {H:Hp}:∀ {ds es:List Dt} {xs ys:List V},IsL H ds xs->IsL H es ys->IsL H (ds++es) (xs++ys)
 | [],_,_,_,h,k=>by cases h;exact k
 | d::ds,es,xs,ys,h,k=>by obtain⟨y,r,rfl,h1,h2⟩:=h;exact⟨y,r++ys,rfl,h1,IsL.append h2 k⟩
theorem IsL.take {H:Hp}:∀ {ds:List Dt} {xs:List V} (n:Nat),IsL H ds xs->IsL H (ds.take n) (xs.take n)
 | _,_,0,_=>by simp[IsL]
 | [],_,n+1,h=>by cases h;simp[IsL]
 | d::ds,xs,n+1,h=>by obtain⟨y,r,rfl,h1,h2⟩:=h;exact⟨y,r.take n,rfl,h1,IsL.take n h2⟩
theorem IsL.drop {H:Hp}:∀ {ds:List Dt} {xs:List V} (n:Nat),IsL H ds xs->IsL H (ds.drop n) (xs.drop n)
 | _,_,0,h=>h
 | [],_,n+1,h=>by cases h;simp[IsL]
 | d::ds,xs,n+1,h=>by obtain⟨y,r,rfl,h1,h2⟩:=h;exact IsL.drop n h2
theorem IsL.one {H:Hp}{d:Dt}{x:V}(h:Is H d x):IsL H [d] [x]:=⟨x,[],rfl,h,rfl⟩
theorem IsL.ints {H:Hp}:∀ {ns:List Int},IsL H (ns.map .int) (ns.map .int)
 | []=>rfl
 | n::ns=>⟨_,_,rfl,rfl,IsL.ints⟩
theorem IsL.of_ints {H:Hp}:∀ {ns:List Int} {xs:List V},IsL H (ns.map .int) xs->xs=ns.map .int
 | [],_,h=>h
 | n::ns,xs,h=>by obtain⟨y,r,rfl,h1,h2⟩:=h;cases h1;rw[IsL.of_ints h2];rfl
def Dt.ty:Dt->String
 | .non => "NoneType" | .bl _ => "bool" | .int _ => "int" | .str _ => "str" | .tup _ => "tuple" | .lst _ => "list" | .dct => "dict"
theorem Is.ty {K:PySem.W.Frag}{H:Hp}:∀ {d:Dt} {v:V},Is H d v->TyOf K H v (.type d.ty)
 | .non,_,h=>by cases h;exact .non
 | .bl _,_,h=>by cases h;exact .bl _
 | .int _,_,h=>by cases h;exact .int _
 | .str _,_,h=>by cases h;exact .str _
 | .tup l,v,h=>by obtain⟨p,xs,rfl,q,B⟩:=h;exact .tup q
 | .lst l,v,h=>by obtain⟨p,xs,rfl,q,B⟩:=h;exact .lst q
 | .dct,v,h=>by obtain⟨p,xs,rfl,q,B⟩:=h;exact .dK q
@[reducible] def Dt.isTup:Dt->Bool
 | .tup _=>true | _=>false
@[reducible] def Dt.isLst:Dt->Bool
 | .lst _=>true | _=>false
@[reducible] def Dt.isInt:Dt->Bool
 | .int _=>true | .bl _=>true | _=>false
@[reducible] def Dt.isBl:Dt->Bool
 | .bl _=>true | _=>false
def Dt.isWhole:Dt->Bool
 | .int _=>true | _=>false
theorem znw (K:PySem.W.Frag)(d:Dt):PySem.W.kitOne K (.type d.ty) (.type "tuple")=some d.isTup:=by cases d <;> rfl
theorem znv (K:PySem.W.Frag)(d:Dt):PySem.W.kitOne K (.type d.ty) (.type "list")=some d.isLst:=by cases d <;> rfl
theorem zqc (K:PySem.W.Frag)(d:Dt):PySem.W.kitOne K (.type d.ty) (.type "bool")=some d.isBl:=by cases d <;> rfl
end
def zaB (env:Env):List (Str×NameKind)->List (Str×Addr)->List (Str×Addr)
 | [],cs=>cs
 | x::r,cs=>zaB env r (if (x.2==NameKind.free)=true then (x.1,(env.cells.lookup x.1).getD 0)::cs else cs)
theorem xF {env:Env}{scope:Scope}(h:∀x∈scope.names,x.2 = .free->∃c,env.cells.lookup x.1=some c):closureFor scope env=pure (zaB env scope.names []):=by
 have gen:∀ (names:List (Str×NameKind)) (cs:List (Str×Addr)),(∀x∈names,x.2 = .free->∃c,env.cells.lookup x.1=some c)->
   (forIn names cs (fun x r=>match x with
    | (name,kind)=>if (kind==NameKind.free)=true then do let a <- cellOf env name;pure (ForInStep.yield ((name,a)::r)) else pure (ForInStep.yield r)):Sem (List (Str×Addr)))=pure (zaB env names cs):=by
  intro names
  induction names with
  | nil=>intro cs _;rfl
  | cons x r ih=>
   intro cs hh;obtain⟨n,k⟩:=x;rw[List.forIn_cons];by_cases hk:(k==NameKind.free)=true
   ·obtain⟨c,hc⟩:=hh (n,k) ao (bn hk);have hc':env.cells.lookup n=some c:=hc;have e:cellOf env n=pure c:=by unfold cellOf;rw[hc']
    simp only[hk,if_true,e,pure_bind];rw[ih _ fun y hy=>hh y (am _ hy)];show pure _=pure (zaB env r (if (k==NameKind.free)=true then (n,(env.cells.lookup n).getD 0)::cs else cs));rw[if_pos hk,hc'];rfl
   ·simp only[hk,pure_bind]
    have e2:zaB env ((n,k)::r) cs=zaB env r cs:=by show zaB env r (if (k==NameKind.free)=true then _ else cs)=_;rw[if_neg hk]
    rw[e2];exact ih _ fun y hy=>hh y (am _ hy)
 unfold closureFor;have:=gen scope.names [] h;simpa using this
theorem yU {env:Env}:∀ {names:List (Str×NameKind)} {cs:List (Str×Addr)} {x:Str} {c:Addr},(∀y∈names,y.2 = .free->∃c,env.cells.lookup y.1=some c)->(zaB env names cs).lookup x=some c->env.cells.lookup x=some c\/cs.lookup x=some c
 | [],_,_,_,_,h=>.inr h
 | (n,k)::r,cs,x,c,I,h=>by
  have q:=yU (names:=r) (x:=x) (c:=c) (fun y L=>I y (am _ L)) h;rcases q with q | q
  ·exact .inl q
  ·by_cases D:(k==NameKind.free)=true
   ·obtain⟨J,O⟩:=I (n,k) ao (bn D);have B:env.cells.lookup n=some J:=O;rw[if_pos D,B] at q;rw[a6] at q
    cases e:x==n with
    | true=>
     rw[e] at q;have:=bn e;subst this;have F:some J=some c:=q;cases F;exact .inl B
    | false=>
     rw[e] at q;exact .inr q
   ·rw[if_neg D] at q;exact .inr q
theorem zc6 {env:Env}:∀ {names:List (Str×NameKind)} {cs:List (Str×Addr)} {x:Str},(∃c,cs.lookup x=some c)->∃c,(zaB env names cs).lookup x=some c
 | [],_,_,h=>h
 | (n,k)::r,cs,x,h=>by
  refine zc6 (names:=r) ?_;by_cases q:(k==NameKind.free)=true
  ·rw[if_pos q,a6]
   cases e:x==n with
   | true=>exact⟨_,rfl⟩
   | false=>exact h
  ·rw[if_neg q];exact h
theorem zad {env:Env}:∀ {names:List (Str×NameKind)} {cs:List (Str×Addr)} {x:Str},names.lookup x=some .free->∃c,(zaB env names cs).lookup x=some c
 | [],_,_,h=>by simp at h
 | (n,k)::r,cs,x,h=>by
  rw[a6] at h
  cases e:x==n with
  | true=>
   rw[e] at h;have h':some k=some NameKind.free:=h;cases h';refine zc6 (names:=r) ?_;rw[if_pos (by rfl),a6,e];exact⟨_,rfl⟩
  | false=>
   rw[e] at h;exact zad (names:=r) h
theorem yO {env:Env}:∀ {names:List (Str×NameKind)} {x:Str} {k:NameKind},(∀y∈names,y.2≠.cell)->
  (names.map fun (n,k)=>if (k==NameKind.free&&env.scope.kind==.function&&env.kindOf n==some .cell) then (n,NameKind.cell) else (n,k)).lookup x=some k->(k = .cell\/k = .free)->names.lookup x=some .free
 | [],_,_,_,h,_=>by simp at h
 | (n,k)::r,x,D,F,h,B=>by
  have I:=@yO env r x D (fun y J=>F y (am _ J));rw[aq] at h;rw[a6];by_cases q:(k==NameKind.free&&env.scope.kind==.function&&env.kindOf n==some .cell)=true
  ·have h':List.lookup x ((n,NameKind.cell)::r.map fun (n,k)=>if (k==NameKind.free&&env.scope.kind==.function&&env.kindOf n==some .cell) then (n,NameKind.cell) else (n,k))=some D:=by
    have:=h;simp only[q,if_true] at this;exact this
   rw[a6] at h'
   cases e:x==n with
   | true=>
    have:k = .free:=by rw[ar,ar] at q;exact bn q.1.1
    subst this;rfl
   | false=>
    rw[e] at h';exact I h' B
  ·have h':List.lookup x ((n,k)::r.map fun (n,k)=>if (k==NameKind.free&&env.scope.kind==.function&&env.kindOf n==some .cell) then (n,NameKind.cell) else (n,k))=some D:=by
    have:=h;simp only[q] at this;exact this
   rw[a6] at h'
   cases e:x==n with
   | true=>
    rw[e] at h';have h2:some k=some D:=h';cases h2;rcases B with B | B
    ·exact absurd B (F (n,k) ao)
    ·subst B;rfl
   | false=>
    rw[e] at h';exact I h' B
theorem yP {env:Env}:∀ {names:List (Str×NameKind)} {x:Str},names.lookup x=some .free->
  (names.map fun (n,k)=>if (k==NameKind.free&&env.scope.kind==.function&&env.kindOf n==some .cell) then (n,NameKind.cell) else (n,k)).lookup x=some .cell\/
  (names.map fun (n,k)=>if (k==NameKind.free&&env.scope.kind==.function&&env.kindOf n==some .cell) then (n,NameKind.cell) else (n,k)).lookup x=some .free
 | [],_,h=>by simp at h
 | (n,k)::r,x,h=>by
  have B:=@yP env r x;rw[a6] at h;rw[aq]
  cases e:x==n with
  | true=>
   rw[e] at h;have h':some k=some NameKind.free:=h;cases h';by_cases q:((NameKind.free==NameKind.free)&&env.scope.kind==.function&&env.kindOf n==some .cell)=true
   ·left;simp only[q,if_true];rw[a6,e]
   ·right;simp only[q];rw[if_neg aD,a6,e]
  | false=>
   rw[e] at h;have h':r.lookup x=some NameKind.free:=h;by_cases q:((k==NameKind.free)&&env.scope.kind==.function&&env.kindOf n==some .cell)=true
   ·simp only[q,if_true];rw[a6,e];exact B h'
   ·simp only[q];rw[if_neg aD,a6,e];exact B h'
def zu (X:Cx)(scope:Scope)(N:List Str)(C:Addr)(s:Shared)(H:Hp)(ex:List Addr):Cx where
 prog:=X.prog
 w:=X.w
 K:=X.K
 mg:=X.mg
 base:=X.base
 A:=X.A
 N:=N
 s₀:=s
 H₀:=H
 env:=compEnvC scope (zaB X.env scope.names []) C X.env
 outer:=X.stack
 stack:=X.stack
 ex:=ex
 fn:=fun _=>false
 calm:=X.calm
 pn:=[]
 xe:=fun _ _=>False
def caps (XN:List Str)(Xnames names:List (Str×NameKind))(N:List Str)(cix:List (Option Nat)):Bool:=
 N.length==cix.length&&(names.all fun y=>y.2 != .cell)&&((N.zip cix).all fun p=>match p.2 with
  | none=>true
  | some i=>XN[i]?==some p.1&&names.lookup p.1==some .free&&(Xnames.lookup p.1==some .cell || Xnames.lookup p.1==some .free)) &&
 (names.all fun y=>y.2 != .free || (Xnames.lookup y.1==some .cell || Xnames.lookup y.1==some .free))
def uR (σ:St)(cix:List (Option Nat)):St:=cix.map fun o=>match o with
 | none=>none
 | some i=>(σ[i]?).join
structure CompOk (X:Cx)(scope:Scope)(N:List Str)(cix:List (Option Nat)):Prop where
 kind:scope.kind = .function
 names:∀x∈scope.names,x.2 = .local->scope.names.lookup x.1=some .local
 caps:caps X.N X.env.scope.names scope.names N cix=true
section
variable {X:Cx}{pins:List (Addr×Obj)}{σ:St}{H:Hp}{s:Shared}{scope:Scope}{N:List Str}{cix:List (Option Nat)}
theorem CompOk.cell (c:CompOk X scope N cix):∀y∈scope.names,y.2≠.cell:=fun y q e=>by have h:=c.caps;unfold L2.caps at h;rw[ar,ar,ar] at h;have:=bE.mp h.1.1.2 y q;rw[e] at this;exact absurd this (by decide)
theorem CompOk.len (c:CompOk X scope N cix):N.length=cix.length:=by have h:=c.caps;unfold L2.caps at h;rw[ar,ar,ar] at h;exact bn h.1.1.1
theorem CompOk.cells (c:CompOk X scope N cix)(B:X.Ok):∀x∈scope.names,x.2 = .free->∃a,X.env.cells.lookup x.1=some a:=fun x D e=>by
 have h:=c.caps;unfold L2.caps at h;rw[ar] at h;have q:=bE.mp h.2 x D;rw[e] at q;have F:(X.env.scope.names.lookup x.1==some NameKind.cell || X.env.scope.names.lookup x.1==some NameKind.free)=true:=by simpa using q
 rcases db.mp F with q | q
 ·exact B.has _ (.inl (bn q))
 ·exact B.has _ (.inr (bn q))
theorem CompOk.cap (c:CompOk X scope N cix){j i:Nat}{x:Str}(h1:N[j]?=some x)(h2:cix[j]?=some (some i)):X.N[i]?=some x/\scope.names.lookup x=some .free/\(X.env.scope.names.lookup x=some .cell\/X.env.scope.names.lookup x=some .free):=by
 have h:=c.caps;unfold L2.caps at h;rw[ar,ar] at h
 have B:(x,some i)∈N.zip cix:=by refine aG (i:=j) ?_;rw[List.getElem?_zip_eq_some];exact⟨h1,h2⟩
 have q:=bE.mp h.1.2 _ B;simp only[ar] at q;refine⟨bn q.1.1,bn q.1.2,?_⟩;rcases db.mp q.2 with q | q
 ·exact .inl (bn q)
 ·exact .inr (bn q)
theorem zbG {fp:List Addr}{h':Heap}{tk:Nat}{m:Str->Option Value}(I:Inv X pins σ H s)(c:CompOk X scope N cix)(Y:∀b∈fp,zbt X pins H b)(ad:∀b∈fp,b<s.heap.objs.size)
  (hn:h'.Ns s.heap.objs.size m) (Z:∀b o,s.heap.get? b=some o->h'.get? b=some o) :
  Inv (zu X scope N s.heap.objs.size s H fp) [] (uR σ cix) H { s with heap:=h',toks:=tk }:=by
 have al:=c.cells I.ok
 have B:∀x a,(zaB X.env scope.names []).lookup x=some a->X.env.cells.lookup x=some a:=fun x a e=>by
  rcases yU al e with z | z
  ·exact z
  ·simp at z
 refine⟨⟨I.mod,c.kind,I.ok.glob,I.ok.blt,ag _,fun x y a e1 e2=>I.ok.inj x y a (B x a e1) (B y a e2),fun x hx=>?_,fun x a z _=>absurd (show (false:Bool)=true from z) (by decide),I.ok.hd,I.ok.frames,.inl rfl,
  fun b F=>⟨aM (ad b F),fun x a e=>(Y b F).2.2.2.2.1 x a (B x a e)⟩,I.bs,aB I.ok.bsz I.sz,fun b o e F=>?_,fun b F z=>?_,I.stack,I.stkFree⟩,
  I.os ▸ rfl,I.bare,Un.kept Z,⟨m,hn,fun j x v h1 h2 h3=>?_⟩,fun x a e=>?_,I.hok.fresh (ag _),fun x a e=>I.freeC x a (B x a e),fun p hp=>absurd (show p∈([]:List (Addr×Obj)) from hp) (by simp),I.hok.kept Z,?_⟩
 ·have an:((relabel scope X.env).names.lookup x=some .cell\/(relabel scope X.env).names.lookup x=some .free):=hx;rcases an with z | z
  ·exact zad (yO c.cell z (.inl rfl))
  ·exact zad (yO c.cell z (.inr rfl))
 ·rcases (Y b F).2.2.2.1 with z | z
  ·exact I.ok.noex b o e z
  ·exact absurd (aU (ay e) (aB I.ok.bsz z)) (bU _)
 ·rcases aE.mp (I.stkSub b z) with e | e
  ·exact (Y b F).2.1 e
  ·exact (Y b F).2.2.1 e
 ·have ap:N[j]?=some x:=h1;unfold uR at h2;rw[au] at h2
  cases e:cix[j]? with
  | none=>rw[e] at h2;cases h2
  | some o=>
   rw[e] at h2
   cases o with
   | none=>cases h2
   | some i=>
    have D:(σ[i]?).join=some v:=be h2
    have O:σ[i]?=some (some v):=by
     cases q:σ[i]? with
     | none=>rw[q] at D;cases D
     | some z=>rw[q] at D;have:z=some v:=D;rw[this]
    obtain⟨q1,q2,L⟩:=c.cap ap e;obtain⟨m0,av,as⟩:=I.loc;obtain⟨u,ru,hu⟩:=as i x v q1 O (L.elim (fun z=>.inr (.inl z)) fun z=>.inr (.inr z));refine⟨u,ru,.inr ⟨yP q2,?_⟩⟩;rcases hu with ⟨z,_⟩ | ⟨_,a,ha,hcell⟩
    ·have z':X.env.scope.names.lookup x=some .local:=z;rcases L with L | L <;> rw[z'] at L <;> cases L
    ·obtain⟨a',U⟩:=zad (env:=X.env) (cs:=[]) q2;have:a'=a:=by have:=(B x a' U).symm.trans ha;exact be this
     subst this;obtain⟨oc,J,hd⟩:=hcell;exact⟨a',U,oc,Z _ _ J,hd⟩
 ·obtain⟨v,oc,J,hd⟩:=I.cell x a (B x a e);exact⟨v,oc,Z _ _ J,hd⟩
 ·show (uR σ cix).length=N.length;unfold uR;rw[ab,c.len]
theorem zb7 {P:Program}{w:World}{H:Hp}{h h':Heap}{a:Addr}(x:HOk P w H h)(D:H a=none)(F:Heap.SameBut a h h'):HOk P w H h':=fun b o e=>by
 refine (x b o e).stay (fun c u B q=>(F.2 c ?_).trans q) (fun _ q=>q) fun _ _ q=>q;rcases B with rfl | B
 ·exact zc e D
 ·exact zc B D
theorem zah {fp:List Addr}{O:St}{H':Hp}{s':Shared}{D:Heap}(I:Inv X pins σ H s)(J:∀b∈fp,zbt X pins H b)(I':Inv (zu X scope N s.heap.objs.size s H fp) [] O H' s')(L:Heap.SameBut s.heap.objs.size s'.heap D) :
  Inv X pins σ H' { s' with heap:=D }:=by
 have U:∀b o,s.heap.get? b=some o->b≠s.heap.objs.size:=fun b o e=>aM (ay e);have u:=I'.base;refine Inv.call' (ch:=fp) I I'.os ⟨fun b o e n B F=>?_,fun b o e n B F=>?_,u.free,fun b o e F=>?_,u.tups,u.frzs,u.tbls⟩ (zb7 I'.hok I'.free L) I'.bare fun b B=>⟨(J b B).2.2.2.1,(J b B).2.1,(J b B).2.2.2.2.1,(J b B).2.2.2.2.2⟩
 ·exact (L.2 b (U b o e)).trans (u.keep b o e n B F)
 ·obtain⟨Y,q⟩:=u.slot b o e n B F;exact⟨Y,(L.2 b (U b o e)).trans q⟩
 ·obtain⟨o',q⟩:=u.there b o e F;exact⟨o',(L.2 b (U b o e)).trans q⟩
end
section
variable {prog:Program}{w:World}{A:Around}{R:Result->Shared->Prop}{s:Shared}
theorem ut {elt target iter:Expr}{ifs:List Expr}{scope:Scope}{pos:Pos}{it acc:Value}{env:Env}(I:Nat->Shared->Prop)
  (turn:∀n s,I n s->wpAny (model prog w) A (pyNext it) (fun r s₁=>match r with
   | none=>R (.ok .next) s₁
   | some v=>wpAny (model prog w) A (letOwnedTupleGo target it v) (fun _ s₂=>wpAny (model prog w) A (assign target env v) (fun _ s₃=>
     wpAny (model prog w) A (forIn ifs true fun c r=>if r=true then do let ok <- isTrue c env (eval c env);pure (ForInStep.yield ok) else pure (ForInStep.yield r)) (fun ok s₄=>
      if ok=true then wpAny (model prog w) A (eval elt env) (fun x s₅=>
       wpAny (model prog w) A (call (.builtin "list.append") [acc,x]) (fun _ s₆=>∃m,m<n/\I m s₆) (fun _ _=>False) s₅) (fun _ _=>False) s₄
      else ∃m,m<n/\I m s₄) (fun _ _=>False) s₃) (fun _ _=>False) s₂) (fun _ _=>False) s₁) (fun _ _=>False) s)
  (n:Nat) (h:I n s) :
  codeAny (model prog w) A (.compLoop (.ListComp elt [⟨target,iter,ifs,0⟩] scope pos) 0 it acc env) R s:=by
 refine eP rfl I (fun n s hI=>?_) n h;show wpAny _ A ((compTurn (.ListComp elt [⟨target,iter,ifs,0⟩] scope pos) 0 it acc env).onRaise (fun x=>do noteFrame x env;theTreesLotGoes x)) _ _ s;refine fB ?_;rw[compTurn_list];refine aa (bC (aa (aX (turn n s hI) (fun r s₁ h₁=>?_) fun _ _ h'=>h'.elim)))
 cases r with
 | none=>exact ac h₁
 | some v=>
  refine aa (aX h₁ (fun _ s₂ h₂=>?_) fun _ _ h'=>h'.elim);refine aa (aX h₂ (fun _ s₃ h₃=>aa (aX h₃ (fun ok s₄ h₄=>?_) fun _ _ h'=>h'.elim)) fun _ _ h'=>h'.elim)
  cases ok with
  | false=>exact ac ⟨rfl,h₄⟩
  | true=>
   exact aa (aa (aX h₄ (fun x s₅ h₅=>aa (aX h₅ (fun _ s₆ h₆=>ac (ac ⟨rfl,h₆⟩)) fun _ _ h'=>h'.elim)) fun _ _ h'=>h'.elim))
end
def PTs (X:Cx)(ifs:List Expr)(t:TT):Prop:=
 ∀ (pins:List (Addr×Obj)) (s:Shared) (σ:St) (H:Hp) (Q:Bool->Hp->Prop),Inv X pins σ H s->t σ H Q->
  wpAny (model X.prog X.w) X.A (forIn ifs true fun c r=>if r=true then do let ok <- isTrue c X.env (eval c X.env);pure (ForInStep.yield ok) else pure (ForInStep.yield r)) (TP X pins σ Q) X.xe s
def zbe:TT:=fun _ H Q=>Q true H
theorem zol {X:Cx}:PTs X [] zbe:=fun pins s σ H Q I h=>wpAny_tests_nil ⟨H,I,h⟩
theorem zom {X:Cx}{c:Expr}{t:TT}(h:PT X c t):PTs X [c] t:=fun pins s σ H Q I q=>wpAny_tests_one (h pins s σ H Q I q)
def zj8 (I:TI)(g:TG)(ti:TT)(te:TE)(cix:List (Option Nat)):TE:=fun σ H Q=>I σ H fun J H1=>∀acc,H1 acc=none->∃W:Nat->Nat->St->Hp->Prop,(∃m,W 0 m (uR σ cix) (upd H1 acc (.lst [])))/\
 ∀i m B H',W i m B H'->(J.stop i H'/\Q (.ref acc) H')\/(J.go i H'/\∃N:St->Hp->Prop,(∀ D H2,N D H2->∃F,F<m/\W (i+1) F D H2)/\
  ∀x H2,J.yld i H' x H2->g x B H2 fun q H3=>ti q H3 fun L H4=>if L=true then te q H4 fun v H5=>∃xs,H5 acc=some (.lst xs)/\xs.length<sizeLine/\N q (upd H5 acc (.lst (xs++[v]))) else N q H4)
theorem zn1 {X:Cx}{U tg F:Expr}{Y:List Expr}{scope:Scope}{pos:Pos}{wi:TI}{g:TG}{ti:TT}{te:TE}{N:List Str}{cix:List (Option Nat)}(hc:X.calm=true)(c:CompOk X scope N cix)
  (hi:PI X tg F wi) (hg:∀C s H ex,PG (zu X scope N C s H ex) tg g) (ht:∀C s H ex,PTs (zu X scope N C s H ex) Y ti) (he:∀C s H ex,PE (zu X scope N C s H ex) U te)
  (hs:∀x,foldedSetIterable F X.env x=pure x:=by intro _;rfl):PE X (.ListComp U [⟨tg,F,Y,0⟩] scope pos) (zj8 wi g ti te cix):=by
 intro pins s σ H Q I h;rw[eval_ListComp];refine bS (use:=none) rfl hs (xF (c.cells I.ok)) c.kind c.names (thn (hi pins s σ H _ I h) fun xv s1 h1=>thn h1 fun cd q h2=>?_);obtain⟨it,fp,tn,J,H2,e,I2,T,a0,f2,q2⟩:=h2;subst e;refine bj (c5 c.cell (by intro y hy;simp at hy) (fun h4 al an=>?_) c.kind);dsimp only at al an ⊢;have ap:=I2.hok.fresh (ag q.heap.objs.size);have I3:Inv X pins σ (upd H2 q.heap.objs.size (.lst [])) { q with heap:=q.heap.push { cls:=.type "list",dict:=none,data:=.seq ([]:List Value).toArray },toks:=q.toks }:=I2.lnew (t':=q.toks) .nil (by simp);obtain⟨W,⟨m0,w0⟩,a1⟩:=q2 q.heap.objs.size ap
 have as:∀b∈fp,b<q.heap.objs.size:=fun b D=>by obtain⟨o,ho,_⟩:=T.obj _ _ a0 b D;exact ay ho
 have f3:∀b∈fp,zbt X pins (upd H2 q.heap.objs.size (.lst [])) b:=fun b D=>⟨by rw[ze (aM (as b D))];exact (f2 b D).1,(f2 b D).2⟩
 have kp:∀b o,(q.heap.push { cls:=.type "list",dict:=none,data:=.seq ([]:List Value).toArray }).get? b=some o->h4.get? b=some o:=fun b o e=>
  an.extBut b o (aM (ay e)) (af _ e)
 have a2:q.heap.objs.size<(q.heap.push { cls:=.type "list",dict:=none,data:=.seq ([]:List Value).toArray }).objs.size:=by rw[cI];exact ck _
 have I4:=zbG (tk:=q.toks+([]:List (Str×Value)).length) I3 c f3 (fun b D=>bJ (as b D) a2) al kp;have a3:tn 0 h4:=T.keep _ _ _ a0 fun b D o e=>kp b o (af _ e)
 generalize L:zu X scope N (q.heap.push { cls:=.type "list",dict:=none,data:=.seq ([]:List Value).toArray }).objs.size
  { q with heap:=q.heap.push { cls:=.type "list",dict:=none,data:=.seq ([]:List Value).toArray },toks:=q.toks } (upd H2 q.heap.objs.size (.lst [])) fp=X' at I4
 have pX:X'.prog=X.prog:=by rw[<- L];rfl
 have wX:X'.w=X.w:=by rw[<- L];rfl
 have KX:X'.K=X.K:=by rw[<- L];rfl
 have AX:X'.A=X.A:=by rw[<- L];rfl
 have cX:X'.calm=true:=by rw[<- L];exact hc
 have xX:X'.xe=fun _ _=>False:=by rw[<- L];rfl
 have eX:X'.env=compEnvC scope (zaB X.env scope.names []) (q.heap.push { cls:=.type "list",dict:=none,data:=.seq ([]:List Value).toArray }).objs.size X.env:=by rw[<- L];rfl
 have bl:PG X' tg g:=by rw[<- L];exact hg _ _ _ _
 have bo:PTs X' Y ti:=by rw[<- L];exact ht _ _ _ _
 have bs:PE X' U te:=by rw[<- L];exact he _ _ _ _
 have f4:∀ {H':Hp},(∀b∈fp,H' b=none)->∀b∈fp,zbt X' [] H' b:=fun {H'} hn b D=>by
  refine⟨hn b D,?_,?_,.inl ?_,?_,?_⟩
  ·rw[eX];exact aM (bJ (as b D) a2)
  ·have e1:X'.fs=frs X.stack:=by rw[<- L];rfl
   rw[e1];intro z;rcases aE.mp (I2.stkSub b z) with e | e
   ·exact (f2 b D).2.1 e
   ·exact (f2 b D).2.2.1 e
  ·rw[<- L];exact D
  ·rw[eX];intro x a e;rcases yU (c.cells I.ok) e with z | z
   ·exact (f2 b D).2.2.2.2.1 x a z
   ·simp at z
  ·intro p hp;have e1:X'.pn++([]:List (Addr×Obj))=[]:=by rw[<- L];rfl
   rw[e1] at hp;simp at hp
 have a4:∀s4:Shared,s4={ q with heap:=h4,toks:=q.toks+([]:List (Str×Value)).length }->
   codeAny (model X.prog X.w) X.A (.compLoop (.ListComp U [⟨tg,F,Y,0⟩] scope pos) 0 (.ref it) (.ref q.heap.objs.size) X'.env)
    (compPost (model X.prog X.w) X.A X.xe none (EP X pins σ Q) (.ref q.heap.objs.size) (q.heap.push { cls:=.type "list",dict:=none,data:=.seq ([]:List Value).toArray }).objs.size) s4:=by
  rintro s4 rfl;refine ut (fun n s'=>∃i B H',Inv X' [] B H' s'/\tn i s'.heap/\(∀b∈fp,H' b=none)/\W i n B H') ?_ m0 ⟨0,uR σ cix,_,I4,a3,fun b D=>(f3 b D).1,w0⟩;rintro n s5 ⟨i,Z,H5,I5,a5,bb,w5⟩;rcases a1 i n Z H5 w5 with ⟨stop,qn⟩ | ⟨go,Nx,hN,step⟩
  ·have:=T.done X' pX wX KX cX i [] s5 Z H5 (fun _ _=>False) I5 (f4 bb) a5 stop;rw[AX] at this;refine thn this  ?_;rintro r s6 ⟨hr,I6⟩;subst hr;obtain⟨m6,bd,_⟩:=I6.loc;rw[eX] at bd;refine⟨m6,bd,fun h7 bx=>?_⟩;have I6':=I6;rw[<- L] at I6';exact⟨.ref q.heap.objs.size,H5,zah I3 f3 I6' bx,rfl,qn⟩
  ·have:=T.item X' pX wX KX cX i [] s5 Z H5 (fun _ _=>False) I5 (f4 bb) a5 go;rw[AX] at this;refine thn this  ?_;rintro r s6 ⟨u,hr,h6⟩;subst hr;refine thn h6  ?_;rintro _ s7 ⟨x,H7,I7,r7,y7,av,b0⟩;have I7':=I7.pinned (f4 b0) (T.obj _ _ av);have a7:=bl _ s7 Z H7 x u _ I7' r7 (step x H7 y7);rw[pX,wX,AX,xX] at a7;refine thn a7  ?_;rintro _ s8 ⟨ad,H8,I8,q8⟩;have t8:=bo _ s8 ad H8 _ I8 q8;rw[pX,wX,AX,xX] at t8;refine thn t8  ?_;rintro ok s9 ⟨H9,I9,q9⟩
   have O:∀ {s':Shared} {B:St} {H':Hp},Inv X' ([]++xP fp s7.heap) B H' s'->Nx B H'->∃m,m<n/\∃i B H',Inv X' [] B H' s'/\tn i s'.heap/\(∀b∈fp,H' b=none)/\W i m B H':=fun {s' B H'} J' n'=>by obtain⟨m',hm,w'⟩:=hN B H' n';refine⟨m',hm,i+1,B,H',J'.unpinned,T.keep _ _ _ av fun b D o e=>(J'.pin (b,o) (ak _ (ak _ (zG D e)))).1,fun b D=>?_,w'⟩;obtain⟨o,e,d⟩:=T.obj _ _ av b D;exact (J'.pin (b,o) (ak _ (ak _ (zG D e)))).2.1
   cases ok with
   | false=>exact O I9 q9
   | true=>
    have e9:=bs _ s9 ad H9 _ I9 q9;rw[pX,wX,AX,xX] at e9;refine thn e9  ?_;rintro u2 b1 ⟨v,H10,I10,b2,b3⟩;obtain⟨xs,b4,ca,nx⟩:=b3;have bk:=uZ (X:=X') _ b1 ad H10 (.ref q.heap.objs.size) [v] (.ref q.heap.objs.size) [u2] (fun _ H'=>Nx ad H') I10 rfl (.cons b2 .nil) ⟨_,xs,v,rfl,rfl,b4,ca,nx⟩;rw[pX,wX,AX,xX] at bk;refine thn bk <| by rintro _ ch ⟨_,H11,I11,_,cc⟩;exact O I11 cc
 have l0:=a4 _ rfl;rw[eX] at l0;exact cT l0 (T.self X.A 0 _ _ _ a3 l0)
structure Dfn (K:PySem.W.Frag)(mg:Str->Option Value)(x:Str)(st:Stmt)(ps:List Str)(f:Addr)(fd:FuncData):Prop where
 F:Fun K x x st f fd
 b:zg9 K fd ps []
 m:mg x=some (.ref f)
section
variable {X:Cx}
theorem ztw {x:Str}{st:Stmt}{ps:List Str}{f:Addr}{fd:FuncData}{sp:Sp}{j k:Nat}{e:Expr}{es:List Expr}{t:TA}{p pos:Pos}(D:Dfn X.K X.mg x st ps f fd)(G:FnOk X.prog X.w X.K X.mg X.base CX0 j f fd ps sp)(J:Room k X.A)
  (L:PA X (e::es) t) (q:j<=k:=by decide) (O:Gl X x:=by rfl) (B:(x==("__debug__" : Str))=false:=by decide) (U:starEach (e::es) X.env=(false,eval e X.env)::starEach es X.env:=by rfl) (I:(backTo pos (starEach es X.env)).any (·.1)=false:=by rfl) :
  PE X (.Call (.Name x p) (e::es) [] pos) (zfh sp [] E0 t):=
 znZ G (J.mono q) O D.m D.F.kp D.b .nil ztu L B U I
theorem zjS {B:List Bool}:((List.range B.length).all fun i=>B.getD i true)=B.all id:=by
 rw[b9,bE,bE];constructor
 ·intro h b D;obtain⟨i,hi,e⟩:=bH.mp D;have:=h i (aP.mpr hi);simpa [hi,e] using this
 ·intro h i hi;have q:=aP.mp hi;have:=h B[i] (bg q);simpa [q] using this
theorem zky (Z:X.calm=true):zcN X (.builtin "all") (fun xs H Q=>∃ (p:Addr) (B:List Bool),xs=[.ref p]/\H p=some (.lst (B.map V.bl))/\Q (.bl (B.all id)) H):=by
 intro pins s σ H xs us Q I r h;obtain⟨p,B,rfl,hp,q⟩:=h;obtain⟨u,rfl,ru⟩:=za0 r;cases ru;obtain⟨its,U,L,hz⟩:=I.list (.of hp);have D:=U.length;rw[ab] at D
 have W:Walks X.prog X.w X.A.in1 s.heap.objs.size [s.heap.objs.size,p] [s.heap.objs.size] its.toArray.size (fun i v=>its.toArray[i]?=some v) (fun i h=>h.IsListIter s.heap.objs.size p i/\h.IsList p its.toArray):=by refine Walks.list (A:=X.A.in1) (I.ok.hd Z) s.heap.objs.size p ?_ its.toArray;obtain⟨o,_,ho,_⟩:=L;exact aM (ay ho)
 refine call_all_walk (eZ L.isList ⟨s.heap.objs.size,_,_,_,_,_,fun i=>B.getD i true,rfl,W,⟨?_,?_⟩,?_,?_⟩)
 ·exact⟨_,aK _ rfl,rfl,rfl⟩
 ·exact L.isList.at fun o e=>af _ e
 ·intro i v s' Q' E' hP O;have F:its[i]?=some v:=by simpa using hP
  have hi:i<B.length:=by have:=(ae.mp F).1;lia
  have hb:(B.map V.bl)[i]?=some (V.bl B[i]):=by simp[hi]
  obtain⟨u',J,rb⟩:=U.get hb;rw[F] at J;cases J;cases rb;have:B.getD i true=B[i]:=by simp[hi]
  dsimp only at O;rw[this] at O;exact eW O
 ·intro h' tk hk
  have e:(List.range its.toArray.size).all (fun i=>B.getD i true)=B.all id:=by rw[aA,<- D];exact zjS
  rw[e];exact⟨.bl _,H,I.kept (t':=tk) fun b o Y=>hk b o (by simp;exact aM (ay Y)) (af _ Y),rfl,q⟩
end
structure QE (X:Cx)(e:Expr)(t:TE):Prop where
 run:PE X e t
structure QT (X:Cx)(e:Expr)(t:TT):Prop where
 run:PT X e t
structure QW (X:Cx)(e:Expr)(t:TT):Prop where
 run:PW X e t
structure QA (X:Cx)(es:List Expr)(t:TA):Prop where
 run:PA X es t
structure QS (X:Cx)(s:Stmt)(t:TS):Prop where
 run:PS X s t
structure QSs (X:Cx)(s:List Stmt)(t:TS):Prop where
 run:PSs X s t
structure QG (X:Cx)(e:Expr)(t:TG):Prop where
 run:PG X e t
structure QGs (X:Cx)(es:List Expr)(t:TGs):Prop where
 run:PGs X es t
structure QI (X:Cx)(tg e:Expr)(t:TI):Prop where
 run:PI X tg e t
structure QO (X:Cx)(e:Option Expr)(t:TO):Prop where
 run:PO X e t
structure QP (X:Cx)(pos:Pos)(ks:List (Option Expr))(vs:List Expr)(t:List (TE×TE)):Prop where
 run:PPs X pos ks vs t
structure QTs (X:Cx)(es:List Expr)(t:TT):Prop where
 run:PTs X es t
structure OpQ (X:Cx)(f:Value->Value->Sem Value)(r:R2):Prop where
 run:OpR X f r
structure CallQ (X:Cx)(f:Value)(r:List V->Hp->VK->Prop):Prop where
 run:zcN X f r
structure IxQ (X:Cx)(r:R2):Prop where
 run:IxR X r
structure SlQ (X:Cx)(r:V->Option Int->Option Int->Hp->VK->Prop):Prop where
 run:SlR X r
section
variable {X:Cx}{e a b c:Expr}{es:List Expr}{te ta tb tc:TE}{t u:TT}{pos p:Pos}
theorem qv (i:Nat){x:Str}{pos:Pos}(B:X.N[i]?=some x:=by rfl)(D:Vis X.env.scope x:=by walk_at "v")(F:(x==("__debug__" : Str))=false:=by decide)
  (q:(x==("__classdict__" : Str))=false:=by decide):QE X (.Name x pos) (zkl i):=⟨zqH B D F q⟩
theorem yy {i:Int}{j:Nat}:QE X (.Constant (.int i) j pos) (tC (.int i)):=⟨zmt⟩
theorem ztE {k:Bool}{j:Nat}:QE X (.Constant (.bool k) j pos) (tC (.bl k)):=⟨ztv⟩
theorem xY {x:Str}{j:Nat}:QE X (.Constant (.str x) j pos) (tC (.str x)):=⟨zqG⟩
theorem zoo {x:Str}{v:V}{w:Value}(q:Gl X x)(B:X.mg x=none)(D:bootBuiltins x=some w)(r:yF v w)(F:x ≠ "__name__" := by decide)(I:(x==("__debug__" : Str))=false:=by decide):QE X (.Name x pos) (tC v):=⟨znY q B D r F I⟩
theorem yJ:OpQ X (binaryOp .Add) (rI0 fun i j=>.int (i+j)):=⟨zqr⟩
theorem zms:OpQ X (binaryOp .Sub) (rI0 fun i j=>.int (i - j)):=⟨zqz⟩
theorem zcq:OpQ X (binaryOp .Mult) (rI zrW fun i j=>.int (i * j)):=⟨zqv⟩
theorem zdY:OpQ X (binaryOp .FloorDiv) (rI zpf fun i j=>.int (i / j)):=⟨znT⟩
theorem zaN:OpQ X (binaryOp .Mod) (rI (fun _ j=>0<j) fun i j=>.int (i % j)):=⟨zqu⟩
theorem zjy:OpQ X (binaryOp .Pow) (rI CPow fun i j=>.int (i ^ j.toNat)):=⟨zqx⟩
theorem yD:OpQ X (binaryOp .Add) (zjO X.K):=⟨znR⟩
theorem zqA:OpQ X (binaryOp .Add) rCat:=⟨zqs⟩
theorem zmr:OpQ X (binaryOp .Mult) zsi:=⟨zqy⟩
theorem znV:OpQ X (compareOp .Lt) (rI0 fun i j=>.bl (decide (i<j))):=⟨ztr⟩
theorem zqC:OpQ X (compareOp .LtE) (rI0 fun i j=>.bl (decide (i<=j))):=⟨ztq⟩
theorem znU:OpQ X (compareOp .Gt) (rI0 fun i j=>.bl (decide (j<i))):=⟨ztp⟩
theorem ztt:OpQ X (compareOp .GtE) (rI0 fun i j=>.bl (decide (j<=i))):=⟨zto⟩
theorem xO:OpQ X (compareOp .Eq) rEq:=⟨ztn⟩
theorem zjw:OpQ X (compareOp .NotEq) rNe:=⟨zts⟩
theorem zjv:OpQ X (compareOp .In) (rIn X.K false):=⟨zjt⟩
theorem ze3:OpQ X (compareOp .NotIn) (rIn X.K true):=⟨ze2⟩
theorem yS {q:Operator}{r:R2}(B:OpQ X (binaryOp q) r)(D:QE X a ta)(F:QE X b tb):QE X (.BinOp a q b pos) (tOp r ta tb):=⟨zty B.run D.run F.run⟩
theorem zop {q:CmpOp}{r:R2}(B:OpQ X (compareOp q) r)(D:QE X a ta)(F:QE X b tb)(I:behindInMarks q b=false):QE X (.Compare a [q] [b] pos) (tOp r ta tb):=⟨zn0 B.run D.run F.run I⟩
theorem zcx {q:CmpOp}{r:R2}(B:OpQ X (compareOp q) r)(D:QE X a ta)(F:QE X b tb)(I:behindInMarks q b=false):QT X (.Compare a [q] [b] pos) (zo0 (tOp r ta tb)):=⟨zok B.run D.run F.run I⟩
theorem zq4 (h:QE X e te)(he:∀whole,isTrue e X.env whole=(do let v <- whole;standAt e.pos;holding [v] (truthy v)):=by intro _;rfl):QT X e (tB te):=⟨zqV h.run he⟩
theorem zq3 (h:QT X a t):QT X (.UnaryOp .Not a pos) (tNot t):=⟨zqU h.run⟩
theorem zjN (h:QT X a t):QW X (.BoolOp .And [a] pos) t:=⟨zon h.run⟩
theorem zq5 (h:QT X a t):QW X (.BoolOp .Or [a] pos) t:=⟨zqX h.run⟩
theorem zmx {zV:List Expr}(h:QT X a t)(h':QW X (.BoolOp .And (b::zV) pos) u):QW X (.BoolOp .And (a::b::zV) pos) (ztP t u):=⟨zqW h.run h'.run⟩
theorem ztG {zV:List Expr}(h:QT X a t)(h':QW X (.BoolOp .Or (b::zV) pos) u):QW X (.BoolOp .Or (a::b::zV) pos) (tOr t u):=⟨ztD h.run h'.run⟩
theorem QW.pt (h:QW X e t):QT X e t:=⟨h.run.pt⟩
theorem yx:QA X [] zkb:=⟨zqE⟩
theorem zJ {q:TA}(B:QE X e te)(D:QA X es q)(F:starEach (e::es) X.env=(false,eval e X.env)::starEach es X.env:=by rfl):QA X (e::es) (zbC te q):=⟨znX B.run D.run F⟩
theorem zoB:QP X pos [] [] []:=⟨zod⟩
theorem zd3 {k v:Expr}{ks:List (Option Expr)}{vs:List Expr}{tk tv:TE}{q:List (TE×TE)}(B:QE X k tk)(D:QE X v tv)(F:QP X pos ks vs q):QP X pos (some k::ks) (v::vs) ((tk,tv)::q):=⟨zlx B.run D.run F.run⟩
theorem zor {q:List (Option Expr)}{B:List Expr}{D:List (TE×TE)}(h:QP X pos q B D)(F:q.all (·.isSome)=true)(J:q.length=B.length)(L:q≠[])(I:q.length<=15):QE X (.Dict q B pos) (zrv D):=⟨zn3 h.run F J L I⟩
theorem zjL:QO X none zkc:=⟨zob⟩
theorem zjM (h:QE X e te):QO X (some e) (zry te):=⟨zoc h.run⟩
theorem zoV:SlQ X rSlA:=⟨zoS⟩
theorem zj7:SlQ X (rSlL X.K):=⟨zoR⟩
theorem zd1 {r:V->Option Int->Option Int->Hp->VK->Prop}{lo hi:Option Expr}{tl th:TO}{p2:Pos}(q:SlQ X r)(B:QE X e te)(D:QO X lo tl)(F:QO X hi th):QE X (.Subscript e (.Slice lo hi none p2) pos) (tSl r te tl th):=⟨zlr q.run B.run D.run F.run⟩
theorem xS:IxQ X (zsf X.K):=⟨znn⟩
theorem y8:IxQ X (zsg X.K):=⟨zpZ⟩
theorem zq0 {r:R2}(q:IxQ X r)(B:QE X a ta)(D:QE X b tb)(F:zfr b):QE X (.Subscript a b pos) (tOp r ta tb):=⟨ztx q.run B.run D.run F⟩
theorem ub (q:X.A.units+1<cLine)(B:QE X a ta)(D:QE X b tb)(F:zpn b):QE X (.Subscript a b pos) (zrs ta tb):=⟨zn2 q B.run D.run F⟩
theorem yI:CallQ X (.builtin "len") (fun xs H Q=>∃x n,xs=[x]/\zpl X.K x H n/\Q (.int n) H):=⟨zkz⟩
theorem zhX:CallQ X (.builtin "abs") (fun xs H Q=>∃i,xs=[.int i]/\Q (.int (if i<0 then -i else i)) H):=⟨zkx⟩
theorem zhY:CallQ X (.builtin "isinstance") (fun xs H Q=>∃x T t b,xs=[x,.ty T]/\TyOf X.K H x t/\PySem.W.kitOne X.K t (.type T)=some b/\Q (.bl b) H):=⟨zfw⟩
theorem zpv (B:X.calm=true):CallQ X (.builtin "all") (fun xs H Q=>∃ (p:Addr) (q:List Bool),xs=[.ref p]/\H p=some (.lst (q.map V.bl))/\Q (.bl (q.all id)) H):=⟨zky B⟩
theorem zhd:CallQ X (.type "list") (fun xs H Q=>∃p ys,xs=[.ref p]/\(SqL X.K H p ys\/SqT X.K H p ys)/\∀l,H l=none->Q (.ref l) (upd H l (.lst ys))):=⟨zev⟩
theorem zfz:CallQ X (.type "tuple") (fun xs H Q=>∃p ys,xs=[.ref p]/\((SqL X.K H p ys/\∀l,H l=none->Q (.ref l) (upd H l (.tup ys)))\/(SqT X.K H p ys/\Q (.ref p) H))):=⟨zdy⟩
theorem xi {id:String}{r:List V->Hp->VK->Prop}{x:Str}{D:TA}(F:CallQ X (.builtin id) r)(I:Gl X x)(J:X.mg x=none)(L:bootBuiltins x=some (.builtin id))(O:QA X (e::es) D)(U:x ≠ "__name__" := by decide)(q:(x==("__debug__" : Str))=false:=by decide)
  (Y:starEach (e::es) X.env=(false,eval e X.env)::starEach es X.env:=by rfl) (B:(backTo pos (starEach es X.env)).any (·.1)=false:=by rfl):QE X (.Call (.Name x p) (e::es) [] pos) (tCB r D):=⟨zln F.run I J L O.run U q Y B⟩
theorem zaQ {T:String}{r:List V->Hp->VK->Prop}{x:Str}{D:TA}(F:CallQ X (.type T) r)(I:Gl X x)(J:X.mg x=none)(L:bootBuiltins x=some (.type T))(O:QA X (e::es) D)(U:x ≠ "__name__" := by decide)(q:(x==("__debug__" : Str))=false:=by decide)
  (Y:starEach (e::es) X.env=(false,eval e X.env)::starEach es X.env:=by rfl) (B:(backTo pos (starEach es X.env)).any (·.1)=false:=by rfl):QE X (.Call (.Name x p) (e::es) [] pos) (tCB r D):=⟨zjA F.run I J L O.run U q Y B⟩
theorem zjI {x:Str}{st:Stmt}{ps:List Str}{f:Addr}{fd:FuncData}{sp:Sp}{j k:Nat}{I:TA}(D:Dfn X.K X.mg x st ps f fd)(G:FnOk X.prog X.w X.K X.mg X.base CX0 j f fd ps sp)(J:Room k X.A)
  (L:QA X (e::es) I) (q:j<=k:=by decide) (O:Gl X x:=by rfl) (B:(x==("__debug__" : Str))=false:=by decide) (U:starEach (e::es) X.env=(false,eval e X.env)::starEach es X.env:=by rfl) (F:(backTo pos (starEach es X.env)).any (·.1)=false:=by rfl) :
  QE X (.Call (.Name x p) (e::es) [] pos) (zfh sp [] E0 I):=⟨ztw D G J L.run q O B U F⟩
theorem zcv {i:Nat}{x:Str}(q:X.N.Nodup)(hi:X.N[i]?=some x)(B:Loc X.env.scope x)(D:X.fn x=true\/X.env.scope.names.lookup x=some .local:=by walk_at "l"):QG X (.Name x pos) (uT i):=⟨zn7 q hi B D⟩
theorem zox:QGs X [] gNil:=⟨zn8⟩
theorem zlC {g:TG}{gs:TGs}(h1:QG X e g)(h2:QGs X es gs)(q:(assignEach (e::es) X.env).map (·.2)=assign e X.env::(assignEach es X.env).map (·.2):=by rfl):QGs X (e::es) (zpS g gs):=⟨zlu h1.run h2.run q⟩
theorem zq1 {k:Nat}{gs:TGs}{n:Nat}(B:X.calm=true)(h:QGs X es gs)(D:(assignEach es X.env).length=n:=by rfl)(q:(assignEach es X.env).findIdx? (·.1)=none:=by rfl):QG X (.Tuple es k pos) (zsQ X.K n gs):=⟨zqO B h.run D q⟩
theorem zd2 {tg:Expr}(q:QE X e te):QI X tg e (zng X.K te):=⟨zn9 q.run⟩
theorem zq2 {tg:Expr}(q:QE X e te):QI X tg e (zsT X.K te):=⟨zqP q.run⟩
theorem zjK {tg:Expr}{q:TA}(B:Gl X "range")(D:X.mg "range" = none)(F:QA X [a] q)(I:starEach [a] X.env=[(false,eval a X.env)]:=by rfl):QI X tg (.Call (.Name "range" p) [a] [] pos) (zpU q):=⟨zjC B D F.run I⟩
theorem zd6:QTs X [] zbe:=⟨zol⟩
theorem zoD (h:QT X c t):QTs X [c] t:=⟨zom h.run⟩
theorem zoq {B tg q:Expr}{D:List Expr}{scope:Scope}{F:TI}{g:TG}{ti:TT}{N:List Str}{cix:List (Option Nat)}(I:X.calm=true)(c:CompOk X scope N cix)
  (hi:QI X tg q F) (J:∀C s H ex,QG (zu X scope N C s H ex) tg g) (L:∀C s H ex,QTs (zu X scope N C s H ex) D ti) (O:∀C s H ex,QE (zu X scope N C s H ex) B te)
  (U:∀x,foldedSetIterable q X.env x=pure x:=by intro _;rfl):QE X (.ListComp B [⟨tg,q,D,0⟩] scope pos) (zj8 F g ti te cix):=⟨zn1 I c hi.run (fun C s H ex=>(J C s H ex).run) (fun C s H ex=>(L C s H ex).run) (fun C s H ex=>(O C s H ex).run) U⟩
end
section
variable {X:Cx}{st:Stmt}{sts body a b:List Stmt}{t u:TS}{e o i:Expr}{te td ty tv:TE}{pos:Pos}
theorem zd5:QSs X [] zrx:=⟨zoi⟩
theorem z8 (h1:QS X st t)(h2:QSs X sts u):QSs X (st::sts) (ztR t u):=⟨zlz h1.run h2.run⟩
theorem uE (h1:QS X st t):QSs X [st] t:=⟨zoj h1.run⟩
theorem zcw (q:QE X e te)(B:swapsWith e none pos.line X.env=pure false:=by rfl):QS X (.Expr e pos) (zlR te):=⟨zog q.run B⟩
theorem zbl (q:QE X e te):QS X (.Return (some e) pos) (zsk te):=⟨zqS q.run⟩
theorem zlE {c:Expr}{tc:TT}(q:QT X c tc)(B:QSs X a t)(D:QSs X b u):QS X (.If c a b pos) (tIfS tc t u):=⟨ztC q.run B.run D.run⟩
theorem xZ {i:Nat}{x:Str}{pos':Pos}(q:X.N.Nodup)(hi:X.N[i]?=some x)(B:Loc X.env.scope x)(D:QE X e te)(F:swapsWith e (some (.Name x pos')) pos.line X.env=pure false:=by rfl)(I:X.fn x=true\/X.env.scope.names.lookup x=some .local:=by walk_at "l") :
  QS X (.Assign [.Name x pos'] e pos) (zfp te (uT i)):=⟨zqT q hi B D.run F I⟩
theorem zmv {tg:Expr}{g:TG}(q:QE X e te)(B:QG X tg g)(D:swapsWithSole [tg] e pos.line X.env=pure false:=by rfl)(F:swappedStores [tg] e X.env=pure none:=by rfl)
  (h1:(assignEach [tg] X.env).map (·.2)=[assign tg X.env]:=by rfl):QS X (.Assign [tg] e pos) (zfp te g):=⟨zqQ q.run B.run D F h1⟩
theorem zd4 {pos':Pos}(q:X.A.units+1<cLine)(B:QE X o td)(hi:QE X i ty)(D:QE X e tv)(F:swapsWith e (some (.Subscript o i pos')) pos.line X.env=pure false):QS X (.Assign [.Subscript o i pos'] e pos) (zrn td ty tv):=⟨zof q B.run hi.run D.run F⟩
theorem zmw {tg q:Expr}{B:TI}{g:TG}(D:PassesOwn (model X.prog X.w) X.A X.env X.xe)(F:X.calm=true)(hi:QI X tg q B)(I:QG X tg g)(J:QSs X body t)(L:∀x,foldedSetIterable q X.env x=pure x:=by intro _;rfl):QS X (.For tg q body [] pos) (ztQ B g t):=⟨zqR D F hi.run I.run J.run L⟩
end
theorem Fun.okQ {P:Program}{w:World}{K:PySem.W.Frag}{mg:Str->Option Value}{base:Heap}{x B:Str}{st:Stmt}{f:Addr}{fd:FuncData}{N ps:List Str}{k:Nat}{sp:Sp}(F:Fun K x B st f fd)(S:FnScope N ps (zg st))(J:∀vs H Q E,sp vs H Q E->vs.length=ps.length)
  (I:∀ (D:Value) (A:Around) (q:List Env) (s:Shared) (H:Hp) (vs:List V) (Q:VK) (E:XK),Room k (A.deeper (envOfC B (zg st) s.heap.objs.size f D))->sp vs H Q E->
   ∃t,QSs (zdB CX0 P w K mg base N B (zg st) f D A q s H E).nox (ym st) t/\t { nx:=fun _ H'=>Q .non H',rt:=Q } (xg N vs) H):FnOk P w K mg base CX0 (k+1) f fd ps sp:=
 F.ok S J fun D A q s H vs Q E L h=>by obtain⟨t,h1,h2⟩:=I D A q s H vs Q E L h;exact⟨t,h1.run,h2⟩
theorem s_ca:¬ (("cells" : Str) = "at"):=by decide +kernel
theorem s_cl:¬ (("cells" : Str) = "left"):=by decide +kernel
theorem s_al:¬ (("at" : Str) = "left"):=by decide +kernel
theorem zsY:¬ (Sum.inr "cells" : Key)=(Sum.inr "at" : Key):=fun z=>s_ca (Sum.inr.inj z)
theorem zsZ:¬ (Sum.inr "cells" : Key)=(Sum.inr "left" : Key):=fun z=>s_cl (Sum.inr.inj z)
theorem zr4:¬ (Sum.inr "at" : Key)=(Sum.inr "left" : Key):=fun z=>s_al (Sum.inr.inj z)
def za2 (c:Addr)(a l:Int):List (Key×V):=[(Sum.inr "cells",.ref c),(Sum.inr "at",.int a),(Sum.inr "left",.int l)]
theorem ztA (c:Addr)(a l:Int):zaZ (za2 c a l) (Sum.inr "cells" : Key)=some (.ref c):=xk rfl
theorem zls (c:Addr)(a l:Int):zaZ (za2 c a l) (Sum.inr "at" : Key)=some (.int a):=by unfold za2;rw[xE zsY,xk rfl]
theorem ztB (c:Addr)(a l:Int):zaZ (za2 c a l) (Sum.inr "left" : Key)=some (.int l):=by unfold za2;rw[xE zsZ,xE zr4,xk rfl]
theorem zqK (c:Addr)(a l b:Int):zam (za2 c a l) (Sum.inr "at" : Key) (.int b)=za2 c b l:=by unfold zam za2;have q:=zsY;have B:¬ (Sum.inr "left" : Key)=(Sum.inr "at" : Key):=fun z=>zr4 z.symm;simp[q,B]
theorem zqL (c:Addr)(a l b:Int):zam (za2 c a l) (Sum.inr "left" : Key) (.int b)=za2 c a b:=by unfold zam za2;have q:=zsZ;have B:=zr4;simp[q,B]
theorem zqJ (c:Addr)(a l:Int):zcl [] (za2 c a l)=za2 c a l:=by unfold zcl za2;have q:=zsY;have B:=zsZ;have D:=zr4;simp[zam,q,B,D]
structure Pen (H:Hp)(p c:Addr)(ns:List Int)(n:Nat):Prop where
 ob:∃a l:Int,H p=some (.dK (za2 c a l))/\0<=a/\a<=n/\0<=l
 ls:H c=some (.lst (ns.map V.int))
 len:ns.length<=63
theorem Pen.same {H H':Hp}{p c:Addr}{ns:List Int}{n:Nat}(P:Pen H p c ns n)(h:y4 H H'):Pen H' p c ns n:=by obtain⟨⟨a,l,h1,h2,q,B⟩,D,F⟩:=P;exact⟨⟨a,l,h _ _ h1,h2,q,B⟩,h _ _ D,F⟩
theorem zee {H:Hp}{p c:Addr}{a l:Int}{o:HO}(h:H p=some (.dK (za2 c a l))):zv H (upd H p o):=fun b u e n=>by
 by_cases q:b=p
 ·subst q;rw[h] at e;cases e;have:=n _ rfl;rw[zls] at this;cases this
 ·rw[ze q];exact e
section
variable {H:Hp}{p c:Addr}{a l:Int}
theorem zgT (h:H p=some (.dK (za2 c a l))):zbQ H p (.str "cells") (some (.ref c)):=by have:=zbQ.k (k:=(Sum.inr "cells" : Key)) h;rw[ztA] at this;exact this
theorem zqI (h:H p=some (.dK (za2 c a l))):zbQ H p (.str "at") (some (.int a)):=by have:=zbQ.k (k:=(Sum.inr "at" : Key)) h;rw[zls] at this;exact this
theorem zjB (h:H p=some (.dK (za2 c a l))):zbQ H p (.str "left") (some (.int l)):=by have:=zbQ.k (k:=(Sum.inr "left" : Key)) h;rw[ztB] at this;exact this
theorem zqM (h:H p=some (.dK (za2 c a l)))(b:Int):zek H p (.str "at") (.int b) (upd H p (.dK (za2 c b l))):=by have:=zek.k (k:=(Sum.inr "at" : Key)) (v:=.int b) h (by show 3<sizeLine;decide);rw[zqK] at this;exact this
theorem zmu (h:H p=some (.dK (za2 c a l)))(b:Int):zek H p (.str "left") (.int b) (upd H p (.dK (za2 c a b))):=by have:=zek.k (k:=(Sum.inr "left" : Key)) (v:=.int b) h (by show 3<sizeLine;decide);rw[zqL] at this;exact this
end
theorem zpr (ns:List Int)(a:Int)(h:0<((ns.map V.int).length:Int)):∃z,atI (ns.map V.int) (a % ((ns.map V.int).length:Int))=some (.int z):=by
 have q:=cz a (show ((ns.map V.int).length:Int)≠0 by lia);have h1:=bW a h;generalize D:a % ((ns.map V.int).length:Int)=m at q h1;obtain⟨j,rfl⟩:∃j:Nat,m=j:=⟨m.toNat,by lia⟩;have B:j<ns.length:=by rw[ab] at h1;lia
 exact⟨ns[j],zhK (by simp[B])⟩
theorem zlQ {a:Int}{n:Nat}(q:0<=a)(h1:a<=n)(h2:n<=1000000):0<=60013 * a * a/\60013 * a * a<=60013000000000000:=by have e:60013 * a * a=60013 * (a * a):=Int.mul_assoc _ _ _;have B:0<=a * a:=Int.mul_nonneg q q;have D:a * a<=1000000 * 1000000:=c7 (by lia) (by lia) q (by lia);rw[e];lia
theorem meet {α:Type}{G:Prop}(P:α->Prop)(h:(∀a,P a)->G)(r:∀a,P a):G:=h r
theorem zth {G:Prop}(P:Prop)(h:P->G)(r:P):G:=h r
def zj5:Sp:=fun vs H Q _=>∃ (p c:Addr) (ns:List Int) (n:Nat) (yf:Int),vs=[.ref p,.int yf]/\Pen H p c ns n/\n<=1000000/\1<=yf/\yf<1073741824/\
 ∀ (r:Int) (H':Hp),0<=r->r<yf->Pen H' p c ns (n+1)->zv H H'->Q (.int r) H'
def zlP (K:PySem.W.Frag):Sp:=fun vs H Q _=>∃ (a:Addr) (ns:List Int),vs=[.ref a]/\SqL K H a (ns.map V.int)/\ns.length<=63/\∀ (p c:Addr) (H':Hp),Pen H' p c ns 0->y4 H H'->Q (.ref p) H'
def yz (ns:List Int):Int:=ns.foldl (· * ·) 1
theorem uk (ns:List Int)(n:Int):yz (ns++[n])=yz ns * n:=by unfold yz;rw[List.foldl_append];rfl
theorem zl {α:Type}{l:List α}{i:Nat}{x:α}(h:l[i]?=some x):l.take (i+1)=l.take i++[x]:=by rw[List.take_succ,h];rfl
def zj6 (K:PySem.W.Frag):Sp:=fun vs H Q _=>∃ (a:Addr) (ns:List Int),vs=[.ref a]/\SqL K H a (ns.map V.int)/\ns.length<=63/\∀H',Q (.bl true) H'
theorem zmn {g:TG}{x:V}{σ:St}{H:Hp}{A B:St->Hp->Prop}(h:g x σ H A):g x σ H fun q H3=>zbe q H3 fun D H4=>if D=true then A q H4 else B q H4:=by
 have e:(fun q H3=>zbe q H3 fun D H4=>if D=true then A q H4 else B q H4)=A:=by funext q H3;show (if true=true then A q H3 else B q H3)=A q H3;rw[if_pos rfl]
 rw[e];exact h
section
variable {prog:Program}{w:World}{A:Around}{E:Value->Shared->Prop}{s:Shared}
end
mutual
def Dt.toW:Dt->PySem.W.Dat
 | .non=>.none
 | .bl b=>.bool b
 | .int i=>.int i
 | .str x=>.str x
 | .tup l=>.tuple (Dt.toWs l)
 | .lst l=>.list (Dt.toWs l)
 | .dct=>.bytes #[]
def Dt.toWs:List Dt->List PySem.W.Dat
 | []=>[]
 | d::ds=>d.toW::Dt.toWs ds
end
mutual
theorem zgf:∀ {d e:Dt},d.toW=e.toW->d=e
 | .non,e,h=>by cases e <;> simp[Dt.toW] at h ⊢
 | .bl b,e,h=>by cases e <;> simp[Dt.toW] at h ⊢;exact h
 | .int b,e,h=>by cases e <;> simp[Dt.toW] at h ⊢;exact h
 | .str b,e,h=>by cases e <;> simp[Dt.toW] at h ⊢;exact h
 | .tup l,e,h=>by
  cases e with
  | tup m=>simp only[Dt.toW,PySem.W.Dat.tuple.injEq] at h;rw[zeg h]
  | _=>simp[Dt.toW] at h
 | .lst l,e,h=>by
  cases e with
  | lst m=>simp only[Dt.toW,PySem.W.Dat.list.injEq] at h;rw[zeg h]
  | _=>simp[Dt.toW] at h
 | .dct,e,h=>by cases e <;> simp[Dt.toW] at h ⊢
theorem zeg:∀ {l m:List Dt},Dt.toWs l=Dt.toWs m->l=m
 | [],m,h=>by cases m <;> simp[Dt.toWs] at h ⊢
 | d::l,m,h=>by
  cases m with
  | nil=>simp[Dt.toWs] at h
  | cons e m=>
   simp only[Dt.toWs,List.cons.injEq] at h;rw[zgf h.1,zeg h.2]
end
def Dt.eqOk (d:Dt):Prop:=PySem.W.kqdOk 8 d.toW=true
section
variable {P:Program}{w:World}{H:Hp}{h:Heap}
mutual
theorem yW (ok:HOk P w H h):∀ (n:Nat) {d:Dt} {v:V} {u:Value},Is H d v->yF v u->PySem.W.kqdOk n d.toW=true->∃as,Reads h u (PySem.W.kqdP d.toW) as
 | _,.non,_,_,h1,r,_=>by cases h1;cases r;exact⟨_,Reads.none⟩
 | n,.bl b,_,_,_,_,k=>by cases n <;> simp[Dt.toW,PySem.W.kqdOk] at k
 | _,.int i,_,_,h1,r,_=>by cases h1;obtain⟨t,rfl⟩:=r;exact⟨_,Reads.int i t⟩
 | _,.str x,_,_,h1,r,_=>by cases h1;obtain⟨t,rfl⟩:=r;exact⟨_,Reads.str x t⟩
 | 0,.tup l,_,_,_,_,k=>by simp[Dt.toW,PySem.W.kqdOk] at k
 | n+1,.tup l,_,_,h1,r,k=>by obtain⟨a,xs,rfl,ha,hl⟩:=h1;cases r;obtain⟨_,its,rv,o,ho,hc,⟨m,hd⟩,_⟩:=ok a _ ha;obtain⟨as,q⟩:=zaw ok n hl rv (by simpa [Dt.toW,PySem.W.kqdOk] using k);exact⟨as,reads_tuple_at ho hc hd (by simpa using q)⟩
 | 0,.lst l,_,_,_,_,k=>by simp[Dt.toW,PySem.W.kqdOk] at k
 | n+1,.lst l,_,_,h1,r,k=>by obtain⟨a,xs,rfl,ha,hl⟩:=h1;cases r;obtain⟨_,its,m,rv,e⟩:=ok a _ ha;obtain⟨as,q⟩:=zaw ok n hl rv (by simpa [Dt.toW,PySem.W.kqdOk] using k);exact⟨_,reads_list_at e rfl rfl (by simpa using q)⟩
 | n,.dct,_,_,_,_,k=>by cases n <;> simp[Dt.toW,PySem.W.kqdOk] at k
theorem zaw (ok:HOk P w H h):∀ (n:Nat) {ds:List Dt} {xs:List V} {us:List Value},IsL H ds xs->ya xs us->(∀d∈Dt.toWs ds,PySem.W.kqdOk n d=true)->∃as,ReadsAll h us (PySem.W.kqdPs (Dt.toWs ds)) as
 | _,[],_,_,h1,r,_=>by cases h1;cases r;exact⟨_,ReadsAll.nil⟩
 | n,d::ds,_,_,h1,r,k=>by
  obtain⟨x,xr,rfl,hd,hr⟩:=h1
  cases r with
  | cons rx rr=>
   obtain⟨as,q⟩:=yW ok n hd rx (k _ (by simp[Dt.toWs]));obtain⟨bs,q2⟩:=zaw ok n hr rr fun e he=>k e (by simp[Dt.toWs,he]);exact⟨_,ReadsAll.cons q q2⟩
end
end
theorem uu {d:Dt}(h:d.eqOk):SeqAt.shaped (PySem.W.kqdP d.toW)=true:=by have l:=PySem.W.kqd_lay 8 _ h;unfold SeqAt.shaped;rw[l.1,Bool.true_and];exact aL (aB l.2 (by decide))
def zsd:R2:=fun x y H Q=>∃d e,Is H d x/\Is H e y/\d.eqOk/\e.eqOk/\∀b:Bool,(b=true↔d=e)->Q (.bl b) H
def zsh:R2:=fun x y H Q=>∃d e,Is H d x/\Is H e y/\d.eqOk/\e.eqOk/\∀b:Bool,(b=true↔d=e)->Q (.bl (!b)) H
section
variable {X:Cx}
theorem zij {d e:Dt}(h1:d.eqOk)(h2:e.eqOk):PyData.eqv (PySem.W.kqdP d.toW) (PySem.W.kqdP e.toW)=true↔d=e:=
 (PySem.W.kqd_eqv 8 d.toW e.toW 8 h1 h2).trans ⟨zgf,fun z=>by rw[z]⟩
theorem zqt (F:X.A.units+64<cLine):OpR X (compareOp .Eq) zsd:=by intro pins s σ H x y v u Q I J L h;obtain⟨d,e,O,U,B,D,q⟩:=h;obtain⟨as,Y⟩:=yW I.hok 8 O J B;obtain⟨bs,Z⟩:=yW I.hok 8 U L D;exact eq_dataH Y Z (uu B) (uu D) F ⟨.bl _,H,I,rfl,q _ (zij B D)⟩
theorem zqw (F:X.A.units+64<cLine):OpR X (compareOp .NotEq) zsh:=by intro pins s σ H x y v u Q I J L h;obtain⟨d,e,O,U,B,D,q⟩:=h;obtain⟨as,Y⟩:=yW I.hok 8 O J B;obtain⟨bs,Z⟩:=yW I.hok 8 U L D;exact ne_dataH Y Z (uu B) (uu D) F ⟨.bl _,H,I,rfl,q _ (zij B D)⟩
theorem zmq (q:X.A.units+64<cLine):OpQ X (compareOp .Eq) zsd:=⟨zqt q⟩
theorem zgR (q:X.A.units+64<cLine):OpQ X (compareOp .NotEq) zsh:=⟨zqw q⟩
theorem zqY {o e:Expr}{to:TE}{t:TA}{apos cpos:Pos}(J:QE X o to)(L:QA X [e] t)(B:attributeBase o "append" X.env (eval o X.env)=eval o X.env:=by rfl)
  (I:((backTo cpos (starEach [e] X.env)).all (fun x=>!x.1)&&(backToKw cpos (keywordEach [] X.env)).all (fun x=>x.1.isSome)&&decide (([e]:List Expr).length+([]:List Keyword).length+(if ([]:List Keyword).isEmpty then 0 else 1)<30))=true:=by rfl)
  (D:(apos.endLine==cpos.line)=true:=by rfl) (O:starEach [e] X.env=(false,eval e X.env)::starEach [] X.env:=by rfl) (q:(backTo cpos (starEach [] X.env)).any (·.1)=false:=by rfl) :
  QE X (.Call (.Attribute o "append" apos) [e] [] cpos) (tBM X.K "list" zf5 to t):=⟨zqF cr PySem.F.slot_list_append PySem.F.type_list_append uZ J.run L.run B I D O q⟩
end
theorem zb0 {ns:List Int}:(Dt.tup (ns.map .int)).eqOk:=by
 have e:∀ns:List Int,(Dt.toWs (ns.map .int)).all (PySem.W.kqdOk 7)=true:=by
  intro ns
  induction ns with
  | nil=>rfl
  | cons n ns q=>simp only[aq,Dt.toWs,cQ,q,dr];rfl
 exact e ns
def yf (rm:List Int)(i:Int):Int:=rm.getD i.toNat 0
@[reducible] def xo (q:Int×Int):Dt:=.tup [.int q.1,.int q.2]
structure Giv (rm:List Int)(g:List (Int×Int)):Prop where
 ok:∀q∈g,0<=q.1/\q.1<rm.length/\0<=q.2/\q.2<yf rm q.1
 up:g.Pairwise fun a b=>a.1<b.1
def zhG (H H':Hp):Prop:=∀b xs,H b=some (.tup xs)->H' b=some (.tup xs)
theorem zhG.app {H:Hp}{a:Addr}{xs ys:List V}(h:H a=some (.lst xs)):zhG H (upd H a (.lst ys)):=fun b zs e=>by
 by_cases q:b=a
 ·subst q;rw[h] at e;cases e
 ·rw[ze q];exact e
mutual
def Dt.noL:Dt->Bool
 | .tup l=>Dt.noLs l
 | .lst _=>false
 | .dct=>false
 | _=>true
def Dt.noLs:List Dt->Bool
 | []=>true
 | d::ds=>d.noL&&Dt.noLs ds
end
mutual
theorem Is.stayT {H H1:Hp}(a:zhG H H1):∀ {d:Dt} {v:V},d.noL=true->Is H d v->Is H1 d v
 | .non,_,_,h=>h
 | .bl _,_,_,h=>h
 | .int _,_,_,h=>h
 | .str _,_,_,h=>h
 | .tup l,_,n,h=>by obtain⟨p,xs,e,hp,hl⟩:=h;exact⟨p,xs,e,a _ _ hp,IsL.stayT a (by simpa [Dt.noL] using n) hl⟩
 | .lst l,_,n,_=>by simp[Dt.noL] at n
 | .dct,_,n,_=>by simp[Dt.noL] at n
theorem IsL.stayT {H H1:Hp}(a:zhG H H1):∀ {ds:List Dt} {xs:List V},Dt.noLs ds=true->IsL H ds xs->IsL H1 ds xs
 | [],_,_,h=>h
 | d::ds,_,n,h=>by
  obtain⟨x,r,e,hd,hr⟩:=h;have n':d.noL=true/\Dt.noLs ds=true:=by simpa [Dt.noLs] using n
  exact⟨x,r,e,Is.stayT a n'.1 hd,IsL.stayT a n'.2 hr⟩
end
theorem Giv.snoc {rm:List Int}{g:List (Int×Int)}{i w:Int}(h:Giv rm g)(B:∀q∈g,q.1<i)(D:0<=i)(h1:i<rm.length)(h2:0<=w)(F:w<yf rm i):Giv rm (g++[(i,w)]):=by
 refine⟨fun q I=>?_,ef.mpr ⟨h.up,cu _ _,fun a J b L=>?_⟩⟩
 ·rcases aZ.mp I with z | z
  ·exact h.ok q z
  ·rw[az.mp z];exact⟨D,h1,h2,F⟩
 ·rw[az.mp L];exact B a J
theorem Pen.app {H:Hp}{p c fa:Addr}{ns:List Int}{n:Nat}{xs ys:List V}(P:Pen H p c ns n)(q:H fa=some (.lst xs))(B:c≠fa):Pen (upd H fa (.lst ys)) p c ns n:=by
 obtain⟨⟨a,l,h1,h2,D,F⟩,I,J⟩:=P;have L:p≠fa:=fun e=>by subst e;rw[q] at h1;cases h1
 exact⟨⟨a,l,by rw[ze L];exact h1,h2,D,F⟩,by rw[ze B];exact I,J⟩
def New (H:Hp)(o:HO)(R:V->Hp->Prop):Prop:=∀ (p:Addr) (H':Hp),H p=none->H' p=some o->y4 H H'->R (.ref p) H'
theorem New.at {H:Hp}{o:HO}{R:V->Hp->Prop}(h:New H o R){p:Addr}(q:H p=none):R (.ref p) (upd H p o):=h p _ q zj (y4.upd q)
def zrB (t:TA):TE:=fun σ H Q=>t σ H fun xs H1=>xs.length<=sizeLine/\New H1 (.tup xs) Q
def zrw (t:TA):TE:=fun σ H Q=>t σ H fun xs H1=>xs.length<=sizeLine/\New H1 (.lst xs) Q
section
variable {X:Cx}{es:List Expr}{t:TA}{pos:Pos}
theorem zn6 {x1}(h:PA X es t):PE X (.Tuple es x1 pos) (zrB t):=by intro pins s σ H Q I D;refine wpAny_Tuple_spliced (thn (h pos pins s σ H _ I D) fun F B ⟨xs,H1,I1,r,z,q⟩=>⟨by rw[<- r.length];exact z,?_⟩);have J:H1 B.heap.objs.size=none:=I1.hok.fresh (ag _);refine⟨.ref B.heap.objs.size,upd H1 B.heap.objs.size (.tup xs),I1.laid (t':=B.toks) (fun b u e=>af _ e) (ag _) ?_,rfl,q.at J⟩;exact⟨z,F,r,⟨_,aK _ rfl,rfl,⟨_,rfl⟩,rfl⟩⟩
theorem zn4 (h:PA X es t):PE X (.List es pos) (zrw t):=by intro pins s σ H Q I D;refine wpAny_List_spliced (thn (h pos pins s σ H _ I D) fun F B ⟨xs,H1,I1,r,z,q⟩=>⟨by rw[<- r.length];exact z,?_⟩);have J:H1 B.heap.objs.size=none:=I1.hok.fresh (ag _);refine⟨.ref B.heap.objs.size,upd H1 B.heap.objs.size (.lst xs),I1.laid (t':=B.toks) (fun b u e=>af _ e) (ag _) ?_,rfl,q.at J⟩;exact⟨z,F,0,r,aK _ rfl⟩
theorem zf4 {x1}(h:QA X es t):QE X (.Tuple es x1 pos) (zrB t):=⟨zn6 h.run⟩
theorem zjJ (h:QA X es t):QE X (.List es pos) (zrw t):=⟨zn4 h.run⟩
theorem CallQ.weak {f:Value}{r q:List V->Hp->VK->Prop}(h:CallQ X f r)(k:∀xs H Q,q xs H Q->r xs H Q):CallQ X f q:=⟨fun pins s σ H xs B Q I D z=>h.run pins s σ H xs B Q I D (k _ _ _ z)⟩
theorem OpQ.weak {f:Value->Value->Sem Value}{r q:R2}(h:OpQ X f r)(k:∀x y H Q,q x y H Q->r x y H Q):OpQ X f q:=⟨fun pins s σ H x y v u Q I B D z=>h.run pins s σ H x y v u Q I B D (k _ _ _ _ z)⟩
def zjP (K:PySem.W.Frag):List V->Hp->VK->Prop:=fun xs H Q=>∃p ys,xs=[.ref p]/\(SqL K H p ys\/SqT K H p ys)/\New H (.lst ys) Q
def zf6 (K:PySem.W.Frag):List V->Hp->VK->Prop:=fun xs H Q=>∃p ys,xs=[.ref p]/\((SqL K H p ys/\New H (.tup ys) Q)\/(SqT K H p ys/\Q (.ref p) H))
theorem zbV:CallQ X (.type "list") (zjP X.K):=zhd.weak <| by rintro xs H Q ⟨p,ys,e,h,n⟩;exact⟨p,ys,e,h,fun l q=>n.at q⟩
theorem yh:CallQ X (.type "tuple") (zf6 X.K):=zfz.weak <| by rintro xs H Q ⟨p,ys,e,h⟩;exact⟨p,ys,e,h.elim (by rintro⟨a,n⟩;exact .inl ⟨a,fun l q=>n.at q⟩) .inr⟩
def zoE:R2:=fun x y H Q=>∃l b xs zs,x = .ref l/\y = .ref b/\H l=some (.lst xs)/\H b=some (.lst zs)/\xs.length+zs.length<=sizeLine/\New H (.lst (xs++zs)) Q
theorem zju:OpQ X (binaryOp .Add) zoE:=zqA.weak <| by rintro x y H Q ⟨l,b,xs,zs,q,B,h1,h2,z,n⟩;exact⟨l,b,xs,zs,q,B,h1,h2,z,fun p D=>n.at D⟩
end
def zhT (g:TG)(ti:TT)(te:TE)(acc:Addr)(N:St->Hp->Prop)(x:V)(σ:St)(H:Hp):Prop:=
 g x σ H fun q H3=>ti q H3 fun B H4=>if B=true then te q H4 fun v H5=>∃xs,H5 acc=some (.lst xs)/\xs.length<sizeLine/\N q (upd H5 acc (.lst (xs++[v]))) else N q H4
def zpu (J:It)(g:TG)(ti:TT)(te:TE)(acc:Addr)(Q:VK)(σ:St)(H:Hp):Prop:=∃W:Nat->Nat->St->Hp->Prop,(∃m,W 0 m σ H)/\
 ∀i m q H',W i m q H'->(J.stop i H'/\Q (.ref acc) H')\/(J.go i H'/\∃N:St->Hp->Prop,(∀ B H2,N B H2->∃D,D<m/\W (i+1) D B H2)/\∀x H2,J.yld i H' x H2->zhT g ti te acc N x q H2)
def zg6 (q:TI)(g:TG)(ti:TT)(te:TE)(cix:List (Option Nat)):TE:=fun σ H Q=>q σ H fun J H1=>∀acc,H1 acc=none->zpu J g ti te acc Q (uR σ cix) (upd H1 acc (.lst []))
theorem zgY {X:Cx}{pos:Pos}{te:TE}{B tg q:Expr}{D:List Expr}{scope:Scope}{F:TI}{g:TG}{ti:TT}{N:List Str}{cix:List (Option Nat)}(I:X.calm=true)(c:CompOk X scope N cix)
  (hi:QI X tg q F) (J:∀C s H ex,QG (zu X scope N C s H ex) tg g) (L:∀C s H ex,QTs (zu X scope N C s H ex) D ti) (O:∀C s H ex,QE (zu X scope N C s H ex) B te)
  (U:∀x,foldedSetIterable q X.env x=pure x:=by intro _;rfl):QE X (.ListComp B [⟨tg,q,D,0⟩] scope pos) (zg6 F g ti te cix):=zoq I c hi J L O U
section
variable {K:PySem.W.Frag}{a acc:Addr}{xs:List V}{g:TG}{ti:TT}{te:TE}{σ:St}{H:Hp}{Q:VK}
theorem zhU (B:H acc=none)(Pv:Nat->St->Hp->Prop)(F:∀H',H' acc=some (.lst [])->y4 H H'->Pv 0 σ H')(I:∀i σ H,i<=xs.length->Pv i σ H->SqL K H a xs)
  (J:∀i x σ H,xs[i]?=some x->Pv i σ H->zhT g ti te acc (Pv (i+1)) x σ H) (L:∀ σ H,Pv xs.length σ H->Q (.ref acc) H):zpu (Itl K a) g ti te acc Q σ (upd H acc (.lst [])):=by
 refine⟨fun i m σ H=>m=xs.length - i/\i<=xs.length/\Pv i σ H,⟨xs.length,by simp,aT _,F _ zj (y4.upd B)⟩,?_⟩;rintro i m σ H ⟨rfl,hi,p⟩;have q:=I i σ H hi p;by_cases D:i<xs.length
 ·refine .inr ⟨⟨xs,xs[i],q,by simp[D]⟩,Pv (i+1),fun O H' U=>⟨xs.length - (i+1),by lia,rfl,D,U⟩,fun x H' y=>?_⟩;obtain⟨e,y⟩:=y;subst e;exact J i x σ _ (y xs q) p
 ·have e:i=xs.length:=by lia
  subst e;exact .inl ⟨⟨xs,q,ag _⟩,L σ H p⟩
end
theorem zl4 {g:TG}{te:TE}{acc:Addr}{N:St->Hp->Prop}{x:V}{σ:St}{H:Hp}(h:g x σ H fun q H3=>te q H3 fun v H5=>∃xs,H5 acc=some (.lst xs)/\xs.length<sizeLine/\N q (upd H5 acc (.lst (xs++[v])))):zhT g zbe te acc N x σ H:=zmn h
theorem zlL {H H1:Hp}{acc:Addr}{o:HO}(h:H acc=none)(s:y4 H H1):y4 H (upd H1 acc o):=fun b u e=>by rw[ze (zc e h)];exact s b u e
theorem zg4 {H H1:Hp}{acc:Addr}{o:HO}(h:H acc=none)(s:zv H H1):zv H (upd H1 acc o):=fun b u e q=>by rw[ze (zc e h)];exact s b u e q
section
variable {X:Cx}(K:PySem.W.Frag)(h:X.K=K)
include h
theorem zmT:CallQ X (.builtin "len") (fun xs H Q=>∃x n,xs=[x]/\zpl K x H n/\Q (.int n) H):=h ▸ yI
theorem zlj:OpQ X (binaryOp .Add) (zjO K):=h ▸ yD
end
theorem zow {X:Cx}(K:PySem.W.Frag)(B:X.K=K){es:List Expr}{pos:Pos}{k:Nat}{gs:TGs}{n:Nat}(D:X.calm=true)(h:QGs X es gs)(F:(assignEach es X.env).length=n:=by rfl)(q:(assignEach es X.env).findIdx? (·.1)=none:=by rfl):QG X (.Tuple es k pos) (zsQ K n gs):=B ▸ zq1 D h F q
theorem zoz {X:Cx}(K:PySem.W.Frag)(q:X.K=K){e tg:Expr}{te:TE}(B:QE X e te):QI X tg e (zsT K te):=q ▸ zq2 B
theorem zgZ {X:Cx}(K:PySem.W.Frag)(q:X.K=K){e tg:Expr}{te:TE}(B:QE X e te):QI X tg e (zng K te):=q ▸ zd2 B
structure Wi where
 g:List (Int×Int)
 b:Int
 r:Int
 w:Int
@[reducible] def zP (x:Wi):Dt:=.tup [.tup (x.g.map xo),.int x.b,.int x.r,.int x.w]
structure WishOk (rm:List Int)(x:Wi):Prop where
 giv:Giv rm x.g
 b0:0<=x.b
 b1:x.b<rm.length
 apart:∀q∈x.g,q.1≠x.b
 r0:0<=x.r
 r1:x.r<yf rm x.b
 w0:0<=x.w
 w1:x.w<yf rm x.b
 ne:x.r≠x.w
section
variable {H H':Hp}{R:Dt->Prop}{xs ys:List V}
end
def zlZ (rm:List Int)(d:Dt):Prop:=∃x,d=zP x/\WishOk rm x
theorem zk9 (x:Wi):PySem.W.kqdOk 7 (zP x).toW=true:=by
 have e:∀g:List (Int×Int),(Dt.toWs (g.map xo)).all (PySem.W.kqdOk 5)=true:=by
  intro g
  induction g with
  | nil=>rfl
  | cons n ns q=>simp only[aq,Dt.toWs,cQ,q,dr];rfl
 show ((Dt.toWs (x.g.map xo)).all (PySem.W.kqdOk 5)&&_)=true;rw[e];rfl
theorem zfD {rm:List Int}{ds:List Dt}(h:∀d∈ds,zlZ rm d):(Dt.tup ds).eqOk/\(Dt.lst ds).eqOk:=by
 have e:∀ds:List Dt,(∀d∈ds,zlZ rm d)->(Dt.toWs ds).all (PySem.W.kqdOk 7)=true:=by
  intro ds
  induction ds with
  | nil=>intro _;rfl
  | cons n ns q=>
   intro h;obtain⟨x,rfl,_⟩:=h n ao;simp only[Dt.toWs,cQ,q fun d B=>h d (am _ B),zk9 x,dr]
 exact⟨e ds h,e ds h⟩
theorem zkW (b:Int)(ns:List Int):inV (.int b) (ns.map V.int)=ns.contains b:=by
 unfold inV
 induction ns with
 | nil=>rfl
 | cons n ns q=>
  rw[aq,cq,q,List.contains_cons];show ((n==b) || _)=((b==n) || _);rw[show (n==b)=(b==n) from BEq.comm]
theorem ziq (ns:List Int):(ns.map V.int).all zcV=true:=by rw[bE];intro x q;obtain⟨n,_,rfl⟩:=aH.mp q;rfl
theorem zdD {m:Int}:∀ {g:List (Int×Int)} {lo:Int},(∀q∈g,lo<=q.1/\q.1<m)->(g.Pairwise fun a b=>a.1<b.1)->lo<=m->(g.length:Int)<=m - lo
 | [],lo,_,_,h=>by simp;lia
 | q::g,lo,h,F,I=>by have h1:=h q ao;have B:=ce.mp F;have J:=zdD (g:=g) (lo:=q.1+1) (fun x D=>⟨by have:=B.1 x D;lia,(h x (am _ D)).2⟩) B.2 (by lia);rw[aS];lia
theorem zit {rm:List Int}{g:List (Int×Int)}(h:Giv rm g)(D:rm.length<=8):g.length<=100:=by have:=zdD (g:=g) (lo:=0) (m:=rm.length) (fun q B=>⟨(h.ok q B).1,(h.ok q B).2.1⟩) h.up (by lia);lia
theorem zh1 (xs:List V)(k:Nat):zcS xs none (some (k:Int))=xs.take k:=by
 have e:HT.sIx xs.length xs.length (some (k:Int))=min k xs.length:=by simp[HT.sIx];try lia
 unfold zcS;rw[e,show HT.sIx xs.length 0 none=0 from rfl,dF,eO];by_cases h:k<=xs.length
 ·rw[Nat.min_eq_left h]
 ·rw[fH (by lia),bY (ag _),bY (by lia)]
theorem zh0 (xs:List V)(k:Nat):zcS xs (some (k:Int)) none=xs.drop k:=by
 have e:HT.sIx xs.length 0 (some (k:Int))=min k xs.length:=by simp[HT.sIx];try lia
 unfold zcS;rw[e,show HT.sIx xs.length xs.length none=xs.length from rfl];by_cases h:k<=xs.length
 ·rw[Nat.min_eq_left h,bY (by rw[bD];lia)]
 ·rw[fH (by lia),List.drop_eq_nil_of_le (as:=xs) (i:=xs.length) (by lia),List.drop_eq_nil_of_le (as:=xs) (i:=k) (by lia),List.take_nil]
section
variable {rm:List Int}{g b r w:Dt}
end
end L2
namespace HT
open PySem PySem.Spec PyProof.Rows
section
variable {prog:Program}{w:World}{A:Around}{E:Value->Shared->Prop}{s:Shared}
theorem fm_congr {α q:Type}{f g:α->Option q}:∀ {l:List α},(∀m∈l,f m=g m)->l.filterMap f=l.filterMap g
 | [],_=>rfl
 | a::l,h=>by rw[List.filterMap_cons,List.filterMap_cons,h a List.mem_cons_self,fm_congr fun m B=>h m (List.mem_cons_of_mem _ B)]
theorem pick_rev (xs:Array Value):((List.range xs.size).filterMap fun (m:Nat)=>xs[((xs.size:Int) - 1+(m:Int) * (-1)).toNat]?).toArray=xs.toList.reverse.toArray:=by
 congr 1
 have e:∀m∈List.range xs.size,xs[((xs.size:Int) - 1+(m:Int) * (-1)).toNat]?=some (xs.toList.reverse.getD m .none):=by
  intro m B;have q:=List.mem_range.mp B;have D:((xs.size:Int) - 1+(m:Int) * (-1)).toNat=xs.size - 1 - m:=by lia
  rw[D];have h2:xs.size - 1 - m<xs.size:=by lia
  rw[Array.getElem?_eq_getElem h2];congr 1;rw[List.getD_eq_getElem?_getD,List.getElem?_reverse (by rw[Array.length_toList];exact q),Array.length_toList,Array.getElem?_toList,Array.getElem?_eq_getElem h2];rfl
 rw[fm_congr e];rw[List.filterMap_eq_map' (f:=fun m=>xs.toList.reverse.getD m .none)];refine List.ext_getElem? fun i=>?_;rw[List.getElem?_map];by_cases hi:i<xs.size
 ·rw[List.getElem?_range hi];show some (xs.toList.reverse.getD i .none)=_;have F:i<xs.toList.reverse.length:=by rw[List.length_reverse,Array.length_toList];exact hi
  rw[List.getD_eq_getElem?_getD,List.getElem?_eq_getElem F];rfl
 ·rw[List.getElem?_eq_none (by rw[List.length_range];lia),List.getElem?_eq_none (by rw[List.length_reverse,Array.length_toList];lia)];rfl
end
end HT
namespace L2
open PySem PySem.Spec PyProof.Rows
section
variable {X:Cx}{e:Expr}{te:TE}{pos p2 p3 p4:Pos}{j:Nat}
theorem zfl {xs:List V}{q:List Value}(r:ya xs q):ya xs.reverse q.reverse:=by
 induction r with
 | nil=>exact .nil
 | cons h _ B=>rw[c3,c3];exact B.append (.cons h .nil)
theorem zea (xs:Array Value):slicePick xs none none (some (-1))=xs.toList.reverse.toArray:=by
 rw[<- HT.pick_rev];unfold slicePick;congr 1;have q:sliceBounds none none (some (-1)) xs.size=((xs.size:Int) - 1,-1,-1):=by simp[sliceBounds]
 rw[q];unfold sliceRange
 have B:(if (-1:Int) > 0 then (if (xs.size:Int) - 1 < -1 then (-1 - ((xs.size:Int) - 1)+-1 - 1) / -1 else 0) else if (xs.size:Int) - 1 > -1 then ((xs.size:Int) - 1 - -1 - -1 - 1) / - -1 else 0).toNat=xs.size:=by rw[if_neg (by decide),show - (-1:Int)=1 from rfl,Int.ediv_one];split <;> lia
 show List.filterMap (fun x=>xs[x]?) (List.map _ (List.range (if (-1:Int) > 0 then (if (xs.size:Int) - 1 < -1 then (-1 - ((xs.size:Int) - 1)+-1 - 1) / -1 else 0) else if (xs.size:Int) - 1 > -1 then ((xs.size:Int) - 1 - -1 - -1 - 1) / - -1 else 0).toNat))=_;rw[B,eM];refine HT.fm_congr fun m D=>?_;show xs[((xs.size:Int) - 1+-1 * (m:Int)).toNat]?=_;rw[show (xs.size:Int) - 1+-1 * (m:Int)=(xs.size:Int) - 1+(m:Int) * -1 by lia]
def zrz (te:TE):TE:=fun σ H Q=>te σ H fun x H1=>∃a xs,x = .ref a/\H1 a=some (.lst xs)/\New H1 (.lst xs.reverse) Q
theorem zn5 (J:PE X e te):PE X (.Subscript e (.Slice none none (some (.UnaryOp .USub (.Constant (.int 1) j p4) p3)) p2) pos) (zrz te):=by intro pins s σ H Q I h;refine Subscript_ (thn (J pins s σ H _ I h)  ?_);rintro v L ⟨x,H1,I1,O,U⟩;obtain⟨a,xs,rfl,Y,q⟩:=U;cases O;refine wpAny_Slice ?_;rw[evalPart_none];refine ac (ac ?_);rw[evalPart_some];refine thn (ztz (zrL (X:=X)) (zmt (X:=X)) pins L σ H1 (fun z H2=>z = .int (-1)/\H2=H1) I1 ⟨1,rfl,rfl,rfl⟩)  ?_;rintro u B ⟨z,H2,I2,Z,e1,e2⟩;subst e1 e2;obtain⟨tk,rfl⟩:=Z;have I3:Inv X pins σ H2 { B with heap:=B.heap.push { cls:=.type "slice",data:=.fields #[.none,.none,.int (-1) tk] } }:=I2.kept (t':=B.toks) fun b ob q=>af _ q;obtain⟨its,r,D,hz⟩:=I3.list (.of Y);have F:=r.length;show wpAny (model X.prog X.w) X.A (subscriptTail e _ (.ref a) (.ref B.heap.objs.size)) (EP X pins σ Q) X.xe { B with heap:=B.heap.push { cls:=.type "slice",data:=.fields #[.none,.none,.int (-1) tk] } };refine tail_any (ops:=[.ref a,.ref B.heap.objs.size]) D.isList.typeIs slot_list_getitem.lookup ?_ (by with_unfolding_all rfl);refine wpAny_getItem_list_slice D.isList (Heap.IsSliceOf.new ..) .none .none (.int (-1) tk) (by simp) ?_ (by rw[aA] <;> lia);rw[zea];refine⟨.ref _,_,I3.laid (t':=B.toks) (o:=.lst xs.reverse) (fun b ob q=>af _ q) (ag _) ?_,rfl,q.at (I3.hok.fresh (ag _))⟩;exact⟨by rw[eB];exact hz,its.reverse,0,zfl r,aK _ rfl⟩
theorem zot (q:QE X e te):QE X (.Subscript e (.Slice none none (some (.UnaryOp .USub (.Constant (.int 1) j p4) p3)) p2) pos) (zrz te):=⟨zn5 q.run⟩
def ztJ:V->V->V->Hp->(Hp->Prop)->Prop:=fun o i v H Q=>∃p xs k,o = .ref p/\i = .int k/\H p=some (.lst xs)/\0<=k/\k<xs.length/\Q (upd H p (.lst (xs.set k.toNat v)))
theorem zov {o i:Expr}{to ti:TE}(ho:QE X o to)(hi:QE X i ti)(ha:∀v,assign (.Subscript o i pos) X.env v=(do
   let ov <- holding [v] (eval o X.env)
   let iv <- holding [v,ov] (eval i X.env)
   standAt pos
   holding [v,ov,iv] (setItem ov iv v)
   release [v,ov,iv] []):=by intro _;rfl):QG X (.Subscript o i pos) (gSub to ti ztJ):=
 ⟨zqN ho.run hi.run (by rintro pins s σ H o i v ov iv u Q I ro ri rv ⟨p,xs,k,e1,e2,hp,h0,h1,q⟩;exact zlO pins s σ H o i v ov iv u Q I ro ri rv ⟨p,xs,k,k.toNat,e1,e2,hp,by unfold ixN;rw[if_pos h0,if_pos h1],q⟩) ha⟩
end
section
variable {X:Cx}
end
def chg (st:List Int)(b w:Int):List Int:=st.take b.toNat++[w]++st.drop (b.toNat+1)
theorem zmS (st:List Int){b w:Int}(q:0<=b):zcS (st.map V.int) none (some b)++[.int w]++zcS (st.map V.int) (some (b+1)) none=(chg st b w).map V.int:=by obtain⟨j,rfl⟩:∃j:Nat,b=j:=⟨b.toNat,by lia⟩;rw[zh1,show ((j:Int)+1)=((j+1:Nat):Int) by lia,zh0];unfold chg;rw[ax,ax,el,fD];rfl
theorem xt {st:List Int}{b w:Int}(q:0<=b)(h1:b<st.length):(chg st b w).length=st.length:=by unfold chg;rw[ai,ai,aN,bD];show min b.toNat st.length+1+(st.length - (b.toNat+1))=st.length;lia
theorem ye {st:List Int}{b w c:Int}(B:0<=b)(h1:b<st.length)(D:0<=c):yf (chg st b w) c=if c=b then w else yf st c:=by
 obtain⟨j,rfl⟩:∃j:Nat,b=j:=⟨b.toNat,by lia⟩;obtain⟨k,rfl⟩:∃k:Nat,c=k:=⟨c.toNat,by lia⟩;have F:j<st.length:=by lia
 unfold yf chg;simp only[bf,aF];have q:(st.take j).length=j:=by rw[aN];lia
 rcases cw k j with h | h | h
 ·rw[if_neg (by lia),bF,a9 (by rw[q];exact h),dh h]
 ·subst h;rw[if_pos rfl,bF,bc (by rw[q];exact ag _),q,eQ];rfl
 ·rw[if_neg (by lia),bF,bc (by rw[q];lia),q];obtain⟨m,rfl⟩:∃m,k=j+1+m:=⟨k - (j+1),by lia⟩;rw[show j+1+m - j=m+1 by lia];show ((st.drop (j+1))[m]?).getD 0=_;rw[du]
theorem zgz {s t:List Int}(q:s.length=t.length)(h:∀c:Int,0<=c->c<s.length->yf s c=yf t c):s=t:=by refine dW q fun i h1 h2=>?_;have:=h (i:Int) (by lia) (by lia);unfold yf at this;simpa [h1,h2] using this
def xm (st:List Int)(g:List (Int×Int)):Bool:=g.all fun q=>decide (yf st q.1=q.2)
def zal (st:List Int)(x:Wi):Bool:=decide (yf st x.b=x.w)&&xm st x.g
def zsR (one q:List Int)(x:Wi):Bool:=zal one x&&decide (chg one x.b x.r=q)
def zrC (x:Wi):Wi:={ x with r:=x.w,w:=x.r }
theorem yd (st:List Int)(j:Nat):yf st (j:Int)=st.getD j 0:=by unfold yf;simp
theorem zbg {st:List Int}{r b:Int}(B:0<=b)(h1:b<st.length):yf (st++[r]) b=yf st b:=by
 obtain⟨j,rfl⟩:∃j:Nat,b=j:=⟨b.toNat,by lia⟩;have q:j<st.length:=by lia
 rw[yd,yd,aF,aF,a9 q]
theorem zbf {st:List Int}{r:Int}:yf (st++[r]) (st.length:Int)=r:=by rw[yd,aF,bc (ag _),eQ];rfl
theorem zfW {st:List Int}{i:Nat}{m:Int}(h:st[i]?=some m):yf st (i:Int)=m:=by rw[yd,aF,h];rfl
theorem yg {rm:List Int}(B:∀r∈rm,2<=r/\r<=4){b:Int}(D:0<=b)(h1:b<rm.length):2<=yf rm b/\yf rm b<=4:=by
 obtain⟨j,rfl⟩:∃j:Nat,b=j:=⟨b.toNat,by lia⟩;have q:j<rm.length:=by lia
 rw[zfW (ah q)];exact B _ (bg q)
theorem zeX:∀st:List Int,Dt.noLs (st.map .int)=true
 | []=>rfl
 | _::st=>by show (true&&Dt.noLs (st.map .int))=true;rw[zeX st];rfl
theorem zk7 (st:List Int):PySem.W.kqdOk 7 (Dt.tup (st.map .int)).toW=true:=by
 have e:∀ns:List Int,(Dt.toWs (ns.map .int)).all (PySem.W.kqdOk 6)=true:=by
  intro ns
  induction ns with
  | nil=>rfl
  | cons n ns q=>simp only[aq,Dt.toWs,cQ,q,dr];rfl
 exact e st
theorem zoh {X:Cx}{Z tg L:Expr}{Y:List Expr}{scope:Scope}{pos ap:Pos}{wi:TI}{g:TG}{ti:TT}{te:TE}{N:List Str}{cix:List (Option Nat)}{ix:Nat}{nx:Str}{px:Pos}(b1:X.N.Nodup)(b2:X.N[ix]?=some nx)(a3:X.env.scope.names.lookup nx=some .local)(hc:X.calm=true)(c:CompOk X scope N cix)
  (hi:PI X tg L wi) (hg:∀C s H ex,PG (zu X scope N C s H ex) tg g) (ht:∀C s H ex,PTs (zu X scope N C s H ex) Y ti) (he:∀C s H ex,PE (zu X scope N C s H ex) Z te)
  (b3:swapsWithSole [.Name nx px] (.ListComp Z [⟨tg,L,Y,0⟩] scope pos) ap.line X.env=pure true)
  (hs:∀x,foldedSetIterable L X.env x=pure x:=by intro _;rfl)
  (b4:(assignEach [.Name nx px] X.env).map (·.2)=[assign (.Name nx px) X.env]:=by rfl):PS X (.Assign [.Name nx px] (.ListComp Z [⟨tg,L,Y,0⟩] scope pos) ap) (zfp (zj8 wi g ti te cix) (uT ix)):=by
 intro pins s σ H D I h0;have h:zj8 wi g ti te cix σ H (fun x H1=>D.nx (σ.set ix (some x)) H1):=h0;rw[exec_Assign_arm];refine aa (bC ?_);rw[b3];refine aa (ac ?_);rw[if_pos rfl];refine aa ?_;rw[evalThenUse.eq_1];refine aa ?_;generalize hU:(fun v=>assignAll v ((assignEach [.Name nx px] X.env).map (·.2)))=U;refine bS (g:=⟨tg,L,Y,0⟩) (gs:=[]) (use:=some U) rfl hs (xF (c.cells I.ok)) c.kind c.names ?_;refine (thn (hi pins s σ H _ I h) fun xv s1 h1=>thn h1 fun d0 q h2=>?_);obtain⟨it,fp,tn,J,H2,e,I2,T,a4,f2,q2⟩:=h2;subst e;refine bj (c5 c.cell (by intro y hy;simp at hy) (fun h4 as av=>?_) c.kind);dsimp only at as av ⊢;have a0:=I2.hok.fresh (ag q.heap.objs.size);have I3:Inv X pins σ (upd H2 q.heap.objs.size (.lst [])) { q with heap:=q.heap.push { cls:=.type "list",dict:=none,data:=.seq ([]:List Value).toArray },toks:=q.toks }:=I2.lnew (t':=q.toks) .nil (by simp);obtain⟨W,⟨m0,w0⟩,a5⟩:=q2 q.heap.objs.size a0
 have a1:∀b∈fp,b<q.heap.objs.size:=fun b B=>by obtain⟨o,ho,_⟩:=T.obj _ _ a4 b B;exact ay ho
 have f3:∀b∈fp,zbt X pins (upd H2 q.heap.objs.size (.lst [])) b:=fun b B=>⟨by rw[ze (aM (a1 b B))];exact (f2 b B).1,(f2 b B).2⟩
 have kp:∀b o,(q.heap.push { cls:=.type "list",dict:=none,data:=.seq ([]:List Value).toArray }).get? b=some o->h4.get? b=some o:=fun b o e=>
  av.extBut b o (aM (ay e)) (af _ e)
 have bb:q.heap.objs.size<(q.heap.push { cls:=.type "list",dict:=none,data:=.seq ([]:List Value).toArray }).objs.size:=by rw[cI];exact ck _
 have I4:=zbG (tk:=q.toks+([]:List (Str×Value)).length) I3 c f3 (fun b B=>bJ (a1 b B) bb) as kp;have bd:tn 0 h4:=T.keep _ _ _ a4 fun b B o e=>kp b o (af _ e)
 generalize O:zu X scope N (q.heap.push { cls:=.type "list",dict:=none,data:=.seq ([]:List Value).toArray }).objs.size
  { q with heap:=q.heap.push { cls:=.type "list",dict:=none,data:=.seq ([]:List Value).toArray },toks:=q.toks } (upd H2 q.heap.objs.size (.lst [])) fp=X' at I4
 have pX:X'.prog=X.prog:=by rw[<- O];rfl
 have wX:X'.w=X.w:=by rw[<- O];rfl
 have KX:X'.K=X.K:=by rw[<- O];rfl
 have AX:X'.A=X.A:=by rw[<- O];rfl
 have cX:X'.calm=true:=by rw[<- O];exact hc
 have xX:X'.xe=fun _ _=>False:=by rw[<- O];rfl
 have eX:X'.env=compEnvC scope (zaB X.env scope.names []) (q.heap.push { cls:=.type "list",dict:=none,data:=.seq ([]:List Value).toArray }).objs.size X.env:=by rw[<- O];rfl
 have ca:PG X' tg g:=by rw[<- O];exact hg _ _ _ _
 have cc:PTs X' Y ti:=by rw[<- O];exact ht _ _ _ _
 have cd:PE X' Z te:=by rw[<- O];exact he _ _ _ _
 have f4:∀ {H':Hp},(∀b∈fp,H' b=none)->∀b∈fp,zbt X' [] H' b:=fun {H'} hn b B=>by
  refine⟨hn b B,?_,?_,.inl ?_,?_,?_⟩
  ·rw[eX];exact aM (bJ (a1 b B) bb)
  ·have e1:X'.fs=frs X.stack:=by rw[<- O];rfl
   rw[e1];intro z;rcases aE.mp (I2.stkSub b z) with e | e
   ·exact (f2 b B).2.1 e
   ·exact (f2 b B).2.2.1 e
  ·rw[<- O];exact B
  ·rw[eX];intro x a e;rcases yU (c.cells I.ok) e with z | z
   ·exact (f2 b B).2.2.2.2.1 x a z
   ·simp at z
  ·intro p hp;have e1:X'.pn++([]:List (Addr×Obj))=[]:=by rw[<- O];rfl
   rw[e1] at hp;simp at hp
 have bk:∀s4:Shared,s4={ q with heap:=h4,toks:=q.toks+([]:List (Str×Value)).length }->
   codeAny (model X.prog X.w) X.A (.compLoop (.ListComp Z [⟨tg,L,Y,0⟩] scope pos) 0 (.ref it) (.ref q.heap.objs.size) X'.env)
    (compPost (model X.prog X.w) X.A X.xe (some U) (fun _ s=>wpAny (model X.prog X.w) X.A (pure ()) (fun _ s=>wpAny (model X.prog X.w) X.A (pure Flow.next) (SP X pins D) X.xe s) X.xe s) (.ref q.heap.objs.size) (q.heap.push { cls:=.type "list",dict:=none,data:=.seq ([]:List Value).toArray }).objs.size) s4:=by
  rintro s4 rfl;refine ut (fun n s'=>∃i F H',Inv X' [] F H' s'/\tn i s'.heap/\(∀b∈fp,H' b=none)/\W i n F H') ?_ m0 ⟨0,uR σ cix,_,I4,bd,fun b B=>(f3 b B).1,w0⟩;rintro n s5 ⟨i,al,H5,I5,bl,bo,w5⟩;rcases a5 i n al H5 w5 with ⟨stop,qn⟩ | ⟨go,Nx,hN,step⟩
  ·have:=T.done X' pX wX KX cX i [] s5 al H5 (fun _ _=>False) I5 (f4 bo) bl stop;rw[AX] at this;refine thn this  ?_;rintro r s6 ⟨hr,I6⟩;subst hr;obtain⟨m6,bs,_⟩:=I6.loc
   have bx:H5 (q.heap.push { cls:=.type "list",dict:=none,data:=.seq ([]:List Value).toArray }).objs.size=none:=by have:=I6.free;rw[eX] at this;exact this
   rw[eX] at bs;have I6':=I6;rw[<- O] at I6';have IX:=zah I3 f3 I6' ⟨rfl,fun _ _=>rfl⟩;have fC:=I3.fpOk (ag _) bx
   have ch:U (.ref q.heap.objs.size)=assignAll (.ref q.heap.objs.size) [assign (.Name nx px) X.env]:=by rw[<- hU,<- b4]
   show wpAny _ _ (U (.ref q.heap.objs.size)) _ _ s6;rw[ch];refine eY (x:=nx) (pos:=px) ?_;refine zcK IX b1 b2 (Or.inl a3) (v:=.ref q.heap.objs.size) rfl (fun s7 I7 ⟨a7,cl,cn⟩=>?_) (.inr a3)
   have co:(q.heap.push { cls:=.type "list",dict:=none,data:=.seq ([]:List Value).toArray }).objs.size≠a7:=by
    intro z;rcases cn with e | e
    ·exact fC.2.1 (z.trans e)
    ·exact fC.2.2.2.2.1 nx a7 e z.symm
   obtain⟨oC,cp,cs,c0,rC⟩:=bs;refine⟨m6,⟨oC,cp,cs,(cl.2 _ co).trans c0,rC⟩,fun h8 c1=>?_⟩;refine ac (ac ?_);exact⟨_,H5,I7.turned (t':=s7.toks) (fun b o B e=>(c1.2 b B).trans e) bx fC.2.1 fC.2.2.2.1 fC.2.2.2.2.1 fC.2.2.2.2.2,qn⟩
  ·have:=T.item X' pX wX KX cX i [] s5 al H5 (fun _ _=>False) I5 (f4 bo) bl go;rw[AX] at this;refine thn this  ?_;rintro r s6 ⟨u,hr,h6⟩;subst hr;refine thn h6  ?_;rintro _ s7 ⟨x,H7,I7,r7,y7,a2,c2⟩;have I7':=I7.pinned (f4 c2) (T.obj _ _ a2);have a7:=ca _ s7 al H7 x u _ I7' r7 (step x H7 y7);rw[pX,wX,AX,xX] at a7;refine thn a7  ?_;rintro _ s8 ⟨an,H8,I8,q8⟩;have t8:=cc _ s8 an H8 _ I8 q8;rw[pX,wX,AX,xX] at t8;refine thn t8  ?_;rintro ok s9 ⟨H9,I9,q9⟩
   have ad:∀ {s':Shared} {F:St} {H':Hp},Inv X' ([]++xP fp s7.heap) F H' s'->Nx F H'->∃m,m<n/\∃i F H',Inv X' [] F H' s'/\tn i s'.heap/\(∀b∈fp,H' b=none)/\W i m F H':=fun {s' F H'} J' n'=>by obtain⟨m',hm,w'⟩:=hN F H' n';refine⟨m',hm,i+1,F,H',J'.unpinned,T.keep _ _ _ a2 fun b B o e=>(J'.pin (b,o) (ak _ (ak _ (zG B e)))).1,fun b B=>?_,w'⟩;obtain⟨o,e,d⟩:=T.obj _ _ a2 b B;exact (J'.pin (b,o) (ak _ (ak _ (zG B e)))).2.1
   cases ok with
   | false=>exact ad I9 q9
   | true=>
    have e9:=cd _ s9 an H9 _ I9 q9;rw[pX,wX,AX,xX] at e9;refine thn e9  ?_;rintro u2 dd ⟨v,H10,I10,df,dk⟩;obtain⟨xs,dm,dp,nx⟩:=dk;have b0:=uZ (X:=X') _ dd an H10 (.ref q.heap.objs.size) [v] (.ref q.heap.objs.size) [u2] (fun _ H'=>Nx an H') I10 rfl (.cons df .nil) ⟨_,xs,v,rfl,rfl,dm,dp,nx⟩;rw[pX,wX,AX,xX] at b0;refine thn b0 <| by rintro _ d1 ⟨_,H11,I11,_,dt⟩;exact ad I11 dt
 have l0:=bk _ rfl;rw[eX] at l0;exact cT l0 (T.self X.A 0 _ _ _ bd l0)
theorem zoC {X:Cx}{D tg q:Expr}{F:List Expr}{scope:Scope}{pos B:Pos}{Z:TI}{g:TG}{ti:TT}{te:TE}{N:List Str}{cix:List (Option Nat)}{ix:Nat}{nx:Str}{I:Pos}(J:X.N.Nodup)(L:X.N[ix]?=some nx)(O:X.env.scope.names.lookup nx=some .local)(hc:X.calm=true)(c:CompOk X scope N cix)
  (hi:QI X tg q Z) (hg:∀C s H ex,QG (zu X scope N C s H ex) tg g) (ht:∀C s H ex,QTs (zu X scope N C s H ex) F ti) (he:∀C s H ex,QE (zu X scope N C s H ex) D te)
  (U:swapsWithSole [.Name nx I] (.ListComp D [⟨tg,q,F,0⟩] scope pos) B.line X.env=pure true:=by rfl)
  (hs:∀x,foldedSetIterable q X.env x=pure x:=by intro _;rfl)
  (Y:(assignEach [.Name nx I] X.env).map (·.2)=[assign (.Name nx I) X.env]:=by rfl):QS X (.Assign [.Name nx I] (.ListComp D [⟨tg,q,F,0⟩] scope pos) B) (zfp (zg6 Z g ti te cix) (uT ix)):=
 ⟨zoh J L O hc c hi.run (fun C s H ex=>(hg C s H ex).run) (fun C s H ex=>(ht C s H ex).run) (fun C s H ex=>(he C s H ex).run) U hs Y⟩
section
variable {prog:Program}{w:World}{A:Around}{E:Value->Shared->Prop}{s:Shared}
end
section
variable {X:Cx}
end
section
variable {prog:Program}{w:World}{A:Around}{R:Result->Shared->Prop}{s:Shared}
theorem zbw {elt target iter:Expr}{c1:Comprehension}{ifs:List Expr}{scope:Scope}{pos:Pos}{it acc:Value}{env:Env}(I:Nat->Shared->Prop)
  (turn:∀n s,I n s->wpAny (model prog w) A (pyNext it) (fun r s₁=>match r with
   | none=>R (.ok .next) s₁
   | some v=>wpAny (model prog w) A (letOwnedTupleGo target it v) (fun _ s₂=>wpAny (model prog w) A (assign target env v) (fun _ s₃=>
     wpAny (model prog w) A (forIn ifs true fun c r=>if r=true then do let ok <- isTrue c env (eval c env);pure (ForInStep.yield ok) else pure (ForInStep.yield r)) (fun ok s₄=>
      if ok=true then wpAny (model prog w) A (eval elt env) (fun x s₅=>
       wpAny (model prog w) A (call (.builtin "list.append") [acc,x]) (fun _ s₆=>∃m,m<n/\I m s₆) (fun _ _=>False) s₅) (fun _ _=>False) s₄
      else ∃m,m<n/\I m s₄) (fun _ _=>False) s₃) (fun _ _=>False) s₂) (fun _ _=>False) s₁) (fun _ _=>False) s)
  (n:Nat) (h:I n s) :
  codeAny (model prog w) A (.compLoop (.ListComp elt [c1,⟨target,iter,ifs,0⟩] scope pos) 1 it acc env) R s:=by
 refine eP rfl I (fun n s hI=>?_) n h;show wpAny _ A ((compTurn (.ListComp elt [c1,⟨target,iter,ifs,0⟩] scope pos) 1 it acc env).onRaise (fun x=>do noteFrame x env;theTreesLotGoes x)) _ _ s;refine fB ?_;unfold compTurn;refine aa (bC (aa (aX (turn n s hI) (fun r s₁ h₁=>?_) fun _ _ h'=>h'.elim)))
 cases r with
 | none=>exact ac h₁
 | some v=>
  refine aa (aX h₁ (fun _ s₂ h₂=>?_) fun _ _ h'=>h'.elim);refine aa (aX h₂ (fun _ s₃ h₃=>aa (aX h₃ (fun ok s₄ h₄=>?_) fun _ _ h'=>h'.elim)) fun _ _ h'=>h'.elim)
  cases ok with
  | false=>exact ac ⟨rfl,h₄⟩
  | true=>
   exact aa (aa (aX h₄ (fun x s₅ h₅=>aa (aX h₅ (fun _ s₆ h₆=>ac (ac ⟨rfl,h₆⟩)) fun _ _ h'=>h'.elim)) fun _ _ h'=>h'.elim))
theorem zau {elt target iter:Expr}{c1:Comprehension}{ifs:List Expr}{scope:Scope}{pos:Pos}{it acc:Value}{env:Env}
  (h1:codeAny (model prog w) A (.compLoop (.ListComp elt [c1,⟨target,iter,ifs,0⟩] scope pos) 1 it acc env) R s)
  (h2:wpAny (model prog w) A (pyIter it) (fun it' s'=>codeAny (model prog w) A (.compLoop (.ListComp elt [c1,⟨target,iter,ifs,0⟩] scope pos) 1 it' acc env) R s') (fun _ _=>False) s) :
  codeAny (model prog w) A (.compStart (.ListComp elt [c1,⟨target,iter,ifs,0⟩] scope pos) 1 it acc env) R s:=by
 refine dv ?_;show wpAny _ A ((compStart (.ListComp elt [c1,⟨target,iter,ifs,0⟩] scope pos) 1 it acc env).onRaise (fun x=>do noteFrame x env;standAt theWindowsPlace)) _ _ s;refine wpAny_onRaise ?_;unfold compStart;rw[if_neg (by show ¬ ((0 != 0)=true);decide)];refine aa (bu ?_);split
 ·exact ac ⟨rfl,h1⟩
 ·refine aa (eu ?_);refine aa (bC ?_);refine aa (aX h2 (fun it' s' h'=>ac ⟨rfl,h'⟩) fun _ _ h'=>h'.elim)
theorem za8 {elt target iter t2 it2:Expr}{ifs ifs2:List Expr}{scope:Scope}{pos:Pos}{it acc:Value}{env:Env}(hf:∀x,foldedSetIterable it2 env x=pure x)(I:Nat->Shared->Prop)
  (turn:∀n s,I n s->wpAny (model prog w) A (pyNext it) (fun r s₁=>match r with
   | none=>R (.ok .next) s₁
   | some v=>wpAny (model prog w) A (letOwnedTupleGo target it v) (fun _ s₂=>wpAny (model prog w) A (assign target env v) (fun _ s₃=>
     wpAny (model prog w) A (forIn ifs true fun c r=>if r=true then do let ok <- isTrue c env (eval c env);pure (ForInStep.yield ok) else pure (ForInStep.yield r)) (fun ok s₄=>
      if ok=true then wpAny (model prog w) A (eval it2 env) (fun x s₅=>wpAny (model prog w) A (pyIter x) (fun iv s₆=>
       codeAny (model prog w) A (.compStart (.ListComp elt [⟨target,iter,ifs,0⟩,⟨t2,it2,ifs2,0⟩] scope pos) 1 iv acc env) (fun r s₇=>match r with
        | .ok _=>∃m,m<n/\I m s₇
        | .error _=>False) s₆) (fun _ _=>False) s₅) (fun _ _=>False) s₄
      else ∃m,m<n/\I m s₄) (fun _ _=>False) s₃) (fun _ _=>False) s₂) (fun _ _=>False) s₁) (fun _ _=>False) s)
  (n:Nat) (h:I n s) :
  codeAny (model prog w) A (.compLoop (.ListComp elt [⟨target,iter,ifs,0⟩,⟨t2,it2,ifs2,0⟩] scope pos) 0 it acc env) R s:=by
 refine eP rfl I (fun n s hI=>?_) n h;show wpAny _ A ((compTurn (.ListComp elt [⟨target,iter,ifs,0⟩,⟨t2,it2,ifs2,0⟩] scope pos) 0 it acc env).onRaise (fun x=>do noteFrame x env;theTreesLotGoes x)) _ _ s;refine fB ?_;unfold compTurn;refine aa (bC (aa (aX (turn n s hI) (fun r s₁ h₁=>?_) fun _ _ h'=>h'.elim)))
 cases r with
 | none=>exact ac h₁
 | some v=>
  refine aa (aX h₁ (fun _ s₂ h₂=>?_) fun _ _ h'=>h'.elim);refine aa (aX h₂ (fun _ s₃ h₃=>aa (aX h₃ (fun ok s₄ h₄=>?_) fun _ _ h'=>h'.elim)) fun _ _ h'=>h'.elim)
  cases ok with
  | false=>exact ac ⟨rfl,h₄⟩
  | true=>
   refine aa (aX h₄ (fun x s₅ h₅=>?_) fun _ _ h'=>h'.elim);refine aa (bC ?_);show wpAny _ _ (foldedSetIterable it2 env x >>= _) _ _ _;rw[hf];refine aa (ac ?_);show wpAny _ _ (holding [x] (pyIter x) >>= _) _ _ _;refine aa (bB (aX h₅ (fun iv s₆ h₆=>?_) fun _ _ h'=>h'.elim));refine aa (wpAny_runOwn (h:=none) ?_);refine dJ (show codeAny (model prog w) (A.mark none) _ _ s₆ from h₆) fun r s₇ h₇=>?_
   cases r with
   | ok f=>exact ac ⟨rfl,h₇⟩
   | error e=>exact h₇.elim
end
def zmg (J:It)(g:TG)(ti:TT)(te:TE)(acc:Addr)(N:St->Hp->Prop)(σ:St)(H:Hp):Prop:=∃W:Nat->Nat->St->Hp->Prop,(∃m,W 0 m σ H)/\
 ∀i m q H',W i m q H'->(J.stop i H'/\N q H')\/(J.go i H'/\∃N2:St->Hp->Prop,(∀ B H2,N2 B H2->∃D,D<m/\W (i+1) D B H2)/\∀x H2,J.yld i H' x H2->zhT g ti te acc N2 x q H2)
def zhS (g:TG)(ti:TT)(wi2:TI)(g2:TG)(ti2:TT)(te:TE)(acc:Addr)(N:St->Hp->Prop)(x:V)(σ:St)(H:Hp):Prop:=
 g x σ H fun q H3=>ti q H3 fun B H4=>if B=true then wi2 q H4 fun J2 H5=>zmg J2 g2 ti2 te acc N q H5 else N q H4
def zl3 (J:It)(g:TG)(ti:TT)(wi2:TI)(g2:TG)(ti2:TT)(te:TE)(acc:Addr)(Q:VK)(σ:St)(H:Hp):Prop:=∃W:Nat->Nat->St->Hp->Prop,(∃m,W 0 m σ H)/\
 ∀i m q H',W i m q H'->(J.stop i H'/\Q (.ref acc) H')\/(J.go i H'/\∃N:St->Hp->Prop,(∀ B H2,N B H2->∃D,D<m/\W (i+1) D B H2)/\∀x H2,J.yld i H' x H2->zhS g ti wi2 g2 ti2 te acc N x q H2)
def zj9 (q:TI)(g:TG)(ti:TT)(wi2:TI)(g2:TG)(ti2:TT)(te:TE)(cix:List (Option Nat)):TE:=fun σ H Q=>q σ H fun J H1=>∀acc,H1 acc=none->zl3 J g ti wi2 g2 ti2 te acc Q (uR σ cix) (upd H1 acc (.lst []))
theorem zly {X:Cx}{as tg O Z B:Expr}{ad Y:List Expr}{scope:Scope}{pos a5:Pos}{wi wi2:TI}{g g2:TG}{ti ti2:TT}{te:TE}{N:List Str}{cix:List (Option Nat)}{ix:Nat}{nx:Str}{px:Pos}(d5:X.N.Nodup)(d6:X.N[ix]?=some nx)(b4:X.env.scope.names.lookup nx=some .local)(hc:X.calm=true)(c:CompOk X scope N cix)
  (hi:PI X tg O wi) (hg:∀C s H ex,PG (zu X scope N C s H ex) tg g) (ht:∀C s H ex,PTs (zu X scope N C s H ex) ad ti)
  (d7:∀C s H ex,PI (zu X scope N C s H ex) Z B wi2) (d8:∀C s H ex,PG (zu X scope N C s H ex) Z g2) (d9:∀C s H ex,PTs (zu X scope N C s H ex) Y ti2) (he:∀C s H ex,PE (zu X scope N C s H ex) as te)
  (ea:swapsWithSole [.Name nx px] (.ListComp as [⟨tg,O,ad,0⟩,⟨Z,B,Y,0⟩] scope pos) a5.line X.env=pure true)
  (hs:∀x,foldedSetIterable O X.env x=pure x:=by intro _;rfl) (eb:∀C s H ex x,foldedSetIterable B (zu X scope N C s H ex).env x=pure x:=by intro _ _ _ _ _;rfl)
  (ec:(assignEach [.Name nx px] X.env).map (·.2)=[assign (.Name nx px) X.env]:=by rfl):PS X (.Assign [.Name nx px] (.ListComp as [⟨tg,O,ad,0⟩,⟨Z,B,Y,0⟩] scope pos) a5) (zfp (zj9 wi g ti wi2 g2 ti2 te cix) (uT ix)):=by
 intro pins s σ H D I h0;have h:zj9 wi g ti wi2 g2 ti2 te cix σ H (fun x H1=>D.nx (σ.set ix (some x)) H1):=h0;rw[exec_Assign_arm];refine aa (bC ?_);rw[ea];refine aa (ac ?_);rw[if_pos rfl];refine aa ?_;rw[evalThenUse.eq_1];refine aa ?_;generalize hU:(fun v=>assignAll v ((assignEach [.Name nx px] X.env).map (·.2)))=U;refine bS (g:=⟨tg,O,ad,0⟩) (gs:=[⟨Z,B,Y,0⟩]) (use:=some U) rfl hs (xF (c.cells I.ok)) c.kind c.names ?_;refine (thn (hi pins s σ H _ I h) fun xv s1 h1=>thn h1 fun ga L h2=>?_);obtain⟨it,fp,tn,J,H2,e,I2,T,ca,f2,q2⟩:=h2;subst e;refine bj (c5 c.cell (by intro y hy;simp at hy) (fun h4 bb bd=>?_) c.kind);dsimp only at bb bd ⊢;have bx:=I2.hok.fresh (ag L.heap.objs.size);have I3:Inv X pins σ (upd H2 L.heap.objs.size (.lst [])) { L with heap:=L.heap.push { cls:=.type "list",dict:=none,data:=.seq ([]:List Value).toArray },toks:=L.toks }:=I2.lnew (t':=L.toks) .nil (by simp);obtain⟨W,⟨m0,w0⟩,cc⟩:=q2 L.heap.objs.size bx
 have b0:∀b∈fp,b<L.heap.objs.size:=fun b F=>by obtain⟨o,ho,_⟩:=T.obj _ _ ca b F;exact ay ho
 have f3:∀b∈fp,zbt X pins (upd H2 L.heap.objs.size (.lst [])) b:=fun b F=>⟨by rw[ze (aM (b0 b F))];exact (f2 b F).1,(f2 b F).2⟩
 have kp:∀b o,(L.heap.push { cls:=.type "list",dict:=none,data:=.seq ([]:List Value).toArray }).get? b=some o->h4.get? b=some o:=fun b o e=>
  bd.extBut b o (aM (ay e)) (af _ e)
 have cd:L.heap.objs.size<(L.heap.push { cls:=.type "list",dict:=none,data:=.seq ([]:List Value).toArray }).objs.size:=by rw[cI];exact ck _
 have I4:=zbG (tk:=L.toks+([]:List (Str×Value)).length) I3 c f3 (fun b F=>bJ (b0 b F) cd) bb kp;have ch:tn 0 h4:=T.keep _ _ _ ca fun b F o e=>kp b o (af _ e)
 generalize hX:zu X scope N (L.heap.push { cls:=.type "list",dict:=none,data:=.seq ([]:List Value).toArray }).objs.size
  { L with heap:=L.heap.push { cls:=.type "list",dict:=none,data:=.seq ([]:List Value).toArray },toks:=L.toks } (upd H2 L.heap.objs.size (.lst [])) fp=X' at I4
 have pX:X'.prog=X.prog:=by rw[<- hX];rfl
 have wX:X'.w=X.w:=by rw[<- hX];rfl
 have KX:X'.K=X.K:=by rw[<- hX];rfl
 have AX:X'.A=X.A:=by rw[<- hX];rfl
 have cX:X'.calm=true:=by rw[<- hX];exact hc
 have xX:X'.xe=fun _ _=>False:=by rw[<- hX];rfl
 have eX:X'.env=compEnvC scope (zaB X.env scope.names []) (L.heap.push { cls:=.type "list",dict:=none,data:=.seq ([]:List Value).toArray }).objs.size X.env:=by rw[<- hX];rfl
 have ed:PG X' tg g:=by rw[<- hX];exact hg _ _ _ _
 have eg:PTs X' ad ti:=by rw[<- hX];exact ht _ _ _ _
 have ej:PE X' as te:=by rw[<- hX];exact he _ _ _ _
 have cl:PI X' Z B wi2:=by rw[<- hX];exact d7 _ _ _ _
 have cn:PG X' Z g2:=by rw[<- hX];exact d8 _ _ _ _
 have co:PTs X' Y ti2:=by rw[<- hX];exact d9 _ _ _ _
 have cp:∀x,foldedSetIterable B X'.env x=pure x:=by rw[<- hX];exact eb _ _ _ _
 have f4:∀ {H':Hp},(∀b∈fp,H' b=none)->∀b∈fp,zbt X' [] H' b:=fun {H'} hn b F=>by
  refine⟨hn b F,?_,?_,.inl ?_,?_,?_⟩
  ·rw[eX];exact aM (bJ (b0 b F) cd)
  ·have e1:X'.fs=frs X.stack:=by rw[<- hX];rfl
   rw[e1];intro z;rcases aE.mp (I2.stkSub b z) with e | e
   ·exact (f2 b F).2.1 e
   ·exact (f2 b F).2.2.1 e
  ·rw[<- hX];exact F
  ·rw[eX];intro x a e;rcases yU (c.cells I.ok) e with z | z
   ·exact (f2 b F).2.2.2.2.1 x a z
   ·simp at z
  ·intro p hp;have e1:X'.pn++([]:List (Addr×Obj))=[]:=by rw[<- hX];rfl
   rw[e1] at hp;simp at hp
 have cs:∀s4:Shared,s4={ L with heap:=h4,toks:=L.toks+([]:List (Str×Value)).length }->
   codeAny (model X.prog X.w) X.A (.compLoop (.ListComp as [⟨tg,O,ad,0⟩,⟨Z,B,Y,0⟩] scope pos) 0 (.ref it) (.ref L.heap.objs.size) X'.env)
    (compPost (model X.prog X.w) X.A X.xe (some U) (fun _ s=>wpAny (model X.prog X.w) X.A (pure ()) (fun _ s=>wpAny (model X.prog X.w) X.A (pure Flow.next) (SP X pins D) X.xe s) X.xe s) (.ref L.heap.objs.size) (L.heap.push { cls:=.type "list",dict:=none,data:=.seq ([]:List Value).toArray }).objs.size) s4:=by
  rintro s4 rfl;refine za8 cp (fun n s'=>∃i q H',Inv X' [] q H' s'/\tn i s'.heap/\(∀b∈fp,H' b=none)/\W i n q H') ?_ m0 ⟨0,uR σ cix,_,I4,ch,fun b F=>(f3 b F).1,w0⟩;rintro n s5 ⟨i,a4,H5,I5,c0,c1,w5⟩;rcases cc i n a4 H5 w5 with ⟨stop,qn⟩ | ⟨go,Nx,hN,step⟩
  ·have:=T.done X' pX wX KX cX i [] s5 a4 H5 (fun _ _=>False) I5 (f4 c1) c0 stop;rw[AX] at this;refine thn this  ?_;rintro r s6 ⟨hr,I6⟩;subst hr;obtain⟨m6,c2,_⟩:=I6.loc
   have dd:H5 (L.heap.push { cls:=.type "list",dict:=none,data:=.seq ([]:List Value).toArray }).objs.size=none:=by have:=I6.free;rw[eX] at this;exact this
   rw[eX] at c2;have I6':=I6;rw[<- hX] at I6';have IX:=zah I3 f3 I6' ⟨rfl,fun _ _=>rfl⟩;have fC:=I3.fpOk (ag _) dd
   have ek:U (.ref L.heap.objs.size)=assignAll (.ref L.heap.objs.size) [assign (.Name nx px) X.env]:=by rw[<- hU,<- ec]
   show wpAny _ _ (U (.ref L.heap.objs.size)) _ _ s6;rw[ek];refine eY (x:=nx) (pos:=px) ?_;refine zcK IX d5 d6 (Or.inl b4) (v:=.ref L.heap.objs.size) rfl (fun s7 I7 ⟨a7,em,ep⟩=>?_) (.inr b4)
   have eq:(L.heap.push { cls:=.type "list",dict:=none,data:=.seq ([]:List Value).toArray }).objs.size≠a7:=by
    intro z;rcases ep with e | e
    ·exact fC.2.1 (z.trans e)
    ·exact fC.2.2.2.2.1 nx a7 e z.symm
   obtain⟨oC,er,ev,ew,rC⟩:=c2;refine⟨m6,⟨oC,er,ev,(em.2 _ eq).trans ew,rC⟩,fun h8 ey=>?_⟩;refine ac (ac ?_);exact⟨_,H5,I7.turned (t':=s7.toks) (fun b o F e=>(ey.2 b F).trans e) dd fC.2.1 fC.2.2.2.1 fC.2.2.2.2.1 fC.2.2.2.2.2,qn⟩
  ·have:=T.item X' pX wX KX cX i [] s5 a4 H5 (fun _ _=>False) I5 (f4 c1) c0 go;rw[AX] at this;refine thn this  ?_;rintro r s6 ⟨u,hr,h6⟩;subst hr;refine thn h6  ?_;rintro _ s7 ⟨x,H7,I7,r7,y7,b1,ez⟩;have I7':=I7.pinned (f4 ez) (T.obj _ _ b1);have a7:=ed _ s7 a4 H7 x u _ I7' r7 (step x H7 y7);rw[pX,wX,AX,xX] at a7;refine thn a7  ?_;rintro _ s8 ⟨b2,H8,I8,q8⟩;have t8:=eg _ s8 b2 H8 _ I8 q8;rw[pX,wX,AX,xX] at t8;refine thn t8  ?_;rintro ok s9 ⟨H9,I9,q9⟩
   have av:∀ {s':Shared} {q:St} {H':Hp},Inv X' ([]++xP fp s7.heap) q H' s'->Nx q H'->∃m,m<n/\∃i q H',Inv X' [] q H' s'/\tn i s'.heap/\(∀b∈fp,H' b=none)/\W i m q H':=fun {s' q H'} J' n'=>by obtain⟨m',hm,w'⟩:=hN q H' n';refine⟨m',hm,i+1,q,H',J'.unpinned,T.keep _ _ _ b1 fun b F o e=>(J'.pin (b,o) (ak _ (ak _ (zG F e)))).1,fun b F=>?_,w'⟩;obtain⟨o,e,d⟩:=T.obj _ _ b1 b F;exact (J'.pin (b,o) (ak _ (ak _ (zG F e)))).2.1
   cases ok with
   | false=>exact av I9 q9
   | true=>
    have e9:=cl _ s9 b2 H9 _ I9 q9;rw[pX,wX,AX,xX] at e9;refine thn e9 fun gb gc e0=>thn e0 fun f9 e3 e4=>?_;obtain⟨e5,a0,df,J2,H11,e2,I11,T2,bk,dk,W2,⟨e6,fe⟩,b3⟩:=e4;subst e2;rw[pX,wX,KX] at T2;have a1:∀ {H':Hp},(∀b∈a0,H' b=none)->∀b∈a0,zbt X' ([]++xP fp s7.heap) H' b:=fun hn b F=>⟨hn b F,(dk b F).2⟩
    have a2:codeAny (model X.prog X.w) X.A (.compLoop (.ListComp as [⟨tg,O,ad,0⟩,⟨Z,B,Y,0⟩] scope pos) 1 (.ref e5) (.ref L.heap.objs.size) X'.env) (fun r bl=>match r with
      | .ok _=>∃m,m<n/\∃i q H',Inv X' [] q H' bl/\tn i bl.heap/\(∀b∈fp,H' b=none)/\W i m q H'
      | .error _=>False) e3:=by
     refine zbw (fun n2 s'=>∃i q H',Inv X' ([]++xP fp s7.heap) q H' s'/\df i s'.heap/\(∀b∈a0,H' b=none)/\W2 i n2 q H') ?_ e6 ⟨0,b2,H11,I11,bk,fun b F=>(dk b F).1,fe⟩;rintro n2 dm ⟨i2,al,H12,I12,bo,bs,fh⟩;rcases b3 i2 n2 al H12 fh with ⟨stop2,qn2⟩ | ⟨go2,Nx2,hN2,step2⟩
     ·have:=T2.done X' pX wX KX cX i2 _ dm al H12 (fun _ _=>False) I12 (a1 bs) bo stop2;rw[AX] at this;refine thn this  ?_;rintro r fi ⟨hr,I13⟩;subst hr;exact av I13 qn2
     ·have:=T2.item X' pX wX KX cX i2 _ dm al H12 (fun _ _=>False) I12 (a1 bs) bo go2;rw[AX] at this;refine thn this  ?_;rintro r fi ⟨u,hr,fn⟩;subst hr;refine thn fn  ?_;rintro _ dp ⟨x,H14,I14,ft,fu,a3,dt⟩;have I14':=I14.pinned (a1 dt) (T2.obj _ _ a3);have d0:=cn _ dp al H14 x u _ I14' ft (step2 x H14 fu);rw[pX,wX,AX,xX] at d0;refine thn d0  ?_;rintro _ fx ⟨an,H15,I15,fy⟩;have d1:=co _ fx an H15 _ I15 fy;rw[pX,wX,AX,xX] at d1;refine thn d1  ?_;rintro ok fz ⟨H16,I16,d2⟩
      have ap:∀ {s':Shared} {q:St} {H':Hp},Inv X' (([]++xP fp s7.heap)++xP a0 dp.heap) q H' s'->Nx2 q H'->∃m,m<n2/\∃i q H',Inv X' ([]++xP fp s7.heap) q H' s'/\df i s'.heap/\(∀b∈a0,H' b=none)/\W2 i m q H':=fun {s' q H'} J' n'=>by obtain⟨m',hm,w'⟩:=hN2 q H' n';refine⟨m',hm,i2+1,q,H',J'.unpinned,T2.keep _ _ _ a3 fun b F o e=>(J'.pin (b,o) (ak _ (ak _ (zG F e)))).1,fun b F=>?_,w'⟩;obtain⟨o,e,d⟩:=T2.obj _ _ a3 b F;exact (J'.pin (b,o) (ak _ (ak _ (zG F e)))).2.1
      cases ok with
      | false=>exact ap I16 d2
      | true=>
       have d3:=ej _ fz an H16 _ I16 d2;rw[pX,wX,AX,xX] at d3;refine thn d3  ?_;rintro u2 f0 ⟨v,H17,I17,f1,f5⟩;obtain⟨xs,f6,f7,nx⟩:=f5;have d4:=uZ (X:=X') _ f0 an H17 (.ref L.heap.objs.size) [v] (.ref L.heap.objs.size) [u2] (fun _ H'=>Nx2 an H') I17 rfl (.cons f1 .nil) ⟨_,xs,v,rfl,rfl,f6,f7,nx⟩;rw[pX,wX,AX,xX] at d4;refine thn d4 <| by rintro _ gd ⟨_,H18,I18,_,f8⟩;exact ap I18 f8
    exact zau a2 (T2.self X.A 0 _ _ _ bk a2)
 have l0:=cs _ rfl;rw[eX] at l0;exact cT l0 (T.self X.A 0 _ _ _ ch l0)
theorem zlF {X:Cx}{J tg B F q:Expr}{L D:List Expr}{scope:Scope}{pos I:Pos}{wi wi2:TI}{g g2:TG}{ti ti2:TT}{te:TE}{N:List Str}{cix:List (Option Nat)}{ix:Nat}{nx:Str}{O:Pos}(U:X.N.Nodup)(Y:X.N[ix]?=some nx)(Z:X.env.scope.names.lookup nx=some .local)(hc:X.calm=true)(c:CompOk X scope N cix)
  (hi:QI X tg B wi) (hg:∀C s H ex,QG (zu X scope N C s H ex) tg g) (ht:∀C s H ex,QTs (zu X scope N C s H ex) L ti)
  (ad:∀C s H ex,QI (zu X scope N C s H ex) F q wi2) (al:∀C s H ex,QG (zu X scope N C s H ex) F g2) (an:∀C s H ex,QTs (zu X scope N C s H ex) D ti2) (he:∀C s H ex,QE (zu X scope N C s H ex) J te)
  (ap:swapsWithSole [.Name nx O] (.ListComp J [⟨tg,B,L,0⟩,⟨F,q,D,0⟩] scope pos) I.line X.env=pure true:=by rfl)
  (hs:∀x,foldedSetIterable B X.env x=pure x:=by intro _;rfl) (as:∀C s H ex x,foldedSetIterable q (zu X scope N C s H ex).env x=pure x:=by intro _ _ _ _ _;rfl)
  (av:(assignEach [.Name nx O] X.env).map (·.2)=[assign (.Name nx O) X.env]:=by rfl):QS X (.Assign [.Name nx O] (.ListComp J [⟨tg,B,L,0⟩,⟨F,q,D,0⟩] scope pos) I) (zfp (zj9 wi g ti wi2 g2 ti2 te cix) (uT ix)):=
 ⟨zly U Y Z hc c hi.run (fun C s H ex=>(hg C s H ex).run) (fun C s H ex=>(ht C s H ex).run) (fun C s H ex=>(ad C s H ex).run) (fun C s H ex=>(al C s H ex).run) (fun C s H ex=>(an C s H ex).run) (fun C s H ex=>(he C s H ex).run) ap hs as av⟩
section
variable {K:PySem.W.Frag}{a acc:Addr}{xs:List V}{g:TG}{ti:TT}{wi2:TI}{g2:TG}{ti2:TT}{te:TE}{σ:St}{H:Hp}{Q:VK}{N:St->Hp->Prop}
theorem zhc (B:H acc=none)(Pv:Nat->St->Hp->Prop)(F:∀H',H' acc=some (.lst [])->y4 H H'->Pv 0 σ H')(I:∀i σ H,i<=xs.length->Pv i σ H->SqL K H a xs)
  (J:∀i x σ H,xs[i]?=some x->Pv i σ H->zhS g ti wi2 g2 ti2 te acc (Pv (i+1)) x σ H) (L:∀ σ H,Pv xs.length σ H->Q (.ref acc) H):zl3 (Itl K a) g ti wi2 g2 ti2 te acc Q σ (upd H acc (.lst [])):=by
 refine⟨fun i m σ H=>m=xs.length - i/\i<=xs.length/\Pv i σ H,⟨xs.length,by simp,aT _,F _ zj (y4.upd B)⟩,?_⟩;rintro i m σ H ⟨rfl,hi,p⟩;have q:=I i σ H hi p;by_cases D:i<xs.length
 ·refine .inr ⟨⟨xs,xs[i],q,by simp[D]⟩,Pv (i+1),fun O H' U=>⟨xs.length - (i+1),by lia,rfl,D,U⟩,fun x H' y=>?_⟩;obtain⟨e,y⟩:=y;subst e;exact J i x σ _ (y xs q) p
 ·have e:i=xs.length:=by lia
  subst e;exact .inl ⟨⟨xs,q,ag _⟩,L σ H p⟩
theorem zhj (Pv:Nat->St->Hp->Prop)(D:Pv 0 σ H)(F:∀i σ H,i<=xs.length->Pv i σ H->SqL K H a xs)
  (I:∀i x σ H,xs[i]?=some x->Pv i σ H->zhT g ti te acc (Pv (i+1)) x σ H) (J:∀ σ H,Pv xs.length σ H->N σ H):zmg (Itl K a) g ti te acc N σ H:=by
 refine⟨fun i m σ H=>m=xs.length - i/\i<=xs.length/\Pv i σ H,⟨xs.length,by simp,aT _,D⟩,?_⟩;rintro i m σ H ⟨rfl,hi,p⟩;have q:=F i σ H hi p;by_cases B:i<xs.length
 ·refine .inr ⟨⟨xs,xs[i],q,by simp[B]⟩,Pv (i+1),fun L H' O=>⟨xs.length - (i+1),by lia,rfl,B,O⟩,fun x H' y=>?_⟩;obtain⟨e,y⟩:=y;subst e;exact I i x σ _ (y xs q) p
 ·have e:i=xs.length:=by lia
  subst e;exact .inl ⟨⟨xs,q,ag _⟩,J σ H p⟩
end
section
variable {X:Cx}
theorem zkE:CallQ X (.type "range") (fun xs H Q=>∃n,xs=[.int n]/\New H (.rng 0 n) Q):=⟨by
 intro pins s σ H xs D Q I r h;obtain⟨n,rfl,q⟩:=h;obtain⟨u,rfl,B⟩:=za0 r;obtain⟨t,rfl⟩:=B;refine call_range_1 ?_;refine⟨.ref s.heap.objs.size,_,I.laid (t':=s.toks+1+1) (o:=.rng 0 n) (fun b F q=>af _ q) (ag _) ?_,rfl,q.at (I.hok.fresh (ag _))⟩;exact⟨_,_,_,aK _ rfl⟩⟩
theorem zg1 (n:Nat):Builtin.Range.rangeSize 0 (n:Int) 1=n:=by
 unfold Builtin.Range.rangeSize;rw[if_pos (by decide)];split
 ·rw[Int.ediv_one];lia
 ·lia
theorem zkj:∀ {xs:List V} {q:List Value},xs.length=q.length->(∀ (i:Nat) x u,xs[i]?=some x->q[i]?=some u->yF x u)->ya xs q
 | [],[],_,_=>.nil
 | [],_::_,h,_=>by simp at h
 | _::_,[],h,_=>by simp at h
 | x::xs,u::q,h,k=>.cons (k 0 x u rfl rfl) (zkj (by simpa using h) fun i y v B D=>k (i+1) y v B D)
theorem zfy (O:X.calm=true):CallQ X (.type "list") (fun xs H Q=>∃ (p:Addr) (n:Nat),xs=[.ref p]/\H p=some (.rng 0 n)/\n<=1000/\New H (.lst ((List.range n).map fun i:Nat=>V.int i)) Q):=⟨by
 intro pins s σ H xs us Q I r h;obtain⟨p,n,rfl,U,J,q⟩:=h;obtain⟨u,rfl,Y⟩:=za0 r;cases Y;obtain⟨t,u,v,Z⟩:=I.hok p _ U;have F:n<sizeLine:=zaW J;refine call_list_range (a:=0) (b:=n) (c:=1) (n:=n) (I.ok.hd O) Z ?_ ?_ (aB J (by decide)) fun h' tk B c' kp hg D=>?_
 ·have e:=zg1 n;unfold Builtin.Range.small;rw[e];simp[Builtin.Range.rangeFitsLong];lia
 ·exact zg1 n
 ·have hv:ya ((List.range n).map fun i:Nat=>V.int i) B.toList:=by
   refine zkj (by rw[ab,aj,aJ,D.1]) fun j x u L hu=>?_;rw[au] at L;obtain⟨k,hk,rfl⟩:=aI.mp L;obtain⟨ad,e⟩:=ae.mp hk;have:k=j:=by simpa using e.symm
   subst this;obtain⟨t',rfl⟩:=D.2 k u (by simpa using hu);exact⟨t',by rw[show (0:Int)+(k:Int) * 1=k by lia]⟩
  refine⟨.ref s.heap.objs.size,_,I.laid (t':=tk) (o:=.lst ((List.range n).map fun i:Nat=>V.int i)) kp (ag _) ?_,rfl,q.at (I.hok.fresh (ag _))⟩;exact⟨by rw[ab,aj];exact cv F,B.toList,c',hv,by simpa using hg⟩⟩
end
def zp (m:Int):List Int:=(List.range m.toNat).map fun i:Nat=>(i:Int)
def xH (q:List (List Int))(B:List Int):List (List Int):=q.flatMap fun r=>B.map fun w=>r++[w]
def y3 (cs:List (List Int)):List (List Int):=cs.foldl xH [[]]
theorem yT (cs:List (List Int))(c:List Int):y3 (cs++[c])=xH (y3 cs) c:=by unfold y3;rw[List.foldl_append];rfl
@[reducible] def stD (st:List Int):Dt:=.tup (st.map .int)
theorem xW:∀sts:List (List Int),Dt.noLs (sts.map stD)=true
 | []=>rfl
 | st::sts=>by show ((stD st).noL&&Dt.noLs (sts.map stD))=true;rw[xW sts,show (stD st).noL=true from zeX st];rfl
theorem uW (sts:List (List Int)):(Dt.lst (sts.map stD)).eqOk:=by
 have e:∀sts:List (List Int),(Dt.toWs (sts.map stD)).all (PySem.W.kqdOk 7)=true:=by
  intro sts
  induction sts with
  | nil=>rfl
  | cons m B q=>simp only[aq,Dt.toWs,cQ,q,show PySem.W.kqdOk 7 (stD m).toW=true from zk7 m,dr]
 exact e sts
def zpm (H:Hp)(xs:List V)(cs:List (List Int)):Prop:=xs.length=cs.length/\∀ (i:Nat) c,cs[i]?=some c->∃a,xs[i]?=some (.ref a)/\H a=some (.lst (c.map V.int))
def zdp (K:PySem.W.Frag):Sp:=fun vs H Q _=>∃ (q:Addr) (xs:List V) (cs:List (List Int)),vs=[.ref q]/\H q=some (.lst xs)/\zpm H xs cs/\cs.length<=8/\(∀c∈cs,c.length<=4)/\
 ∀ (a:Addr) (ys:List V) (H':Hp),H a=none->H' a=some (.lst ys)->IsL H' ((y3 cs).map stD) ys->y4 H H'->Q (.ref a) H'
theorem zbW (q:List (List Int))(r B:List Int):xH (q++[r]) B=xH q B++B.map fun w=>r++[w]:=by unfold xH;rw[List.flatMap_append];simp
theorem ue (q:List (List Int))(B:List Int):(xH q B).length=q.length * B.length:=by
 unfold xH;rw[List.length_flatMap]
 induction q with
 | nil=>simp
 | cons r q D=>rw[aq,List.sum_cons,D,ab,aS,dP,fL]
theorem zdu:∀ (cs:List (List Int)) (q:List Int),q∈y3 cs->q.length=cs.length:=by
 intro cs
 have:∀ (n:Nat) (cs:List (List Int)),cs.length=n->∀q,q∈y3 cs->q.length=cs.length:=by
  intro n
  induction n with
  | zero=>
   intro cs h q B;have:cs=[]:=bp h;subst this;have:q=[]:=by simpa [y3] using B
   subst this;rfl
  | succ n J=>
   intro cs h q B;have D:cs≠[]:=by intro z;rw[z] at h;simp at h
   rw[<- bt D,yT] at B;unfold xH at B;obtain⟨r,F,I⟩:=fJ.mp B;obtain⟨w,_,rfl⟩:=aH.mp I;have:=J cs.dropLast (by rw[eh];lia) r F;rw[ai,this,eh];show cs.length - 1+1=cs.length;lia
 exact this cs.length cs rfl
theorem zmL:∀ (n:Nat) (cs:List (List Int)),cs.length=n->(∀c∈cs,c.length<=4)->(y3 cs).length<=4 ^ n:=by
 intro n
 induction n with
 | zero=>
  intro cs h _;have:cs=[]:=bp h;subst this;exact ag _
 | succ n D=>
  intro cs h B;have q:cs≠[]:=by intro z;rw[z] at h;simp at h
  rw[<- bt q,yT,ue,Nat.pow_succ];exact dG (D cs.dropLast (by rw[eh];lia) fun c F=>B c ((List.dropLast_sublist cs).subset F)) (B _ (List.getLast_mem q))
theorem zgo {cs:List (List Int)}(D:cs.length<=8)(q:∀c∈cs,c.length<=4)(k:Nat):(y3 (cs.take k)).length<=65536:=by
 refine aB (zmL _ (cs.take k) rfl fun c B=>q c (bM B)) ?_;have:(cs.take k).length<=8:=by rw[aN];lia
 exact aB (cJ (by decide) this) (by decide)
theorem yG (m:Int):(zp m).length=m.toNat:=by unfold zp;rw[ab,aj]
section
variable {X:Cx}{o:Expr}{to:TE}{apos cpos:Pos}
end
open PySem PySem.Spec PyProof.Rows PySem.W
inductive Run (ans:Nat->Nat->Bool) (n:Nat):{α:Type}->KasT α->α->Prop
 | ret {α:Type} (a:α):Run ans n (.ret a) a
 | ask {α:Type} {i j:Nat} {k:Bool->KasT α} {a:α} (hi:i<n) (hj:j<n) (h:Run ans n (k (ans i j)) a):Run ans n (.ask i j k) a
theorem Run.bind {q:Nat->Nat->Bool}{n:Nat}{α B:Type}{t:KasT α}{f:α->KasT B}{a:α}{b:B}(h:Run q n t a)(k:Run q n (f a) b):Run q n (t.bind f) b:=by
 induction h with
 | ret a=>exact k
 | ask hi D _ F=>exact .ask hi D (F k)
theorem Run.wp {q:Nat->Nat->Bool}{n:Nat}{α:Type}{t:KasT α}{a:α}(h:Run q n t a){B:Nat->Nat->(Bool->Shared->Prop)->Shared->Prop}{S:Shared->Prop}{Q:α->Shared->Prop}
  (J:∀i j C s,i<n->j<n->S s->(∀s',S s'->C (q i j) s')->B i j C s) (I:∀s,S s->Q a s):∀s,S s->KasT.kasWp B t Q s:=by
 induction h with
 | ret a=>intro s D;rw[KasT.kasWp.eq_1];exact I s D
 | ask hi L _ O=>
  intro s D;rw[KasT.kasWp.eq_2];exact J _ _ _ s hi L D fun s' F=>O I s' F
section
variable {n:Nat}{f:Nat->Int}
def zfm (f:Nat->Int)(i j:Nat):Bool:=decide (f i<f j)
def key (f:Nat->Int)(p:Array Nat)(k:Nat):Int:=f (p.getD k 0)
structure Up (n:Nat)(f:Nat->Int)(p:Array Nat)(m:Nat):Prop where
 perm:p.Perm (List.range n).toArray
 le:m<=n
 up:∀k,k+1<m->key f p k<key f p (k+1)
theorem uj {p:Array Nat}(h:p.Perm (List.range n).toArray):p.size=n:=by have:=h.size_eq;simpa using this
theorem yw {p:Array Nat}(h:p.Perm (List.range n).toArray){k:Nat}(B:k<n):p.getD k 0<n:=by
 have D:=uj h
 have q:p.getD k 0∈p:=by rw[bv,bh (by lia)];exact Array.getElem_mem _
 have:=(h.mem_iff).mp q;simpa using this
theorem Up.lt_of {p:Array Nat}{m:Nat}(h:Up n f p m):∀ {i j:Nat},i<j->j<m->key f p i<key f p j:=by
 intro i j
 induction j with
 | zero=>intro F;lia
 | succ j q=>
  intro B D;have h1:=h.up j D;by_cases e:i=j
  ·subst e;exact h1
  ·have:=q (by lia) (by lia);lia
theorem zfu (p:Array Nat)(q:p.Perm (List.range n).toArray):∀ (g x:Nat),1<=x->x+g<=n->∃m,Run (zfm f) n (kas_asc p g x) m/\x<=m/\m<=x+g/\(∀k,x<=k->k<m->¬ key f p k<key f p (k - 1))/\(m<x+g->key f p m<key f p (m - 1))
 | 0,x,_,_=>⟨x,by rw[kas_asc.eq_1];exact .ret _,ag _,ag _,fun k h1 h2=>by lia,fun h=>by lia⟩
 | g+1,x,J,L=>by
  rw[kas_asc.eq_2];by_cases B:key f p x<key f p (x - 1)
  ·refine⟨x,.ask (yw q (by lia)) (yw q (by lia)) ?_,ag _,by lia,fun k h1 h2=>by lia,fun _=>B⟩;rw[show zfm f (p.getD x 0) (p.getD (x - 1) 0)=true from aL B,if_pos rfl];exact .ret _
  ·obtain⟨m,h1,h2,O,D,F⟩:=zfu p q g (x+1) (by lia) (by lia);refine⟨m,.ask (yw q (by lia)) (yw q (by lia)) ?_,by lia,by lia,fun k U I=>?_,fun h=>F (by lia)⟩
   ·rw[show zfm f (p.getD x 0) (p.getD (x - 1) 0)=false from aO B,if_neg aD];exact h1
   ·by_cases e:k=x
    ·subst e;exact B
    ·exact D k (by lia) I
def zbR (n:Nat)(f:Nat->Int):Prop:=∀i j,i<n->j<n->f i=f j->i=j
theorem zgI (I:zbR n f){p:Array Nat}(q:p.Perm (List.range n).toArray){i j:Nat}(hi:i<n)(J:j<n)(B:i≠j):key f p i≠key f p j:=by
 intro e;have F:=I _ _ (yw q hi) (yw q J) e;have O:=uj q
 have D:p.toList.Nodup:=by
  have:p.toList.Perm (List.range n):=by have:=q.toList;simpa using this
  exact this.nodup_iff.mpr dX
 rw[bv,bv,bh (by lia),bh (by lia)] at F;have L:p.toList[i]'(by rw[aJ];lia)=p.toList[j]'(by rw[aJ];lia):=by simpa using F
 exact B ((cj D).mp L)
theorem zgw (F:zbR n f)(p:Array Nat)(q:p.Perm (List.range n).toArray):∀ (g x:Nat),1<=x->x+g<=n->∃m,Run (zfm f) n (kas_desc g p x 0) (p,m,0)/\x<=m/\m<=x+g/\(∀k,x<=k->k<m->key f p k<key f p (k - 1))
 | 0,x,_,_=>⟨x,by rw[kas_desc.eq_1];exact .ret _,ag _,ag _,fun k h1 h2=>by lia⟩
 | g+1,x,U,Y=>by
  rw[kas_desc.eq_2];by_cases B:key f p x<key f p (x - 1)
  ·obtain⟨m,h1,h2,Z,J⟩:=zgw F p q g (x+1) (by lia) (by lia);refine⟨m,.ask (yw q (by lia)) (yw q (by lia)) ?_,by lia,by lia,fun k L I=>?_⟩
   ·rw[show zfm f (p.getD x 0) (p.getD (x - 1) 0)=true from aL B,if_pos rfl,if_neg (by lia)];exact h1
   ·by_cases e:k=x
    ·subst e;exact B
    ·exact J k (by lia) I
  ·have O:=zgI F q (i:=x) (j:=x - 1) (by lia) (by lia) (by lia);have D:key f p (x - 1)<key f p x:=by lia
   refine⟨x,.ask (yw q (by lia)) (yw q (by lia)) ?_,ag _,by lia,fun k L I=>by lia⟩;rw[show zfm f (p.getD x 0) (p.getD (x - 1) 0)=false from aO B,if_neg aD];refine .ask (yw q (by lia)) (yw q (by lia)) ?_;rw[show zfm f (p.getD (x - 1) 0) (p.getD x 0)=true from aL D,if_pos rfl];exact .ret _
theorem ziV {p:Array Nat}{j:Nat}(q:j<=p.size)(k:Nat):key f (kas_rev p 0 j) k=if k<j then key f p (j - 1 - k) else key f p k:=by
 unfold key kas_rev;rw[bv,getElem?_mirror_all q];by_cases h:k<j
 ·rw[if_pos ⟨aT _,h⟩,if_pos h,bv,Nat.zero_add]
 ·rw[if_neg (fun z=>h z.2),if_neg h,bv]
theorem zlK {p:Array Nat}(q:p.Perm (List.range n).toArray)(j:Nat):(kas_rev p 0 j).Perm (List.range n).toArray:=(mirror_perm p 0 j _).trans q
theorem zhW (L:zbR n f)(hn:2<=n)(p:Array Nat)(B:p.Perm (List.range n).toArray):∃ (m:Nat) (q:Array Nat),Run (zfm f) n (kas_count n p) (m,q)/\1<=m/\Up n f q m:=by
 have hs:=uj B;obtain⟨m,h1,h2,h3,h4,h5⟩:=zfu (f:=f) p B (n - 1) 1 (ag _) (by lia)
 have D:Up n f p m:=⟨B,by lia,fun k O=>by have U:=h4 (k+1) (by lia) O;rw[cW] at U;have:=zgI L B (i:=k) (j:=k+1) (by lia) (by lia) (by lia);lia⟩
 unfold kas_count;by_cases F:m=n
 ·refine⟨m,p,h1.bind ?_,h2,D⟩;rw[if_pos (by rw[F];exact beq_self_eq_true n)];exact .ret _
 ·by_cases J:m > 1
  ·refine⟨m,p,h1.bind ?_,h2,D⟩;rw[if_neg (by intro z;exact F (bn z)),if_pos J];refine .ask (yw B (by lia)) (yw B (by lia)) ?_;have Y:key f p 0<key f p (m - 1):=D.lt_of (by lia) (by lia);rw[show zfm f (p.getD 0 0) (p.getD (m - 1) 0)=true from aL Y,if_pos rfl];exact .ret _
  ·have em:m=1:=by lia
   subst em;have Z:=h5 (by lia);obtain⟨d,g1,g2,g3,g4⟩:=zgw L p B (n - 2) 2 (by lia) (by lia);have I:=zlK B d;obtain⟨m2,a1,a2,a3,a4,_⟩:=zfu (f:=f) (kas_rev p 0 d) I (n - d) d (by lia) (by lia);refine⟨m2,kas_rev p 0 d,h1.bind ?_,by lia,⟨I,by lia,fun k O=>?_⟩⟩
   ·rw[if_neg (by intro z;exact F (bn z)),if_neg J];unfold kas_descPart;refine Run.bind (a:=(p,d,0)) g1 ?_;rw[if_neg (by show ¬ (0 > 0);lia)];unfold kas_tail3;exact Run.bind a1 (.ret _)
   ·by_cases ad:k+1<d
    ·rw[ziV (by lia),ziV (by lia),if_pos (by lia),if_pos ad];have e:d - 1 - k=(d - 1 - (k+1))+1:=by lia
     rw[e];by_cases e0:d - 1 - (k+1)=0
     ·rw[e0];exact Z
     ·have:=g4 (d - 1 - (k+1)+1) (by lia) (by lia);rw[cW] at this;exact this
    ·have U:=a4 (k+1) (by lia) O;rw[cW] at U;have:=zgI L I (i:=k) (j:=k+1) (by lia) (by lia) (by lia);lia
theorem zcu (p:Array Nat)(B:p.Perm (List.range n).toArray)(k:Nat)(F:k<n):∀ (g l r:Nat),r<=k->l<=r->r - l<=g->(∀i,i<l->¬ key f p k<key f p i)->(∀i,r<=i->i<k->key f p k<key f p i)->
  (∀i j,i<j->j<k->key f p i<key f p j)->
  ∃m,Run (zfm f) n (kas_place p k g l r) m/\m<=k/\(∀i,i<m->¬ key f p k<key f p i)/\(∀i,m<=i->i<k->key f p k<key f p i)
 | 0,l,r,h1,h2,h3,I,J,_=>⟨l,by rw[kas_place.eq_1];exact .ret _,by lia,I,fun i hi=>J i (by lia)⟩
 | g+1,l,r,h1,h2,h3,I,J,q=>by
  rw[kas_place.eq_2];by_cases D:l ≥ r
  ·refine⟨l,?_,by lia,I,fun i hi=>J i (by lia)⟩;rw[if_pos D];exact .ret _
  ·rw[if_neg D];by_cases L:key f p k<key f p ((l+r) / 2)
   ·obtain⟨m,O,g2,U,Y⟩:=zcu p B k F g l ((l+r) / 2) (by lia) (by lia) (by lia) I (fun i hi Z=>by
     by_cases e:i=(l+r) / 2
     ·rw[e];exact L
     ·have:=q ((l+r) / 2) i (by lia) Z;lia) q
    refine⟨m,.ask (yw B F) (yw B (by lia)) ?_,g2,U,Y⟩;rw[show zfm f (p.getD k 0) (p.getD ((l+r) / 2) 0)=true from aL L,if_pos rfl];exact O
   ·obtain⟨m,O,g2,U,Y⟩:=zcu p B k F g ((l+r) / 2+1) r h1 (by lia) (by lia) (fun i hi=>by
     by_cases e:i=(l+r) / 2
     ·rw[e];exact L
     ·have:=q i ((l+r) / 2) (by lia) (by lia);lia) J q
    refine⟨m,.ask (yw B F) (yw B (by lia)) ?_,g2,U,Y⟩;rw[show zfm f (p.getD k 0) (p.getD ((l+r) / 2) 0)=false from aO L,if_neg aD];exact O
theorem zda {p:Array Nat}{q d:Nat}(h1:q<p.size)(h2:d<=q)(k:Nat):key f (bubble p q d) k=if k=q - d then key f p q else if q - d<k/\k<=q then key f p (k - 1) else key f p k:=by
 unfold key;simp only[bv];rw[getElem?_bubble h1 d h2];by_cases a:k=q - d
 ·rw[if_pos a,if_pos a]
 ·rw[if_neg a,if_neg a];by_cases b:q - d<k/\k<=q
  ·rw[if_pos b,if_pos b]
  ·rw[if_neg b,if_neg b]
theorem zhM (I:zbR n f):∀ (g k:Nat) (p:Array Nat),k+g=n->Up n f p k->∃q,Run (zfm f) n (kas_bin g p k) q/\Up n f q n
 | 0,k,p,O,h=>by
  have e:k=n:=by lia
  rw[e] at h;exact⟨p,by rw[kas_bin.eq_1];exact .ret _,h⟩
 | g+1,k,p,O,h=>by
  have hs:=uj h.perm;obtain⟨l,U,r2,Y,Z⟩:=zcu (f:=f) p h.perm k (by lia) k 0 k (ag _) (aT _) (by lia) (fun i hi=>by lia) (fun i h1 h2=>by lia) (fun i j B hj=>h.lt_of B hj)
  have D:Up n f (bubble p k (k - l)) (k+1):=by
   refine⟨(bubble_perm p k (k - l)).trans h.perm,by lia,fun i hi=>?_⟩;rw[zda (by lia) (by lia),zda (by lia) (by lia)];have F:k - (k - l)=l:=by lia
   rw[F];by_cases J:i=l
   ·rw[if_pos J,if_neg (by lia),if_pos (by lia),cW];exact Z i (by lia) (by lia)
   ·rw[if_neg J];by_cases e2:l<i
    ·rw[if_pos (by lia),if_neg (by lia),if_pos (by lia),cW];exact h.lt_of (by lia) (by lia)
    ·rw[if_neg (by lia)];by_cases L:i+1=l
     ·rw[if_pos L];have h1:=Y i (by lia);have h2:=zgI I h.perm (i:=i) (j:=k) (by lia) (by lia) (by lia);lia
     ·rw[if_neg L,if_neg (by lia)];exact h.lt_of (by lia) (by lia)
  obtain⟨q,q1,q2⟩:=zhM I g (k+1) (bubble p k (k - l)) (by lia) D;refine⟨q,?_,q2⟩;rw[kas_bin.eq_2];exact Run.bind U q1
theorem zg3 (D:zbR n f)(I:2<=n):∃q,Run (zfm f) n (kas_sort n) q/\Up n f q n:=by
 obtain⟨m,p,h1,h2,B⟩:=zhW D I (List.range n).toArray (Array.Perm.refl _);unfold kas_sort;by_cases F:m<n
 ·obtain⟨q,J,L⟩:=zhM D (n - m) m p (by lia) B;refine⟨q,Run.bind h1 ?_,L⟩;rw[if_pos F];show Run _ _ (kas_bin (n - max m 1) p (max m 1)) q;rw[show max m 1=m by lia];exact J
 ·have e:m=n:=by have:=B.le;lia
  refine⟨p,Run.bind h1 ?_,by rw[<- e] at B ⊢;exact B⟩;rw[if_neg F];exact .ret _
end
open PySem PySem.Spec PyProof.Rows
theorem zdL {prog:Program}{w:World}{A:Around}{s:Shared}{b:Bool}{Q:Bool->Shared->Prop}:∀ {ns B:List Int} {xs ys:List Value} (i:Nat),ya (ns.map V.int) xs->ya (B.map V.int) ys->ns.length=B.length->Q (HT.lexLt ns B) s->W.KatLex prog w A b false Q (xs.zip ys) i s
 | [],[],_,_,i,F,I,_,q=>by cases F;cases I;exact W.kat_nil q
 | [],_::_,_,_,_,_,_,h,_=>by simp at h
 | _::_,[],_,_,_,_,_,h,_=>by simp at h
 | a::ns,c::B,_,_,i,F,I,O,q=>by
  cases F with
  | cons U J=>
   cases I with
   | cons Y L=>
    obtain⟨t,rfl⟩:=U;obtain⟨u,rfl⟩:=Y;rw[List.zip_cons_cons];have D:Q (if a=c then HT.lexLt ns B else decide (a<c)) s:=q;refine W.kat_cons (wpAny_eqBool_int ?_);by_cases e:a=c
    ·rw[show (a==c)=true from by rw[e];exact beq_self_eq_true c];rw[if_pos e] at D;exact W.kat_yes (zdL (i+1) J L (by simpa using O) D)
    ·rw[show (a==c)=false from beq_false_of_ne e];rw[if_neg e] at D;refine W.kat_no ?_
     cases (b&&i==0) with
     | true=>exact oneLt_int D
     | false=>exact W.kat_one _ _ (P.lt_int D)
theorem xb:∀s:List Int,HT.lexLt s s=false
 | []=>rfl
 | a::s=>by show (if a=a then HT.lexLt s s else _)=false;rw[if_pos rfl];exact xb s
theorem zaJ:∀ {a b c:List Int},a.length=b.length->b.length=c.length->HT.lexLt a b=true->HT.lexLt b c=true->HT.lexLt a c=true
 | [],[],[],_,_,h,_=>h
 | x::a,y::b,z::c,h1,h2,I,J=>by
  have B:(if x=y then HT.lexLt a b else decide (x<y))=true:=I;have q:(if y=z then HT.lexLt b c else decide (y<z))=true:=J;show (if x=z then HT.lexLt a c else decide (x<z))=true;by_cases F:x=y
  ·by_cases D:y=z
   ·rw[if_pos F] at B;rw[if_pos D] at q;rw[if_pos (F.trans D)];exact zaJ (by simpa using h1) (by simpa using h2) B q
   ·rw[if_neg D] at q;rw[if_neg (by lia)];have:=bq q;exact aL (by lia)
  ·rw[if_neg F] at B;have L:=bq B;by_cases D:y=z
   ·rw[if_neg (by lia)];exact aL (by lia)
   ·rw[if_neg D] at q;have O:=bq q;rw[if_neg (by lia)];exact aL (by lia)
 | [],_::_,_,h,_,_,_=>by simp at h
 | _::_,[],_,h,_,_,_=>by simp at h
 | [],[],_::_,_,h,_,_=>by simp at h
 | _::_,_::_,[],_,h,_,_=>by simp at h
theorem uX:∀ {a b:List Int},a.length=b.length->a=b\/HT.lexLt a b=true\/HT.lexLt b a=true
 | [],[],_=>.inl rfl
 | [],_::_,h=>by simp at h
 | _::_,[],h=>by simp at h
 | x::a,y::b,h=>by
  show _\/(if x=y then HT.lexLt a b else decide (x<y))=true\/(if y=x then HT.lexLt b a else decide (y<x))=true;by_cases e:x=y
  ·subst e;rw[if_pos rfl,if_pos rfl];rcases uX (a:=a) (b:=b) (by simpa using h) with h1 | h1 | h1
   ·exact .inl (by rw[h1])
   ·exact .inr (.inl h1)
   ·exact .inr (.inr h1)
  ·rw[if_neg e,if_neg (Ne.symm e)];rcases Int.lt_or_gt_of_ne e with h1 | h1
   ·exact .inr (.inl (aL h1))
   ·exact .inr (.inr (aL h1))
theorem zgt {α:Type}{p q:α->Bool}:∀ {l:List α},(∀x∈l,p x=true->q x=true)->(∃x∈l,p x=false/\q x=true)->l.countP p<l.countP q
 | [],_,h=>by obtain⟨x,B,_⟩:=h;simp at B
 | y::l,h,k=>by
  have I:l.countP p<=l.countP q:=List.countP_mono_left fun x B D=>h x (am _ B) D;rw[List.countP_cons,List.countP_cons];obtain⟨x,B,D,F⟩:=k;rcases aE.mp B with rfl | B
  ·rw[D,F];simp;lia
  ·have O:=zgt (l:=l) (fun z J=>h z (am _ J)) ⟨x,B,D,F⟩;have L:=h y ao
   cases e:p y with
   | false=>
    simp;cases q y <;> simp <;> lia
   | true=>
    rw[L e];simp;lia
def zch (sts:List (List Int))(i:Nat):Int:=(sts.countP fun c=>HT.lexLt c (sts.getD i [])  : Nat)
theorem xn {sts:List (List Int)}{m:Nat}(B:∀st∈sts,st.length=m){i j:Nat}(hi:i<sts.length)(L:j<sts.length):decide (zch sts i<zch sts j)=HT.lexLt (sts.getD i []) (sts.getD j []):=by
 have D:sts.getD i []∈sts:=by rw[aF,ah hi];exact bg hi
 have F:sts.getD j []∈sts:=by rw[aF,ah L];exact bg L
 have q:∀ {a b:List Int},a∈sts->b∈sts->HT.lexLt a b=true->(sts.countP fun c=>HT.lexLt c a)<(sts.countP fun c=>HT.lexLt c b):=fun {a b} J O I=>
  zgt (fun x U Y=>zaJ ((B x U).trans (B a J).symm) ((B a J).trans (B b O).symm) Y I) ⟨a,J,xb a,I⟩
 unfold zch;generalize sts.getD i []=a at D;generalize sts.getD j []=b at F;rcases uX (a:=a) (b:=b) ((B a D).trans (B b F).symm) with h | h | h
 ·subst h;rw[xb];exact aO (en _)
 ·rw[h];have:=q D F h;exact aL (by lia)
 ·have h1:=q F D h
  have h2:HT.lexLt a b=false:=by rw[e7];intro z;have:=q D F z;lia
  rw[h2];exact aO (by lia)
def zaR (h:Heap)(L:Addr):List (Addr×Obj):=(List.range h.objs.size).filterMap fun b=>if b=L then none else (h.get? b).map fun o=>(b,o)
theorem zU {h:Heap}{L b:Addr}{o:Obj}:(b,o)∈zaR h L↔b≠L/\h.get? b=some o:=by
 unfold zaR;rw[cV];constructor
 ·rintro⟨c,F,e⟩;by_cases q:c=L
  ·rw[if_pos q] at e;cases e
  ·rw[if_neg q] at e;obtain⟨o',B,D⟩:=aI.mp e;cases D;exact⟨q,B⟩
 ·rintro⟨q,B⟩;exact⟨b,aP.mpr (ay B),by rw[if_neg q,B];rfl⟩
theorem zqk {h:Heap}{L:Addr}{m F:Str->Option Value}(a:h.Ns L m)(b:h.Ns L F):m=F:=by obtain⟨o,es,Z,I,J,hk,O⟩:=a;obtain⟨o',es',U,q,B,Y,D⟩:=b;rw[I] at q;cases q;rw[J] at B;cases B;funext x;rw[<- O,<- D]
section
variable {X:Cx}
theorem zaL {P:Program}{w:World}{H:Hp}{h:Heap}{a:Addr}{o:HO}(x:yr P w H h a o):∃u,h.get? a=some u:=by
 cases o with
 | lst xs=>obtain⟨_,_,_,_,e⟩:=x;exact⟨_,e⟩
 | tup xs=>obtain⟨_,_,_,p⟩:=x;obtain⟨o,e,_⟩:=p;exact⟨o,e⟩
 | dK kvs=>obtain⟨_,_,_,_,o,_,_,e,_⟩:=x;exact⟨_,e⟩
 | dT kvs=>obtain⟨_,_,_,_,o,_,_,e,_⟩:=x;exact⟨_,e⟩
 | set S n=>obtain⟨o,_,_,_,e,_⟩:=x;exact⟨_,e⟩
 | ins C dx fs=>obtain⟨_,_,_,e,_⟩:=x;exact⟨_,e⟩
 | own y=>exact x
 | xd fs=>obtain⟨_,⟨_,_,_,e,_⟩,_⟩:=x;exact⟨_,e⟩
 | met f y=>exact⟨_,x⟩
 | rng lo hi=>obtain⟨_,_,_,e⟩:=x;exact⟨_,e⟩
 | frz o u=>obtain⟨e,_⟩:=x;exact⟨_,e⟩
 | tbl ps=>exact⟨_,x⟩
 | ext q=>obtain⟨_,e,_⟩:=x;exact e
theorem zdG {pins:List (Addr×Obj)}{σ:St}{H:Hp}{s:Shared}(I:Inv X pins σ H s){m:Str->Option Value}(hm:s.heap.Ns X.env.locals m){h':Heap}{D:Addr}{ys:List V}{its:List Value}{c:Nat}
  (Y:∀b o,b≠X.env.locals->s.heap.get? b=some o->h'.get? b=some o) (L:h'.Ns X.env.locals m) (Z:s.heap.get? D=none) (O:H D=none)
  (ho:h'.get? D=some { cls:=.type "list",data:=.seq its.toArray c }) (hv:ya ys its) (hz:ys.length<=sizeLine) (tk:Nat):Inv X pins σ (upd H D (.lst ys)) { s with heap:=h',toks:=tk }:=by
 have nD:∀b o,s.heap.get? b=some o->b≠D:=fun b o e z=>by rw[z,Z] at e;cases e
 have nL:∀b u,H b=some u->b≠X.env.locals:=fun b u e=>zc e I.free;refine Inv.step (ch:=[]) (g':=s.gens) (d':=s.drawn) (t':=tk) I (fun b B=>by simp at B) (fun b o h1 _ _ F _=>Y b o h1 F) (fun b o h1 _ _ F _=>⟨o.slots,Y b o h1 F⟩) (fun b o _ F h5=>by rw[ze (nD b o F)];exact h5) (fun b o _ F=>?_) (fun b ys q=>by rw[ze (zc q O)];exact q) (fun b o u q=>by rw[ze (zc q O)];exact q) (fun b ps q=>⟨#[],by rw[ze (zc q O),dw];exact q⟩) (fun m' ad=>by rw[<- zqk hm ad];exact L) (fun b u B=>?_) I.bare
 ·by_cases hL:b=X.env.locals
  ·obtain⟨o',_,_,h1,_⟩:=L;exact⟨o',by rw[hL];exact h1⟩
  ·exact⟨o,Y b o hL F⟩
 ·by_cases U:b=D
  ·subst U;rw[zj] at B;cases B;exact⟨hz,its,c,hv,ho⟩
  ·rw[ze U] at B;refine (I.hok b u B).stay (fun c v J q=>Y c v ?_ q) (fun c q=>by rw[ze (zc q O)];exact q) (fun c ys q=>by rw[ze (zc q O)];exact q);rcases J with rfl | J
   ·exact nL _ _ B
   ·exact nL _ _ J
theorem zf9 {pins:List (Addr×Obj)}{σ:St}{H:Hp}{s:Shared}(I:Inv X pins σ H s):∀ {sts:List (List Int)} {vs:List V} {its:List Value},IsL H (sts.map stD) vs->ya vs its->∀ {i:Nat},i<sts.length->∃ (a:Addr) (items:List Value),vs.getD i .non = .ref a/\its.getD i .none = .ref a/\IsTup s.heap a items.toArray/\ya ((sts.getD i []).map V.int) items/\a≠X.env.locals
 | [],_,_,_,_,i,hi=>by simp at hi
 | st::sts,_,_,h,D,i,hi=>by
  obtain⟨x,r,rfl,⟨a,xs,rfl,B,q⟩,F⟩:=h;obtain rfl:=q.of_ints
  cases D with
  | cons J L=>
   cases J
   cases i with
   | zero=>
    obtain⟨items,O,U,_⟩:=I.tuple (.of B);exact⟨a,items,rfl,rfl,U,O,zc B I.free⟩
   | succ i=>
    obtain⟨Y,items,Z,e2,e3,e4,e5⟩:=zf9 I (sts:=sts) F L (i:=i) (by simpa using hi);exact⟨Y,items,by simpa using Z,by simpa using e2,e3,by simpa using e4,e5⟩
theorem zke {pins:List (Addr×Obj)}{σ:St}{H:Hp}{s:Shared}(I:Inv X pins σ H s){h':Heap}(L:∀b o,b≠X.env.locals->s.heap.get? b=some o->h'.get? b=some o):∀ {sts:List (List Int)} {vs:List V} {its:List Value},IsL H (sts.map stD) vs->ya vs its->(∀st∈sts,1<=st.length)->∃fs,W.KatTups h' its fs/\fs.length=sts.length/\∀f∈fs,∃a t,f = .int a t
 | [],_,_,h,q,_=>by cases h;cases q;exact⟨[],trivial,rfl,fun _ h=>by simp at h⟩
 | st::sts,_,_,h,q,h1=>by
  obtain⟨x,r,rfl,⟨a,xs,rfl,O,B⟩,U⟩:=h;obtain rfl:=B.of_ints
  cases q with
  | cons Y Z=>
   cases Y;obtain⟨items,D,pt,_⟩:=I.tuple (.of O);obtain⟨o,ho,hc,n,hd⟩:=pt;obtain⟨fs,f1,f2,f3⟩:=zke I L (sts:=sts) U Z fun z hz=>h1 z (am _ hz);have F:=h1 st ao
   match st,D,F with
   | z::zs,D,_=>
    cases D with
    | cons q1 qq=>
     obtain⟨t,rfl⟩:=q1;refine⟨_::fs,⟨⟨a,o,_,n,rfl,L a o (zc O I.free) ho,hc,hd,rfl⟩,f1⟩,by rw[aS,f2];rfl,fun f J=>?_⟩;rcases aE.mp J with rfl | J
     ·exact⟨_,_,rfl⟩
     ·exact f3 f J
def zq7:List V->Hp->VK->Prop:=fun xs H Q=>∃ (l:Addr) (vs:List V) (sts:List (List Int)) (m:Nat),xs=[.ref l]/\H l=some (.lst vs)/\IsL H (sts.map stD) vs/\2<=sts.length/\sts.length<64/\1<=m/\(∀st∈sts,st.length=m)/\sts.Nodup/\
 ∀ (ys:List V) (q:List (List Int)),IsL H (q.map stD) ys->q.Perm sts->(q.Pairwise fun a b=>HT.lexLt a b=true)->New H (.lst ys) Q
theorem zgE {H:Hp}{sts:List (List Int)}{vs:List V}(h:IsL H (sts.map stD) vs):∀ {p:List Nat},(∀i∈p,i<sts.length)->IsL H ((p.map fun i=>sts.getD i []).map stD) (p.map fun i=>vs.getD i .non)
 | [],_=>rfl
 | i::p,q=>by have hi:=q i ao;obtain⟨x,B,D⟩:=h.getD (i:=i) (d:=stD (sts.getD i [])) (by simp[hi]);refine⟨vs.getD i .non,_,rfl,?_,zgE h fun j F=>q j (am _ F)⟩;rw[aF,B];exact D
theorem zfj {vs:List V}{its:List Value}(h:ya vs its):∀ (p:List Nat),(∀i∈p,i<vs.length)->ya (p.map fun i=>vs.getD i .non) (p.map fun i=>its.getD i .none)
 | [],_=>.nil
 | i::p,q=>by have hi:=q i ao;obtain⟨u,B,D⟩:=h.get (i:=i) (x:=vs[i]) (ah hi);refine .cons ?_ (zfj h p fun j F=>q j (am _ F));show yF (vs.getD i .non) (its.getD i .none);rw[aF,aF,ah hi,B];exact D
theorem zaj {α:Type}(d:α)(l:List α):(List.range l.length).map (fun i=>l.getD i d)=l:=by refine dW (by simp) fun i h1 h2=>?_;simp[h2]
theorem zkG:CallQ X (.builtin "sorted") zq7:=⟨by
 intro pins s σ H xs us Q I r h;obtain⟨l,vs,sts,m,rfl,hl,B,h2,cd,a4,O,a5,q⟩:=h;obtain⟨u,rfl,ru⟩:=za0 r;cases ru;obtain⟨its,rv,pl,hz⟩:=I.list (.of hl);have a7:=B.length;rw[ab] at a7;have ch:=rv.length;obtain⟨m0,an,_⟩:=id I.loc;refine W.kat_sorted (h₀:=(⟨#[],{}⟩:Heap)) (L:=X.env.locals) (m:=m0) (news:=zaR s.heap X.env.locals) ⟨an,fun b o e=>?_,aT _⟩ (fun p hp=>?_) pl.isList (by lia) (by lia) fun D e1 h' F N Y=>?_
 ·have:=ay e;simp at this
 ·obtain⟨b,o⟩:=p;have:=zU.mp hp;refine⟨this.2,this.1,?_⟩
  cases e:(⟨#[],{}⟩:Heap).get? b with
  | none=>rfl
  | some o'=>
   have:=ay e;simp at this
 ·have kp:∀b o,b≠X.env.locals->s.heap.get? b=some o->h'.get? b=some o:=fun b o hb e=>(N (b,o) (am _ (zU.mpr ⟨hb,e⟩))).1;obtain⟨fs,k1,k2,k3⟩:=zke I kp B rv fun st bb=>by rw[O st bb];exact a4
  refine W.kat_kind (T:=.type "int") (s:={ s with heap:=h' }) k1 (by lia) (fun f hf=>?_) (by decide) ?_
  ·obtain⟨a,t,rfl⟩:=k3 f hf;intro A' Q' E' s' _ hq;exact cO (fN s' a t) hq
  ·have hu:zbR sts.length (zch sts):=fun i j hi J e=>by
    have e1:=xn O hi J;have e2:=xn O J hi;rw[e,aO (en _)] at e1;rw[e,aO (en _)] at e2;have gi:sts.getD i []=sts[i]:=by simp[hi]
    have gj:sts.getD j []=sts[j]:=by simp[J]
    rcases uX (a:=sts.getD i []) (b:=sts.getD j []) (by rw[gi,gj,O _ (bg hi),O _ (bg J)]) with h | h | h
    ·rw[gi,gj] at h;exact (cj a5).mp h
    ·rw[h] at e1;cases e1
    ·rw[h] at e2;cases e2
   obtain⟨p,ap,Z⟩:=zg3 hu h2;rw[show its.length=sts.length by lia];refine ap.wp (S:=fun s'=>s'={ s with heap:=h' }) (fun i j C s' hi J ad hC=>?_) (fun s' ad=>?_) _ rfl
   ·subst ad;obtain⟨a1,bd,_,b1,c1,d1,f1⟩:=zf9 I B rv hi;obtain⟨a2,bk,_,b2,c2,d2,f2⟩:=zf9 I B rv J;obtain⟨o1,bl,_,n1,bo⟩:=c1;obtain⟨o2,bs,_,n2,bx⟩:=c2;show wpAny _ _ (keyLt' _ (its.getD i .none) (its.getD j .none)) C _ _;rw[b1,b2]
    have gi:(sts.getD i []).length=m:=by
     have:sts.getD i []=sts[i]:=by simp[hi]
     rw[this];exact O _ (bg hi)
    have gj:(sts.getD j []).length=m:=by
     have:sts.getD j []=sts[j]:=by simp[J]
     rw[this];exact O _ (bg J)
    have l1:=d1.length;have l2:=d2.length;rw[ab] at l1 l2;refine W.kat_lt (s:={ s with heap:=h' }) (kp _ _ f1 bl) bo (kp _ _ f2 bs) bx ?_;rw[show decide (bd.toArray.size<bk.toArray.size)=false from aO (by simp;lia)];refine zdL 0 d1 d2 (by rw[gi,gj]) ?_;have:=hC { s with heap:=h' } rfl;rw[show zfm (zch sts) i j=HT.lexLt (sts.getD i []) (sts.getD j []) from xn O hi J] at this;exact this
   ·subst ad
    have al:p.toList.Perm (List.range sts.length):=by have:=Z.perm.toList;simpa using this
    have U:∀i∈p.toList,i<sts.length:=fun i hi=>aP.mp ((al.mem_iff).mp hi);refine W.KasFin.intro F N (W.UpdF.head fun q' b0=>?_) fun b3 c F'' N''=>?_
    ·exact aM (Y q' b0)
    ·have b4:∀b o,b≠X.env.locals->s.heap.get? b=some o->b3.get? b=some o:=fun b o hb e=>(N'' (b,o) (am _ (zU.mpr ⟨hb,e⟩))).1;have ca:D≠X.env.locals:=(N'' (D,_) ao).2.1
     have as:s.heap.get? D=none:=by
      cases e:s.heap.get? D with
      | none=>rfl
      | some o=>exact absurd (Y (D,o) (zU.mpr ⟨ca,e⟩)) (bU _)
     have av:H D=none:=by
      cases e:H D with
      | none=>rfl
      | some o=>
       obtain⟨o',a0⟩:=zaL (I.hok D o e);rw[as] at a0;cases a0
     have a3:=(N'' (D,_) ao).1;have I':=zdG I an (ys:=p.toList.map fun i=>vs.getD i .non) b4 F''.ns as av a3 (zfj rv p.toList fun i hi=>by have:=U i hi;lia) (by rw[ab,al.length_eq,aj];exact cv (zaW (by lia))) s.toks;refine⟨.ref D,_,I',rfl,(q _ (p.toList.map fun i=>sts.getD i []) (zgE B U) ?_ ?_).at av⟩
     ·have:=al.map fun i=>sts.getD i [];rwa[zaj] at this
     ·have cl:p.size=sts.length:=uj Z.perm;rw[b8];intro i j hi J cc;rw[ab,aJ] at hi J;have hk:=Z.lt_of cc (by lia);rw[cC,cC,c6,c6];have e1:p.getD i 0=p[i]:=by simp[hi]
      have e2:p.getD j 0=p[j]:=by simp[J]
      unfold key at hk;rw[e1,e2] at hk;rw[<- xn O (U _ (by simp)) (U _ (by simp))];exact aL hk⟩
end
open PySem PySem.Spec PySem.Calls PyProof.Rows PySem.W
theorem u9 {prog:Program}{w:World}{A:Around}{E:Value->Shared->Prop}{s:Shared}{a:Addr}{vs:List Value}{n:Nat}{P:PySem.Fin->Shared->Prop}(ho:s.heap.get? a=some (seqObj "list" vs.toArray n))(h2:vs.length<2)
  (h:∀h' c,(∀b o,b≠a->s.heap.get? b=some o->h'.get? b=some o)->h'.get? a=some (seqObj "list" vs.toArray c)->P (.done (.ret .none)) { s with heap:=h' }) :
  wpAny (model prog w) A (Builtin.«list.sort» ⟨[.ref a],[]⟩) P E s:=by
 obtain⟨e1,ho1⟩:∃e1,(s.heap.update a (Obj.mapSeq fun _=>(#[]:Array Value))).get? a=some (seqObj "list" #[] e1):=⟨_,get?_update_seq ho fun _=>#[]⟩;rw[list_sort_plain];refine aa (listItems_at ho rfl ?_);refine aa (listUpdate_at ho rfl ?_ (by rw[aA,bV];lia) (aT _));refine aa (seqEpoch_at ho1 rfl ?_);refine aa (wpAny_newTuple ?_ (by show vs.length<=_;rw[bV];lia));refine aa (wpAny_newList ?_ (aT _));refine bB ?_;show wpAny (model prog w) A _ P E { s with heap:=((s.heap.update a (Obj.mapSeq fun _=>(#[]:Array Value))).push (seqObj "tuple" vs.toArray 0)).push (seqObj "list" #[] 0) };dsimp only;have hn2:vs.toArray.size<2:=by rw[aA];lia
 rw[if_pos hn2,if_pos hn2];refine aa (ac ?_);refine aa (m:=(pure ():StateT SortSt _ _).run _) (ac ?_)
 have hsnd:(arrOf (SortSt.mk' general' (vs.toArray.zip vs.toArray) #[] 7 none)).map (fun x=>x.snd)=vs.toArray:=by show (vs.toArray.zip vs.toArray).map (fun x=>x.snd)=vs.toArray;apply Array.toList_inj.mp;rw[Array.toList_map,Array.toList_zip];exact List.map_snd_zip (ag _)
 have ha:a<s.heap.objs.size:=ay ho;have g3:(((s.heap.update a (Obj.mapSeq fun _=>(#[]:Array Value))).push (seqObj "tuple" vs.toArray 0)).push (seqObj "list" #[] 0)).get? a=some (seqObj "list" #[] e1):=af _ (af _ ho1);refine aa (seqEpoch_at g3 rfl ?_);refine aa (listUpdate_at g3 rfl ?_ (aT _) ?_)
 ·show wpAny _ _ _ _ _ _;dsimp only;rw[hsnd];simp only[bne_self_eq_false,aV,if_false];refine ac (h _ _ (fun b o hb e=>?_) (get?_update_seq g3 fun _=>vs.toArray));rw[eC _ _ _ _ hb];refine af _ (af _ ?_);rw[eC _ _ _ _ hb];exact e
 ·dsimp only;rw[hsnd,aA,bV];lia
theorem zfd {prog:Program}{w:World}{A:Around}{E:Value->Shared->Prop}{s:Shared}{l:Addr}{vs:List Value}{Q:Value->Shared->Prop}(hl:s.heap.IsList l vs.toArray)(h2:vs.length<2)
  (h:∀D h' c,(∀b o,s.heap.get? b=some o->h'.get? b=some o)->s.heap.get? D=none->h'.get? D=some (seqObj "list" vs.toArray c)->Q (.ref D) { s with heap:=h' }) :
  wpAny (model prog w) A (call (.builtin "sorted") [.ref l]) Q E s:=by
 refine Calls.call_function_entry kind_sorted plain_sorted entry_sorted (args_sorted1 _) ?_;unfold Builtin.«sorted»;refine aa (m:=checkCount "sorted" 1 1 _) (ac ?_);refine aa (collect_list hl ?_ (by rw[bV];lia));refine aa (wpAny_newList ?_ (by rw[bV];lia))
 have hsz:((s.heap.push (seqObj "list" #[] 0)).update s.heap.objs.size (Obj.mapSeq (·++vs.toArray))).objs.size=s.heap.objs.size+1:=by rw[Heap.size_update,size_push']
 have hoL:(((s.heap.push (seqObj "list" #[] 0)).update s.heap.objs.size (Obj.mapSeq (·++vs.toArray))).push (seqObj "list" vs.toArray 0)).get? (s.heap.objs.size+1)=some (seqObj "list" vs.toArray 0):=by rw[<- hsz];exact aK _ rfl
 have keep:∀b o,s.heap.get? b=some o->(((s.heap.push (seqObj "list" #[] 0)).update s.heap.objs.size (Obj.mapSeq (·++vs.toArray))).push (seqObj "list" vs.toArray 0)).get? b=some o:=fun b o q=>by have hlt:b<s.heap.objs.size:=ay q;rw[Heap.get?_push_ne _ _ _ (by rw[hsz];exact aM (Nat.lt_succ_of_lt hlt)),eC _ _ _ _ (aM hlt),Heap.get?_push_ne _ _ _ (aM hlt)];exact q
 show wpAny _ _ _ _ _ { s with heap:=((s.heap.push (seqObj "list" #[] 0)).update s.heap.objs.size (Obj.mapSeq (·++vs.toArray))).push (seqObj "list" vs.toArray 0) };rw[hsz];refine aa (bB (bm slot_list_sort ⟨_,hoL,rfl⟩ entry_list_sort ?body (args_list_sort _)))
 case body=>
  refine u9 (s:={ s with heap:=((s.heap.push (seqObj "list" #[] 0)).update s.heap.objs.size (Obj.mapSeq (·++vs.toArray))).push (seqObj "list" vs.toArray 0) }) hoL h2 fun h' c kp hD=>?_;refine⟨_,rfl,ac ⟨_,rfl,h _ _ _ (fun b o e=>kp b o (aM (Nat.lt_succ_of_lt (ay e))) (keep b o e)) ?_ hD⟩⟩;exact Heap.get?_none_of_le (dB _)
section
variable {X:Cx}
def zoH:List V->Hp->VK->Prop:=fun xs H Q=>∃ (l:Addr) (vs:List V) (sts:List (List Int)) (m:Nat),xs=[.ref l]/\H l=some (.lst vs)/\IsL H (sts.map stD) vs/\sts.length<64/\1<=m/\(∀st∈sts,st.length=m)/\sts.Nodup/\
 ∀ (ys:List V) (q:List (List Int)),IsL H (q.map stD) ys->q.Perm sts->(q.Pairwise fun a b=>HT.lexLt a b=true)->New H (.lst ys) Q
theorem zhZ:CallQ X (.builtin "sorted") zoH:=⟨by
 intro pins s σ H xs us Q I r h;obtain⟨l,vs,sts,m,rfl,hl,B,U,Y,hm,Z,q⟩:=h;by_cases h2:2<=sts.length
 ·exact zkG.run _ _ _ _ _ _ _ I r ⟨l,vs,sts,m,rfl,hl,B,h2,U,Y,hm,Z,q⟩
 ·obtain⟨u,rfl,ru⟩:=za0 r;cases ru;obtain⟨its,rv,pl,hz⟩:=I.list (.of hl);have ad:=B.length;rw[ab] at ad;have al:=rv.length;obtain⟨m0,F,_⟩:=id I.loc;refine zfd pl.isList (by lia) fun D h' c kp J hD=>?_
  have L:H D=none:=by
   cases e:H D with
   | none=>rfl
   | some o=>
    obtain⟨o',O⟩:=zaL (I.hok D o e);rw[J] at O;cases O
  have I':=zdG I F (ys:=vs) (fun b o _ e=>kp b o e) (by obtain⟨o,es,ep,g,k⟩:=F;exact⟨o,es,ep,kp _ _ g,k⟩) J L hD rv (cv (zaW (by lia))) s.toks;refine⟨.ref D,_,I',rfl,(q _ sts B (List.Perm.refl _) ?_).at L⟩
  match sts,h2 with
  | [],_=>exact .nil
  | [_],_=>exact cu _ _
  | _::_::_,h2=>exact absurd (by simp) h2⟩
end
open PySem
def Ris (xs:Array Nat):Prop:=∀i j:Nat,i<j->j<xs.size->xs.getD i 0<xs.getD j 0
theorem zdx {xs:Array Nat}(D:Ris xs){j:Nat}:∀ (B lo hi:Nat),lo<=hi->hi<=xs.size->hi - lo<=B->(∀i,i<lo->xs.getD i 0<j)->(∀i,hi<=i->i<xs.size->j<=xs.getD i 0)->
  ∃p,SetTable.below.go xs j B lo hi=p/\p<=xs.size/\(∀i,i<p->xs.getD i 0<j)/\(∀i,p<=i->i<xs.size->j<=xs.getD i 0)
 | 0,lo,hi,h1,h2,Y,F,I=>by
  have:lo=hi:=by lia
  subst this;exact⟨lo,rfl,h2,F,I⟩
 | B+1,lo,hi,h1,h2,Y,F,I=>by
  show ∃p,(if lo<hi then if xs.getD ((lo+hi) / 2) j<j then SetTable.below.go xs j B ((lo+hi) / 2+1) hi else SetTable.below.go xs j B lo ((lo+hi) / 2) else lo)=p/\_;by_cases O:lo<hi
  ·rw[if_pos O];have U:(lo+hi) / 2<xs.size:=by lia
   have e:xs.getD ((lo+hi) / 2) j=xs.getD ((lo+hi) / 2) 0:=by simp[U]
   rw[e];by_cases J:xs.getD ((lo+hi) / 2) 0<j
   ·rw[if_pos J];refine zdx D B _ hi (by lia) h2 (by lia) (fun i L=>?_) I;by_cases q:i=(lo+hi) / 2
    ·rw[q];exact J
    ·have:=D i ((lo+hi) / 2) (by lia) U;lia
   ·rw[if_neg J];refine zdx D B lo _ (by lia) (by lia) (by lia) F (fun i L Z=>?_);by_cases q:i=(lo+hi) / 2
    ·rw[q];lia
    ·have:=D ((lo+hi) / 2) i (by lia) Z;lia
  ·rw[if_neg O];have:lo=hi:=by lia
   subst this;exact⟨lo,rfl,h2,F,I⟩
theorem ud {xs:Array Nat}(q:Ris xs)(j:Nat):SetTable.below xs j<=xs.size/\(∀i,i<SetTable.below xs j->xs.getD i 0<j)/\(∀i,SetTable.below xs j<=i->i<xs.size->j<=xs.getD i 0):=by obtain⟨p,e,h⟩:=zdx q (j:=j) xs.size 0 xs.size (aT _) (ag _) (ag _) (fun i h=>absurd h (cL _)) (fun i h1 h2=>by lia);have B:SetTable.below xs j=p:=e;rw[B];exact h
theorem xI {xs:Array Nat}{i j:Nat}(h:xs[i]?=some j):i<xs.size/\xs.getD i 0=j:=by obtain⟨h1,h2⟩:=cB.mp h;exact⟨h1,by simp[h1,h2]⟩
theorem zfG {xs:Array Nat}{i:Nat}(h:i<xs.size):xs[i]?=some (xs.getD i 0):=by simp[h]
theorem zkw {xs:Array Nat}(B:Ris xs){i j:Nat}(h:xs[i]?=some j):SetTable.below xs j=i:=by
 obtain⟨h1,h2⟩:=xI h;obtain⟨I,D,F⟩:=ud B j;rcases cw (SetTable.below xs j) i with q | q | q
 ·have:=F _ (ag _) (by lia);have:=B _ i q h1;lia
 ·exact q
 ·have:=D i q;lia
theorem zaV {t:SetTable}(q:Ris t.place){i j:Nat}(h:t.place[i]?=some j):t.slot j = .live i:=by unfold SetTable.slot;rw[zkw q h];simp[h]
theorem zj4 {t:SetTable}(q:t.dummies = #[]){j:Nat}(h:∀i:Nat,t.place[i]?≠some j):t.slot j = .empty:=by
 unfold SetTable.slot
 have e:(t.place[SetTable.below t.place j]?==some j)=false:=by rw[e7];intro z;exact h _ (bn z)
 have B:SetTable.has t.dummies j=false:=by rw[q];rfl
 simp only[e,B,aV,if_false]
theorem zoT {t:SetTable}(q:Ris t.place)(B:t.dummies = #[])(j:Nat):(t.slot j = .empty/\∀i:Nat,t.place[i]?≠some j)\/∃i,t.slot j = .live i/\t.place[i]?=some j:=by
 by_cases h:∃i:Nat,t.place[i]?=some j
 ·obtain⟨i,hi⟩:=h;exact .inr ⟨i,zaV q hi,hi⟩
 ·have h':∀i:Nat,t.place[i]?≠some j:=fun i e=>h ⟨i,e⟩;exact .inl ⟨zj4 B h',h'⟩
def tm (q:Nat):SetTable:=⟨q,#[],#[],0,true,0,true⟩
def stp (q:Nat)(h:Int):Nat->SetTable.Probe
 | 0=>(tm q).probeStart h
 | n+1=>(tm q).advance (stp q h n)
def wk (q:Nat)(h:Int)(n:Nat):Nat:=(stp q h n).j
theorem zhH (q:Nat)(p:SetTable.Probe):((tm q).advance p).dummy=p.dummy:=by unfold SetTable.advance;split <;> rfl
theorem zfg (q:Nat)(h:Int):∀n,(stp q h n).dummy=none
 | 0=>rfl
 | n+1=>by show ((tm q).advance _).dummy=none;rw[zhH,zfg q h n]
theorem zgn (q:Nat)(p:SetTable.Probe)(h:0<p.more):(tm q).advance p={ p with j:=p.j+1,more:=p.more - 1 }:=by unfold SetTable.advance;rw[if_pos h]
theorem zdt (q:Nat)(p:SetTable.Probe)(h:p.more=0):(tm q).advance p={ p with j:=(p.i * 5+1+p.perturb / 32) % (q+1),more:=SetTable.runEnd q ((p.i * 5+1+p.perturb / 32) % (q+1)) - (p.i * 5+1+p.perturb / 32) % (q+1),i:=(p.i * 5+1+p.perturb / 32) % (q+1),perturb:=p.perturb / 32 }:=by unfold SetTable.advance;rw[if_neg (by lia)];rfl
def lp (q:Nat)(h:Int):Nat->Nat×Nat
 | 0=>(SetTable.bits h % (q+1),SetTable.bits h)
 | n+1=>SetTable.leap q (lp q h n).1 (lp q h n).2
theorem zmC (q i:Nat):SetTable.runEnd q i - i<=9:=by unfold SetTable.runEnd;split <;> lia
theorem zef (B:Nat)(h:Int){T i q:Nat}(e:stp B h T=⟨i,SetTable.runEnd B i - i,i,q,none⟩):∀k,k<=SetTable.runEnd B i - i->stp B h (T+k)=⟨i+k,SetTable.runEnd B i - i - k,i,q,none⟩
 | 0,_=>e
 | k+1,D=>by show (tm B).advance (stp B h (T+k))=_;rw[zef B h e k (by lia),zgn B _ (by show 0<SetTable.runEnd B i - i - k;lia)];show (⟨i+k+1,SetTable.runEnd B i - i - k - 1,i,q,none⟩:SetTable.Probe)=⟨i+(k+1),SetTable.runEnd B i - i - (k+1),i,q,none⟩;rw[Nat.add_assoc,Nat.sub_sub]
theorem ziX (q:Nat)(h:Int):∀k,∃T,T<=10 * k/\stp q h T=⟨(lp q h k).1,SetTable.runEnd q (lp q h k).1 - (lp q h k).1,(lp q h k).1,(lp q h k).2,none⟩
 | 0=>⟨0,ag _,rfl⟩
 | k+1=>by obtain⟨T,B,e⟩:=ziX q h k;have D:=zmC q (lp q h k).1;refine⟨T+(SetTable.runEnd q (lp q h k).1 - (lp q h k).1)+1,by lia,?_⟩;show (tm q).advance (stp q h (T+_))=_;rw[zef q h e _ (ag _),zdt q _ (eQ _)];rfl
theorem zdc (q:Nat)(h:Int):∀k,(lp q h k).2=SetTable.bits h / 32 ^ k
 | 0=>by show SetTable.bits h=_;simp
 | k+1=>by show (lp q h k).2 / 32=_;rw[zdc q h k,Nat.div_div_eq_div_mul,Nat.pow_succ]
theorem zmQ (h:Int):SetTable.bits h<2 ^ 64:=by unfold SetTable.bits;have q:=cz h (show (2 ^ 64:Int)≠0 by decide);have h1:=bW h (show (0:Int)<2 ^ 64 by decide);lia
def lcg (m i:Nat):Nat:=(i * 5+1) % m
def orb (m:Nat):Nat->Nat->Nat
 | 0,i=>i
 | k+1,i=>lcg m (orb m k i)
theorem zi6 (q:Nat)(h:Int):∀k,(lp q h (13+k)).1=orb (q+1) k (lp q h 13).1
 | 0=>rfl
 | k+1=>by
  show ((lp q h (13+k)).1 * 5+1+(lp q h (13+k)).2 / 32) % (q+1)=lcg (q+1) (orb (q+1) k _);rw[<- zi6 q h k,zdc];have B:=zmQ h
  have e:SetTable.bits h / 32 ^ (13+k)=0:=by
   refine Nat.div_eq_of_lt (aU B ?_)
   calc 2 ^ 64<=32 ^ 13:=by decide
    _<=32 ^ (13+k):=cJ (by decide) (by lia)
  rw[e];rfl
theorem zcr (m:Nat)(a:Nat):∀ (b i:Nat),orb m (a+b) i=orb m b (orb m a i)
 | 0,i=>rfl
 | b+1,i=>by show lcg m (orb m (a+b) i)=lcg m (orb m b _);rw[zcr m a b i]
def zpj (m:Nat):Nat->Nat->List Nat
 | 0,_=>[]
 | n+1,i=>i::zpj m n (lcg m i)
theorem zlk (m:Nat)(k i:Nat):orb m (k+1) i=orb m k (lcg m i):=by rw[fL,zcr];rfl
theorem zdZ (m:Nat):∀ (n i k:Nat),k<n->(zpj m n i)[k]?=some (orb m k i)
 | n+1,i,0,_=>rfl
 | n+1,i,k+1,h=>by rw[zlk];exact zdZ m n (lcg m i) k (by lia)
theorem zbM (m:Nat):∀ (n i:Nat),(zpj m n i).length=n
 | 0,_=>rfl
 | n+1,i=>by show (zpj m n _).length+1=n+1;rw[zbM m n]
structure Ring (m:Nat):Prop where
 pos:0<m
 all:∀v,v<m->v∈zpj m m 0
 back:orb m m 0=0
theorem Ring.reach {m:Nat}(r:Ring m){i j:Nat}(hi:i<m)(I:j<m):∃k,k<m/\orb m k i=j:=by
 obtain⟨a,D,J⟩:=bH.mp (r.all i hi);obtain⟨b,F,L⟩:=bH.mp (r.all j I);rw[zbM] at D F
 have q:orb m a 0=i:=by have:=zdZ m m 0 a D;rw[ah (by rw[zbM];exact D),J] at this;exact (be this).symm
 have B:orb m b 0=j:=by have:=zdZ m m 0 b F;rw[ah (by rw[zbM];exact F),L] at this;exact (be this).symm
 by_cases O:a<=b
 ·refine⟨b - a,by lia,?_⟩;rw[<- q,<- zcr,show a+(b - a)=b by lia];exact B
 ·refine⟨b+m - a,by lia,?_⟩;rw[<- q,<- zcr,show a+(b+m - a)=m+b by lia,zcr,r.back];exact B
def zre (m:Nat):Bool:=((List.range m).all fun v=>(zpj m m 0).contains v)&&orb m m 0==0
theorem zd7 {m:Nat}(q:0<m)(h:zre m=true):Ring m:=by unfold zre at h;rw[ar] at h;refine⟨q,fun v B=>?_,bn h.2⟩;have:=bE.mp h.1 v (aP.mpr B);exact cF.mp this
theorem ztL:Ring 8:=zd7 (by decide) (by decide +kernel)
theorem zrd:Ring 32:=zd7 (by decide) (by decide +kernel)
theorem zoJ:Ring 128:=zd7 (by decide) (by decide +kernel)
theorem zoK:Ring 512:=zd7 (by decide) (by decide +kernel)
theorem zlW {q:Nat}(r:Ring (q+1))(h:Int){j:Nat}(B:j<=q):∃n,n<10 * SetTable.turns q/\wk q h n=j:=by have D:(lp q h 13).1<q+1:=e8 _ (eR _);obtain⟨k,I,e⟩:=r.reach D (ff B);obtain⟨T,J,F⟩:=ziX q h (13+k);refine⟨T,by unfold SetTable.turns;lia,?_⟩;show (stp q h T).j=j;rw[F];show (lp q h (13+k)).1=j;rw[zi6,e]
open PySem PySem.Spec PyProof.Rows
theorem zoM {xs:Array Nat}(B:Ris xs){i j a b:Nat}(hi:xs[i]?=some a)(D:xs[j]?=some b)(h:a<b):i<j:=by
 obtain⟨h1,h2⟩:=xI hi;obtain⟨F,I⟩:=xI D;rcases cw i j with q | q | q
 ·exact q
 ·subst q;lia
 ·have:=B j i q h1;lia
theorem zg0 {xs:Array Nat}(q:Ris xs):∀ (M:Nat),(∀j,j<M->∃i:Nat,xs[i]?=some j)->∀ (j i:Nat),j<M->xs[i]?=some j->j<=i
 | _,_,0,_,_,_=>aT _
 | M,h,j+1,i,F,e=>by obtain⟨D,B⟩:=h j (by lia);have h1:=zoM q B e (ck j);have h2:=zg0 q M h j D (by lia) B;lia
theorem zoL {xs:Array Nat}(q:Ris xs){M:Nat}(h:xs.size<M):∃j,j<M/\∀i:Nat,xs[i]?≠some j:=by refine bO fun B=>?_;have all:∀j,j<M->∃i:Nat,xs[i]?=some j:=fun j D=>bO fun F=>B ⟨j,D,fun i e=>F ⟨i,e⟩⟩;obtain⟨i,e⟩:=all (M - 1) (by lia);have h1:=zg0 q M all (M - 1) i (by lia) e;have h2:=(xI e).1;lia
section
variable {t:SetTable}{hashAt:Nat->Int}{h:Int}
theorem zgV (D:Ris t.place)(F:t.dummies = #[]):∀ (q n:Nat),(∃N,n<=N/\N<n+q/\∀i:Nat,t.place[i]?≠some (wk t.mask h N))->
  ∃N,n<=N/\(∀m,n<=m->m<N->∃i,t.place[i]?=some (wk t.mask h m)/\hashAt i≠h)/\
   (((∀i:Nat,t.place[i]?≠some (wk t.mask h N))/\SetTable.probe.go t hashAt h q (stp t.mask h n)=some (.empty (wk t.mask h N) none))\/
    ∃i,t.place[i]?=some (wk t.mask h N)/\hashAt i=h/\SetTable.probe.go t hashAt h q (stp t.mask h n)=some (.candidate (wk t.mask h N) i (stp t.mask h (N+1))))
 | 0,n,⟨N,h1,h2,_⟩=>by lia
 | q+1,n,⟨N,h1,h2,I⟩=>by
  rcases zoT D F (wk t.mask h n) with ⟨e,hn⟩ | ⟨i,e,hi⟩
  ·refine⟨n,ag _,fun m a b=>by lia,.inl ⟨hn,?_⟩⟩;show (match t.slot (wk t.mask h n) with | .empty=>some (SetTable.Met.empty (wk t.mask h n) (stp t.mask h n).dummy) | .dummy=>_ | .live i=>_)=_;rw[e,zfg]
  ·by_cases B:hashAt i=h
   ·refine⟨n,ag _,fun m a b=>by lia,.inr ⟨i,hi,B,?_⟩⟩;show (match t.slot (wk t.mask h n) with | .empty=>_ | .dummy=>_ | .live i=>if hashAt i==h then some (SetTable.Met.candidate (wk t.mask h n) i (t.advance (stp t.mask h n))) else _)=_;rw[e];show (if (hashAt i==h)=true then _ else _)=_;rw[if_pos (beq_iff_eq.mpr B)];rfl
   ·have Z:n≠N:=fun z=>by subst z;exact I i hi
    obtain⟨N',a1,J,L⟩:=zgV D F q (n+1) ⟨N,by lia,by lia,I⟩
    have O:SetTable.probe.go t hashAt h (q+1) (stp t.mask h n)=SetTable.probe.go t hashAt h q (stp t.mask h (n+1)):=by show (match t.slot (wk t.mask h n) with | .empty=>_ | .dummy=>_ | .live i=>if hashAt i==h then _ else SetTable.probe.go t hashAt h q (t.advance (stp t.mask h n)))=_;rw[e];show (if (hashAt i==h)=true then _ else _)=_;rw[if_neg (fun z=>B (beq_iff_eq.mp z))];rfl
    refine⟨N',by lia,fun m b1 U=>?_,?_⟩
    ·by_cases Y:m=n
     ·subst Y;exact⟨i,hi,B⟩
     ·exact J m (by lia) U
    ·rw[O];exact L
end
section
variable {prog:Program}{w:World}
abbrev tk (prog:Program)(w:World):HeapKind prog w (List Key):=tupleKind (zR prog w)
def zsp (t:SetTable)(h:Int)(i:Nat):Prop:=∃n,n<10 * SetTable.turns t.mask/\t.place[i]?=some (wk t.mask h n)/\∀m,m<n->∃q:Nat,t.place[q]?=some (wk t.mask h m)
def zap (m:Nat):Prop:=m=7\/m=31\/m=127\/m=511
theorem zap.ring {m:Nat}(h:zap m):Ring (m+1):=by
 rcases h with rfl | rfl | rfl | rfl
 ·exact ztL
 ·exact zrd
 ·exact zoJ
 ·exact zoK
theorem zap.le {m:Nat}(h:zap m):7<=m/\m<=511:=by rcases h with rfl | rfl | rfl | rfl <;> lia
theorem zap.odd {m:Nat}(h:zap m):(m % 2==0)=false:=by rcases h with rfl | rfl | rfl | rfl <;> rfl
structure Tb (prog:Program)(w:World)(t:SetTable)(es:Array (Int×Value))(xs:List (List Key×Addr)):Prop where
 eq:es.toList=xs.map fun q=>((tk prog w).hash q.1,Value.ref q.2)
 nd:(xs.map (·.1)).Nodup
 dm:t.dummies = #[]
 ris:Ris t.place
 le:∀ (i j:Nat),t.place[i]?=some j->j<=t.mask
 sz:t.place.size=xs.length
 msk:zap t.mask
 few:xs.length<=t.mask
 plain:t.plain=true
 led:t.led = !w.params.followText "set-order"
 reach:∀ (i:Nat) (q:List Key×Addr),xs[i]?=some q->zsp t ((tk prog w).hash q.1) i
variable {t:SetTable}{es:Array (Int×Value)}{xs:List (List Key×Addr)}
theorem Tb.size (T:Tb prog w t es xs):es.size=xs.length:=by rw[<- aJ,T.eq,ab]
theorem Tb.get (T:Tb prog w t es xs){i:Nat}{q:List Key×Addr}(h:xs[i]?=some q):es[i]?=some ((tk prog w).hash q.1,Value.ref q.2):=by rw[<- cZ,T.eq,au,h];rfl
theorem Tb.at' (T:Tb prog w t es xs){i j:Nat}(h:t.place[i]?=some j):∃q,xs[i]?=some q:=by have:=(xI h).1;rw[T.sz] at this;exact⟨xs[i],ah this⟩
theorem Tb.fits (T:Tb prog w t es xs):t.fits es.size=true:=by unfold SetTable.fits SetTable.fill;rw[T.size,T.sz,T.dm];have:=T.few;simp;lia
theorem Tb.empty (T:Tb prog w t es xs)(h:Int):∃N,N<10 * SetTable.turns t.mask/\∀i:Nat,t.place[i]?≠some (wk t.mask h N):=by have:=T.few;obtain⟨j,q,B⟩:=zoL T.ris (M:=t.mask+1) (by rw[T.sz];lia);obtain⟨N,h1,h2⟩:=zlW T.msk.ring h (cM q);exact⟨N,h1,by rw[h2];exact B⟩
variable {A:Around}{E:Value->Shared->Prop}{s:Shared}
theorem zfv {k:Key}{v:Value}(h:(zR prog w).is k v=true):(∃i t,v = .int i t)\/∃x t,v = .str x t:=by
 rcases zZ h with ⟨i,t,_,e⟩ | ⟨x,t,_,e⟩
 ·exact .inl ⟨i,t,e⟩
 ·exact .inr ⟨x,t,e⟩
theorem zcd:∀ {ks:List Key} {vs:List Value},ItemsAre (zR prog w) ks vs->∀v∈vs,(∃i t,v = .int i t)\/∃x t,v = .str x t
 | _,_,.nil,v,h=>by simp at h
 | _,_,.cons h1 h2,v,h=>by
  rcases aE.mp h with rfl | h
  ·exact zfv h1
  ·exact zcd h2 v h
theorem zdd {k:List Key}{b:Addr}{Q:Bool->Shared->Prop}(I:(tk prog w).is s.heap k b)(h:Q false s):wpAny (model prog w) A (ofAClassStatement 8 (.ref b)) Q E s:=by
 have B:IsTupleKey (zR prog w) s.heap k b:=I;have J:=B.typeIs;obtain⟨o,items,n,L,_,O,hi⟩:=B;unfold ofAClassStatement;refine aa (cO J ?_);dsimp only;rw[if_pos (by decide)];refine aa (ac ?_);simp only[fE,aV,if_false];refine aa (wpAny_seqItems L O ?_);refine aa ?_;show wpAny _ _ (forIn items _ _) _ _ s;rw[<- Array.forIn_toList];refine fK _ (fun zV r s'=>r.1=none/\s'=s/\∀v∈zV,(∃i t,v=Value.int i t)\/∃x t,v=Value.str x t) _ ?_ ?_ _ _ ⟨rfl,rfl,zcd hi⟩
 ·rintro v zV r s' ⟨D,rfl,q⟩
  have e:ofAClassStatement 7 v=pure false:=by rcases q v ao with ⟨i,t,rfl⟩ | ⟨x,t,rfl⟩ <;> rfl
  rw[e];refine aa (ac ?_);simp only[aV,if_false];exact ac ⟨rfl,rfl,fun u F=>q u (am _ F)⟩
 ·rintro⟨U,Y⟩ s' ⟨D,rfl,_⟩;simp only at D;subst D;exact ac h
theorem zrN {k:List Key}{b:Addr}{Q:Bool->Shared->Prop}(L:(tk prog w).is s.heap k b):∀ (l:List Value),(∀v∈l,∃D q,v = .ref q/\(tk prog w).is s.heap D q)->Q false s->wpAny (model prog w) A (searchCouldBeSeen (.ref b) l) Q E s:=by
 intro l O h;unfold searchCouldBeSeen;refine aa ?_;refine fK _ (fun zV r s'=>r.1=none/\s'=s/\∀v∈zV,∃D q,v=Value.ref q/\(tk prog w).is s.heap D q) _ ?_ ?_ _ _ ⟨rfl,rfl,O⟩
 ·rintro v zV r s' ⟨I,rfl,B⟩;obtain⟨D,q,rfl,F⟩:=B v ao;have next:∀u∈zV,∃D q,u=Value.ref q/\(tk prog w).is s'.heap D q:=fun u J=>B u (am _ J);dsimp only;split
  ·exact ac ⟨rfl,rfl,next⟩
  ·refine aa ((tk prog w).quiet L ?_);simp only[fE,aV,if_false];refine aa ((tk prog w).quiet F ?_);simp only[fE,aV,if_false];refine aa (zdd L ?_);simp only[aV,if_false];refine aa (zdd F ?_);simp only[aV,if_false];exact ac ⟨rfl,rfl,next⟩
 ·rintro⟨U,Y⟩ s' ⟨I,rfl,_⟩;simp only at I;subst I;exact ac h
end
section
variable {prog:Program}{w:World}{t:SetTable}{es:Array (Int×Value)}{xs:List (List Key×Addr)}{A:Around}{E:Value->Shared->Prop}{s:Shared}
def zgm (t:SetTable)(xs:List (List Key×Addr))(h:Int)(k:List Key)(n:Nat):Prop:=∀m,m<n->∃ (i:Nat) (q:List Key×Addr),t.place[i]?=some (wk t.mask h m)/\xs[i]?=some q/\q.1≠k
theorem zfb {a b:Addr}{o:Obj}{ep:Nat}{k:List Key}{adding:Bool}{Q:SetFound->Shared->Prop}(hu:A.units<cLine)(T:Tb prog w t es xs)(hk:(tk prog w).is s.heap k b)(hel:∀q∈xs,(tk prog w).is s.heap q.1 q.2)
  (ho:s.heap.get? a=some o) (hd:o.data = .set es ep t)
  (found:∀r i q,xs[i]?=some q->q.1=k->(r=none\/r=some i)->Q (.there r) s)
  (free:∀N,N<10 * SetTable.turns t.mask->(∀i:Nat,t.place[i]?≠some (wk t.mask ((tk prog w).hash k) N))->zgm t xs ((tk prog w).hash k) k N->Q (.free (wk t.mask ((tk prog w).hash k) N) false) s) :
  ∀ (fuel n:Nat) (stand:Option SetTable.Probe),stand.getD (t.probeStart ((tk prog w).hash k))=stp t.mask ((tk prog w).hash k) n->10 * SetTable.turns t.mask<n+fuel->n<=10 * SetTable.turns t.mask->zgm t xs ((tk prog w).hash k) k n->
   wpAny (model prog w) A (setSearchFrom a (.ref b) ((tk prog w).hash k) adding fuel stand) Q E s
 | 0,n,stand,_,h2,h3,_=>by lia
 | fuel+1,n,stand,h1,h2,h3,h4=>by
  unfold setSearchFrom;refine aa (bG ho hd T.fits ?_);dsimp only;rw[show t.gaveWay=false from T.msk.odd];simp only[aV,if_false];rw[h1];obtain⟨N0,hN0,eN0⟩:=T.empty ((tk prog w).hash k)
  have hn0:n<=N0:=by
   rcases fM N0 n with q | q
   ·obtain⟨i,_,e,_⟩:=h4 N0 q;exact absurd e (eN0 i)
   ·exact q
  have pass:∀N,n<=N->(∀m,n<=m->m<N->∃i:Nat,t.place[i]?=some (wk t.mask ((tk prog w).hash k) m)/\(es[i]?.map (·.1)).getD 0≠(tk prog w).hash k)->zgm t xs ((tk prog w).hash k) k N:=fun N hN hh m hm=>by
   rcases fM m n with q | q
   ·exact h4 m q
   ·obtain⟨i,e1,e2⟩:=hh m q hm;obtain⟨q,hq⟩:=T.at' e1;refine⟨i,q,e1,hq,fun z=>e2 ?_⟩;rw[T.get hq,<- z];rfl
  obtain⟨N,hN,hp,hc⟩:=zgV (t:=t) (hashAt:=fun i=>(es[i]?.map (·.1)).getD 0) (h:=(tk prog w).hash k) T.ris T.dm (10 * SetTable.turns t.mask) n ⟨N0,hn0,by lia,eN0⟩
  have hNle:N<=N0:=by
   rcases fM N0 N with q | q
   ·obtain⟨i,e,_⟩:=hp N0 hn0 q;exact absurd e (eN0 i)
   ·exact q
  rcases hc with ⟨he,hg⟩ | ⟨i,hi,hh,hg⟩
  ·have hg':t.probe (fun i=>(es[i]?.map (·.1)).getD 0) ((tk prog w).hash k) (stp t.mask ((tk prog w).hash k) n)=some (.empty (wk t.mask ((tk prog w).hash k) N) none):=hg;have fin:=free N (by lia) he (pass N hN hp);generalize hm:SetTable.probe t _ _ _=met;have:met=some (.empty (wk t.mask ((tk prog w).hash k) N) none):=hm.symm.trans hg';rw[this];dsimp only;exact ac fin
  ·have hg':t.probe (fun i=>(es[i]?.map (·.1)).getD 0) ((tk prog w).hash k) (stp t.mask ((tk prog w).hash k) n)=some (.candidate (wk t.mask ((tk prog w).hash k) N) i (stp t.mask ((tk prog w).hash k) (N+1))):=hg;generalize hm:SetTable.probe t _ _ _=met;have:met=some (.candidate (wk t.mask ((tk prog w).hash k) N) i (stp t.mask ((tk prog w).hash k) (N+1))):=hm.symm.trans hg';rw[this];dsimp only;obtain⟨q,hq⟩:=T.at' hi;have hqe:=T.get hq;have hqk:=hel q (aG hq);have stl:t.slot (wk t.mask ((tk prog w).hash k) N) = .live i:=zaV T.ris hi
   have core:wpAny (model prog w) A (do
     let some (_,y):=es[i]? | unsupported "internal:set-entry"
     let equal <- holding [y] (eqBool y (.ref b))
     let (es',_,t') <- setState a
     if adding&&equal then return .there none
     let some smem:=t'.sameMemory t.moves t.mask | unsupported "set.changed-during-lookup:is-the-new-block-at-the-old-address"
     let still <- match (if smem then t'.slot (wk t.mask ((tk prog w).hash k) N) else .empty) with
      | .live i'=>match es'[i']? with
       | some (_,y')=>do pure (if <- isSame y' y then some i' else none)
       | none=>pure none
      | _=>pure none
     match still with
     | none=>rule "set.search.anew";setSearchFrom a (.ref b) ((tk prog w).hash k) adding fuel none
     | some i'=>if equal then return .there (some i') else setSearchFrom a (.ref b) ((tk prog w).hash k) adding fuel (some (stp t.mask ((tk prog w).hash k) (N+1)))) Q E s:=by
    rw[hqe];dsimp only;refine aa (bB ((tk prog w).eqBool hu hqk hk ?_));refine aa (bG ho hd T.fits ?_);dsimp only;by_cases hkk:q.1=k
    ·rw[aL hkk]
     cases adding with
     | true=>
      simp only[Bool.and_self,if_true];exact ac (found none i q hq hkk (.inl rfl))
     | false=>
      simp only[Bool.false_and,aV,if_false];have e1:t.sameMemory t.moves t.mask=some true:=by unfold SetTable.sameMemory;simp
      rw[e1];dsimp only;simp only[if_true];rw[stl];dsimp only;rw[hqe];dsimp only;refine aa (wpAny_isSame_ref_self (aa (ac ?_)));simp only[if_true];exact ac (found (some i) i q hq hkk (.inr rfl))
    ·rw[aO hkk];simp only[dE,aV,if_false];have e1:t.sameMemory t.moves t.mask=some true:=by unfold SetTable.sameMemory;simp
     rw[e1];dsimp only;simp only[if_true];rw[stl];dsimp only;rw[hqe];dsimp only;refine aa (wpAny_isSame_ref_self (aa (ac ?_)));simp only[if_true];refine zfb hu T hk hel ho hd found free fuel (N+1) _ rfl (by lia) (by lia) fun m hm=>?_;rcases Nat.lt_succ_iff_lt_or_eq.mp hm with z | z
     ·exact pass N hN hp m z
     ·subst z;exact⟨i,q,hi,hq,hkk⟩
   split
   ·refine aa (zrN hk _ (fun v hv=>?_) ?_)
    ·obtain⟨e,he,rfl⟩:=aH.mp hv
     have he':e∈es.toList:=by have:=dZ.mp he;exact dZ.mpr (Array.mem_filter.mp this).1
     rw[T.eq] at he';obtain⟨q',hq',rfl⟩:=aH.mp he';exact⟨_,_,rfl,hel q' hq'⟩
    ·simp only[aV,if_false];exact core
   ·exact core
end
def zeK {α:Type}(l:List α)(p:Nat)(x:α):List α:=l.take p++x::l.drop p
theorem zfJ {α:Type}{l:List α}{p i:Nat}{x:α}(q:p<=l.length)(h:i<p):(zeK l p x)[i]?=l[i]?:=by unfold zeK;rw[a9 (by rw[aN];lia),dh h]
theorem zfH {α:Type}{l:List α}{p:Nat}{x:α}(q:p<=l.length):(zeK l p x)[p]?=some x:=by unfold zeK;rw[bc (by rw[aN];lia),aN,show p - min p l.length=0 by lia];rfl
theorem zfI {α:Type}{l:List α}{p i:Nat}{x:α}(q:p<=l.length)(h:p<=i):(zeK l p x)[i+1]?=l[i]?:=by unfold zeK;rw[bc (by rw[aN];lia),aN,show i+1 - min p l.length=(i - p)+1 by lia,bK,du,show p+(i - p)=i by lia]
theorem zdE {α:Type}{l:List α}{p:Nat}{x:α}(q:p<=l.length):(zeK l p x).length=l.length+1:=by unfold zeK;rw[ai,aS,aN,bD];lia
theorem zkX {α q:Type}(f:α->q)(l:List α)(p:Nat)(x:α):(zeK l p x).map f=zeK (l.map f) p (f x):=by unfold zeK;rw[ax,aq,el,fD]
theorem ziB {α:Type}(l:List α)(p:Nat)(x:α):(zeK l p x).Perm (x::l):=by unfold zeK;refine List.perm_middle.trans ?_;rw[dQ]
theorem yC {α:Type}(xs:Array α){p:Nat}(x:α):(SetTable.insertAt xs p x).toList=zeK xs.toList p x:=by unfold SetTable.insertAt zeK;rw[Array.toList_append,Array.toList_push,Array.toList_extract,Array.toList_extract,List.extract_eq_take_drop,List.extract_eq_take_drop];rw[eO,dF,bF];congr 1;show x::_=_;congr 1;show []++List.take _ (List.drop p xs.toList)=_;rw[eA];refine bY ?_;rw[bD,aJ];exact ag _
theorem zbu {α:Type}(xs:Array α)(i:Nat):xs[i]?=xs.toList[i]?:=(cZ).symm
theorem zfK {xs:Array Nat}{p j i v:Nat}(B:p<=xs.size)(h:xs[i]?=some v):(SetTable.insertAt xs p j)[if i<p then i else i+1]?=some v:=by
 rw[zbu,yC];rw[zbu] at h;have q:p<=xs.toList.length:=by rw[aJ];exact B
 split
 ·rename_i hi;rw[zfJ q hi,h]
 ·rename_i hi;rw[zfI q (by lia),h]
theorem zaF {xs:Array Nat}{p j i v:Nat}(F:p<=xs.size)(h:(SetTable.insertAt xs p j)[i]?=some v):(i=p/\v=j)\/(i<p/\xs[i]?=some v)\/∃B,i=B+1/\p<=B/\xs[B]?=some v:=by
 rw[zbu,yC] at h;have D:p<=xs.toList.length:=by rw[aJ];exact F
 rcases cw i p with q | q | q
 ·rw[zfJ D q,<- zbu] at h;exact .inr (.inl ⟨q,h⟩)
 ·subst q;rw[zfH D] at h;cases h;exact .inl ⟨rfl,rfl⟩
 ·obtain⟨B,rfl⟩:∃B,i=B+1:=⟨i - 1,by lia⟩;rw[zfI D (by lia),<- zbu] at h;exact .inr (.inr ⟨B,rfl,by lia,h⟩)
theorem zhv {xs:Array Nat}(Z:Ris xs){j:Nat}(hn:∀i:Nat,xs[i]?≠some j):Ris (SetTable.insertAt xs (SetTable.below xs j) j):=by
 obtain⟨J,b2,b3⟩:=ud Z j;intro i F O h2;have e1:=zfG (xs:=SetTable.insertAt xs (SetTable.below xs j) j) (i:=i) (by lia);have I:=zfG h2;generalize (SetTable.insertAt xs (SetTable.below xs j) j).getD i 0=v at e1;generalize (SetTable.insertAt xs (SetTable.below xs j) j).getD F 0=L at I
 have U:∀i v,SetTable.below xs j<=i->xs[i]?=some v->j<v:=fun i v h e=>by
  obtain⟨Y,a2⟩:=xI e;have:=b3 i h Y;rcases fM j v with q | q
  ·exact q
  ·have:v=j:=by lia
   subst this;exact absurd e (hn i)
 have D:∀i v,i<SetTable.below xs j->xs[i]?=some v->v<j:=fun i v h e=>by obtain⟨Y,a2⟩:=xI e;have:=b2 i h;lia
 have B:∀i F v L,i<F->xs[i]?=some v->xs[F]?=some L->v<L:=fun i F v L h e I=>by
  obtain⟨Y,a2⟩:=xI e;obtain⟨a3,a4⟩:=xI I;have:=Z i F h a3
  omega
 rcases zaF J e1 with ⟨rfl,rfl⟩ | ⟨q,e⟩ | ⟨i',rfl,q,e⟩
 ·rcases zaF J I with ⟨rfl,rfl⟩ | ⟨q',e'⟩ | ⟨i'',rfl,q',e'⟩
  ·lia
  ·lia
  ·exact U _ _ q' e'
 ·rcases zaF J I with ⟨rfl,rfl⟩ | ⟨q',e'⟩ | ⟨i'',rfl,q',e'⟩
  ·exact D _ _ q e
  ·exact B _ _ _ _ O e e'
  ·exact B _ _ _ _ (by lia) e e'
 ·rcases zaF J I with ⟨rfl,rfl⟩ | ⟨q',e'⟩ | ⟨i'',rfl,q',e'⟩
  ·lia
  ·lia
  ·exact B _ _ _ _ (by lia) e e'
section
variable {prog:Program}{w:World}{t:SetTable}{es:Array (Int×Value)}{xs:List (List Key×Addr)}
theorem zne {j:Nat}:SetTable.has #[] j=false:=rfl
theorem Tb.put (T:Tb prog w t es xs){k:List Key}{b:Addr}{N:Nat}(hN:N<10 * SetTable.turns t.mask)(he:∀i:Nat,t.place[i]?≠some (wk t.mask ((tk prog w).hash k) N))(hp:zgm t xs ((tk prog w).hash k) k N)
  (hk:k∉xs.map (·.1)) (hf:xs.length+1<=t.mask) (Y:wk t.mask ((tk prog w).hash k) N<=t.mask) :
  ∃L,Tb prog w (t.put (wk t.mask ((tk prog w).hash k) N)).1 (SetTable.insertAt es (t.put (wk t.mask ((tk prog w).hash k) N)).2 ((tk prog w).hash k,.ref b)) L/\L.Perm ((k,b)::xs):=by
 generalize hj:wk t.mask ((tk prog w).hash k) N=j at *;obtain⟨I,b2,b3⟩:=ud T.ris j;have Z:(t.put j).2=SetTable.below t.place j:=rfl
 have ht:(t.put j).1={ t with place:=SetTable.insertAt t.place (SetTable.below t.place j) j }:=by unfold SetTable.put;dsimp only;rw[T.dm,zne];simp only[aV,if_false]
 generalize ad:SetTable.below t.place j=p at *;have D:p<=xs.length:=by rw[<- T.sz];exact I
 have B:∀ {i v:Nat},t.place[i]?=some v->∃F:Nat,(SetTable.insertAt t.place p j)[F]?=some v:=fun {i v} h=>⟨_,zfK I h⟩;have O:=ziB xs p (k,b);refine⟨zeK xs p (k,b),?_,O⟩;rw[Z,ht];refine⟨?_,?_,T.dm,?_,?_,?_,T.msk,?_,T.plain,T.led,?_⟩
 ·rw[yC,T.eq,zkX]
 ·rw[(O.map (·.1)).nodup_iff,aq,cb];exact⟨hk,T.nd⟩
 ·have:=zhv T.ris he;rw[ad] at this;exact this
 ·intro i v e;rcases zaF I e with ⟨_,rfl⟩ | ⟨_,e'⟩ | ⟨_,_,_,e'⟩
  ·exact Y
  ·exact T.le _ _ e'
  ·exact T.le _ _ e'
 ·show (SetTable.insertAt t.place p j).size=_;rw[<- aJ,yC,zdE (by rw[aJ];exact I),zdE D,aJ,T.sz]
 ·show (zeK xs p (k,b)).length<=t.mask;rw[zdE D];exact hf
 ·intro i q J;rcases cw i p with z | z | z
  ·rw[zfJ D z] at J;obtain⟨n,h1,h2,h3⟩:=T.reach i q J;refine⟨n,h1,?_,fun m U=>?_⟩
   ·have:=zfK (j:=j) I h2;rw[if_pos z] at this;exact this
   ·obtain⟨F,e⟩:=h3 m U;exact B e
  ·subst z;rw[zfH D] at J;cases J;refine⟨N,hN,?_,fun m U=>?_⟩
   ·show (SetTable.insertAt t.place i j)[i]?=_;rw[zbu,yC,zfH (by rw[aJ];exact I)];exact congrArg some hj.symm
   ·obtain⟨F,q',e,_⟩:=hp m U;exact B e
  ·obtain⟨F,rfl⟩:∃F,i=F+1:=⟨i - 1,by lia⟩;rw[zfI D (by lia)] at J;obtain⟨n,h1,h2,h3⟩:=T.reach F q J;refine⟨n,h1,?_,fun m U=>?_⟩
   ·have:=zfK (j:=j) I h2;rw[if_neg (by lia)] at this;exact this
   ·obtain⟨F,e⟩:=h3 m U;exact B e
end
theorem zdP:∀ (n:Nat) {l:List Nat},l.Nodup->(∀x∈l,x<n)->l.length<=n
 | 0,l,_,h=>by
  cases l with
  | nil=>exact ag _
  | cons a _=>exact absurd (h a ao) (cL _)
 | n+1,l,B,h=>by
  by_cases D:n∈l
  ·have h1:=zdP n (B.erase n) fun x q=>by
    have:=(B.mem_erase_iff).mp q;have:=h x this.2;lia
   rw[List.length_erase_of_mem D] at h1;lia
  ·have:=zdP n B fun x q=>by
    have h1:=h x q;have:x≠n:=fun z=>D (z ▸ q);lia
   lia
theorem zaO {α:Type}[BEq α][LawfulBEq α]:∀ {l l':List α},l.Nodup->l'.Nodup->(∀x,x∈l↔x∈l')->l.Perm l'
 | [],l',_,_,h=>by
  cases l' with
  | nil=>exact .nil
  | cons a _=>exact absurd ((h a).mpr ao) (by simp)
 | a::l,l',B,q,h=>by
  have F:a∈l':=(h a).mp ao;refine List.Perm.trans (List.Perm.cons a ?_) (List.perm_cons_erase F).symm;rw[cb] at B;refine zaO B.2 (q.erase a) fun x=>?_;rw[q.mem_erase_iff];constructor
  ·intro D;exact⟨fun z=>B.1 (z ▸ D),(h x).mp (am _ D)⟩
  ·rintro⟨h1,h2⟩;rcases aE.mp ((h x).mpr h2) with z | z
   ·exact absurd z h1
   ·exact z
def St0 (q:Nat)(h:Int)(K:Nat):SetTable.Probe:=⟨(lp q h K).1,SetTable.runEnd q (lp q h K).1 - (lp q h K).1,(lp q h K).1,(lp q h K).2,none⟩
theorem ziY {q:Nat}{h:Int}{T K:Nat}(e:stp q h T=St0 q h K):stp q h (T+(SetTable.runEnd q (lp q h K).1 - (lp q h K).1)+1)=St0 q h (K+1):=by show (tm q).advance (stp q h (T+_))=_;rw[zef q h e _ (ag _),zdt q _ (eQ _)];rfl
theorem zqe (q:Nat)(h:Int):∀K,(lp q h K).1<=q
 | 0=>cM (e8 _ (eR _))
 | K+1=>cM (e8 _ (eR _))
theorem zcz {q i:Nat}(h:i<=q):SetTable.runEnd q i<=q/\i<=SetTable.runEnd q i:=by unfold SetTable.runEnd;split <;> lia
theorem zeE {q:Nat}{h:Int}{owner:Array (Option Nat)}(hs:owner.size=q+1):∀ (B K T:Nat),T<=10 * K->stp q h T=St0 q h K->(∀m,m<T->∃D,owner[wk q h m]?=some (some D))->
  (∃K',K<=K'/\K'<K+B/\owner[(lp q h K').1]?=some none)->
  ∃N,SetTable.layClean.free q owner B (lp q h K).1 (lp q h K).2=some (wk q h N)/\N<10 * (K+B)/\wk q h N<=q/\owner[wk q h N]?=some none/\∀m,m<N->∃D,owner[wk q h m]?=some (some D)
 | 0,K,T,_,_,_,⟨K',h1,h2,_⟩=>by lia
 | B+1,K,T,hT,eT,ad,⟨K',h1,h2,h3⟩=>by
  have a0:=zqe q h K;obtain⟨r1,r2⟩:=zcz a0;have r9:=zmC q (lp q h K).1
  have F:∀k,k<=SetTable.runEnd q (lp q h K).1 - (lp q h K).1->wk q h (T+k)=(lp q h K).1+k:=fun k O=>by show (stp q h (T+k)).j=_;rw[zef q h eT k O]
  have Y:∀k,k<=SetTable.runEnd q (lp q h K).1 - (lp q h K).1->∃u,owner[(lp q h K).1+k]?=some u/\owner.getD ((lp q h K).1+k) (some 0)=u:=fun k O=>by
   have al:(lp q h K).1+k<owner.size:=by lia
   exact⟨owner[(lp q h K).1+k],bh al,by simp[al]⟩
  show ∃N,(match (List.range (SetTable.runEnd q (lp q h K).1+1 - (lp q h K).1)).find? fun k=>(owner.getD ((lp q h K).1+k) (some 0)).isNone with
   | some k=>some ((lp q h K).1+k)
   | none=>SetTable.layClean.free q owner B (lp q h (K+1)).1 (lp q h (K+1)).2)=some (wk q h N)/\_
  cases hf:(List.range (SetTable.runEnd q (lp q h K).1+1 - (lp q h K).1)).find? fun k=>(owner.getD ((lp q h K).1+k) (some 0)).isNone with
  | some k=>
   obtain⟨hp,i,hi,an,ap⟩:=List.find?_eq_some_iff_getElem.mp hf;rw[bX] at an;subst an;rw[aj] at hi;have O:i<=SetTable.runEnd q (lp q h K).1 - (lp q h K).1:=by lia
   obtain⟨u,I,J⟩:=Y i O;rw[J] at hp
   have a4:u=none:=by
    cases u with
    | none=>rfl
    | some z=>exact absurd hp (by simp)
   subst a4;refine⟨T+i,by rw[F i O],by lia,by rw[F i O];lia,by rw[F i O];exact I,fun m hm=>?_⟩;by_cases Z:m<T
   ·exact ad m Z
   ·obtain⟨L,rfl⟩:∃L,m=T+L:=⟨m - T,by lia⟩;obtain⟨u,I,J⟩:=Y L (by lia);have:=ap L (by lia);rw[bX,J] at this;rw[F L (by lia),I]
    cases u with
    | none=>simp at this
    | some D=>exact⟨D,rfl⟩
  | none=>
   have as:=eS.mp hf
   have U:∀k,k<=SetTable.runEnd q (lp q h K).1 - (lp q h K).1->∃D,owner[(lp q h K).1+k]?=some (some D):=fun k O=>by
    obtain⟨u,I,J⟩:=Y k O;have:=as k (aP.mpr (by lia));rw[J] at this
    cases u with
    | none=>simp at this
    | some D=>exact⟨D,I⟩
   have a5:K≠K':=fun z=>by subst z;obtain⟨D,e⟩:=U 0 (aT _);rw[Nat.add_zero,h3] at e;cases e
   have av:∀m,m<T+(SetTable.runEnd q (lp q h K).1 - (lp q h K).1)+1->∃D,owner[wk q h m]?=some (some D):=fun m hm=>by
    by_cases Z:m<T
    ·exact ad m Z
    ·obtain⟨L,rfl⟩:∃L,m=T+L:=⟨m - T,by lia⟩;rw[F L (by lia)];exact U L (by lia)
   obtain⟨N,a1,a2,a3⟩:=zeE hs B (K+1) _ (by lia) (ziY eT) av ⟨K',by lia,by lia,h3⟩;exact⟨N,a1,by lia,a3⟩
structure Own (mask:Nat)(hs:List Int)(n:Nat)(owner:Array (Option Nat)):Prop where
 size:owner.size=mask+1
 lt:∀ (j i:Nat),owner[j]?=some (some i)->i<n
 inj:∀ (j j' i:Nat),owner[j]?=some (some i)->owner[j']?=some (some i)->j=j'
 reach:∀ (i:Nat) (h:Int),i<n->hs[i]?=some h->∃N,N<10 * SetTable.turns mask/\owner[wk mask h N]?=some (some i)/\∀m,m<N->∃i',owner[wk mask h m]?=some (some i')
theorem Own.gap {q:Nat}{J:List Int}{n:Nat}{owner:Array (Option Nat)}(o:Own q J n owner)(hn:n<=q):∃j,j<=q/\owner[j]?=some none:=by
 refine bO fun L=>?_
 have all:∀j,j<q+1->∃i,owner[j]?=some (some i):=fun j F=>by
  have B:j<owner.size:=by rw[o.size];exact F
  cases e:owner[j] with
  | none=>exact absurd ⟨j,cM F,by rw[bh B,e]⟩ L
  | some i=>exact⟨i,by rw[bh B,e]⟩
 have O:=zdP n (l:=(List.range (q+1)).map fun j=>((owner[j]?).join).getD 0) ?_ ?_
 ·rw[ab,aj] at O;lia
 ·refine bw.mpr (dj ?_ dX);intro a b U Y I e;refine I ?_;obtain⟨i,hi⟩:=all a (aP.mp U);obtain⟨Z,D⟩:=all b (aP.mp Y);rw[hi,D] at e;have:i=Z:=e;subst this;exact o.inj _ _ _ hi D
 ·intro x hx;obtain⟨j,F,rfl⟩:=aH.mp hx;obtain⟨i,hi⟩:=all j (aP.mp F);rw[hi];exact o.lt _ _ hi
theorem Own.step {B:Nat}{Z:List Int}{n:Nat}{owner:Array (Option Nat)}{h:Int}(o:Own B Z n owner)(hr:Ring (B+1))(hn:n<=B)(hh:Z[n]?=some h) :
  ∃j,SetTable.layClean.free B owner (SetTable.turns B) (SetTable.bits h % (B+1)) (SetTable.bits h)=some j/\Own B Z (n+1) (owner.setIfInBounds j (some n)):=by
 obtain⟨g,hg,eg⟩:=o.gap hn;have hb:(lp B h 13).1<B+1:=ff (zqe B h 13);obtain⟨k,hk,e⟩:=hr.reach hb (ff hg);obtain⟨N,h1,h2,h3,h4,h5⟩:=zeE o.size (SetTable.turns B) 0 0 (ag _) (h:=h) rfl (fun m O=>absurd O (cL _)) ⟨13+k,aT _,by unfold SetTable.turns;lia,by rw[zi6,e];exact eg⟩;have hj:wk B h N<owner.size:=by rw[o.size];lia
 have F:(owner.setIfInBounds (wk B h N) (some n))[wk B h N]?=some (some n):=by rw[eo];simp[hj]
 have D:∀j,j≠wk B h N->(owner.setIfInBounds (wk B h N) (some n))[j]?=owner[j]?:=fun j ad=>by rw[eo];rw[if_neg (fun z=>ad z.symm)]
 have I:∀j i,owner[j]?=some (some i)->(owner.setIfInBounds (wk B h N) (some n))[j]?=some (some i):=fun j i e=>by
  by_cases q:j=wk B h N
  ·rw[q,h4] at e;cases e
  ·rw[D j q];exact e
 refine⟨wk B h N,h1,by simp[o.size],fun j i e=>?_,fun j Y i e L=>?_,fun i h' hi J=>?_⟩
 ·by_cases q:j=wk B h N
  ·subst q;rw[F] at e;cases e;lia
  ·rw[D j q] at e;have:=o.lt _ _ e;lia
 ·by_cases q:j=wk B h N
  ·subst q;rw[F] at e;cases e;by_cases U:Y=wk B h N
   ·exact U.symm
   ·rw[D Y U] at L;have:=o.lt _ _ L;lia
  ·rw[D j q] at e;by_cases U:Y=wk B h N
   ·subst U;rw[F] at L;cases L;have:=o.lt _ _ e;lia
   ·rw[D Y U] at L;exact o.inj _ _ _ e L
 ·by_cases q:i=n
  ·subst q;rw[hh] at J;cases J;refine⟨N,by unfold SetTable.turns at *;lia,F,fun m O=>?_⟩;obtain⟨i',e⟩:=h5 m O;exact⟨i',I _ _ e⟩
  ·obtain⟨M,m1,m2,m3⟩:=o.reach i h' (by lia) J;refine⟨M,m1,I _ _ m2,fun m O=>?_⟩;obtain⟨i',e⟩:=m3 m O;exact⟨i',I _ _ e⟩
theorem zlm (q:Nat)(D:List Int):Own q D 0 (Array.replicate (q+1) none):=by
 have B:∀j i,(Array.replicate (q+1) (none:Option Nat))[j]?≠some (some i):=fun j i e=>by rw[Array.getElem?_replicate] at e;split at e <;> cases e
 exact⟨by simp,fun j i e=>absurd e (B j i),fun j F i e=>absurd e (B j i),fun i h hi=>absurd hi (cL _)⟩
theorem zgB {q:Nat}(J:Ring (q+1)):∀ (zV B:List Int) (owner:Array (Option Nat)),(B++zV).length<=q->Own q (B++zV) B.length owner->
  ∃D,zV.foldl (fun (acc:Option (Array (Option Nat)×Nat)) h=>acc.bind fun x=>(SetTable.layClean.free q x.1 (SetTable.turns q) (SetTable.bits h % (q+1)) (SetTable.bits h)).bind fun j=>some (x.1.setIfInBounds j (some x.2),x.2+1)) (some (owner,B.length))=some (D,(B++zV).length)/\Own q (B++zV) (B++zV).length D
 | [],B,owner,_,o=>by rw[cy] at o ⊢;exact⟨owner,rfl,o⟩
 | h::zV,B,owner,I,o=>by
  have O:B.length+(zV.length+1)<=q:=by rw[ai,aS] at I;exact I
  obtain⟨j,e,o'⟩:=o.step J (by lia) (h:=h) (by rw[bc (ag _),eQ];rfl);have F:B++h::zV=(B++[h])++zV:=by rw[bF];rfl
  have L:B.length+1=(B++[h]).length:=by rw[ai];rfl
  rw[F,L] at o';obtain⟨D,U,Y⟩:=zgB J zV (B++[h]) _ (by rw[<- F];exact I) o';refine⟨D,?_,by rw[F];exact Y⟩;rw[List.foldl_cons,F,<- U,<- L];congr 1;show (SetTable.layClean.free q owner (SetTable.turns q) (SetTable.bits h % (q+1)) (SetTable.bits h)).bind _=_;rw[e];rfl
theorem zeS {mask:Nat}(hr:Ring (mask+1))(hs:Array Int)(hl:hs.size<=mask):∃owner,SetTable.layClean mask hs=some owner/\Own mask hs.toList hs.size owner:=by
 obtain⟨owner,h1,h2⟩:=zgB hr hs.toList [] (Array.replicate (mask+1) none) (by rw[eA,aJ];exact hl) (zlm mask _);rw[eA,aJ] at h2;refine⟨owner,?_,h2⟩;unfold SetTable.layClean;have h1':hs.toList.foldl (fun (acc:Option (Array (Option Nat)×Nat)) h=>acc.bind fun x=>(SetTable.layClean.free mask x.1 (SetTable.turns mask) (SetTable.bits h % (mask+1)) (SetTable.bits h)).bind fun j=>some (x.1.setIfInBounds j (some x.2),x.2+1)) (some (Array.replicate (mask+1) none,0))=some (owner,([]++hs.toList).length):=h1;rw[<- Array.foldl_toList]
 have:(hs.toList.foldl (init:=some (Array.replicate (mask+1) (none:Option Nat),0)) fun acc h=>do
  let (owner,k) <- acc
  let j <- SetTable.layClean.free mask owner (SetTable.turns mask) (SetTable.bits h % (mask+1)) (SetTable.bits h)
  pure (owner.setIfInBounds j (some k),k+1))=some (owner,([]++hs.toList).length):=h1'
 rw[this];rfl
def yK (q:Nat)(owner:Array (Option Nat)):List (Nat×Nat):=(List.range (q+1)).filterMap fun j=>(owner.getD j none).map (j,·)
theorem xV {B:Nat}{I:List Int}{n:Nat}{owner:Array (Option Nat)}(o:Own B I n owner){j i:Nat}:(j,i)∈yK B owner↔owner[j]?=some (some i):=by
 unfold yK;rw[cV];constructor
 ·rintro⟨L,F,e⟩;obtain⟨O,D,J⟩:=aI.mp e;cases J;have q:j<owner.size:=by rw[o.size];exact aP.mp F
  have:owner.getD j none=owner[j]:=by simp[q]
  rw[this] at D;rw[bh q,D]
 ·intro e;obtain⟨q,D⟩:=cB.mp e;refine⟨j,aP.mpr (by rw[<- o.size];exact q),?_⟩;have:owner.getD j none=owner[j]:=by simp[q]
  rw[this,D];rfl
theorem zi2 (q:Nat)(owner:Array (Option Nat)):(yK q owner).Pairwise fun a b=>a.1<b.1:=by unfold yK;refine List.pairwise_filterMap.mpr ((List.pairwise_lt_range).imp ?_);intro a b B x D y F;obtain⟨i,_,rfl⟩:=aI.mp D;obtain⟨I,_,rfl⟩:=aI.mp F;exact B
theorem zi1 {q:Nat}{B:List Int}{owner:Array (Option Nat)}(o:Own q B B.length owner):((yK q owner).map (·.2)).Perm (List.range B.length):=by
 refine zaO ?_ dX fun i=>?_
 ·refine bw.mpr (dj ?_ (zi2 q owner));intro a b D F I e;have h1:=(xV o).mp D;have h2:=(xV o).mp F;rw[e] at h1;have:=o.inj _ _ _ h1 h2;lia
 ·rw[aP];constructor
  ·intro h;obtain⟨⟨j,J⟩,h1,rfl⟩:=aH.mp h;exact o.lt _ _ ((xV o).mp h1)
  ·intro h;obtain⟨N,_,e,_⟩:=o.reach i B[i] h (ah h);exact aH.mpr ⟨(_,i),(xV o).mpr e,rfl⟩
theorem zcy {α:Type}(l:List α):(List.range l.length).filterMap (fun i=>l[i]?)=l:=by
 have:∀ (n:Nat) (l:List α),n=l.length->(List.range n).filterMap (fun i=>l[i]?)=l:=by
  intro n
  induction n with
  | zero=>intro l h;cases l with | nil=>rfl | cons _ _=>simp at h
  | succ n q=>
   intro l h
   cases l with
   | nil=>simp at h
   | cons a l=>
    rw[List.range_succ_eq_map,bZ];show a::_=_;rw[eM];congr 1;exact q l (by simpa using h)
 exact this _ l rfl
section
variable {prog:Program}{w:World}{t:SetTable}{es:Array (Int×Value)}{xs:List (List Key×Addr)}
theorem Tb.laid (T:Tb prog w t es xs){B:Nat}(hm:zap B)(hl:xs.length<=B)(J O:Nat) :
  ∃t' F Z,SetTable.laid B J O t.led true (es.map (·.1))=some (t',F)/\(F.filterMap (es[·]?)).size=es.size/\Tb prog w t' (F.filterMap (es[·]?)) Z/\Z.Perm xs/\t'.mask=B:=by
 obtain⟨owner,e,o⟩:=zeS hm.ring (es.map (·.1)) (by rw[Array.size_map,T.size];exact hl)
 have hh:(es.map (·.1)).toList=xs.map fun q=>(tk prog w).hash q.1:=by rw[Array.toList_map,T.eq,aC];rfl
 have hsz:(es.map (·.1)).size=xs.length:=by rw[Array.size_map,T.size]
 rw[hh,hsz] at o;have o':Own B (xs.map fun q=>(tk prog w).hash q.1) (xs.map fun q=>(tk prog w).hash q.1).length owner:=by rw[ab];exact o
 have hp:=zi1 o';rw[ab] at hp
 have ad:((((yK B owner).map (·.2)).toArray).filterMap (es[·]?)).toList=((yK B owner).map (·.2)).filterMap (es.toList[·]?):=by rw[Array.toList_filterMap];congr 1;funext i;exact zbu es i
 have I:(((yK B owner).map (·.2)).filterMap (xs[·]?)).Perm xs:=by have:=hp.filterMap (xs[·]?);rw[zcy] at this;exact this
 have al:((yK B owner).map (·.2)).filterMap (es.toList[·]?)=(((yK B owner).map (·.2)).filterMap (xs[·]?)).map fun q=>((tk prog w).hash q.1,Value.ref q.2):=by rw[List.map_filterMap];congr 1;funext i;rw[T.eq,au]
 have U:∀ {c:Nat} {q:List Key×Addr},(((yK B owner).map (·.2)).filterMap (xs[·]?))[c]?=some q->∃j i,(yK B owner)[c]?=some (j,i)/\xs[i]?=some q:=by
  have a0:∀ (l:List (Nat×Nat)),(∀p∈l,p.2<xs.length)->∀ {c:Nat} {q:List Key×Addr},((l.map (·.2)).filterMap (xs[·]?))[c]?=some q->∃j i,l[c]?=some (j,i)/\xs[i]?=some q:=by
   intro l
   induction l with
   | nil=>intro _ c q h;simp at h
   | cons p l ih=>
    intro an c q h;have ap:=an p ao;rw[aq,bZ,ah ap] at h
    cases c with
    | zero=>
     refine⟨p.1,p.2,rfl,?_⟩;rw[ah ap];exact h
    | succ c=>exact ih (fun p' a1=>an p' (am _ a1)) (by simpa using h)
  intro c q h;refine a0 _ (fun p hp=>?_) h;obtain⟨j,i⟩:=p;exact o.lt _ _ ((xV o).mp hp)
 have D:∀ {c j i:Nat},(yK B owner)[c]?=some (j,i)->(((yK B owner).map (·.1)).toArray)[c]?=some j:=fun {c j i} h=>by rw[zbu];show ((yK B owner).map (·.1))[c]?=_;rw[au,h];rfl
 refine⟨_,_,((yK B owner).map (·.2)).filterMap (xs[·]?),by unfold SetTable.laid;rw[e];rfl,?_,⟨?_,?_,rfl,?_,?_,?_,hm,?_,rfl,by exact T.led,?_⟩,I,rfl⟩
 ·show ((((yK B owner).map (·.2)).toArray).filterMap (es[·]?)).size=es.size;rw[<- aJ,ad,al,ab,I.length_eq,T.size]
 ·exact ad.trans al
 ·rw[(I.map (·.1)).nodup_iff];exact T.nd
 ·intro i j as hj
  have Y:j<(yK B owner).length:=by
   have:(((yK B owner).map (·.1)).toArray).size=(yK B owner).length:=by simp
   rw[<- this];exact hj
  have av:i<(yK B owner).length:=bJ as Y;have:=b8.mp (zi2 B owner) i j av Y as;show (((yK B owner).map (·.1)).toArray).getD i 0<(((yK B owner).map (·.1)).toArray).getD j 0;have g:∀ {c:Nat} (hc:c<(yK B owner).length),(((yK B owner).map (·.1)).toArray).getD c 0=(yK B owner)[c].1:=fun {c} hc=>(xI (D (c:=c) (j:=(yK B owner)[c].1) (i:=(yK B owner)[c].2) (ah hc))).2;rw[g av,g Y];exact this
 ·intro c j hc;have L:((yK B owner).map (·.1))[c]?=some j:=by rw[zbu] at hc;exact hc
  rw[au] at L;obtain⟨⟨j',i'⟩,h1,rfl⟩:=aI.mp L;have h2:=(xV o).mp (aG h1);have:=(cB.mp h2).1;rw[o.size] at this;show j'<=B;lia
 ·show (((yK B owner).map (·.1)).toArray).size=_;have h1:(((yK B owner).map (·.1)).toArray).size=(yK B owner).length:=by simp
  rw[h1,I.length_eq];have:=hp.length_eq;rw[ab,aj] at this;exact this
 ·rw[I.length_eq];exact hl
 ·intro c q hq;obtain⟨j,i,h1,h2⟩:=U hq;have hi:=(ae.mp h2).1;obtain⟨N,n1,n2,n3⟩:=o.reach i ((tk prog w).hash q.1) hi (by rw[au,h2];rfl);have hj:=o.inj _ _ _ ((xV o).mp (aG h1)) n2;subst hj;refine⟨N,n1,D h1,fun m a2=>?_⟩;obtain⟨i',e'⟩:=n3 m a2;obtain⟨c',L,a3⟩:=bH.mp ((xV o).mpr e');exact⟨c',D (by rw[ah L,a3])⟩
end
section
variable {prog:Program}{w:World}{t:SetTable}{es:Array (Int×Value)}{xs:List (List Key×Addr)}{A:Around}{E:Value->Shared->Prop}{s:Shared}
def zfs (prog:Program)(w:World)(h:Heap)(a:Addr)(xs:List (List Key×Addr)):Prop:=∃o es q t,h.get? a=some o/\o.ExactSet/\o.data = .set es q t/\Tb prog w t es xs/\xs.length * 5<t.mask * 3
theorem zby {ns:List Int}{b:Addr}{Q:Bool->Shared->Prop}(U:(tk prog w).is s.heap (ns.map Sum.inl) b)(h:Q true s):wpAny (model prog w) A (hashByValue 8 (.ref b)) Q E s:=by
 have D:IsTupleKey (zR prog w) s.heap (ns.map Sum.inl) b:=U;have Y:=D.typeIs;obtain⟨o,items,n,Z,_,hd,hi⟩:=D
 have B:∀ {ns:List Int} {vs:List Value},ItemsAre (zR prog w) (ns.map Sum.inl) vs->∀v∈vs,∃i t,v=Value.int i t:=by
  intro ns
  induction ns with
  | nil=>intro vs h v I;cases h;simp at I
  | cons n ns ih=>
   intro vs h v I
   cases h with
   | cons h1 h2=>
    rcases aE.mp I with rfl | I
    ·have J:zfR (Sum.inl n) v=true:=h1;rcases zZ J with ⟨i,t,_,e⟩ | ⟨x,t,z,_⟩
     ·exact⟨i,t,e⟩
     ·cases z
    ·exact ih h2 v I
 unfold hashByValue;refine aa (wpAny_specialOf Y F.slot_tuple_hash.lookup ?_);dsimp only;refine aa (wpAny_seqItems Z hd ?_);refine aa ?_;show wpAny _ _ (forIn items _ _) _ _ s;rw[<- Array.forIn_toList];refine fK _ (fun zV r s'=>r.1=none/\s'=s/\∀v∈zV,∃i t,v=Value.int i t) _ ?_ ?_ _ _ ⟨rfl,rfl,B hi⟩
 ·rintro v zV r s' ⟨L,rfl,q⟩;obtain⟨i,t,rfl⟩:=q v ao;have e:hashByValue 7 (Value.int i t)=pure true:=rfl;rw[e];refine aa (ac ?_);simp only[fE,aV,if_false];exact ac ⟨rfl,rfl,fun u O=>q u (am _ O)⟩
 ·rintro⟨r1,r2⟩ s' ⟨L,rfl,_⟩;simp only at L;subst L;exact ac h
theorem zdi {h:Heap}{a:Addr}{o:Obj}{es:Array (Int×Value)}{q:Nat}{t:SetTable}{es':Array (Int×Value)}{t':SetTable}(D:h.get? a=some o)(B:o.data = .set es q t) :
  (h.update a (Obj.putSet es' t')).get? a=some { o with data:=.set es' (q+1) t' }:=by
 have:=cE (Obj.putSet es' t') D (by rw[putSet_of es' t' B];rfl);rw[putSet_of es' t' B] at this;exact this
theorem zlJ {a:Addr}{o:Obj}{ep wanted mask:Nat}{Q:Unit->Shared->Prop}(T:Tb prog w t es xs)(ho:s.heap.get? a=some o)(hx:o.ExactSet)(hd:o.data = .set es ep t)(hw:SetTable.sizeAbove wanted=mask+1)(hm:zap mask)(hl:xs.length * 5<mask * 3)
  (h:∀h' xs',Heap.SameBut a s.heap h'->zfs prog w h' a xs'->xs'.Perm xs->Q () { s with heap:=h' }):wpAny (model prog w) A (setRelay a wanted) Q E s:=by
 unfold setRelay;refine aa (bG ho hd T.fits ?_);dsimp only;have:=hm.le;rw[if_neg (by rw[hw,bV];lia)];obtain⟨t',order,xs',e,hsz,T',hp,hmk⟩:=T.laid hm (by lia) t.finger (t.movedTo mask)
 have e':t.relaid (es.map (·.1)) wanted=some (t',order):=by unfold SetTable.relaid;rw[hw,T.plain];exact e
 have core:∀ {R:Array (Int×Value)×SetTable->Shared->Prop},R (order.filterMap (es[·]?),t') s->wpAny (model prog w) A (do
   let some (t,order):=t.relaid (es.map (·.1)) wanted | unsupported "internal:set-table-without-room"
   let es':=order.filterMap (es[·]?)
   if es'.size != es.size then unsupported "internal:set-table-lost-an-element"
   pure (es',t)) R E s:=fun {R} hR=>by
  rw[e'];dsimp only;rw[hsz];simp only[bne_self_eq_false,aV,if_false]
  first | exact ac hR | exact aa (ac (ac hR))
 refine aa (core ?_);refine wpAny_storeSet_of ho hd ?_ (by rw[hsz,T.size,bV];lia);refine h _ xs' (bQ _ a _) ⟨_,_,_,t',zdi ho hd,hx,rfl,T',?_⟩ hp;rw[hp.length_eq,hmk];exact hl
theorem zpo {a b:Addr}{ns:List Int}{Q:Bool->Shared->Prop}(hu:A.units<cLine)(S:zfs prog w s.heap a xs)(hk:(tk prog w).is s.heap (ns.map Sum.inl) b)(a0:∀q∈xs,(tk prog w).is s.heap q.1 q.2)(hn:xs.length<300)
  (h:∀r h' n Y,Heap.SameBut a s.heap h'->zfs prog w h' a Y->((ns.map Sum.inl)∈xs.map (·.1)->Y=xs)->((ns.map Sum.inl)∉xs.map (·.1)->Y.Perm ((ns.map Sum.inl,b)::xs))->Q r { s with heap:=h',toks:=n }) :
  wpAny (model prog w) A (setAdd a (.ref b)) Q E s:=by
 obtain⟨o,es,ep,t,ho,hx,hd,T,B⟩:=S;unfold setAdd;refine bB (aa ((tk prog w).pyHash hu hk ?_));unfold setAddHashed;refine bB ?_;rw[show (100000:Nat)=99999+1 from rfl];unfold setAddHashedIn;refine aa (bG (s:={ s with toks:=s.toks+(tk prog w).draws (ns.map Sum.inl) }) ho hd T.fits ?_);dsimp only;rw[show byScan (.ref b) es=false from rfl];simp only[aV,if_false];unfold setSearch;have hm:=T.msk.le;have bd:t.fill=xs.length:=by unfold SetTable.fill;rw[T.sz,T.dm];rfl
 refine aa (zfb (s:={ s with toks:=s.toks+(tk prog w).draws (ns.map Sum.inl) }) hu T hk a0 ho hd ?found ?free 100000 0 none rfl (by unfold SetTable.turns;lia) (aT _) (fun m hm=>absurd hm (cL _)))
 case found=>
  intro r i q hq I _;dsimp only;have an:(ns.map Sum.inl)∈xs.map (·.1):=aH.mpr ⟨q,aG hq,I⟩;exact ac (h false s.heap _ xs (Heap.SameBut.refl a s.heap) ⟨o,es,ep,t,ho,hx,hd,T,B⟩ (fun _=>rfl) (fun z=>absurd an z))
 case free=>
  intro N hN he hp
  have Z:(ns.map Sum.inl)∉xs.map (·.1):=fun z=>by
   obtain⟨q,hq,I⟩:=aH.mp z;obtain⟨i,hi⟩:=List.mem_iff_getElem?.mp hq;obtain⟨n,h1,h2,h3⟩:=T.reach i q hi;rw[I] at h2 h3;rcases cw N n with z | z | z
   ·obtain⟨i',e⟩:=h3 N z;exact he i' e
   ·subst z;exact he i h2
   ·obtain⟨i',q',e1,e2,e3⟩:=hp n z
    have:i'=i:=by have a1:=zaV T.ris e1;have a2:=zaV T.ris h2;rw[a1] at a2;cases a2;rfl
    subst this;rw[hi] at e2;cases e2;exact e3 I
  dsimp only;refine aa (bG (s:={ s with toks:=s.toks+(tk prog w).draws (ns.map Sum.inl) }) ho hd T.fits ?_);dsimp only
  have ap:wk t.mask ((tk prog w).hash (ns.map Sum.inl)) N<=t.mask:=by
   have:∀ (h:Int) (n:Nat),wk t.mask h n<=t.mask/\(stp t.mask h n).j+(stp t.mask h n).more<=t.mask:=by
    intro h n
    induction n with
    | zero=>
     have h0:SetTable.bits h % (t.mask+1)<=t.mask:=cM (e8 _ (eR _));obtain⟨r1,r2⟩:=zcz h0;refine⟨h0,?_⟩;show SetTable.bits h % (t.mask+1)+(SetTable.runEnd t.mask (SetTable.bits h % (t.mask+1)) - SetTable.bits h % (t.mask+1))<=t.mask;lia
    | succ n ih=>
     show ((tm t.mask).advance (stp t.mask h n)).j<=t.mask/\((tm t.mask).advance (stp t.mask h n)).j+((tm t.mask).advance (stp t.mask h n)).more<=t.mask;by_cases a3:0<(stp t.mask h n).more
     ·rw[zgn _ _ a3];show (stp t.mask h n).j+1<=t.mask/\(stp t.mask h n).j+1+((stp t.mask h n).more - 1)<=t.mask;lia
     ·rw[zdt _ _ (by lia)];have h0:((stp t.mask h n).i * 5+1+(stp t.mask h n).perturb / 32) % (t.mask+1)<=t.mask:=cM (e8 _ (eR _));obtain⟨r1,r2⟩:=zcz h0;refine⟨h0,?_⟩;dsimp only;lia
   exact (this _ _).1
  obtain⟨a4,T1,ad⟩:=T.put (b:=b) hN he hp Z (by lia) ap;generalize as:t.put (wk t.mask ((tk prog w).hash (ns.map Sum.inl)) N)=tp at T1;obtain⟨L,p⟩:=tp;dsimp only at T1 ⊢
  have al:L.mask=t.mask:=by
   have:L=(t.put (wk t.mask ((tk prog w).hash (ns.map Sum.inl)) N)).1:=by rw[as]
   rw[this];rfl
  rw[T1.plain];simp only[if_true];refine aa (zby (s:={ s with toks:=s.toks+(tk prog w).draws (ns.map Sum.inl) }) hk ?_);simp only[if_true];have J:=ad.length_eq;rw[aS] at J;refine aa (wpAny_storeSet_of (s:={ s with toks:=s.toks+(tk prog w).draws (ns.map Sum.inl) }) ho hd ?_ (by rw[T1.size,bV];lia));have g1:=zdi (es':=SetTable.insertAt es p ((tk prog w).hash (ns.map Sum.inl),.ref b)) (t':=L) ho hd;have av:=bQ s.heap a (Obj.putSet (SetTable.insertAt es p ((tk prog w).hash (ns.map Sum.inl),.ref b)) L);simp only[Bool.not_false,Bool.true_and];have O:L.fill=xs.length+1:=by unfold SetTable.fill;rw[T1.sz,T1.dm,J];rfl
  by_cases U:L.tooFull=true
  ·rw[if_pos U];unfold SetTable.tooFull at U;rw[O,al] at U;have F:=bq U;rw[T.size]
   have next:∃D,SetTable.sizeAbove (SetTable.grown (xs.length+1))=D+1/\zap D/\(xs.length+1) * 5<D * 3:=by
    rcases T.msk with e | e | e | e
    ·rw[e] at F B;have:xs.length=4:=by lia
     rw[this];exact⟨31,by decide,.inr (.inl rfl),by lia⟩
    ·rw[e] at F B;have:xs.length=18:=by lia
     rw[this];exact⟨127,by decide,.inr (.inr (.inl rfl)),by lia⟩
    ·rw[e] at F B;have:xs.length=76:=by lia
     rw[this];exact⟨511,by decide,.inr (.inr (.inr rfl)),by lia⟩
    ·rw[e] at F B;lia
   obtain⟨D,m1,m2,m3⟩:=next;refine aa (zlJ (s:={ s with heap:=s.heap.update a (Obj.putSet (SetTable.insertAt es p ((tk prog w).hash (ns.map Sum.inl),.ref b)) L),toks:=s.toks+(tk prog w).draws (ns.map Sum.inl) }) T1 g1 hx rfl m1 m2 (by rw[J];exact m3) fun h' a5 a7 S2 bb=>?_);exact ac (h true h' _ a5 (av.trans a7) S2 (fun z=>absurd z Z) fun _=>bb.trans ad)
  ·rw[if_neg U];unfold SetTable.tooFull at U;rw[O,al] at U;have F:¬ ((xs.length+1) * 5 ≥ t.mask * 3):=fun z=>U (aL z);refine ac (h true _ _ a4 av ⟨_,_,_,L,g1,hx,rfl,T1,?_⟩ (fun z=>absurd z Z) fun _=>ad);rw[J,al];lia
end
open PySem PySem.Spec PyProof.Rows PySem.W
theorem zX:Slot "set_iterator" "__next__" "set_iterator.__next__" :=
 .of (owner := "set_iterator") (n := "__next__") (by rw[typeLookup_type,dR];kernel_rfl) (by decide +kernel) (by decide +kernel) (by decide +kernel)
  (by first | exact .inl (by decide +kernel) | exact .inr (by decide +kernel)) (by rw[isSubtype_type];kernel_rfl)
theorem um:Slot "set_iterator" "__iter__" "set_iterator.__iter__" :=
 .of (owner := "set_iterator") (n := "__iter__") (by rw[typeLookup_type,dR];kernel_rfl) (by decide +kernel) (by decide +kernel) (by decide +kernel)
  (by first | exact .inl (by decide +kernel) | exact .inr (by decide +kernel)) (by rw[isSubtype_type];kernel_rfl)
theorem xU:entryFor table "set_iterator.__next__" = some Builtin.«set_iterator.__next__»:=entryFor_of_tree (by kernel_rfl)
theorem zaD:entryFor table "set_iterator.__iter__" = some Builtin.«dict_keyiterator.__iter__»:=entryFor_alias (id' := "dict_keyiterator.__iter__") (by kernel_rfl) rfl (by decide +kernel) (by kernel_rfl)
theorem zcT:entryFor table "set.__iter__" = some Builtin.«frozenset.__iter__»:=entryFor_alias (id' := "frozenset.__iter__") (by kernel_rfl) rfl (by decide +kernel) (by kernel_rfl)
theorem uc (a:Value):argsOk "set_iterator.__next__" ⟨[a],[]⟩:=by unfold argsOk;kernel_rfl
theorem za5 (a:Value):argsOk "set_iterator.__iter__" ⟨[a],[]⟩:=by unfold argsOk;kernel_rfl
theorem ziu {α:Type}(next:Nat->Nat):∀ (n k:Nat) (left:List α) (q:Array α),left.length=n->(pickOrder.go next n k left q).toList.Perm (q.toList++left)
 | 0,k,left,q,h=>by have:left=[]:=bp h;subst this;show q.toList.Perm (q.toList++[]);rw[cy]
 | n+1,k,left,q,h=>by
  have B:next k % left.length<left.length:=e8 _ (by lia)
  show (match left[next k % left.length]? with
   | some x=>pickOrder.go next n (k+1) (left.eraseIdx (next k % left.length)) (q.push x)
   | none=>q).toList.Perm _
  rw[ah B];refine (ziu next n (k+1) _ _ (by rw[List.length_eraseIdx_of_lt B];lia)).trans ?_;rw[Array.toList_push,bF];refine List.Perm.append_left _ ?_
  have e:left=left.take (next k % left.length)++left[next k % left.length]::left.drop (next k % left.length+1):=by rw[<- List.drop_eq_getElem_cons B];exact (dQ _ _).symm
  rw[List.eraseIdx_eq_take_drop_succ];refine List.Perm.trans ?_ (List.Perm.of_eq e.symm);rw[List.singleton_append];exact List.perm_middle.symm
theorem ze6 {α:Type}(next:Nat->Nat)(xs:Array α):(pickOrder next xs).toList.Perm xs.toList:=by show (pickOrder.go next xs.size 0 xs.toList #[]).toList.Perm _;have:=ziu next xs.size 0 xs.toList #[] (aJ);rwa[show (#[]:Array α).toList++xs.toList=xs.toList from rfl] at this
section
variable {prog:Program}{w:World}{t:SetTable}{es:Array (Int×Value)}{xs:List (List Key×Addr)}{A:Around}{E:Value->Shared->Prop}{s:Shared}
def zll (w:World)(a:Addr)(q:Nat)(es:Array (Int×Value)):Array (Int×Value):=if w.params.followText "set-order" then pickOrder (w.params.setOrder a q) es else es
theorem ze4 (a:Addr)(q:Nat):(zll w a q es).toList.Perm es.toList:=by
 unfold zll;split
 ·exact ze6 _ _
 ·exact List.Perm.refl _
def yA (h:Heap)(B a:Addr)(q i n D:Nat):Prop:=∃o,h.get? B=some o/\o.cls = .type "set_iterator" /\ o.data = .fields #[.int q 0,.int i 0,.ref a,.int n 0,.int D 0]
theorem yA.typeIs {B a:Addr}{q i n D:Nat}(x:yA s.heap B a q i n D):s.TypeIs (.ref B) "set_iterator" := let ⟨o,ho,hc,_⟩:=x;⟨o,ho,hc⟩
structure SetIs (prog:Program)(w:World)(h:Heap)(a:Addr)(es:Array (Int×Value))(ep:Nat)(t:SetTable)(xs:List (List Key×Addr)):Prop where
 ob:∃o,h.get? a=some o/\o.ExactSet/\o.data = .set es ep t
 tb:Tb prog w t es xs
theorem zjk {it a:Addr}{slot i ep:Nat}{e:Int×Value}{Q:Option Value->Shared->Prop}(hit:yA s.heap it a slot i es.size ep)(S:SetIs prog w s.heap a es ep t xs)
  (hs:w.params.followText "set-order" = true\/SetTable.below t.place slot=i) (hx:(zll w a ep es)[i]?=some e)
  (hQ:∀h' slot',yA h' it a slot' (i+1) es.size ep->(w.params.followText "set-order" = true\/SetTable.below t.place slot'=i+1)->Heap.SameBut it s.heap h'->Q (some e.2) { s with heap:=h' }):wpAny (model prog w) A (pyNext (.ref it)) Q E s:=by
 obtain⟨o,ho,hc,hd⟩:=id hit;obtain⟨⟨os,hos,_,hds⟩,T⟩:=S;have hf:=T.fits;unfold pyNext
 refine aa (c4 (wpAny_callSpecial?_slot (name:=Str.ofString "__next__") hit.typeIs zX
  (bm zX hit.typeIs xU ?_ (uc _))))
 refine aa (ac ?_);refine aa (eV ho hd ?_);dsimp only;refine aa (eD hos hds hf ?_);rw[if_neg (by simp)]
 have upd2:∀slot':Nat,∃h',yA h' it a slot' (i+1) es.size ep/\Heap.SameBut it s.heap h'/\∀ {A':Around} {E':Value->Shared->Prop} {α:Type} {f:Sem α} {R:α->Shared->Prop},wpAny (model prog w) A' f R E' { s with heap:=h' }->wpAny (model prog w) A' (do setField (.ref it) 0 (rawInt slot');setField (.ref it) 1 (rawInt ((i:Int)+1));f) R E' s:=by
  intro slot';have h1:(s.heap.update it (Obj.mapFields (·.setIfInBounds 0 (rawInt slot')))).get? it=some (Obj.mapFields (·.setIfInBounds 0 (rawInt slot')) o):=cE _ ho (dS (cG hd _));have hd1:(Obj.mapFields (·.setIfInBounds 0 (rawInt slot')) o).data = .fields #[.int slot' 0,.int i 0,.ref a,.int es.size 0,.int ep 0]:=by rw[cG hd];simp[rawInt]
  refine⟨(s.heap.update it (Obj.mapFields (·.setIfInBounds 0 (rawInt slot')))).update it (Obj.mapFields (·.setIfInBounds 1 (rawInt ((i:Int)+1)))),⟨_,cE _ h1 (dS (cG hd1 _)),?_,?_⟩,(bQ ..).trans (bQ ..),fun {A' E' α f R} hR=>?_⟩
  ·rw[fg,fg];exact hc
  ·rw[cG hd1];simp[rawInt]
  ·exact aa (c8 ho hd (by simp) (aa (c8 (s:={ s with heap:=s.heap.update it (Obj.mapFields (·.setIfInBounds 0 (rawInt slot'))) }) h1 hd1 (by simp) hR)))
 unfold setNext
 cases hb:w.params.followText "set-order" with
 | true=>
  have hx':(pickOrder (w.params.setOrder a ep) es)[i]?=some e:=by unfold zll at hx;rw[if_pos hb] at hx;exact hx
  obtain⟨h',hi',sb',step⟩:=upd2 slot;refine aa ?_;refine aa (bG hos hds hf ?_);dsimp only;unfold setsByText;refine aa (aa (bu (ac ?_)));rw[show (model prog w).w=w from rfl,hb];simp only[if_true];rw[if_neg (by simp)];unfold setWalk;refine aa ?_;refine aa (bG hos hds hf ?_);dsimp only;unfold setsByText;refine aa (aa (bu (ac ?_)));rw[show (model prog w).w=w from rfl,hb];simp only[if_true];refine aa (bu (ac ?_));refine ac ?_;rw[show (model prog w).w=w from rfl];simp only[bf];rw[hx'];dsimp only[Option.map];exact step (ac ⟨_,rfl,ac (hQ h' slot hi' (.inl hb) sb')⟩)
 | false=>
  have hx':es[i]?=some e:=by unfold zll at hx;rw[if_neg (by rw[hb];exact aD)] at hx;exact hx
  have hsl:SetTable.below t.place slot=i:=by
   rcases hs with z | z
   ·rw[hb] at z;cases z
   ·exact z
  have hi:i<es.size:=(cB.mp hx').1;have hpl:t.place[i]?=some (t.place.getD i 0):=zfG (by rw[T.sz,<- T.size];exact hi);obtain⟨h',hi',sb',step⟩:=upd2 (t.place.getD i 0+1);refine aa ?_;refine aa (bG hos hds hf ?_);dsimp only;unfold setsByText;refine aa (aa (bu (ac ?_)));rw[show (model prog w).w=w from rfl,hb];simp only[aV,if_false];rw[if_neg (by show ¬ ((!t.plain&&decide (es.size > 1))=true);rw[T.plain];simp)];refine aa ?_;show wpAny _ _ (if (!t.led&&!es.isEmpty)=true then unsupported "set:maker-not-led" else pure ()) _ _ s;rw[if_neg (by rw[T.led,hb];simp)];refine ac ?_;simp only[bf];rw[hsl,hx',hpl];refine ac ?_;dsimp only;refine step (ac ⟨_,rfl,ac (hQ h' _ hi' (.inr ?_) sb')⟩);obtain⟨b1,b2,b3⟩:=ud T.ris (t.place.getD i 0+1);have hi2:=(xI hpl).1;rcases cw (SetTable.below t.place (t.place.getD i 0+1)) (i+1) with z | z | z
  ·have:=b3 i (by lia) hi2;lia
  ·exact z
  ·have h1:=b2 (i+1) z;have h2:=T.ris i (i+1) (ck i) (by lia);lia
theorem zli {I a:Addr}{q J:Nat}{Q:Option Value->Shared->Prop}(Z:A.handled=none)(B:yA s.heap I a q es.size es.size J)(S:SetIs prog w s.heap a es J t xs)
  (hs:w.params.followText "set-order" = true\/SetTable.below t.place q=es.size)
  (hQ:∀h',Heap.ExtBut I s.heap h'->Q none { s with heap:=h' }):wpAny (model prog w) A (pyNext (.ref I)) Q E s:=by
 obtain⟨o,L,hc,O⟩:=id B;obtain⟨⟨os,D,_,F⟩,T⟩:=S;have U:=T.fits;unfold pyNext
 refine aa (c4 (wpAny_callSpecial?_slot (name:=Str.ofString "__next__") B.typeIs zX
  (bm zX B.typeIs xU ?_ (uc _))))
 refine aa (ac ?_);refine aa (eV L O ?_);dsimp only;refine aa (eD D F U ?_);rw[if_neg (by simp)];unfold setNext;refine aa ?_;refine aa (bG D F U ?_);dsimp only;unfold setsByText;refine aa (aa (bu (ac ?_)))
 cases hb:w.params.followText "set-order" with
 | true=>
  rw[show (model prog w).w=w from rfl,hb];simp only[if_true];rw[if_neg (by simp)];unfold setWalk;refine aa ?_;refine aa (bG D F U ?_);dsimp only;unfold setsByText;refine aa (aa (bu (ac ?_)));rw[show (model prog w).w=w from rfl,hb];simp only[if_true];refine aa (bu (ac ?_));refine ac ?_;rw[show (model prog w).w=w from rfl];simp only[bf]
  have hn:(pickOrder (w.params.setOrder a J) es)[es.size]?=none:=by rw[zbu];refine bA ?_;rw[(ze6 _ es).length_eq,aJ];exact ag _
  rw[hn];dsimp only[Option.map];refine aa (c8 L O (by simp) ?_);show wpAny _ _ (newExc (.type "StopIteration") [] >>= _) _ _ _;refine aa ?_;simp only[newExc,newTuple];refine aa (bj ?_ (by size_fits));refine aa (m:=firstArgMember _ _) (wpAny_of_eq (a:=Value.none) (by first | rfl | (simp only[firstArgMember];rfl)) ?_);refine bj ?_ (by size_fits);simp only[raiseNew];refine aa (wpAny_handled ?_);rw[show A.in1.handled=none from Z];refine aa (ac (wpAny_throw ?_));refine aa (cR (T := "StopIteration") (b:=true) ⟨_,aK _ rfl,rfl⟩ dH ?_);exact ac (hQ _ (((bQ ..).extBut.push _).push _))
 | false=>
  have Y:SetTable.below t.place q=es.size:=by
   rcases hs with z | z
   ·rw[hb] at z;cases z
   ·exact z
  rw[show (model prog w).w=w from rfl,hb];simp only[aV,if_false];rw[if_neg (by show ¬ ((!t.plain&&decide (es.size > 1))=true);rw[T.plain];simp)];refine aa ?_;show wpAny _ _ (if (!t.led&&!es.isEmpty)=true then unsupported "set:maker-not-led" else pure ()) _ _ s;rw[if_neg (by rw[T.led,hb];simp)];refine ac ?_;simp only[bf];rw[Y,Array.getElem?_eq_none (ag _)];refine ac ?_;dsimp only;refine aa (c8 L O (by simp) ?_);show wpAny _ _ (newExc (.type "StopIteration") [] >>= _) _ _ _;refine aa ?_;simp only[newExc,newTuple];refine aa (bj ?_ (by size_fits));refine aa (m:=firstArgMember _ _) (wpAny_of_eq (a:=Value.none) (by first | rfl | (simp only[firstArgMember];rfl)) ?_);refine bj ?_ (by size_fits);simp only[raiseNew];refine aa (wpAny_handled ?_);rw[show A.in1.handled=none from Z];refine aa (ac (wpAny_throw ?_));refine aa (cR (T := "StopIteration") (b:=true) ⟨_,aK _ rfl,rfl⟩ dH ?_);exact ac (hQ _ (((bQ ..).extBut.push _).push _))
theorem ziL {D a:Addr}{B i n F:Nat}{Q:Value->Shared->Prop}(q:yA s.heap D a B i n F)(h:Q (.ref D) s):wpAny (model prog w) A (pyIter (.ref D)) Q E s:=by refine fj q.typeIs um (bm um q.typeIs zaD ?_ (za5 _));show wpAny _ _ (ret (.ref D)) _ _ s;exact ac ⟨_,rfl,"set_iterator",_,q.typeIs,zX.lookup,h⟩
theorem SetIs.typeIs {a:Addr}{q:Nat}(S:SetIs prog w s.heap a es q t xs):s.TypeIs (.ref a) "set" := let ⟨o,ho,hc,_⟩:=S.ob;⟨o,ho,hc.1⟩
theorem zkZ {a:Addr}{I:Nat}{Q:Value->Shared->Prop}(S:SetIs prog w s.heap a es I t xs)
  (h:Q (.ref s.heap.objs.size) { s with heap:=s.heap.push { cls:=.type "set_iterator",data:=.fields #[.int 0 0,.int 0 0,.ref a,.int es.size 0,.int I 0] } }):wpAny (model prog w) A (pyIter (.ref a)) Q E s:=by
 have J:=S.typeIs;obtain⟨⟨L,q,O,B⟩,T⟩:=S;have D:=T.fits;refine fj J F.slot_set_iter (bm F.slot_set_iter J zcT ?_ (F.args_set_iter_1 _));unfold Builtin.«frozenset.__iter__»;refine aa (m:=Builtin.Frozenset.slot0 "__iter__" ⟨[.ref a],[]⟩) (ac ?_);refine aa ?_;unfold Builtin.Frozenset.sizeOf;refine aa (eD q B D (ac ?_));refine aa ?_;unfold setDrawn;refine aa (bG q B D ?_);dsimp only;unfold setsByText;refine aa (aa (bu (ac ?_)));refine ac ?_;rw[if_neg (by show ¬ ((!_&&(!t.plain&&decide (es.size > 1)))=true);rw[T.plain];simp)];refine aa (ac ?_);refine aa (wpAny_setEpoch_of q B D ?_);refine aa (bj (ac ⟨_,rfl,"set_iterator",_,⟨_,aK _ rfl,rfl⟩,zX.lookup,?_⟩));simpa [rawInt] using h
end
open PySem PySem.Spec PyProof.Rows PySem.W PySem.Calls
section
variable {prog:Program}{w:World}{t:SetTable}{es:Array (Int×Value)}{xs:List (List Key×Addr)}{A:Around}{E:Value->Shared->Prop}{s:Shared}
theorem zlN {r:Addr}{Q:Bool->Shared->Prop}(D:s.TypeIs (.ref r) "set")(h:Q false s):wpAny (model prog w) A (Builtin.List.listLengthHint (.ref r)) Q E s:=by
 unfold Builtin.List.listLengthHint;refine aa (wpAny_specialOf D PySem.F.slot_set_len.lookup ?_);generalize B:("set.__len__" : String)=id0
 wp_delta
 rw[show splitId id0=some ("set","__len__") from by subst B;decide +kernel];subst B;refine aa (cR (T := "set") (b:=true) D (by rw[isSubtype_type];kernel_rfl) ?_);refine wpAny_ite_split (fun q=>absurd q (by decide)) (fun _=>?_);refine wpAny_ite_split (fun _=>?_) (fun q=>absurd (by decide +kernel) q);refine aa (cO D ?_);exact ac h
theorem SetIs.keep {h h':Heap}{a:Addr}{q:Nat}(S:SetIs prog w h a es q t xs)(k:∀o,h.get? a=some o->h'.get? a=some o):SetIs prog w h' a es q t xs:=let ⟨⟨o,ho,r⟩,T⟩:=S;⟨⟨o,k o ho,r⟩,T⟩
theorem yA.keep {h h':Heap}{B a:Addr}{q i n D:Nat}(S:yA h B a q i n D)(k:∀o,h.get? B=some o->h'.get? B=some o):yA h' B a q i n D:=let ⟨o,ho,r⟩:=S;⟨o,k o ho,r⟩
theorem SetIs.lt {h:Heap}{a:Addr}{q:Nat}(S:SetIs prog w h a es q t xs):a<h.objs.size:=let ⟨⟨o,ho,_⟩,_⟩:=S;ay ho
theorem zj3 (hh:A.handled=none)(I a:Addr)(Z:a≠I)(F:Nat) :
  Walks prog w A I [I,a] [I] es.size (fun i v=>∃e,(zll w a F es)[i]?=some e/\v=e.2) (fun i h=>(∃q,yA h I a q i es.size F/\(w.params.followText "set-order" = true\/SetTable.below t.place q=i))/\SetIs prog w h a es F t xs) where
 sub:=fun b J=>by simp at J;simp[J]
 frame:=fun _ _ _ st hk=>⟨let ⟨Y,x,y⟩:=st.1;⟨Y,x.keep fun o e=>hk I (by simp) o e,y⟩,st.2.keep fun o e=>hk a (by simp) o e⟩
 item:=fun i s Q E hi st L=>by
  obtain⟨⟨Y,B,hs⟩,S⟩:=st
  have O:i<(zll w a F es).size:=by have:=(ze4 (w:=w) (es:=es) a F).length_eq;rw[aJ,aJ] at this;lia
  refine zjk B S hs (e:=(zll w a F es)[i]) (bh O) fun h' D U ad sb=>?_;exact L _ h' s.toks ⟨_,bh O,rfl⟩ ⟨⟨D,U,ad⟩,S.keep fun o e=>(sb.2 a Z).trans e⟩ fun b o J e=>sb.extBut b o (fun h=>J (by simp[h])) e
 done:=fun s Q E st L=>by obtain⟨⟨Y,B,hs⟩,S⟩:=st;exact zli hh B S hs fun h' al=>L h' s.toks fun b o J e=>al b o (fun h=>J (by simp[h])) e
 self:=fun _ _ _ _ st L=>let ⟨Y,x,_⟩:=st.1;ziL x L
theorem zoQ (a:Addr)(q:Nat):KdlSrc prog w "set" a a es.size (fun i v=>∃e,(zll w a q es)[i]?=some e/\v=e.2) (fun h=>SetIs prog w h a es q t xs) where
 type:=fun s S=>S.typeIs
 there:=fun _ S=>⟨S.lt,S.lt⟩
 keep:=fun _ _ S D=>S.keep fun o e=>D a (.inl rfl) o e
 notList:=by decide
 notTuple:=by decide
 hint:=fun _ _ _ _ S B=>zlN S.typeIs B
 iter:=fun A s F S=>⟨_,_,(fun _ _ B=>zkZ S B),zj3 F _ a (aM S.lt) q,⟨⟨0,⟨_,aK _ rfl,rfl,rfl⟩,.inr ?_⟩,S.keep fun o e=>af _ e⟩⟩
where finally
 have b:=ud S.tb.ris 0;rcases Nat.eq_zero_or_pos (SetTable.below t.place 0) with z | z
 ·exact z
 ·exact absurd (b.2.1 0 z) (cL _)
end
def zep (h:Heap)(L D:Addr)(v:Value)(st:List Int):Prop:=∃ (a:Addr) (items:List Value),v = .ref a/\IsTup h a items.toArray/\ya (st.map V.int) items/\a≠L/\a≠D
theorem zep.keep {h h':Heap}{L D:Addr}{v:Value}{st:List Int}(r:zep h L D v st)(q:∀b o,b≠L->b≠D->h.get? b=some o->h'.get? b=some o):zep h' L D v st:=by obtain⟨a,items,e,⟨o,B,F⟩,I,h1,h2⟩:=r;exact⟨a,items,e,⟨o,q a o h1 h2 B,F⟩,I,h1,h2⟩
theorem zc9 {h:Heap}{L D:Addr}:∀ {vs:List Value} {sts:List (List Int)},Paired (zep h L D) vs sts->(∀st∈sts,1<=st.length)->∃fs,W.KatTups h vs fs/\fs.length=sts.length/\∀f∈fs,∃a t,f=Value.int a t
 | _,_,.nil,_=>⟨[],trivial,rfl,fun _ h=>by simp at h⟩
 | _,_,.cons (b:=st) r I,h1=>by
  obtain⟨a,items,rfl,⟨o,J,O,n,U⟩,q,_⟩:=r;obtain⟨fs,Y,Z,f3⟩:=zc9 I fun z hz=>h1 z (am _ hz);have B:=h1 st ao
  match st,q,B with
  | z::zs,q,_=>
   cases q with
   | cons q1 qq=>
    obtain⟨t,rfl⟩:=q1;refine⟨_::fs,⟨⟨a,o,_,n,rfl,J,O,U,rfl⟩,Y⟩,by rw[aS,Z];rfl,fun f F=>?_⟩;rcases aE.mp F with rfl | F
    ·exact⟨_,_,rfl⟩
    ·exact f3 f F
theorem zbd {α q:Type}{R:α->q->Prop}:∀ {l:List α} {l':List q},Paired R l l'->∀ {i:Nat} (d:α) (d':q),i<l'.length->R (l.getD i d) (l'.getD i d')
 | _,_,.nil,i,_,_,h=>by simp at h
 | _,_,.cons r _,0,_,_,_=>r
 | _,_,.cons _ t,i+1,d,d',h=>by have:=zbd t (i:=i) d d' (by simpa using h);simpa using this
theorem zdf {α q:Type}{R:α->q->Prop}:∀ {l:List α} {l':List q},Paired R l l'->l.length=l'.length
 | _,_,.nil=>rfl
 | _,_,.cons _ t=>by rw[aS,aS,zdf t]
section
variable {prog:Program}{w:World}{A:Around}{E:Value->Shared->Prop}{s:Shared}
theorem zlc {L D:Addr}{m0:Str->Option Value}{vs:List Value}{n m:Nat}{sts:List (List Int)}{Q:Value->Shared->Prop}(hns:s.heap.Ns L m0)(hDL:D≠L)(ho:s.heap.get? D=some (seqObj "list" vs.toArray n))
  (hv:Paired (zep s.heap L D) vs sts) (h64:sts.length<64) (hm1:1<=m) (hm:∀st∈sts,st.length=m) (hnd:sts.Nodup)
  (h:∀h' c p,List.Perm p (List.range sts.length)->((p.map fun i=>sts.getD i []).Pairwise fun a b=>HT.lexLt a b=true)->(∀b o,b≠L->b≠D->s.heap.get? b=some o->h'.get? b=some o)->h'.Ns L m0->
   h'.get? D=some (seqObj "list" (p.map fun i=>vs.getD i .none).toArray c)->Q .none { s with heap:=h' }) :
  wpAny (model prog w) A (call (.builtin "list.sort") [.ref D]) Q E s:=by
 have hvl:=zdf hv;by_cases h2:2<=sts.length
 ·have hrest:∀p∈(zaR s.heap L).filter (fun q=>decide (q.1≠D)),s.heap.get? p.1=some p.2/\p.1≠L/\p.1≠D:=fun p hp=>by
   have h1:=aW.mp hp;have h2:=zU.mp (show (p.1,p.2)∈zaR s.heap L from h1.1);exact⟨h2.2,h2.1,bq h1.2⟩
  have none0:∀b,(⟨#[],{}⟩:Heap).get? b=none:=fun b=>by
   cases e:(⟨#[],{}⟩:Heap).get? b with
   | none=>rfl
   | some o'=>
    have:=ay e;simp at this
  refine W.kat_lsort (h₀:=(⟨#[],{}⟩:Heap)) (L:=L) (m:=m0) (D:=D) (its:=vs.toArray) (n:=n) (news:=(D,seqObj "list" vs.toArray n)::(zaR s.heap L).filter (fun q=>decide (q.1≠D))) (g:=fun o=>(D,o)::(zaR s.heap L).filter (fun q=>decide (q.1≠D))) ⟨hns,fun b o e=>?_,aT _⟩ (fun p hp=>?_) (W.UpdF.head fun q hq=>(hrest q hq).2.2) (vs:=vs) rfl (by lia) (by lia) fun e1 h' F N=>?_
  ·rw[none0] at e;cases e
  ·rcases aE.mp hp with rfl | hp
   ·exact⟨ho,hDL,none0 _⟩
   ·exact⟨(hrest p hp).1,(hrest p hp).2.1,none0 _⟩
  ·have kp:∀b o,b≠L->b≠D->s.heap.get? b=some o->h'.get? b=some o:=fun b o hb hD e=>(N (b,o) (am _ (aW.mpr ⟨zU.mpr ⟨hb,e⟩,aL hD⟩))).1;have hv':Paired (zep h' L D) vs sts:=Paired.mapP hv fun v st r=>r.keep kp;obtain⟨fs,k1,k2,k3⟩:=zc9 hv' fun st hst=>by rw[hm st hst];exact hm1
   refine W.kat_kind (T:=.type "int") (s:={ s with heap:=h' }) k1 (by lia) (fun f hf=>?_) (by decide) ?_
   ·obtain⟨a,t,rfl⟩:=k3 f hf;intro A' Q' E' s' _ hq;exact cO (fN s' a t) hq
   ·have hu:zbR sts.length (zch sts):=fun i j hi hj e=>by
     have e1:=xn hm hi hj;have e2:=xn hm hj hi;rw[e,aO (en _)] at e1;rw[e,aO (en _)] at e2;have gi:sts.getD i []=sts[i]:=by simp[hi]
     have gj:sts.getD j []=sts[j]:=by simp[hj]
     rcases uX (a:=sts.getD i []) (b:=sts.getD j []) (by rw[gi,gj,hm _ (bg hi),hm _ (bg hj)]) with h | h | h
     ·rw[gi,gj] at h;exact (cj hnd).mp h
     ·rw[h] at e1;cases e1
     ·rw[h] at e2;cases e2
    obtain⟨p,hrun,hup⟩:=zg3 hu h2;rw[show vs.length=sts.length by lia];refine hrun.wp (S:=fun s'=>s'={ s with heap:=h' }) (fun i j C s' hi hj hs' hC=>?_) (fun s' hs'=>?_) _ rfl
    ·subst hs';obtain⟨a1,it1,b1,c1,d1,_⟩:=zbd hv' .none [] hi;obtain⟨a2,it2,b2,c2,d2,_⟩:=zbd hv' .none [] hj;obtain⟨o1,ho1,_,n1,hd1⟩:=c1;obtain⟨o2,ho2,_,n2,hd2⟩:=c2;show wpAny _ _ (keyLt' _ (vs.getD i .none) (vs.getD j .none)) C _ _;rw[b1,b2]
     have gi:(sts.getD i []).length=m:=by
      have:sts.getD i []=sts[i]:=by simp[hi]
      rw[this];exact hm _ (bg hi)
     have gj:(sts.getD j []).length=m:=by
      have:sts.getD j []=sts[j]:=by simp[hj]
      rw[this];exact hm _ (bg hj)
     have l1:=d1.length;have l2:=d2.length;rw[ab] at l1 l2;refine W.kat_lt (s:={ s with heap:=h' }) ho1 hd1 ho2 hd2 ?_;rw[show decide (it1.toArray.size<it2.toArray.size)=false from aO (by simp;lia)];refine zdL 0 d1 d2 (by rw[gi,gj]) ?_;have:=hC { s with heap:=h' } rfl;rw[show zfm (zch sts) i j=HT.lexLt (sts.getD i []) (sts.getD j []) from xn hm hi hj] at this;exact this
    ·subst hs'
     have hpl:p.toList.Perm (List.range sts.length):=by have:=hup.perm.toList;simpa using this
     have hpi:∀i∈p.toList,i<sts.length:=fun i hi=>aP.mp ((hpl.mem_iff).mp hi);refine W.KasFin.intro F N (W.UpdF.head fun q' hq'=>(hrest q' hq').2.2) fun h'' c F'' N''=>?_;refine h h'' c p.toList hpl ?_ (fun b o hb hD e=>(N'' (b,o) (am _ (aW.mpr ⟨zU.mpr ⟨hb,e⟩,aL hD⟩))).1) F''.ns (N'' (D,_) ao).1;have hps:p.size=sts.length:=uj hup.perm;rw[b8];intro i j hi hj hij;rw[ab,aJ] at hi hj;have hk:=hup.lt_of hij (by lia);rw[cC,cC,c6,c6];have e1:p.getD i 0=p[i]:=by simp[hi]
     have e2:p.getD j 0=p[j]:=by simp[hj]
     unfold key at hk;rw[e1,e2] at hk;rw[<- xn hm (hpi _ (by simp)) (hpi _ (by simp))];exact aL hk
 ·refine bm slot_list_sort ⟨_,ho,rfl⟩ entry_list_sort ?_ (args_list_sort _);refine u9 ho (by lia) fun h' c kp hD=>⟨_,rfl,?_⟩;refine h h' c (List.range sts.length) (List.Perm.refl _) ?_ (fun b o _ hb e=>kp b o hb e) ?_ ?_
  ·rw[zaj]
   match sts,h2 with
   | [],_=>exact .nil
   | [_],_=>exact cu _ _
   | _::_::_,h2=>exact absurd (by simp) h2
  ·obtain⟨o,es,ep,g,k⟩:=hns;exact⟨o,es,ep,kp _ _ (Ne.symm hDL) g,k⟩
  ·rw[<- hvl,zaj];exact hD
end
theorem zbj {α L:Type}{f:α->L}{l m:List L}(h:l.Perm m):∀ {xs:List α},m=xs.map f->∃q:List α,q.Perm xs/\l=q.map f:=by
 induction h with
 | nil=>
  intro xs e;have:xs=[]:=by cases xs with | nil=>rfl | cons _ _=>cases e
  subst this;exact⟨[],.nil,rfl⟩
 | cons x _ O=>
  intro xs e
  cases xs with
  | nil=>cases e
  | cons y ys=>
   rw[aq] at e;injection e with F B;obtain⟨q,h1,h2⟩:=O B;exact⟨y::q,h1.cons y,by rw[aq,<- h2,F]⟩
 | swap x y l=>
  intro xs e
  match xs,e with
  | [],e=>cases e
  | [_],e=>cases e
  | a::b::r,e=>
   rw[aq,aq] at e;injection e with F B;injection B with B U;exact⟨b::a::r,.swap _ _ _,by rw[aq,aq,F,B,U]⟩
 | trans _ _ I J=>
  intro xs e;obtain⟨q,h1,h2⟩:=J e;obtain⟨D,Y,Z⟩:=I h2;exact⟨D,Y.trans h1,Z⟩
def zfo (P:Program)(w:World)(a:Addr)(xs:List (List Key×Addr)):HO:=.ext fun h=>zfs P w h a xs
def uN (xs:List (List Int×Addr)):List (List Key×Addr):=xs.map fun q=>(q.1.map Sum.inl,q.2)
theorem zgb {P:Program}{w:World}{H:Hp}{h:Heap}{a:Addr}{xs:List (List Key×Addr)}(S:zfs P w h a xs):yr P w H h a (zfo P w a xs):=by
 refine⟨S,?_,fun h1 h2 q k=>?_⟩
 ·obtain⟨o,_,_,_,B,_⟩:=S;exact⟨o,B⟩
 ·obtain⟨o,es,D,t,B,r⟩:=q;exact⟨o,es,D,t,k o B,r⟩
def zel (P:Program)(w:World)(H:Hp)(a:Addr)(ks:List (List Int)):Prop:=∃xs:List (List Int×Addr),H a=some (zfo P w a (uN xs))/\(∀q∈xs,H q.2=some (.tup (q.1.map V.int)))/\ks=xs.map (·.1)/\ks.Nodup
theorem zel.stay {P:Program}{w:World}{H H':Hp}{a:Addr}{ks:List (List Int)}(S:zel P w H a ks)(h:zv H H'):zel P w H' a ks:=by obtain⟨xs,h1,h2,B,D⟩:=S;exact⟨xs,h _ _ h1 (fun _ e=>by cases e),fun q F=>h.tup (h2 q F),B,D⟩
theorem zca:∀ns:List Int,(ns.map Sum.inl).map kV=ns.map V.int
 | []=>rfl
 | n::ns=>by rw[aq,aq,aq,zca ns];rfl
section
variable {X:Cx}
theorem ziT {pins:List (Addr×Obj)}{σ:St}{H:Hp}{s:Shared}(I:Inv X pins σ H s){b:Addr}{ns:List Int}(h:H b=some (.tup (ns.map V.int))):(tk X.prog X.w).is s.heap (ns.map Sum.inl) b:=by
 obtain⟨its,B,⟨o,D,F,n,J⟩,_⟩:=I.tuple (.of h);refine⟨o,its.toArray,n,D,F,J,?_⟩
 have q:∀ {ns:List Int} {its:List Value},ya (ns.map V.int) its->ItemsAre (zR X.prog X.w) (ns.map Sum.inl) its:=by
  intro ns
  induction ns with
  | nil=>intro its r;cases r;exact .nil
  | cons n ns L=>
   intro its r
   cases r with
   | cons O U=>
    obtain⟨t,rfl⟩:=O;exact .cons (zeP n t) (L U)
 exact q B
def zjR (P:Program)(w:World):List V->Hp->VK->Prop:=fun xs H Q=>∃ (a:Addr) (ks:List (List Int)) (m:Nat),xs=[.ref a]/\zel P w H a ks/\ks.length<64/\1<=m/\(∀st∈ks,st.length=m)/\
 ∀ (ys:List V) (q:List (List Int)),IsL H (q.map stD) ys->q.Perm ks->(q.Pairwise fun a b=>HT.lexLt a b=true)->New H (.lst ys) Q
theorem zgF {H:Hp}:∀ {xs:List (List Int×Addr)},(∀q∈xs,H q.2=some (.tup (q.1.map V.int)))->IsL H ((xs.map (·.1)).map stD) (xs.map fun q=>V.ref q.2)
 | [],_=>rfl
 | q::xs,h=>⟨_,_,rfl,⟨q.2,_,rfl,h q ao,IsL.ints⟩,zgF fun r B=>h r (am _ B)⟩
theorem zfk:∀ (xs:List (List Int×Addr)),ya (xs.map fun q=>V.ref q.2) (xs.map fun q=>Value.ref q.2)
 | []=>.nil
 | q::xs=>.cons rfl (zfk xs)
theorem zgu (hc:X.calm=true):CallQ X (.builtin "sorted") (zjR X.prog X.w):=⟨by
 intro pins s σ H xs us Q I r h;obtain⟨a,ks,m,rfl,⟨xs,hH,bl,rfl,bo⟩,a0,bs,hm,q⟩:=h;obtain⟨u,rfl,ru⟩:=za0 r;cases ru;obtain⟨⟨o,es,ep,t,ho,hx,hd,T,_⟩,_⟩:=(show yr X.prog X.w H s.heap a (zfo X.prog X.w a (uN xs)) from I.hok a _ hH);have S:SetIs X.prog X.w s.heap a es ep t (uN xs):=⟨⟨o,ho,hx,hd⟩,T⟩;obtain⟨m0,a1,_⟩:=id I.loc;have hsz:es.size=xs.length:=by rw[T.size];unfold uN;rw[ab]
 rw[ab] at a0
 have J:∀b,(⟨#[],{}⟩:Heap).get? b=none:=fun b=>by
  cases e:(⟨#[],{}⟩:Heap).get? b with
  | none=>rfl
  | some o'=>
   have:=ay e;simp at this
 have a2:=ze4 (w:=X.w) (es:=es) a ep;have bx:es.toList=xs.map fun q=>((tk X.prog X.w).hash (q.1.map Sum.inl),Value.ref q.2):=by rw[T.eq];unfold uN;rw[aC];rfl
 rw[bx] at a2;obtain⟨B,O,b0⟩:=zbj a2 rfl;refine kdu_sorted (h₀:=(⟨#[],{}⟩:Heap)) (L:=X.env.locals) (m:=m0) (news:=zaR s.heap X.env.locals) (zoQ (t:=t) (xs:=uN xs) a ep) (I.ok.hd hc) ⟨a1,fun b o e=>(by rw[J] at e;cases e),aT _⟩ (fun p hp=>?_) S (by rw[hsz,bV];lia) fun D h' a3 vs F N b1 hl hP=>?_
 ·obtain⟨b,o⟩:=p;have:=zU.mp hp;exact⟨this.2,this.1,J b⟩
 ·have a4:vs=B.map fun q=>Value.ref q.2:=by
   have b2:=O.length_eq;refine dW (by rw[hl,ab,b2,hsz]) fun j h1 h2=>?_;obtain⟨e,he,hv⟩:=hP j vs[j] (ah h1);rw[zbu,b0,au] at he;rw[ab] at h2;rw[ah h2] at he;rw[hv,cC,<- be he]
  have kp:∀b o,b≠X.env.locals->s.heap.get? b=some o->h'.get? b=some o:=fun b o hb e=>(N (b,o) (am _ (zU.mpr ⟨hb,e⟩))).1;have a5:D≠X.env.locals:=(N (D,_) ao).2.1
  have ad:s.heap.get? D=none:=by
   cases e:s.heap.get? D with
   | none=>rfl
   | some o=>exact absurd (b1 (D,o) (zU.mpr ⟨a5,e⟩)) (bU _)
  have al:H D=none:=by
   cases e:H D with
   | none=>rfl
   | some o=>
    obtain⟨o',Y⟩:=zaL (I.hok D o e);rw[ad] at Y;cases Y
  have Z:∀q∈B,H q.2=some (.tup (q.1.map V.int)):=fun q hq=>bl q ((O.mem_iff).mp hq)
  have a7:Paired (zep h' X.env.locals D) vs (B.map (·.1)):=by
   rw[a4]
   have b3:∀ (l:List (List Int×Addr)),(∀q∈l,H q.2=some (.tup (q.1.map V.int)))->Paired (zep h' X.env.locals D) (l.map fun q=>Value.ref q.2) (l.map (·.1)):=by
    intro l
    induction l with
    | nil=>intro _;exact .nil
    | cons q l ih=>
     intro hl;have hq:=hl q ao;obtain⟨items,rv,⟨o',Y,b4⟩,_⟩:=I.tuple (.of hq);have bb:=zc hq I.free;exact .cons ⟨q.2,items,rfl,⟨o',kp _ _ bb Y,b4⟩,rv,bb,zc hq al⟩ (ih fun r hr=>hl r (am _ hr))
   exact b3 B Z
  have an:=O.map (·.1);refine zlc (s:={ s with heap:=h',toks:=a3 }) F.ns a5 (N (D,_) ao).1 a7 (by rw[ab,O.length_eq];exact a0) bs (fun st ca=>hm st ((an.mem_iff).mp ca)) (an.nodup_iff.mpr bo) fun cl c p hp bd cc cd bk=>?_;have ap:∀i∈p,i<B.length:=fun i hi=>by have:=aP.mp ((hp.mem_iff).mp hi);rwa[ab] at this
  have U:(p.map fun i=>(B.map (·.1)).getD i [])=(p.map fun i=>B.getD i ([],0)).map (·.1):=by rw[aC];refine bR fun i hi=>?_;have:=ap i hi;simp[this]
  have as:(p.map fun i=>vs.getD i .none)=(p.map fun i=>B.getD i ([],0)).map fun q=>Value.ref q.2:=by rw[a4,aC];refine bR fun i hi=>?_;have:=ap i hi;simp[this]
  have ch:∀q∈(p.map fun i=>B.getD i ([],0)),H q.2=some (.tup (q.1.map V.int)):=fun q hq=>by
   obtain⟨i,hi,rfl⟩:=aH.mp hq;have h1:=ap i hi;have:B.getD i ([],0)=B[i]:=by simp[h1]
   rw[this];exact Z _ (bg h1)
  rw[as] at bk;rw[U] at bd;have av:p.length=xs.length:=by rw[hp.length_eq,aj,ab,O.length_eq]
  have I':=zdG I a1 (ys:=(p.map fun i=>B.getD i ([],0)).map fun q=>V.ref q.2) (fun b o hb e=>cc b o hb (fun z=>by rw[z,ad] at e;cases e) (kp b o hb e)) cd ad al bk (zfk _) (by rw[ab,ab,av,bV];lia) a3;refine⟨.ref D,_,I',rfl,(q _ ((p.map fun i=>B.getD i ([],0)).map (·.1)) (zgF ch) ?_ bd).at al⟩;refine List.Perm.trans ?_ an;rw[<- U];have:=hp.map fun i=>(B.map (·.1)).getD i [];rwa[zaj] at this⟩
end
open PySem PySem.Spec PyProof.Rows
theorem zey (elt target iter:Expr)(ifs:List Expr)(scope:Scope)(pos:Pos)(it acc:Value)(env:Env) :
  compTurn (.SetComp elt [⟨target,iter,ifs,0⟩] scope pos) 0 it acc env=(do
   standAt iter.pos
   match <- pyNext it with
   | none=>pure (.done .next)
   | some v=>
    letOwnedTupleGo target it v
    assign target env v
    let mut ok:=true
    for c in ifs do
     if ok then ok <- isTrue c env (eval c env)
    if ok then
     (do let v <- eval elt env;standAt elt.pos;let _ <- call (.builtin "set.add") [acc,v])
    again (.compLoop (.SetComp elt [⟨target,iter,ifs,0⟩] scope pos) 0 it acc env)):=by rfl
section
variable {prog:Program}{w:World}{A:Around}{E:Value->Shared->Prop}{R:Result->Shared->Prop}{s:Shared}
theorem uS {elt target iter ifs zV scope pos it acc env}
  (h0:codeAny (model prog w) A (.compLoop (.SetComp elt (⟨target,iter,ifs,0⟩::zV) scope pos) 0 it acc env) R s)
  (h:wpAny (model prog w) A (pyIter it) (fun it' s'=>codeAny (model prog w) A (.compLoop (.SetComp elt (⟨target,iter,ifs,0⟩::zV) scope pos) 0 it' acc env) R s')
   (notedBy (model prog w) A env fun x s'=>R (.error x) s') s) :
  codeAny (model prog w) A (.compStart (.SetComp elt (⟨target,iter,ifs,0⟩::zV) scope pos) 0 it acc env) R s:=by
 refine dv ?_;show wpAny _ _ ((compStart (.SetComp elt (⟨target,iter,ifs,0⟩::zV) scope pos) 0 it acc env).onRaise (fun x=>do noteFrame x env;standAt theWindowsPlace)) _ _ s;refine wpAny_notedAt ?_;unfold compStart;show wpAny _ _ (ask >>= _) _ _ s;refine aa (bu (wpAny_ite ?_));split
 ·first
   | exact aa (ac (ac (And.intro rfl h0)))
   | exact ac (And.intro rfl h0)
 ·first
   | exact aa (eu (aa (bC (aa (aX h (fun it' s' h'=>ac (And.intro rfl h')) fun _ _ x=>x)))))
   | (refine aa (eu ?_);show wpAny _ _ (standAt iter.pos >>= _) _ _ s;exact aa (bC (aa (aX h (fun it' s' h'=>ac (And.intro rfl h')) fun _ _ x=>x))))
theorem zbx {elt target iter:Expr}{ifs:List Expr}{scope:Scope}{pos:Pos}{it acc:Value}{env:Env}(I:Nat->Shared->Prop)
  (turn:∀n s,I n s->wpAny (model prog w) A (pyNext it) (fun r s₁=>match r with
   | none=>R (.ok .next) s₁
   | some v=>wpAny (model prog w) A (letOwnedTupleGo target it v) (fun _ s₂=>wpAny (model prog w) A (assign target env v) (fun _ s₃=>
     wpAny (model prog w) A (forIn ifs true fun c r=>if r=true then do let ok <- isTrue c env (eval c env);pure (ForInStep.yield ok) else pure (ForInStep.yield r)) (fun ok s₄=>
      if ok=true then wpAny (model prog w) A (eval elt env) (fun x s₅=>
       wpAny (model prog w) A (call (.builtin "set.add") [acc,x]) (fun _ s₆=>∃m,m<n/\I m s₆) (fun _ _=>False) s₅) (fun _ _=>False) s₄
      else ∃m,m<n/\I m s₄) (fun _ _=>False) s₃) (fun _ _=>False) s₂) (fun _ _=>False) s₁) (fun _ _=>False) s)
  (n:Nat) (h:I n s) :
  codeAny (model prog w) A (.compLoop (.SetComp elt [⟨target,iter,ifs,0⟩] scope pos) 0 it acc env) R s:=by
 refine eP rfl I (fun n s hI=>?_) n h;show wpAny _ A ((compTurn (.SetComp elt [⟨target,iter,ifs,0⟩] scope pos) 0 it acc env).onRaise (fun x=>do noteFrame x env;theTreesLotGoes x)) _ _ s;refine fB ?_;rw[zey];refine aa (bC (aa (aX (turn n s hI) (fun r s₁ h₁=>?_) fun _ _ h'=>h'.elim)))
 cases r with
 | none=>exact ac h₁
 | some v=>
  refine aa (aX h₁ (fun _ s₂ h₂=>?_) fun _ _ h'=>h'.elim);refine aa (aX h₂ (fun _ s₃ h₃=>aa (aX h₃ (fun ok s₄ h₄=>?_) fun _ _ h'=>h'.elim)) fun _ _ h'=>h'.elim)
  cases ok with
  | false=>exact ac ⟨rfl,h₄⟩
  | true=>
   exact aa (aa (aX h₄ (fun x s₅ h₅=>aa (bC (aa (aX h₅ (fun _ s₆ h₆=>ac (ac ⟨rfl,h₆⟩)) fun _ _ h'=>h'.elim)))) fun _ _ h'=>h'.elim))
theorem zji {Q:Value->Shared->Prop}(h:Q (.ref s.heap.objs.size) { s with heap:=s.heap.push { cls:=.type "set",dict:=none,data:=.set #[] 0 (.fresh 0 0 (!w.params.followText "set-order")) } }):wpAny (model prog w) A (newSet (.type "set")) Q E s:=by unfold newSet setsByText;refine aa (aa (bu (ac ?_)));dsimp only;simp only[newObj];exact aa (fF (ac h))
theorem zfc (h:Heap):zfs prog w (h.push { cls:=.type "set",dict:=none,data:=.set #[] 0 (.fresh 0 0 (!w.params.followText "set-order")) }) h.objs.size []:=by
 refine⟨_,#[],0,_,aK _ rfl,⟨rfl,rfl,rfl⟩,rfl,⟨rfl,eU,rfl,fun i j _ B=>?_,fun i j e=>?_,rfl,.inl rfl,aT _,rfl,rfl,fun i q e=>?_⟩,by show 0 * 5<7 * 3;decide⟩
 ·exact absurd B (cL _)
 ·simp[SetTable.fresh] at e
 ·simp at e
end
theorem xL:∀ {ns q:List Int},ns.map (Sum.inl:Int->Key)=q.map Sum.inl->ns=q
 | [],[],_=>rfl
 | [],_::_,e=>by cases e
 | _::_,[],e=>by cases e
 | n::ns,m::q,e=>by rw[aq,aq] at e;injection e with B D;rw[Sum.inl.inj B,xL D]
section
variable {X:Cx}
theorem zdn {pins:List (Addr×Obj)}{σ:St}{H:Hp}{s:Shared}{acc b:Addr}{ns:List Int}{ks:List (List Int)}{Q:Value->Shared->Prop}(hu:X.A.units+1<cLine)(I:Inv X pins σ H s)(S:zel X.prog X.w H acc ks)(hb:H b=some (.tup (ns.map V.int)))(hn:ks.length<300)
  (h:∀o ks' s',zel X.prog X.w (upd H acc o) acc ks'->(∀x,x∈ks'↔x=ns\/x∈ks)->ks'.length<=ks.length+1->Inv X pins σ (upd H acc o) s'->Q .none s') :
  wpAny (model X.prog X.w) X.A (call (.builtin "set.add") [.ref acc,.ref b]) Q X.xe s:=by
 obtain⟨xs,hH,hel,rfl,hnd⟩:=S;have hS:=(show yr X.prog X.w H s.heap acc (zfo X.prog X.w acc (uN xs)) from I.hok acc _ hH).1;obtain⟨o,es,ep,t,ho,hx,hd,T,hroom⟩:=id hS;refine bm F.slot_set_add ⟨o,ho,hx.1⟩ F.entry_set_add ?_ (F.args_set_add_2 _ _);unfold Builtin.«set.add»;refine aa (m:=Builtin.Frozenset.oneOther "add" ⟨[.ref acc,.ref b],[]⟩) (ac ?_);have hba:b≠acc:=zf0 hb hH (by intro z;cases z);have hea:∀q∈xs,q.2≠acc:=fun q hq=>zf0 (hel q hq) hH (by intro z;cases z);rw[ab] at hn;refine aa (zpo (A:=X.A.in1) (xs:=uN xs) (ns:=ns) (a8 (ag _) hu) hS (ziT I hb) (fun q hq=>?_) (by unfold uN;rw[ab];exact hn) fun r h' n xs' sb S' hin hout=>?_)
 ·unfold uN at hq;obtain⟨q',hq',rfl⟩:=aH.mp hq;exact ziT I (hel q' hq')
 ·
  have mem_key:∀ {l:List (List Int×Addr)},(ns.map Sum.inl)∈(uN l).map (·.1)↔ns∈l.map (·.1):=by
   intro l;unfold uN;rw[aC,aH,aH];constructor
   ·rintro⟨q,hq,e⟩;refine⟨q,hq,?_⟩;have e':q.1.map (Sum.inl:Int->Key)=ns.map Sum.inl:=e;exact xL e'
   ·rintro⟨q,hq,rfl⟩;exact⟨q,hq,rfl⟩
  have fin:∀xs2:List (List Int×Addr),xs'=uN xs2->(∀q∈xs2,q∈xs\/q=(ns,b))->(∀x,x∈xs2.map (·.1)↔x=ns\/x∈xs.map (·.1))->(xs2.map (·.1)).Nodup->xs2.length<=xs.length+1->wpAny (model X.prog X.w) X.A.in1 (do ret .none) (fun fin s'=>∃v,fin = .done (.ret v)/\Q v s') X.xe { s with heap:=h',toks:=n }:=by
   rintro xs2 rfl hsub hmem hnd2 hlen
   have hel2:∀q∈xs2,H q.2=some (.tup (q.1.map V.int)):=fun q hq=>by
    rcases hsub q hq with z | z
    ·exact hel q z
    ·rw[z];exact hb
   have hea2:∀q∈xs2,q.2≠acc:=fun q hq=>zf0 (hel2 q hq) hH (by intro z;cases z);refine ac ⟨.none,rfl,h (zfo X.prog X.w acc (uN xs2)) (xs2.map (·.1)) _ ⟨xs2,zj,fun q hq=>by rw[ze (hea2 q hq)];exact hel2 q hq,rfl,hnd2⟩ hmem (by rw[ab,ab];exact hlen) ?_⟩;refine I.write (e:=acc) (by rw[hH];trivial) (.inl rfl) (fun c u hc q=>sb.extBut c u hc q) ?_ (zgb S');obtain⟨o',_,_,_,ho',_⟩:=S';exact⟨o',ho'⟩
  by_cases hm:ns∈xs.map (·.1)
  ·have:=hin (mem_key.mpr hm);refine fin xs this (fun q hq=>.inl hq) (fun x=>⟨.inr,fun z=>z.elim (fun e=>e ▸ hm) id⟩) hnd (dB _)
  ·have hp:=hout fun z=>hm (mem_key.mp z);have hk:((ns.map Sum.inl,b)::uN xs)=uN ((ns,b)::xs):=rfl;rw[hk] at hp;obtain⟨xs2,hp2,e2⟩:=zbj hp rfl;refine fin xs2 e2 (fun q hq=>?_) (fun x=>?_) ?_ ?_
   ·rcases aE.mp ((hp2.mem_iff).mp hq) with z | z
    ·exact .inr z
    ·exact .inl z
   ·rw[(hp2.map (·.1)).mem_iff,aq,aE]
   ·rw[(hp2.map (·.1)).nodup_iff,aq,cb];exact⟨hm,hnd⟩
   ·rw[hp2.length_eq,aS];exact ag _
end
theorem zeB {env:Env}(elt gens scope pos):eval (.SetComp elt gens scope pos) env=comprehension (.SetComp elt gens scope pos) scope env (firstIterPos gens pos) (newSet (.type "set")) (firstAsync gens) (firstIter gens env):=rfl
def setT (P:Program)(w:World)(g:TG)(ti:TT)(te:TE)(acc:Addr)(N:St->Hp->Prop)(x:V)(σ:St)(H:Hp):Prop:=
 g x σ H fun q H3=>ti q H3 fun D H4=>if D=true then te q H4 fun v H5=>∃b ns ks,v = .ref b/\H5 b=some (.tup (ns.map V.int))/\zel P w H5 acc ks/\ks.length<300/\
  (∀o B,zel P w (upd H5 acc o) acc B->(∀x,x∈B↔x=ns\/x∈ks)->B.length<=ks.length+1->N q (upd H5 acc o)) else N q H4
def setG (P:Program)(w:World)(J:It)(g:TG)(ti:TT)(te:TE)(acc:Addr)(Q:VK)(σ:St)(H:Hp):Prop:=∃W:Nat->Nat->St->Hp->Prop,(∃m,W 0 m σ H)/\
 ∀i m q H',W i m q H'->(J.stop i H'/\Q (.ref acc) H')\/(J.go i H'/\∃N:St->Hp->Prop,(∀ B H2,N B H2->∃D,D<m/\W (i+1) D B H2)/\∀x H2,J.yld i H' x H2->setT P w g ti te acc N x q H2)
def zoZ (P:Program)(w:World)(q:TI)(g:TG)(ti:TT)(te:TE)(cix:List (Option Nat)):TE:=fun σ H Q=>q σ H fun J H1=>∀acc,H1 acc=none->zel P w (upd H1 acc (zfo P w acc [])) acc []->setG P w J g ti te acc Q (uR σ cix) (upd H1 acc (zfo P w acc []))
theorem zhs {X:Cx}{Y tg L:Expr}{Z:List Expr}{scope:Scope}{pos:Pos}{wi:TI}{g:TG}{ti:TT}{te:TE}{N:List Str}{cix:List (Option Nat)}(hu:X.A.units+1<cLine)(hc:X.calm=true)(c:CompOk X scope N cix)
  (hi:PI X tg L wi) (hg:∀C s H ex,PG (zu X scope N C s H ex) tg g) (ht:∀C s H ex,PTs (zu X scope N C s H ex) Z ti) (he:∀C s H ex,PE (zu X scope N C s H ex) Y te)
  (hs:∀x,foldedSetIterable L X.env x=pure x:=by intro _;rfl):PE X (.SetComp Y [⟨tg,L,Z,0⟩] scope pos) (zoZ X.prog X.w wi g ti te cix):=by
 intro pins s σ H Q I h;rw[zeB];refine bS (use:=none) rfl hs (xF (c.cells I.ok)) c.kind c.names (thn (hi pins s σ H _ I h) fun xv s1 h1=>thn h1 fun cd B h2=>?_);obtain⟨it,fp,tn,J,H2,e,I2,T,a0,f2,q2⟩:=h2;subst e;generalize a1:({ cls:=.type "set",dict:=none,data:=.set #[] 0 (.fresh 0 0 (!X.w.params.followText "set-order")) }:Obj)=ob;refine zji ?_;rw[a1];refine c5 c.cell (by intro y hy;simp at hy) (fun h4 al an=>?_) c.kind;dsimp only at al an ⊢;have ap:=I2.hok.fresh (ag B.heap.objs.size);have a2:zfs X.prog X.w (B.heap.push ob) B.heap.objs.size []:=by rw[<- a1];exact zfc _
 have I3:Inv X pins σ (upd H2 B.heap.objs.size (zfo X.prog X.w B.heap.objs.size [])) { B with heap:=B.heap.push ob,toks:=B.toks }:=I2.laid (t':=B.toks) (fun b u e=>af _ e) (ag _) (zgb a2);obtain⟨W,⟨m0,w0⟩,a3⟩:=q2 B.heap.objs.size ap ⟨[],zj,fun q hq=>by simp at hq,rfl,eU⟩
 have as:∀b∈fp,b<B.heap.objs.size:=fun b F=>by obtain⟨o,ho,_⟩:=T.obj _ _ a0 b F;exact ay ho
 have f3:∀b∈fp,zbt X pins (upd H2 B.heap.objs.size (zfo X.prog X.w B.heap.objs.size [])) b:=fun b F=>⟨by rw[ze (aM (as b F))];exact (f2 b F).1,(f2 b F).2⟩
 have kp:∀b o,(B.heap.push ob).get? b=some o->h4.get? b=some o:=fun b o e=>
  an.extBut b o (aM (ay e)) (af _ e)
 have a4:B.heap.objs.size<(B.heap.push ob).objs.size:=by rw[cI];exact ck _
 have I4:=zbG (tk:=B.toks+([]:List (Str×Value)).length) I3 c f3 (fun b F=>bJ (as b F) a4) al kp;have a5:tn 0 h4:=T.keep _ _ _ a0 fun b F o e=>kp b o (af _ e);generalize O:zu X scope N (B.heap.push ob).objs.size { B with heap:=B.heap.push ob,toks:=B.toks } (upd H2 B.heap.objs.size (zfo X.prog X.w B.heap.objs.size [])) fp=X' at I4;have pX:X'.prog=X.prog:=by rw[<- O];rfl
 have wX:X'.w=X.w:=by rw[<- O];rfl
 have KX:X'.K=X.K:=by rw[<- O];rfl
 have AX:X'.A=X.A:=by rw[<- O];rfl
 have cX:X'.calm=true:=by rw[<- O];exact hc
 have xX:X'.xe=fun _ _=>False:=by rw[<- O];rfl
 have eX:X'.env=compEnvC scope (zaB X.env scope.names []) (B.heap.push ob).objs.size X.env:=by rw[<- O];rfl
 have bx:PG X' tg g:=by rw[<- O];exact hg _ _ _ _
 have b0:PTs X' Z ti:=by rw[<- O];exact ht _ _ _ _
 have b1:PE X' Y te:=by rw[<- O];exact he _ _ _ _
 have f4:∀ {H':Hp},(∀b∈fp,H' b=none)->∀b∈fp,zbt X' [] H' b:=fun {H'} hn b F=>by
  refine⟨hn b F,?_,?_,.inl ?_,?_,?_⟩
  ·rw[eX];exact aM (bJ (as b F) a4)
  ·have e1:X'.fs=frs X.stack:=by rw[<- O];rfl
   rw[e1];intro z;rcases aE.mp (I2.stkSub b z) with e | e
   ·exact (f2 b F).2.1 e
   ·exact (f2 b F).2.2.1 e
  ·rw[<- O];exact F
  ·rw[eX];intro x a e;rcases yU (c.cells I.ok) e with z | z
   ·exact (f2 b F).2.2.2.2.1 x a z
   ·simp at z
  ·intro p hp;have e1:X'.pn++([]:List (Addr×Obj))=[]:=by rw[<- O];rfl
   rw[e1] at hp;simp at hp
 have bb:∀s4:Shared,s4={ B with heap:=h4,toks:=B.toks+([]:List (Str×Value)).length }->
   codeAny (model X.prog X.w) X.A (.compLoop (.SetComp Y [⟨tg,L,Z,0⟩] scope pos) 0 (.ref it) (.ref B.heap.objs.size) X'.env)
    (compPost (model X.prog X.w) X.A X.xe none (EP X pins σ Q) (.ref B.heap.objs.size) (B.heap.push ob).objs.size) s4:=by
  rintro s4 rfl;refine zbx (fun n s'=>∃i D H',Inv X' [] D H' s'/\tn i s'.heap/\(∀b∈fp,H' b=none)/\W i n D H') ?_ m0 ⟨0,uR σ cix,_,I4,a5,fun b F=>(f3 b F).1,w0⟩;rintro n s5 ⟨i,ad,H5,I5,bd,bk,w5⟩;rcases a3 i n ad H5 w5 with ⟨stop,qn⟩ | ⟨go,Nx,hN,step⟩
  ·have:=T.done X' pX wX KX cX i [] s5 ad H5 (fun _ _=>False) I5 (f4 bk) bd stop;rw[AX] at this;refine thn this  ?_;rintro r s6 ⟨hr,I6⟩;subst hr;obtain⟨m6,bl,_⟩:=I6.loc;rw[eX] at bl;refine⟨m6,bl,fun h7 b2=>?_⟩;have I6':=I6;rw[<- O] at I6';exact⟨.ref B.heap.objs.size,H5,zah I3 f3 I6' b2,rfl,qn⟩
  ·have:=T.item X' pX wX KX cX i [] s5 ad H5 (fun _ _=>False) I5 (f4 bk) bd go;rw[AX] at this;refine thn this  ?_;rintro r s6 ⟨u,hr,h6⟩;subst hr;refine thn h6  ?_;rintro _ s7 ⟨x,H7,I7,r7,y7,av,b3⟩;have I7':=I7.pinned (f4 b3) (T.obj _ _ av);have a7:=bx _ s7 ad H7 x u _ I7' r7 (step x H7 y7);rw[pX,wX,AX,xX] at a7;refine thn a7  ?_;rintro _ s8 ⟨bo,H8,I8,q8⟩;have t8:=b0 _ s8 bo H8 _ I8 q8;rw[pX,wX,AX,xX] at t8;refine thn t8  ?_;rintro ok s9 ⟨H9,I9,q9⟩
   have U:∀ {s':Shared} {D:St} {H':Hp},Inv X' ([]++xP fp s7.heap) D H' s'->Nx D H'->∃m,m<n/\∃i D H',Inv X' [] D H' s'/\tn i s'.heap/\(∀b∈fp,H' b=none)/\W i m D H':=fun {s' D H'} J' n'=>by obtain⟨m',hm,w'⟩:=hN D H' n';refine⟨m',hm,i+1,D,H',J'.unpinned,T.keep _ _ _ av fun b F o e=>(J'.pin (b,o) (ak _ (ak _ (zG F e)))).1,fun b F=>?_,w'⟩;obtain⟨o,e,d⟩:=T.obj _ _ av b F;exact (J'.pin (b,o) (ak _ (ak _ (zG F e)))).2.1
   cases ok with
   | false=>exact U I9 q9
   | true=>
    have e9:=b1 _ s9 bo H9 _ I9 q9;rw[pX,wX,AX,xX] at e9;refine thn e9  ?_;rintro u2 ch ⟨v,H10,I10,b4,ca⟩;obtain⟨b,ns,ks,rfl,F,S,hn,nx⟩:=ca;cases b4;have bs:=zdn (X:=X') (Q:=fun _ s'=>∃m,m<n/\∃i D H',Inv X' [] D H' s'/\tn i s'.heap/\(∀b∈fp,H' b=none)/\W i m D H') (by rw[AX];exact hu) I10 (by rw[pX,wX];exact S) F hn fun o cc s' S' hm hl I'=>U I' (nx o cc (by rw[pX,wX] at S';exact S') hm hl);rw[pX,wX,AX,xX] at bs;exact bs
 have l0:=bb _ rfl;rw[eX] at l0;exact uS l0 (T.self X.A 0 _ _ _ a5 l0)
theorem zhu {X:Cx}{pos:Pos}{te:TE}{B tg q:Expr}{D:List Expr}{scope:Scope}{F:TI}{g:TG}{ti:TT}{N:List Str}{cix:List (Option Nat)}(I:X.A.units+1<cLine)(J:X.calm=true)(c:CompOk X scope N cix)
  (hi:QI X tg q F) (L:∀C s H ex,QG (zu X scope N C s H ex) tg g) (O:∀C s H ex,QTs (zu X scope N C s H ex) D ti) (U:∀C s H ex,QE (zu X scope N C s H ex) B te)
  (Y:∀x,foldedSetIterable q X.env x=pure x:=by intro _;rfl):QE X (.SetComp B [⟨tg,q,D,0⟩] scope pos) (zoZ X.prog X.w F g ti te cix):=
 ⟨zhs I J c hi.run (fun C s H ex=>(L C s H ex).run) (fun C s H ex=>(O C s H ex).run) (fun C s H ex=>(U C s H ex).run) Y⟩
section
variable {P:Program}{w:World}{K:PySem.W.Frag}{a acc:Addr}{xs:List V}{g:TG}{ti:TT}{te:TE}{σ:St}{H:Hp}{Q:VK}
end
open PySem
theorem zj1 (H:Hp):y4 H H:=fun _ _ z=>z
open PySem PySem.Spec PyProof.Rows
section
variable {X:Cx}
end
open PySem PySem.Spec PyProof.Rows PySem.W PySem.Calls
section
variable {prog:Program}{w:World}{A:Around}{E:Value->Shared->Prop}{s:Shared}{es:Array DictEntry}
def zdq (h:Heap)(d:Addr)(es:Array DictEntry)(q:Nat):Prop:=∃o,h.get? d=some o/\o.ExactDict/\o.data = .dict es q
theorem zdq.typeIs {d:Addr}{q:Nat}(x:zdq s.heap d es q):s.TypeIs (.ref d) "dict" := let ⟨o,ho,hc,_⟩:=x;⟨o,ho,hc.1⟩
theorem ziK {d:Addr}{D:Nat}{Q:Value->Shared->Prop}(L:(d==sysModules)=false)(I:zdq s.heap d es D)
  (O:Q (.ref s.heap.objs.size) { s with heap:=s.heap.push { cls:=.type "dict_keyiterator",data:=.fields #[.ref d,.int 0 0,.int es.size 0,.int D 0] } }) :
  wpAny (model prog w) A (pyIter (.ref d)) Q E s:=by
 obtain⟨o,J,U,q⟩:=id I;have B:=I.typeIs;refine fj B PySem.F.slot_dict_iter (bm PySem.F.slot_dict_iter B PySem.F.entry_dict_iter ?_ (PySem.F.args_dict_iter_1 _));unfold Builtin.«dict.__iter__»;refine aa ?_;unfold Builtin.Dict.dictSlotNone;refine aa (wpAny_notOrdered_dict B ?_);show wpAny _ _ (pure (Value.ref d)) _ _ s;refine ac ?_;show wpAny _ _ (Builtin.Dict.showsAll d >>= _) _ _ s;unfold Builtin.Dict.showsAll;rw[if_neg (by rw[L];exact aD)];refine aa (ac ?_);refine aa (fm J q ?_);refine aa (wpAny_dictEpoch J q ?_);refine aa (bj (ac ⟨_,rfl,"dict_keyiterator",_,⟨_,aK _ rfl,rfl⟩,PySem.F.slot_dict_keyiterator_next.lookup,?_⟩));simpa [rawInt] using O
theorem zho {B d:Addr}{i L:Nat}{e:DictEntry}{Q:Option Value->Shared->Prop}(q:s.heap.IsKeyIter B d i es.size L)(Y:zdq s.heap d es L)(Z:es[i]?=some e)
  (hQ:∀h',h'.IsKeyIter B d (i+1) es.size L->Heap.SameBut B s.heap h'->Q (some e.key) { s with heap:=h' }):wpAny (model prog w) A (pyNext (.ref B)) Q E s:=by
 obtain⟨o,U,hc,O⟩:=id q;obtain⟨od,F,ad,I⟩:=id Y;unfold pyNext
 refine aa (c4 (wpAny_callSpecial?_slot (name:=Str.ofString "__next__") q.typeIs bT
  (bm bT q.typeIs de ?_ (c9 _))))
 refine aa (ac ?_);refine aa ?_;refine aa ?_
 first | refine aa (cm q.typeIs (ac ?_)) | refine aa (cN q.typeIs (ac ?_))
 refine aa (eV U O ?_);have J:Builtin.Dict_items.ownsTuple "dict_keyiterator" = false:=by decide
 simp only[J,aV,if_false];show wpAny _ _ (if (Value.ref d==Value.none)=true then _ else _) _ _ s;rw[if_neg (show ¬ ((Value.ref d==Value.none)=true) from aD)];refine aa (ac ?_);refine aa (fm F I ?_);rw[if_neg (by simp)];refine aa (ac ?_);refine aa (wpAny_dictEpoch F I ?_);rw[if_neg (by simp)];refine ac ?_;simp only[show ¬ ((i:Int)<0) from by lia,if_false,bf,Z];refine aa ?_
 first | refine aa (cm q.typeIs (ac ?_)) | refine aa (cN q.typeIs (ac ?_))
 refine aa (wpAny_isOneOf_keyiter q.typeIs ?_);show wpAny _ _ (setField (.ref B) 1 (rawInt ((i:Int)+1)) >>= _) _ _ s;refine aa (c8 U O (by simp) ?_)
 have D:(s.heap.update B (Obj.mapFields (·.setIfInBounds 1 (rawInt ((i:Int)+1))))).IsKeyIter B d (i+1) es.size L:=
  ⟨_,cE _ U (dS (cG O _)),(fg ..).trans hc,by rw[cG O];simp[rawInt]⟩
 refine aa (bB ?_);refine aa (wpAny_isOneOf_keyiter (s:={ s with heap:=s.heap.update B (Obj.mapFields (·.setIfInBounds 1 (rawInt ((i:Int)+1)))) }) D.typeIs ?_);show wpAny _ _ (pure e.key) _ _ _;exact ac (ac ⟨_,rfl,ac (hQ _ D (bQ ..))⟩)
theorem zjj {I d:Addr}{J:Nat}{Q:Option Value->Shared->Prop}(U:A.handled=none)(q:s.heap.IsKeyIter I d es.size es.size J)(Y:zdq s.heap d es J)
  (Z:∀h',Heap.ExtBut I s.heap h'->Q none { s with heap:=h' }):wpAny (model prog w) A (pyNext (.ref I)) Q E s:=by
 obtain⟨o,L,hc,O⟩:=id q;obtain⟨od,B,ad,D⟩:=id Y;unfold pyNext
 refine aa (c4 (wpAny_callSpecial?_slot (name:=Str.ofString "__next__") q.typeIs bT
  (bm bT q.typeIs de ?_ (c9 _))))
 refine aa (ac ?_);refine aa ?_;refine aa ?_
 first | refine aa (cm q.typeIs (ac ?_)) | refine aa (cN q.typeIs (ac ?_))
 refine aa (eV L O ?_);have F:Builtin.Dict_items.ownsTuple "dict_keyiterator" = false:=by decide
 simp only[F,aV,if_false];show wpAny _ _ (if (Value.ref d==Value.none)=true then _ else _) _ _ s;rw[if_neg (show ¬ ((Value.ref d==Value.none)=true) from aD)];refine aa (ac ?_);refine aa (fm B D ?_);rw[if_neg (by simp)];refine aa (ac ?_);refine aa (wpAny_dictEpoch B D ?_);rw[if_neg (by simp)];refine ac ?_;simp only[show ¬ ((es.size:Int)<0) from by lia,if_false,bf,Array.getElem?_eq_none (ag es.size)];refine aa ?_
 first | refine aa (cm q.typeIs (ac ?_)) | refine aa (cN q.typeIs (ac ?_))
 show wpAny _ _ (setField (.ref I) 0 .none >>= _) _ _ s;refine aa (c8 L O (by simp) ?_);show wpAny _ _ (newExc (.type "StopIteration") [] >>= _) _ _ _;refine aa ?_;simp only[newExc,newTuple];refine aa (bj ?_ (by size_fits));refine aa (m:=firstArgMember _ _) (wpAny_of_eq (a:=Value.none) (by first | rfl | (simp only[firstArgMember];rfl)) ?_);refine bj ?_ (by size_fits);simp only[raiseNew];refine aa (wpAny_handled ?_);rw[show A.in1.handled=none from U];refine aa (ac (wpAny_throw ?_));refine aa (cR (T := "StopIteration") (b:=true) ⟨_,aK _ rfl,rfl⟩ dH ?_);exact ac (Z _ (((bQ ..).extBut.push _).push _))
end
section
variable {prog:Program}{w:World}{A:Around}{E:Value->Shared->Prop}{s:Shared}
end
section
variable {X:Cx}
end
def zgG (kvs:List (List Int×V)):List (List Key×V):=kvs.map fun q=>(q.1.map Sum.inl,q.2)
def dtO (kvs:List (List Int×V)):HO:=.dT (zgG kvs)
theorem zgH (kvs:List (List Int×V))(st:List Int):zaZ (zgG kvs) (st.map Sum.inl)=zaZ kvs st:=by
 unfold zgG
 induction kvs with
 | nil=>rfl
 | cons q r B=>
  rw[aq];by_cases e:q.1=st
  ·rw[xk (p:=q) e,xk (p:=(q.1.map Sum.inl,q.2)) (by rw[e])]
  ·rw[xE (p:=q) e,xE (p:=(q.1.map Sum.inl,q.2)) (fun z=>e (xL z)),B]
theorem zk6 (kvs:List (List Int×V))(st:List Int)(v:V):zam (zgG kvs) (st.map Sum.inl) v=zgG (zam kvs st v):=by
 have B:∀q:List Int×V,decide ((q.1.map (Sum.inl:Int->Key))=st.map Sum.inl)=decide (q.1=st):=fun q=>by rw[b9,bz,bz];exact⟨xL,fun z=>by rw[z]⟩
 have D:((zgG kvs).any fun kv=>decide (kv.1=st.map Sum.inl))=kvs.any fun kv=>decide (kv.1=st):=by unfold zgG;rw[List.any_map];congr 1;funext q;exact B q
 unfold zam;rw[D];by_cases h:(kvs.any fun kv=>decide (kv.1=st))=true
 ·rw[if_pos h,if_pos h];unfold zgG;rw[aC,aC];refine bR fun q _=>?_;by_cases e:q.1=st
  ·show (if (q.1.map Sum.inl)=st.map Sum.inl then _ else _)=_;rw[if_pos (by rw[e])];show _=(fun q:List Int×V=>(q.1.map (Sum.inl:Int->Key),q.2)) (if q.1=st then (q.1,v) else q);rw[if_pos e]
  ·show (if (q.1.map Sum.inl)=st.map Sum.inl then _ else _)=_;rw[if_neg fun z=>e (xL z)];show _=(fun q:List Int×V=>(q.1.map (Sum.inl:Int->Key),q.2)) (if q.1=st then (q.1,v) else q);rw[if_neg e]
 ·rw[if_neg h,if_neg h];unfold zgG;rw[ax];rfl
theorem zbQ.i {H:Hp}{a b:Addr}{kvs:List (List Int×V)}{st:List Int}(e:H a=some (dtO kvs))(q:H b=some (.tup (st.map V.int))):zbQ H a (.ref b) (zaZ kvs st):=by have:=zbQ.t (k:=st.map Sum.inl) e (by rw[zca];exact q);rwa[zgH] at this
theorem zek.i {H:Hp}{a b:Addr}{kvs:List (List Int×V)}{st:List Int}{v:V}(e:H a=some (dtO kvs))(q:H b=some (.tup (st.map V.int)))(B:kvs.length<sizeLine):zek H a (.ref b) v (upd H a (dtO (zam kvs st v))):=by have:=zek.t (k:=st.map Sum.inl) (v:=v) e (by rw[zca];exact q) (by unfold zgG;rw[ab];exact B);rwa[zk6] at this
def zoY:TE:=fun _ H Q=>New H (dtO []) Q
section
variable {X:Cx}
theorem zlB {pos:Pos}:QE X (.Dict [] [] pos) zoY:=⟨fun pins s σ H Q I h=>zlq pins s σ H Q I fun p q=>h.at q⟩
theorem zkJ {pins:List (Addr×Obj)}{σ:St}{H:Hp}{s:Shared}(I:Inv X pins σ H s){a:Addr}{kvs:List (List Int×V)}(h:Rd H a (dtO kvs)) :
  (a==sysModules)=false/\∃ (es:Array DictEntry) (B:Nat) (ys:List (List Int×Addr)),zdq s.heap a es B/\ys.map (·.1)=kvs.map (·.1)/\(∀q∈ys,H q.2=some (.tup (q.1.map V.int)))/\es.toList.map (·.key)=ys.map (fun q=>Value.ref q.2)/\kvs.length<=sizeLine/\(kvs.map (·.1)).Nodup:=by
 obtain⟨z,lo,xs,r,o,es,B,h1,h2,h3,h4,Z⟩:=(show yr X.prog X.w H s.heap a (.dT (zgG kvs)) from zlH I.hok h)
 have D:∀ {kvs:List (List Int×V)} {xs:List (List Key×Addr×Value)},Paired (fun (p:List Key×V) (q:List Key×Addr×Value)=>p.1=q.1/\H q.2.1=some (.tup (p.1.map kV))/\yF p.2 q.2.2) (zgG kvs) xs->
   ∃ys:List (List Int×Addr),ys.map (·.1)=kvs.map (·.1)/\(∀q∈ys,H q.2=some (.tup (q.1.map V.int)))/\xs.map (fun q=>Value.ref q.2.1)=ys.map (fun q=>Value.ref q.2)/\xs.map (·.1)=kvs.map (fun q=>q.1.map Sum.inl):=by
  intro kvs
  induction kvs with
  | nil=>intro xs r;cases r;exact⟨[],rfl,fun _ h=>by simp at h,rfl,rfl⟩
  | cons q kvs ih=>
   intro xs r
   cases r with
   | cons r1 r2=>
    rename_i x ad;obtain⟨ys,F,J,L,O⟩:=ih r2;refine⟨(q.1,x.2.1)::ys,by rw[aq,aq,F],fun y U=>?_,by rw[aq,aq,L],by rw[aq,aq,O];congr 1;exact r1.1.symm⟩;rcases aE.mp U with rfl | U
    ·have:=r1.2.1;rwa[show ((q.1.map Sum.inl,q.2):List Key×V).1=q.1.map Sum.inl from rfl,zca] at this
    ·exact J y U
 obtain⟨ys,F,J,L,O⟩:=D r;refine⟨lo,es,B,ys,⟨o,h1,h2,h3⟩,F,J,?_,?_,?_⟩
 ·rw[h4,aC,<- L];rfl
 ·unfold zgG at z;rwa[ab] at z
 ·rw[O] at Z;have Y:((kvs.map (·.1)).map fun st:List Int=>st.map (Sum.inl:Int->Key)).Nodup:=by rw[aC];exact Z
  exact (bw.mp Y).imp fun h z=>h (by rw[z])
end
open PySem PySem.Spec PyProof.Rows
abbrev Up' (l:List (List Int)):Prop:=l.Pairwise fun a b=>HT.lexLt a b=true
def znh (x:List Int):List (List Int)->List (List Int)
 | []=>[x]
 | y::r=>if HT.lexLt x y then x::y::r else if x=y then y::r else y::znh x r
def zeb (l:List (List Int)):List (List Int):=l.foldr znh []
theorem zdF {x z:List Int}:∀ {l:List (List Int)},z∈znh x l↔z=x\/z∈l
 | []=>by show z∈[x]↔_;simp
 | y::r=>by
  unfold znh;split
  ·simp
  ·split
   ·rename_i e;subst e;simp
   ·rw[aE,zdF,aE];constructor
    ·rintro (h | h | h)
     ·exact .inr (.inl h)
     ·exact .inl h
     ·exact .inr (.inr h)
    ·rintro (h | h | h)
     ·exact .inr (.inl h)
     ·exact .inl h
     ·exact .inr (.inr h)
theorem xQ {z:List Int}:∀ {l:List (List Int)},z∈zeb l↔z∈l
 | []=>Iff.rfl
 | x::l=>by show z∈znh x (zeb l)↔_;rw[zdF,xQ,aE]
theorem ziC {x:List Int}{m:Nat}(D:x.length=m):∀ {l:List (List Int)},(∀y∈l,y.length=m)->Up' l->Up' (znh x l)
 | [],_,_=>cu _ _
 | y::r,F,B=>by
  have I:=F y ao;rw[Up',ce] at B;unfold znh;split
  ·rename_i h;refine ce.mpr ⟨fun z q=>?_,ce.mpr B⟩;rcases aE.mp q with rfl | q
   ·exact h
   ·exact zaJ (D.trans I.symm) (I.trans (F z (am _ q)).symm) h (B.1 z q)
  ·rename_i h;split
   ·exact ce.mpr B
   ·rename_i J;refine ce.mpr ⟨fun z q=>?_,ziC D (fun z q=>F z (am _ q)) B.2⟩;rcases zdF.mp q with rfl | q
    ·rcases uX (a:=z) (b:=y) (D.trans I.symm) with e | e | e
     ·exact absurd e J
     ·exact absurd e h
     ·exact e
    ·exact B.1 z q
theorem zff {m:Nat}{l:List (List Int)}(h:∀y∈l,y.length=m):∀y∈zeb l,y.length=m:=fun y q=>h y (xQ.mp q)
theorem zec {m:Nat}:∀ {l:List (List Int)},(∀y∈l,y.length=m)->Up' (zeb l)
 | [],_=>.nil
 | x::l,h=>ziC (h x ao) (zff fun y q=>h y (am _ q)) (zec fun y q=>h y (am _ q))
theorem zgg {m:Nat}:∀ {l l':List (List Int)},(∀y∈l,y.length=m)->Up' l->Up' l'->(∀z,z∈l↔z∈l')->l=l'
 | [],[],_,_,_,_=>rfl
 | [],y::r,_,_,_,h=>absurd ((h y).mpr ao) (by simp)
 | x::l,[],_,_,_,h=>absurd ((h x).mp ao) (by simp)
 | x::l,y::r,I,J,B,h=>by
  rw[Up',ce] at J B;have F:∀z∈y::r,z.length=m:=fun z D=>I z ((h z).mpr D)
  have e:x=y:=by
   rcases aE.mp ((h x).mp ao) with e | e
   ·exact e
   ·rcases aE.mp ((h y).mpr ao) with L | L
    ·exact L.symm
    ·have h1:=B.1 x e;have h2:=J.1 y L;have O:=zaJ ((I x ao).trans (F y ao).symm) ((F y ao).trans (I x ao).symm) h2 h1;rw[xb] at O;cases O
  subst e
  have q:∀ {l:List (List Int)},(∀z∈l,HT.lexLt x z=true)->x∉l:=fun U z=>by have:=U x z;rw[xb] at this;cases this
  congr 1;refine zgg (fun z D=>I z (am _ D)) J.2 B.2 fun z=>?_;constructor
  ·intro D;rcases aE.mp ((h z).mp (am _ D)) with e | e
   ·subst e;exact absurd D (q J.1)
   ·exact e
  ·intro D;rcases aE.mp ((h z).mpr (am _ D)) with e | e
   ·subst e;exact absurd D (q B.1)
   ·exact e
theorem zbN {m:Nat}{l l':List (List Int)}(q:∀y∈l,y.length=m)(B:Up' l')(h:∀z,z∈l'↔z∈l):l'=zeb l:=
 zgg (fun y D=>q y ((h y).mp D)) B (zec q) fun z=>(h z).trans xQ.symm
theorem zgd {m:Nat}{l l':List (List Int)}(q:∀y∈l,y.length=m)(h:∀z,z∈l'↔z∈l):zeb l'=zeb l:=
 zbN q (zec fun y B=>q y ((h y).mp B)) fun z=>xQ.trans (h z)
def zba (bk:List Wi)(st q:List Int):List (List Int):=(bk.filter fun x=>zal st x&&!q.contains x.b).map fun x=>chg st x.b x.r
def zl2 (bk:List Wi)(st q:List Int):List (List Int):=zeb (zba bk st q)
theorem zb4 {bk:List Wi}{st B z:List Int}:z∈zba bk st B↔∃x∈bk,zal st x=true/\x.b∉B/\z=chg st x.b x.r:=by
 unfold zba;rw[aH];constructor
 ·rintro⟨x,q,rfl⟩;rw[aW,ar] at q;refine⟨x,q.1,q.2.1,fun z=>?_,rfl⟩;have:=q.2.2;rw[cF.mpr z] at this;cases this
 ·rintro⟨x,h1,h2,D,rfl⟩;refine⟨x,aW.mpr ⟨h1,?_⟩,rfl⟩;rw[h2,Bool.true_and]
  cases e:B.contains x.b with
  | false=>rfl
  | true=>exact absurd (cF.mp e) D
theorem zeG {rm:List Int}{bk:List Wi}{st D:List Int}(q:∀x∈bk,WishOk rm x)(F:st.length=rm.length):∀z∈zba bk st D,z.length=rm.length:=fun z I=>by obtain⟨x,B,_,_,rfl⟩:=zb4.mp I;have h1:=(q x B).b1;rw[xt (q x B).b0 (by lia)];exact F
theorem u4 {α:Type}[BEq α][LawfulBEq α]:∀ {l l':List α},l.Nodup->(∀x∈l,x∈l')->l.length<=l'.length
 | [],_,_,_=>aT _
 | a::l,l',q,h=>by
  rw[cb] at q;have D:=h a ao
  have:=u4 (l:=l) (l':=l'.erase a) q.2 fun x F=>by have B:x≠a:=fun z=>q.1 (by rw[<- z];exact F);exact (List.mem_erase_of_ne B).mpr (h x (am _ F))
  rw[List.length_erase_of_mem D] at this;have:0<l'.length:=List.length_pos_of_mem D;rw[aS];lia
theorem zeF {rm:List Int}{bk:List Wi}{st B:List Int}{ks:List (List Int)}(q:∀x∈bk,WishOk rm x)(U:rm.length<=8)(D:∀r∈rm,2<=r/\r<=4)(F:ks.Nodup)(I:∀z∈ks,z∈zba bk st B):ks.length<=32:=by
 have:=u4 (l':=(List.range 32).map fun c=>chg st ((c / 4:Nat):Int) ((c % 4:Nat):Int)) F fun z J=>by obtain⟨x,L,_,_,rfl⟩:=zb4.mp (I z J);have o:=q x L;have h1:=o.b1;have h2:=o.b0;have O:=o.r0;have Y:=o.r1;have Z:=(yg D h2 h1).2;refine aH.mpr ⟨4 * x.b.toNat+x.r.toNat,aP.mpr (by lia),?_⟩;rw[show (4 * x.b.toNat+x.r.toNat) / 4=x.b.toNat by lia,show (4 * x.b.toNat+x.r.toNat) % 4=x.r.toNat by lia,b7 h2,b7 O]
 rw[ab,aj] at this;exact this
open PySem
end L2
namespace L2
open PySem PySem.Spec PyProof.Rows PySem.SeqAt
theorem zbP:∀ds:List Dt,Dt.toWs ds=ds.map Dt.toW
 | []=>rfl
 | d::ds=>by rw[Dt.toWs,aq,zbP ds]
theorem zeR:∀ds:List PySem.W.Dat,PySem.W.kqdPs ds=ds.map PySem.W.kqdP
 | []=>by simp[PySem.W.kqdPs]
 | d::ds=>by rw[aq,<- zeR ds];simp[PySem.W.kqdPs]
def zse (q:Bool):R2:=fun x y H Q=>∃d ds,Is H d x/\(Is H (.lst ds) y\/Is H (.tup ds) y)/\d.eqOk/\(Dt.lst ds).eqOk/\∀b:Bool,(b=true↔d∈ds)->Q (.bl (if q then !b else b)) H
section
variable {X:Cx}
theorem zdH {ds:List Dt}(h:(Dt.lst ds).eqOk):∀d∈ds,PySem.W.kqdOk 7 d.toW=true:=fun d q=>by have h':PySem.W.kqdOk 8 (Dt.lst ds).toW=true:=h;simp only[Dt.toW,PySem.W.kqdOk,bE,zbP] at h';exact h' _ (aH.mpr ⟨d,q,rfl⟩)
theorem zdw {d:Dt}{ds:List Dt}(q:d.eqOk)(B:(Dt.lst ds).eqOk):((PySem.W.kqdPs (Dt.toWs ds)).any fun y=>PyData.eqv y (PySem.W.kqdP d.toW))=true↔d∈ds:=by
 rw[zeR,zbP,aC,List.any_map,cD];constructor
 ·rintro⟨e,D,h⟩;have:=(PySem.W.kqd_eqv 7 e.toW d.toW 8 (zdH B e D) q).mp h;rw[<- zgf this];exact D
 ·intro h;exact⟨d,h,(PySem.W.kqd_eqv 7 d.toW d.toW 8 (zdH B d h) q).mpr rfl⟩
theorem zk8 {d:PySem.W.Dat}(h:PySem.W.kqdOk 7 d=true):PySem.W.kqdOk 8 d=true:=by
 have q:∀ (n:Nat) (d:PySem.W.Dat),PySem.W.kqdOk n d=true->PySem.W.kqdOk (n+1) d=true:=by
  intro n
  induction n with
  | zero=>intro d h;cases d <;> simp_all [PySem.W.kqdOk]
  | succ n B=>
   intro d h;cases d <;> simp_all [PySem.W.kqdOk]
 exact q 7 d h
theorem zml {d:Dt}{ds:List Dt}{u:Nat}(F:d.eqOk)(I:(Dt.lst ds).eqOk)(O:u+64<cLine):PyData.canLayAll0 (PySem.W.kqdPs (Dt.toWs ds))=true/\(PySem.W.kqdP d.toW).canLay0=true/\u+1+min (PyData.depthAll (PySem.W.kqdPs (Dt.toWs ds))) (PySem.W.kqdP d.toW).depth<cLine:=by
 have B:=PySem.W.kqd_lay 8 _ F
 have J:=PySem.W.kqd_layL (ds:=Dt.toWs ds) fun e D=>by rw[zbP] at D;obtain⟨L,q,rfl⟩:=aH.mp D;exact zk8 (zdH I L q)
 refine⟨J.1,B.1,?_⟩;have:min (PyData.depthAll (PySem.W.kqdPs (Dt.toWs ds))) (PySem.W.kqdP d.toW).depth<=8:=aB (Nat.min_le_right _ _) B.2;lia
theorem zqB (Z:X.A.units+64<cLine):OpQ X (compareOp .In) (zse false):=⟨by
 intro pins s σ H x y v u Q I rx J h;obtain⟨d,ds,hd,B,D,ks,q⟩:=h;obtain⟨as,L⟩:=yW I.hok 8 hd rx D;obtain⟨O,U,Y⟩:=zml D ks Z;rcases B with B | B
 ·obtain⟨bs,F⟩:=yW I.hok 8 B J ks;exact in_list_reads F L O U Y ⟨.bl _,H,I,rfl,q _ (zdw D ks)⟩
 ·obtain⟨bs,F⟩:=yW I.hok 8 B J (show (Dt.tup ds).eqOk from ks);exact in_tuple_reads F L O U Y ⟨.bl _,H,I,rfl,q _ (zdw D ks)⟩⟩
theorem zjx (Z:X.A.units+64<cLine):OpQ X (compareOp .NotIn) (zse true):=⟨by
 intro pins s σ H x y v u Q I rx J h;obtain⟨d,ds,hd,B,D,ks,q⟩:=h;obtain⟨as,L⟩:=yW I.hok 8 hd rx D;obtain⟨O,U,Y⟩:=zml D ks Z;rcases B with B | B
 ·obtain⟨bs,F⟩:=yW I.hok 8 B J ks;exact notIn_list_reads F L O U Y ⟨.bl _,H,I,rfl,q _ (zdw D ks)⟩
 ·obtain⟨bs,F⟩:=yW I.hok 8 B J (show (Dt.tup ds).eqOk from ks);exact notIn_tuple_reads F L O U Y ⟨.bl _,H,I,rfl,q _ (zdw D ks)⟩⟩
end
open PySem PySem.Spec PyProof.Rows
def zdg (bk:List Wi)(q:Int)(st:List Int):List (List Int):=(bk.filter fun x=>decide (x.b=q)&&xm st x.g).map fun x=>[x.w,x.r]
def lpF (bk:List Wi)(q:Int)(st:List Int):List (List Int):=zeb (zdg bk q st)
theorem xf {bk:List Wi}{q:Int}{st z:List Int}:z∈zdg bk q st↔∃x∈bk,x.b=q/\xm st x.g=true/\z=[x.w,x.r]:=by
 unfold zdg;rw[aH];constructor
 ·rintro⟨x,B,rfl⟩;rw[aW,ar] at B;exact⟨x,B.1,bq B.2.1,B.2.2,rfl⟩
 ·rintro⟨x,h1,h2,D,rfl⟩;exact⟨x,aW.mpr ⟨h1,by rw[D,aL h2];rfl⟩,rfl⟩
theorem ui {bk:List Wi}{q:Int}{st:List Int}:∀z∈zdg bk q st,z.length=2:=fun z B=>by obtain⟨x,_,_,_,rfl⟩:=xf.mp B;rfl
theorem zdh {rm:List Int}{bk:List Wi}{q:Int}{st:List Int}{ks:List (List Int)}(B:∀x∈bk,WishOk rm x)(D:∀r∈rm,2<=r/\r<=4)(F:ks.Nodup)(I:∀z∈ks,z∈zdg bk q st):ks.length<=16:=by
 have:=u4 (l':=(List.range 16).map fun c=>[((c / 4:Nat):Int),((c % 4:Nat):Int)]) F fun z J=>by obtain⟨x,L,_,_,rfl⟩:=xf.mp (I z J);have o:=B x L;have O:=o.r0;have Y:=o.r1;have Z:=(yg D o.b0 o.b1).2;have U:=o.w0;have h7:=o.w1;refine aH.mpr ⟨4 * x.w.toNat+x.r.toNat,aP.mpr (by lia),?_⟩;rw[show (4 * x.w.toNat+x.r.toNat) / 4=x.w.toNat by lia,show (4 * x.w.toNat+x.r.toNat) % 4=x.r.toNat by lia,b7 U,b7 O]
 rw[ab,aj] at this;exact this
theorem zqf {bk:List Wi}{q:Int}{st:List Int}:∀z∈lpF bk q st,z.length=2:=zff ui
theorem uz {rm st:List Int}{x:Wi}{w:Int}(D:WishOk rm x)(F:st.length=rm.length):xm (chg st x.b w) x.g=xm st x.g:=by
 unfold xm;rw[b9,bE,bE];have I:=D.b1;have key:∀q∈x.g,yf (chg st x.b w) q.1=yf st q.1:=fun q B=>by rw[ye D.b0 (by lia) (D.giv.ok q B).1,if_neg (D.apart q B)]
 constructor
 ·intro h q B;have:=h q B;rwa[key q B] at this
 ·intro h q B;rw[key q B];exact h q B
theorem zmm {rm:List Int}{bk:List Wi}{q w:Int}{st:List Int}(B:∀x∈bk,WishOk rm x)(I:st.length=rm.length):lpF bk q (chg st q w)=lpF bk q st:=by
 refine zgd ui fun z=>?_;rw[xf,xf];constructor
 ·rintro⟨x,D,h1,h2,F⟩;subst h1;exact⟨x,D,rfl,by rwa[uz (B x D) I] at h2,F⟩
 ·rintro⟨x,D,h1,h2,F⟩;subst h1;exact⟨x,D,rfl,by rwa[uz (B x D) I],F⟩
def zK (C:Nat->Nat->Bool)(w j:Nat):List (List Int):=((List.range j).filter (C w)).map fun b:Nat=>[(w:Int),(b:Int)]
def uo (C:Nat->Nat->Bool)(n:Nat):Nat->List (List Int)
 | 0=>[]
 | i+1=>uo C n i++zK C i n
theorem y1 (C:Nat->Nat->Bool)(w j:Nat):zK C w (j+1)=if C w j=true then zK C w j++[[(w:Int),(j:Int)]] else zK C w j:=by
 unfold zK;rw[List.range_succ,cg];by_cases h:C w j=true
 ·rw[if_pos h,List.filter_cons_of_pos h,ax];rfl
 ·rw[if_neg h,List.filter_cons_of_neg h];simp
theorem zbs {C:Nat->Nat->Bool}{w j:Nat}{z:List Int}:z∈zK C w j↔∃b,b<j/\C w b=true/\z=[(w:Int),(b:Int)]:=by
 unfold zK;rw[aH];constructor
 ·rintro⟨b,q,rfl⟩;rw[aW,aP] at q;exact⟨b,q.1,q.2,rfl⟩
 ·rintro⟨b,h1,h2,rfl⟩;exact⟨b,aW.mpr ⟨aP.mpr h1,h2⟩,rfl⟩
theorem zab {C:Nat->Nat->Bool}{n:Nat}{z:List Int}:∀ {i:Nat},z∈uo C n i↔∃w b,w<i/\b<n/\C w b=true/\z=[(w:Int),(b:Int)]
 | 0=>⟨fun h=>(by cases h),by rintro⟨_,_,h,_⟩;exact (by lia)⟩
 | i+1=>by
  show z∈uo C n i++zK C i n↔_;rw[aZ,zab,zbs];constructor
  ·rintro (⟨w,b,h1,h2⟩ | ⟨b,h1,h2⟩)
   ·exact⟨w,b,by lia,h2⟩
   ·exact⟨i,b,by lia,h1,h2⟩
  ·rintro⟨w,b,h1,h2,q⟩;by_cases e:w=i
   ·subst e;exact .inr ⟨b,h2,q⟩
   ·exact .inl ⟨w,b,by lia,h2,q⟩
theorem zs3 {a b c d:Int}:HT.lexLt [a,b] [c,d]=true↔a<c\/(a=c/\b<d):=by
 show (if a=c then (if b=d then _ else decide (b<d)) else decide (a<c))=true↔_;by_cases h1:a=c
 ·rw[if_pos h1];by_cases h2:b=d
  ·rw[if_pos h2];constructor
   ·intro h;cases h
   ·intro h;lia
  ·rw[if_neg h2,bz];lia
 ·rw[if_neg h1,bz];lia
theorem zeh (C:Nat->Nat->Bool)(n:Nat):∀i,Up' (uo C n i)
 | 0=>.nil
 | i+1=>by
  refine ef.mpr ⟨zeh C n i,?_,fun a q b B=>?_⟩
  ·unfold zK;refine bw.mpr ((List.pairwise_lt_range.filter _).imp ?_);intro a b D;exact zs3.mpr (.inr ⟨rfl,by lia⟩)
  ·obtain⟨w,F,h1,_,_,rfl⟩:=zab.mp q;obtain⟨I,_,_,rfl⟩:=zbs.mp B;exact zs3.mpr (.inl (by lia))
theorem zaX {C:Nat->Nat->Bool}{n i:Nat}:(uo C n i).length<=i * n:=by
 induction i with
 | zero=>exact aT _
 | succ i q=>
  show (uo C n i++zK C i n).length<=_;rw[ai,dP]
  have:(zK C i n).length<=n:=by unfold zK;rw[ab];have:=cH (C i) (List.range n);rwa[aj] at this
  lia
def zcs (bk:List Wi)(q:Int)(st:List Int)(w b:Nat):Bool:=decide (b≠w)&&bk.any fun x=>zal (chg st q w) x&&decide (chg (chg st q w) x.b x.r=chg st q b)
theorem zct {rm:List Int}{bk:List Wi}{q:Int}{st:List Int}{w b:Nat}(D:∀x∈bk,WishOk rm x)(hl:st.length=rm.length)(B:0<=q)(h1:q<rm.length):zcs bk q st w b=true↔∃x∈bk,x.b=q/\xm st x.g=true/\x.w=w/\x.r=b:=by
 unfold zcs;rw[ar,bz,cD];have F:∀v:Int,(chg st q v).length=st.length:=fun v=>xt B (by lia);constructor
 ·rintro⟨ad,x,I,h⟩;rw[ar,bz] at h;obtain⟨J,he⟩:=h;have o:=D x I;have U:=o.b0;have b1:=o.b1;unfold zal at J;rw[ar,bz] at J;have Y:yf (chg (chg st q w) x.b x.r) x.b=x.r:=by rw[ye U (by rw[F];lia) U,if_pos rfl]
  by_cases Z:x.b=q
  ·subst Z;rw[he,ye B (by lia) B,if_pos rfl] at Y;have L:=J.1;rw[ye B (by lia) B,if_pos rfl] at L;refine⟨x,I,rfl,?_,L.symm,Y.symm⟩;have:=J.2;rwa[uz o hl] at this
  ·exfalso;have L:=J.1;rw[ye B (by lia) U,if_neg Z] at L;rw[he,ye B (by lia) U,if_neg Z] at Y;exact o.ne (Y.symm.trans L)
 ·rintro⟨x,I,rfl,hk,h2,h3⟩;have o:=D x I;refine⟨fun z=>o.ne (by rw[h2,h3,z]),x,I,?_⟩;rw[ar,bz];constructor
  ·unfold zal;rw[ar,bz,ye B (by lia) B,if_pos rfl,uz o hl];exact⟨h2.symm,hk⟩
  ·rw[<- h3];refine zgz (by rw[xt B (by rw[F];lia),F,F]) fun c c0 c1=>?_;rw[ye B (by rw[F];lia) c0,ye (w:=x.r) B (by lia) c0];by_cases O:c=x.b
   ·rw[if_pos O,if_pos O]
   ·rw[if_neg O,if_neg O,ye B (by lia) c0,if_neg O]
theorem zlS {rm:List Int}{bk:List Wi}{q:Int}{st:List Int}{n:Nat}(B:∀x∈bk,WishOk rm x)(I:st.length=rm.length)(J:0<=q)(h1:q<rm.length)(hn:(n:Int)=yf rm q):uo (zcs bk q st) n n=lpF bk q st:=by
 refine zbN ui (zeh _ _ _) fun z=>?_;rw[zab,xf];constructor
 ·rintro⟨w,b,_,_,h,rfl⟩;obtain⟨x,D,h2,F,L,O⟩:=(zct B I J h1).mp h;exact⟨x,D,h2,F,by rw[L,O]⟩
 ·rintro⟨x,D,h2,F,rfl⟩;have o:=B x D;have U:=o.w0;have Y:=o.w1;have Z:=o.r0;have r1:=o.r1;rw[h2] at Y r1;refine⟨x.w.toNat,x.r.toNat,by lia,by lia,(zct B I J h1).mpr ⟨x,D,h2,F,by lia,by lia⟩,?_⟩;rw[b7 U,b7 Z]
open PySem PySem.Spec PyProof.Rows PySem.W PySem.Calls
section
variable {prog:Program}{w:World}{A:Around}{E:Value->Shared->Prop}{s:Shared}{R:Result->Shared->Prop}
end
section
variable {X:Cx}
end
open PySem PySem.Spec PyProof.Rows
section
variable {X:Cx}{e st:Expr}{te tk:TE}{pos p2:Pos}
end
theorem zbF {one q:List Int}{x:Wi}:zsR one q x=true↔zal one x=true/\chg one x.b x.r=q:=by unfold zsR;rw[ar,bz]
theorem zmP {bk:List Wi}{one q:List Int}:q∈zl2 bk one []↔∃x∈bk,zsR one q x=true:=by
 unfold zl2;rw[xQ,zb4];constructor
 ·rintro⟨x,B,h1,_,h2⟩;exact⟨x,B,zbF.mpr ⟨h1,h2.symm⟩⟩
 ·rintro⟨x,B,h⟩;obtain⟨h1,h2⟩:=zbF.mp h;exact⟨x,B,h1,bP,h2.symm⟩
theorem zqd {rm:List Int}{bk:List Wi}{one:List Int}{q wo:Int}(I:∀x∈bk,WishOk rm x)(h1:one.length=rm.length)(J:0<=q)(Z:q<rm.length):[yf one q,wo]∈lpF bk q one↔chg one q wo∈zl2 bk one []:=by
 unfold lpF;rw[xQ,xf,zmP];constructor
 ·rintro⟨x,F,rfl,Y,e⟩;injection e with B L;injection L with L _;subst L;refine⟨x,F,zbF.mpr ⟨?_,rfl⟩⟩;unfold zal;rw[Y,aL B];rfl
 ·rintro⟨x,F,h⟩;obtain⟨D,O⟩:=zbF.mp h;have o:=I x F;have o0:=o.b0;have o1:=o.b1;unfold zal at D;rw[ar,bz] at D;have B:yf (chg one x.b x.r) x.b=x.r:=by rw[ye o0 (by lia) o0,if_pos rfl]
  by_cases U:x.b=q
  ·subst U;rw[O,ye J (by lia) J,if_pos rfl] at B;exact⟨x,F,rfl,D.2,by rw[D.1,B]⟩
  ·exfalso;rw[O,ye J (by lia) o0,if_neg U,D.1] at B;exact o.ne B.symm
def unlike (one z q:List Int):List Int:=q.filter fun b=>decide (yf one b≠yf z b)
section
variable {X:Cx}{pos:Pos}
end
end L2
namespace L2
open PySem PySem.Spec PyProof.Rows
end L2
namespace L2
open PySem PySem.Spec PyProof.Rows
section
variable {M:Model}{A:Around}{E:Value->Shared->Prop}{s:Shared}
theorem zbT {α:Type}{f:List (Str×Addr)->Sem α}{Q:α->Shared->Prop}:∀ (names:List (Str×NameKind)) (cells:List (Str×Addr)),(∀y∈names,y.2≠.cell)->wpAny M A (f cells) Q E s->
  wpAny M A ((forIn names cells fun x r=>match x with | (name,kind)=>if (kind==NameKind.cell)=true then do let a <- alloc { cls:=.type "cell",data:=.cell none };pure (ForInStep.yield ((name,a)::r)) else pure (ForInStep.yield r)) >>= f) Q E s
 | [],cells,_,h=>h
 | (n,k)::r,cells,hn,h=>by
  have hk:(k==NameKind.cell)=false:=by simpa using hn (n,k) ao
  rw[List.forIn_cons];simp only[hk,aV,if_false,pure_bind];exact zbT r cells (fun y hy=>hn y (am _ hy)) h
theorem zbU {α:Type}{z:Str}{f:List (Str×Addr)->Sem α}{Q:α->Shared->Prop}:∀ (names:List (Str×NameKind)) (cells:List (Str×Addr)),names.filter (fun y=>y.2==.cell)=[(z,.cell)]->
  wpAny M A (f ((z,s.heap.objs.size)::cells)) Q E { s with heap:=s.heap.push { cls:=.type "cell",data:=.cell none } }->
  wpAny M A ((forIn names cells fun x r=>match x with | (name,kind)=>if (kind==NameKind.cell)=true then do let a <- alloc { cls:=.type "cell",data:=.cell none };pure (ForInStep.yield ((name,a)::r)) else pure (ForInStep.yield r)) >>= f) Q E s
 | [],cells,hn,h=>by cases hn
 | (n,k)::r,cells,hn,h=>by
  rw[List.forIn_cons];by_cases hk:(k==NameKind.cell)=true
  ·rw[List.filter_cons_of_pos (p:=fun y:Str×NameKind=>y.2==.cell) (a:=(n,k)) hk] at hn;injection hn with h1 h2;cases h1;simp only[hk,if_true,bind_assoc,pure_bind];refine aa (fF ?_);refine zbT r _ (fun y hy e=>?_) h;have:y∈r.filter (fun y=>y.2==.cell):=aW.mpr ⟨hy,by rw[e];rfl⟩;rw[h2] at this;cases this
  ·rw[List.filter_cons_of_neg (p:=fun y:Str×NameKind=>y.2==.cell) (a:=(n,k)) hk] at hn;simp only[hk,aV,if_false,pure_bind];exact zbU r cells hn h
theorem zcm {scope:Scope}{z:Str}{globals:Addr}{closure:List (Str×Addr)}{qual:Str}{o:Env}{Q:Env->Shared->Prop}(hn:scope.names.filter (fun y=>y.2==.cell)=[(z,.cell)])
  (h:Q { scope,locals:=s.heap.objs.size,globals,cells:=(z,(s.heap.push { cls:=.type "dict",data:=.dict #[] }).objs.size)::closure,qual,func:=none,code:=o.code,frame:=o.frame,builtins:=o.builtins } { s with heap:=(s.heap.push { cls:=.type "dict",data:=.dict #[] }).push { cls:=.type "cell",data:=.cell none } }) :
  wpAny M A (newFunctionEnv scope globals closure [] qual none .none (some o)) Q E s:=by
 unfold newFunctionEnv;simp only[Option.isSome_some,if_true];refine aa (fF ?_);refine zbU scope.names closure hn ?_;exact aa (ac (ac h))
end
def zC (X:Cx)(scope:Scope)(N:List Str)(z:Str)(C D:Addr)(s:Shared)(H:Hp)(ex:List Addr):Cx:=
 { zu X scope N C s H ex with env:={ compEnvC scope (zaB X.env scope.names []) C X.env with cells:=(z,D)::zaB X.env scope.names [] },fn:=fun y=>y==z }
def zhP (XN:List Str)(Xnames names:List (Str×NameKind))(N:List Str)(z:Str)(cix:List (Option Nat)):Bool:=
 N.length==cix.length&&(names.filter (fun y=>y.2==.cell)==[(z,NameKind.cell)]&&names.lookup z==some .cell)&&((N.zip cix).all fun p=>match p.2 with
  | none=>true
  | some i=>XN[i]?==some p.1&&names.lookup p.1==some .free&&(Xnames.lookup p.1==some .cell || Xnames.lookup p.1==some .free)) &&
 (names.all fun y=>y.2 != .free || (Xnames.lookup y.1==some .cell || Xnames.lookup y.1==some .free))
structure CompOkC (X:Cx)(scope:Scope)(N:List Str)(z:Str)(cix:List (Option Nat)):Prop where
 kind:scope.kind = .function
 names:∀x∈scope.names,x.2 = .local->scope.names.lookup x.1=some .local
 caps:zhP X.N X.env.scope.names scope.names N z cix=true
theorem mem_of_lookup {α B:Type}[BEq α][LawfulBEq α]{x:α}{k:B}:∀ {l:List (α×B)},l.lookup x=some k->(x,k)∈l
 | [],h=>by simp at h
 | (n,q)::r,h=>by
  rw[a6] at h
  cases e:x==n with
  | true=>
   rw[e] at h;have:=bn e;subst this;have h':some q=some k:=h;cases h';exact ao
  | false=>
   rw[e] at h;exact am _ (mem_of_lookup h)
theorem xc {env:Env}:∀ {names:List (Str×NameKind)} {x:Str} {k:NameKind},
  (names.map fun (n,k)=>if (k==NameKind.free&&env.scope.kind==.function&&env.kindOf n==some .cell) then (n,NameKind.cell) else (n,k)).lookup x=some k->(k = .cell\/k = .free)->names.lookup x=some .free\/names.lookup x=some .cell
 | [],_,_,h,_=>by simp at h
 | (n,k)::r,x,D,h,B=>by
  have F:=@xc env r x D;rw[aq] at h;rw[a6];by_cases q:(k==NameKind.free&&env.scope.kind==.function&&env.kindOf n==some .cell)=true
  ·have h':List.lookup x ((n,NameKind.cell)::r.map fun (n,k)=>if (k==NameKind.free&&env.scope.kind==.function&&env.kindOf n==some .cell) then (n,NameKind.cell) else (n,k))=some D:=by
    have:=h;simp only[q,if_true] at this;exact this
   rw[a6] at h'
   cases e:x==n with
   | true=>
    have:k = .free:=by rw[ar,ar] at q;exact bn q.1.1
    subst this;exact .inl rfl
   | false=>
    rw[e] at h';exact F h' B
  ·have h':List.lookup x ((n,k)::r.map fun (n,k)=>if (k==NameKind.free&&env.scope.kind==.function&&env.kindOf n==some .cell) then (n,NameKind.cell) else (n,k))=some D:=by
    have:=h;simp only[q] at this;exact this
   rw[a6] at h'
   cases e:x==n with
   | true=>
    rw[e] at h';have h2:some k=some D:=h';cases h2;rcases B with B | B
    ·subst B;exact .inr rfl
    ·subst B;exact .inl rfl
   | false=>
    rw[e] at h';exact F h' B
section
variable {X:Cx}{pins:List (Addr×Obj)}{σ:St}{H:Hp}{s:Shared}{scope:Scope}{N:List Str}{z:Str}{cix:List (Option Nat)}
theorem CompOkC.parts (c:CompOkC X scope N z cix):N.length=cix.length/\scope.names.filter (fun y=>y.2==.cell)=[(z,.cell)]:=by have h:=c.caps;unfold L2.zhP at h;rw[ar,ar,ar,ar] at h;exact⟨bn h.1.1.1,bn h.1.1.2.1⟩
theorem CompOkC.lk (c:CompOkC X scope N z cix):scope.names.lookup z=some .cell:=by have h:=c.caps;unfold L2.zhP at h;rw[ar,ar,ar,ar] at h;exact bn h.1.1.2.2
theorem CompOkC.cells (c:CompOkC X scope N z cix)(B:X.Ok):∀x∈scope.names,x.2 = .free->∃a,X.env.cells.lookup x.1=some a:=fun x D e=>by
 have h:=c.caps;unfold L2.zhP at h;rw[ar] at h;have q:=bE.mp h.2 x D;rw[e] at q;have F:(X.env.scope.names.lookup x.1==some NameKind.cell || X.env.scope.names.lookup x.1==some NameKind.free)=true:=by simpa using q
 rcases db.mp F with q | q
 ·exact B.has _ (.inl (bn q))
 ·exact B.has _ (.inr (bn q))
theorem CompOkC.cap (c:CompOkC X scope N z cix){j i:Nat}{x:Str}(h1:N[j]?=some x)(h2:cix[j]?=some (some i)):X.N[i]?=some x/\scope.names.lookup x=some .free/\(X.env.scope.names.lookup x=some .cell\/X.env.scope.names.lookup x=some .free):=by
 have h:=c.caps;unfold L2.zhP at h;rw[ar,ar] at h
 have B:(x,some i)∈N.zip cix:=by refine aG (i:=j) ?_;rw[List.getElem?_zip_eq_some];exact⟨h1,h2⟩
 have q:=bE.mp h.1.2 _ B;simp only[ar] at q;refine⟨bn q.1.1,bn q.1.2,?_⟩;rcases db.mp q.2 with q | q
 ·exact .inl (bn q)
 ·exact .inr (bn q)
theorem CompOkC.isZ (c:CompOkC X scope N z cix){x:Str}(h:scope.names.lookup x=some .cell):x=z:=by have:(x,NameKind.cell)∈scope.names.filter (fun y=>y.2==.cell):=aW.mpr ⟨mem_of_lookup h,rfl⟩;rw[c.parts.2,az] at this;exact (Prod.mk.inj this).1
theorem zeL {fp:List Addr}{h':Heap}{tk:Nat}{m:Str->Option Value}{D:Addr}(I:Inv X pins σ H s)(c:CompOkC X scope N z cix)(hf:∀b∈fp,zbt X pins H b)(Y:∀b∈fp,b<s.heap.objs.size)
  (hn:h'.Ns s.heap.objs.size m) (Z:s.heap.objs.size<=D) (ap:h'.IsCell D none) (hk:∀b o,s.heap.get? b=some o->h'.get? b=some o) :
  Inv (zC X scope N z s.heap.objs.size D s H fp) [] (uR σ cix) H { s with heap:=h',toks:=tk }:=by
 have as:=c.cells I.ok
 have B:∀x a,((z,D)::zaB X.env scope.names []).lookup x=some a->(x=z/\a=D)\/(x≠z/\(zaB X.env scope.names []).lookup x=some a/\X.env.cells.lookup x=some a/\a<s.heap.objs.size):=fun x a e=>by
  rw[a6] at e
  cases q:x==z with
  | true=>
   rw[q] at e;have e':some D=some a:=e;exact .inl ⟨bn q,(be e').symm⟩
  | false=>
   rw[q] at e;have e':(zaB X.env scope.names []).lookup x=some a:=e
   have hl:X.env.cells.lookup x=some a:=by
    rcases yU as e' with z | z
    ·exact z
    ·simp at z
   obtain⟨v,oc,F,_⟩:=I.cell x a hl;exact .inr ⟨fun z=>by subst z;simp at q,e',hl,ay F⟩
 refine⟨⟨I.mod,c.kind,I.ok.glob,I.ok.blt,ag _,fun x y a e1 e2=>?_,fun x hx=>?_,fun x a hz e=>?_,I.ok.hd,I.ok.frames,.inl rfl,
  fun b L=>⟨aM (Y b L),fun x a e=>?_⟩,I.bs,aB I.ok.bsz I.sz,fun b o e L=>?_,fun b L z=>?_,I.stack,I.stkFree⟩,
  I.os ▸ rfl,I.bare,Un.kept hk,⟨m,hn,fun j x v h1 h2 h3=>?_⟩,fun x a e=>?_,I.hok.fresh (ag _),fun x a e=>?_,fun p hp=>absurd (show p∈([]:List (Addr×Obj)) from hp) (by simp),I.hok.kept hk,?_⟩
 ·rcases B x a e1 with ⟨r1,r2⟩ | ⟨_,_,r1,r2⟩ <;> rcases B y a e2 with ⟨q1,O⟩ | ⟨_,_,q1,O⟩
  ·exact r1.trans q1.symm
  ·exact absurd (aU O (r2 ▸ Z)) (bU _)
  ·exact absurd (aU r2 (O ▸ Z)) (bU _)
  ·exact I.ok.inj x y a r1 q1
 ·have av:((relabel scope X.env).names.lookup x=some .cell\/(relabel scope X.env).names.lookup x=some .free):=hx
  have a0:scope.names.lookup x=some .free\/scope.names.lookup x=some .cell:=by
   rcases av with q | q
   ·exact xc q (.inl rfl)
   ·exact xc q (.inr rfl)
  show ∃a,((z,D)::zaB X.env scope.names []).lookup x=some a;rw[a6]
  cases q:x==z with
  | true=>exact⟨D,rfl⟩
  | false=>
   rcases a0 with e | e
   ·exact zad e
   ·exact absurd (c.isZ e) fun w=>by subst w;simp at q
 ·have a1:(x==z)=true:=hz;rcases B x a e with ⟨_,r⟩ | ⟨r,_⟩
  ·rw[r];exact Z
  ·exact absurd (bn a1) r
 ·rcases B x a e with ⟨_,r⟩ | ⟨_,_,r,_⟩
  ·rw[r];exact dg (aU (Y b L) Z)
  ·exact (hf b L).2.2.2.2.1 x a r
 ·rcases (hf b L).2.2.2.1 with z | z
  ·exact I.ok.noex b o e z
  ·exact absurd (aU (ay e) (aB I.ok.bsz z)) (bU _)
 ·rcases aE.mp (I.stkSub b z) with e | e
  ·exact (hf b L).2.1 e
  ·exact (hf b L).2.2.1 e
 ·have a2:N[j]?=some x:=h1;unfold uR at h2;rw[au] at h2
  cases e:cix[j]? with
  | none=>rw[e] at h2;cases h2
  | some o=>
   rw[e] at h2
   cases o with
   | none=>cases h2
   | some i=>
    have J:(σ[i]?).join=some v:=be h2
    have ad:σ[i]?=some (some v):=by
     cases q:σ[i]? with
     | none=>rw[q] at J;cases J
     | some z=>rw[q] at J;have:z=some v:=J;rw[this]
    obtain⟨q1,O,U⟩:=c.cap a2 e;obtain⟨m0,a5,a3⟩:=I.loc;obtain⟨u,ru,hu⟩:=a3 i x v q1 ad (U.elim (fun z=>.inr (.inl z)) fun z=>.inr (.inr z));refine⟨u,ru,.inr ⟨yP O,?_⟩⟩;rcases hu with ⟨z,_⟩ | ⟨_,a,ha,hcell⟩
    ·have z':X.env.scope.names.lookup x=some .local:=z;rcases U with U | U <;> rw[z'] at U <;> cases U
    ·obtain⟨a',a4⟩:=zad (env:=X.env) (cs:=[]) O
     have al:(x==z)=false:=by
      cases q:x==z with
      | false=>rfl
      | true=>
       have:=bn q;subst this;rw[c.lk] at O;cases O
     have an:((z,D)::zaB X.env scope.names []).lookup x=some a':=by rw[a6,al];exact a4
     have:a'=a:=by
      rcases B x a' an with ⟨r,_⟩ | ⟨_,_,r,_⟩
      ·subst r;simp at al
      ·exact be (r.symm.trans ha)
     subst this;obtain⟨oc,F,hd⟩:=hcell;exact⟨a',an,oc,hk _ _ F,hd⟩
 ·rcases B x a e with ⟨_,r⟩ | ⟨_,_,r,_⟩
  ·rw[r];exact⟨none,ap⟩
  ·obtain⟨v,oc,F,hd⟩:=I.cell x a r;exact⟨v,oc,hk _ _ F,hd⟩
 ·rcases B x a e with ⟨_,r⟩ | ⟨_,_,r,_⟩
  ·rw[r];exact I.hok.fresh Z
  ·exact I.freeC x a r
 ·show (uR σ cix).length=N.length;unfold uR;rw[ab,c.parts.1]
theorem zcc {fp:List Addr}{U:St}{H':Hp}{s':Shared}{F:Heap}{D:Addr}(I:Inv X pins σ H s)(L:∀b∈fp,zbt X pins H b)(I':Inv (zC X scope N z s.heap.objs.size D s H fp) [] U H' s')(O:Heap.SameBut s.heap.objs.size s'.heap F) :
  Inv X pins σ H' { s' with heap:=F }:=by
 have Y:∀b o,s.heap.get? b=some o->b≠s.heap.objs.size:=fun b o e=>aM (ay e);have u:=I'.base;refine Inv.call' (ch:=fp) I I'.os ⟨fun b o e n B J=>?_,fun b o e n B J=>?_,u.free,fun b o e J=>?_,u.tups,u.frzs,u.tbls⟩ (zb7 I'.hok I'.free O) I'.bare fun b B=>⟨(L b B).2.2.2.1,(L b B).2.1,(L b B).2.2.2.2.1,(L b B).2.2.2.2.2⟩
 ·exact (O.2 b (Y b o e)).trans (u.keep b o e n B J)
 ·obtain⟨Z,q⟩:=u.slot b o e n B J;exact⟨Z,(O.2 b (Y b o e)).trans q⟩
 ·obtain⟨o',q⟩:=u.there b o e J;exact⟨o',(O.2 b (Y b o e)).trans q⟩
end
end L2
namespace L2
open PySem PySem.Spec PyProof.Rows
theorem zlo {X:Cx}{Z tg O:Expr}{ad:List Expr}{scope:Scope}{pos:Pos}{wi:TI}{g:TG}{ti:TT}{te:TE}{N:List Str}{z:Str}{cix:List (Option Nat)}(hc:X.calm=true)(c:CompOkC X scope N z cix)
  (hi:PI X tg O wi) (hg:∀C D s H ex,PG (zC X scope N z C D s H ex) tg g) (ht:∀C D s H ex,PTs (zC X scope N z C D s H ex) ad ti) (he:∀C D s H ex,PE (zC X scope N z C D s H ex) Z te)
  (hs:∀x,foldedSetIterable O X.env x=pure x:=by intro _;rfl):PE X (.ListComp Z [⟨tg,O,ad,0⟩] scope pos) (zj8 wi g ti te cix):=by
 intro pins s σ H Q I h;rw[eval_ListComp];refine bS (use:=none) rfl hs (xF (c.cells I.ok)) c.kind c.names (thn (hi pins s σ H _ I h) fun xv s1 h1=>thn h1 fun cp B h2=>?_);obtain⟨it,fp,tn,J,H2,e,I2,T,a3,f2,q2⟩:=h2;subst e;refine bj (zcm c.parts.2 ?_);dsimp only;obtain⟨h4,al⟩:∃h4,h4=((B.heap.push { cls:=.type "list",dict:=none,data:=.seq ([]:List Value).toArray }).push { cls:=.type "dict",data:=.dict #[] }).push { cls:=.type "cell",data:=.cell none }:=⟨_,rfl⟩;rw[<- al];obtain⟨D4,av⟩:∃D4,D4=((B.heap.push { cls:=.type "list",dict:=none,data:=.seq ([]:List Value).toArray }).push { cls:=.type "dict",data:=.dict #[] }).objs.size:=⟨_,rfl⟩;rw[<- av];have a4:(B.heap.push { cls:=.type "list",dict:=none,data:=.seq ([]:List Value).toArray }).objs.size<=D4:=by rw[av,cI (h:=B.heap.push { cls:=.type "list",dict:=none,data:=.seq ([]:List Value).toArray })];exact dB _
 have a5:h4.IsCell D4 none:=by rw[al,av];exact⟨_,aK _ rfl,rfl⟩
 have bb:h4.Ns (B.heap.push { cls:=.type "list",dict:=none,data:=.seq ([]:List Value).toArray }).objs.size (fun x=>([]:List (Str×Value)).reverse.lookup x):=by rw[al];exact (Heap.Ns.new ..).at' fun o e=>af _ e
 have a0:=I2.hok.fresh (ag B.heap.objs.size);have I3:Inv X pins σ (upd H2 B.heap.objs.size (.lst [])) { B with heap:=B.heap.push { cls:=.type "list",dict:=none,data:=.seq ([]:List Value).toArray },toks:=B.toks }:=I2.lnew (t':=B.toks) .nil (by simp);obtain⟨W,⟨m0,w0⟩,bd⟩:=q2 B.heap.objs.size a0
 have an:∀b∈fp,b<B.heap.objs.size:=fun b F=>by obtain⟨o,ho,_⟩:=T.obj _ _ a3 b F;exact ay ho
 have f3:∀b∈fp,zbt X pins (upd H2 B.heap.objs.size (.lst [])) b:=fun b F=>⟨by rw[ze (aM (an b F))];exact (f2 b F).1,(f2 b F).2⟩
 have kp:∀b o,(B.heap.push { cls:=.type "list",dict:=none,data:=.seq ([]:List Value).toArray }).get? b=some o->h4.get? b=some o:=fun b o e=>by rw[al];exact af _ (af _ e)
 have a1:B.heap.objs.size<(B.heap.push { cls:=.type "list",dict:=none,data:=.seq ([]:List Value).toArray }).objs.size:=by rw[cI];exact ck _
 have I4:=zeL (tk:=B.toks) I3 c f3 (fun b F=>bJ (an b F) a1) bb a4 a5 kp;have bk:tn 0 h4:=T.keep _ _ _ a3 fun b F o e=>kp b o (af _ e)
 generalize U:zC X scope N z (B.heap.push { cls:=.type "list",dict:=none,data:=.seq ([]:List Value).toArray }).objs.size D4
  { B with heap:=B.heap.push { cls:=.type "list",dict:=none,data:=.seq ([]:List Value).toArray },toks:=B.toks } (upd H2 B.heap.objs.size (.lst [])) fp=X' at I4
 have pX:X'.prog=X.prog:=by rw[<- U];rfl
 have wX:X'.w=X.w:=by rw[<- U];rfl
 have KX:X'.K=X.K:=by rw[<- U];rfl
 have AX:X'.A=X.A:=by rw[<- U];rfl
 have cX:X'.calm=true:=by rw[<- U];exact hc
 have xX:X'.xe=fun _ _=>False:=by rw[<- U];rfl
 have eX:X'.env={ compEnvC scope (zaB X.env scope.names []) (B.heap.push { cls:=.type "list",dict:=none,data:=.seq ([]:List Value).toArray }).objs.size X.env with cells:=(z,D4)::zaB X.env scope.names [] }:=by rw[<- U];rfl
 have b1:PG X' tg g:=by rw[<- U];exact hg _ _ _ _ _
 have b2:PTs X' ad ti:=by rw[<- U];exact ht _ _ _ _ _
 have b3:PE X' Z te:=by rw[<- U];exact he _ _ _ _ _
 have f4:∀ {H':Hp},(∀b∈fp,H' b=none)->∀b∈fp,zbt X' [] H' b:=fun {H'} hn b F=>by
  refine⟨hn b F,?_,?_,.inl ?_,?_,?_⟩
  ·rw[eX];exact aM (bJ (an b F) a1)
  ·have e1:X'.fs=frs X.stack:=by rw[<- U];rfl
   rw[e1];intro z;rcases aE.mp (I2.stkSub b z) with e | e
   ·exact (f2 b F).2.1 e
   ·exact (f2 b F).2.2.1 e
  ·rw[<- U];exact F
  ·rw[eX];intro x a e;have e':((z,D4)::zaB X.env scope.names []).lookup x=some a:=e;rw[a6] at e'
   cases q:x==z with
   | true=>
    rw[q] at e';have e2:some D4=some a:=e';cases e2;exact dg (aU (bJ (an b F) a1) a4)
   | false=>
    rw[q] at e';rcases yU (c.cells I.ok) e' with z | z
    ·exact (f2 b F).2.2.2.2.1 x a z
    ·simp at z
  ·intro p hp;have e1:X'.pn++([]:List (Addr×Obj))=[]:=by rw[<- U];rfl
   rw[e1] at hp;simp at hp
 have bl:∀s4:Shared,s4={ B with heap:=h4,toks:=B.toks }->
   codeAny (model X.prog X.w) X.A (.compLoop (.ListComp Z [⟨tg,O,ad,0⟩] scope pos) 0 (.ref it) (.ref B.heap.objs.size) X'.env)
    (compPost (model X.prog X.w) X.A X.xe none (EP X pins σ Q) (.ref B.heap.objs.size) (B.heap.push { cls:=.type "list",dict:=none,data:=.seq ([]:List Value).toArray }).objs.size) s4:=by
  rintro s4 rfl;refine ut (fun n s'=>∃i L H',Inv X' [] L H' s'/\tn i s'.heap/\(∀b∈fp,H' b=none)/\W i n L H') ?_ m0 ⟨0,uR σ cix,_,I4,bk,fun b F=>(f3 b F).1,w0⟩;rintro n s5 ⟨i,ap,H5,I5,bo,bs,w5⟩;rcases bd i n ap H5 w5 with ⟨stop,qn⟩ | ⟨go,Nx,hN,step⟩
  ·have:=T.done X' pX wX KX cX i [] s5 ap H5 (fun _ _=>False) I5 (f4 bs) bo stop;rw[AX] at this;refine thn this  ?_;rintro r s6 ⟨hr,I6⟩;subst hr;obtain⟨m6,bx,_⟩:=I6.loc;rw[eX] at bx;refine⟨m6,bx,fun h7 b4=>?_⟩;have I6':=I6;rw[<- U] at I6';exact⟨.ref B.heap.objs.size,H5,zcc I3 f3 I6' b4,rfl,qn⟩
  ·have:=T.item X' pX wX KX cX i [] s5 ap H5 (fun _ _=>False) I5 (f4 bs) bo go;rw[AX] at this;refine thn this  ?_;rintro r s6 ⟨u,hr,h6⟩;subst hr;refine thn h6  ?_;rintro _ s7 ⟨x,H7,I7,r7,y7,a2,ca⟩;have I7':=I7.pinned (f4 ca) (T.obj _ _ a2);have a7:=b1 _ s7 ap H7 x u _ I7' r7 (step x H7 y7);rw[pX,wX,AX,xX] at a7;refine thn a7  ?_;rintro _ s8 ⟨as,H8,I8,q8⟩;have t8:=b2 _ s8 as H8 _ I8 q8;rw[pX,wX,AX,xX] at t8;refine thn t8  ?_;rintro ok s9 ⟨H9,I9,q9⟩
   have Y:∀ {s':Shared} {L:St} {H':Hp},Inv X' ([]++xP fp s7.heap) L H' s'->Nx L H'->∃m,m<n/\∃i L H',Inv X' [] L H' s'/\tn i s'.heap/\(∀b∈fp,H' b=none)/\W i m L H':=fun {s' L H'} J' n'=>by obtain⟨m',hm,w'⟩:=hN L H' n';refine⟨m',hm,i+1,L,H',J'.unpinned,T.keep _ _ _ a2 fun b F o e=>(J'.pin (b,o) (ak _ (ak _ (zG F e)))).1,fun b F=>?_,w'⟩;obtain⟨o,e,d⟩:=T.obj _ _ a2 b F;exact (J'.pin (b,o) (ak _ (ak _ (zG F e)))).2.1
   cases ok with
   | false=>exact Y I9 q9
   | true=>
    have e9:=b3 _ s9 as H9 _ I9 q9;rw[pX,wX,AX,xX] at e9;refine thn e9  ?_;rintro u2 cc ⟨v,H10,I10,cd,ch⟩;obtain⟨xs,cl,cn,nx⟩:=ch;have b0:=uZ (X:=X') _ cc as H10 (.ref B.heap.objs.size) [v] (.ref B.heap.objs.size) [u2] (fun _ H'=>Nx as H') I10 rfl (.cons cd .nil) ⟨_,xs,v,rfl,rfl,cl,cn,nx⟩;rw[pX,wX,AX,xX] at b0;refine thn b0 <| by rintro _ cs ⟨_,H11,I11,_,co⟩;exact Y I11 co
 have l0:=bl _ rfl;rw[eX] at l0;exact cT l0 (T.self X.A 0 _ _ _ bk l0)
theorem zjH {X:Cx}{pos:Pos}{te:TE}{B tg q:Expr}{F:List Expr}{scope:Scope}{I:TI}{g:TG}{ti:TT}{N:List Str}{z:Str}{cix:List (Option Nat)}(J:X.calm=true)(c:CompOkC X scope N z cix)
  (hi:QI X tg q I) (L:∀C D s H ex,QG (zC X scope N z C D s H ex) tg g) (O:∀C D s H ex,QTs (zC X scope N z C D s H ex) F ti) (U:∀C D s H ex,QE (zC X scope N z C D s H ex) B te)
  (Y:∀x,foldedSetIterable q X.env x=pure x:=by intro _;rfl):QE X (.ListComp B [⟨tg,q,F,0⟩] scope pos) (zg6 I g ti te cix):=
 ⟨zlo J c hi.run (fun C D s H ex=>(L C D s H ex).run) (fun C D s H ex=>(O C D s H ex).run) (fun C D s H ex=>(U C D s H ex).run) Y⟩
theorem y6:entryFor table "dict.update.loop" = some Builtin.«dict.update.loop»:=entryFor_of_tree (by kernel_rfl)
theorem z3:plainId "dict.update.loop" = true:=by decide +kernel
section
variable {prog:Program}{w:World}{A:Around}{E:Value->Shared->Prop}{s:Shared}{R:Result->Shared->Prop}{Kt:Type}[DecidableEq Kt]{knd:KeyKind prog w Kt}{κ:Int->Kt}
theorem zcM {a:Addr}{o:Obj}{xs:Array Value}{n:Nat}{Q:Option (Array Value)->Shared->Prop}(B:s.heap.get? a=some o)(q:o.data = .seq xs n)(h:Q (some xs) s):wpAny (model prog w) A (seqItems? (.ref a)) Q E s:=by
 obtain⟨c,d,D,F⟩:=o;simp only at q;subst q;unfold seqItems?
 repeat (any_goals (first | assumption | wp_step))
end
end L2
namespace L2
open PySem PySem.Spec PyProof.Rows
theorem uD {X:Cx}{pins:List (Addr×Obj)}{σ:St}{H:Hp}{s:Shared}{a:Addr}{xs:List V}(I:Inv X pins σ H s)(h:SqL X.K H a xs):∃its:List Value,ya xs its/\s.heap.IsList a its.toArray/\xs.length<=sizeLine:=by obtain⟨its,r,⟨o,n,e,c,_,d⟩,z⟩:=I.list h;exact⟨its,r,⟨o,e,c,n,d⟩,z⟩
def Iel (K:PySem.W.Frag)(a:Addr):It:=
 ⟨fun i H=>∃xs x,SqL K H a xs/\xs[i]?=some x,fun i H v H'=>∃T x,v = .ref T/\H T=none/\H'=upd H T (.tup [.int i,x])/\∀xs,SqL K H a xs->xs[i]?=some x,fun i H=>∃xs,SqL K H a xs/\xs.length<=i⟩
theorem zhz {P:Program}{w:World}{K:PySem.W.Frag}{av:List Expr}{x1}{tpos:Pos}(a J e:Addr)(ad:e≠J) :
  Turn P w K (.Tuple av x1 tpos) (Iel K a) [e,J] e (fun i h=>(∃L,IsEnum h e J i L)/\h.IsListIter J a i) where
 mem:=by simp
 obj:=fun i h st b D=>by
  rcases aE.mp D with rfl | D
  ·obtain⟨⟨L,he⟩,_⟩:=st
   exact⟨_,he,fun v z=>by have z':Data.fields _=Data.cell v:=z;cases z'⟩
  ·rw[az.mp D];obtain⟨_,o,e,c,d⟩:=st;exact⟨o,e,fun v z=>by rw[d] at z;cases z⟩
 keep:=fun i h h' st k=>by obtain⟨⟨L,he⟩,o,ho,r⟩:=st;exact⟨⟨L,k e (by simp) _ he⟩,o,k J (by simp) _ ho,r⟩
 item:=by
  intro X hP hw hK hc i pins s σ H E I hf st hg;subst hP hw hK;obtain⟨xs,x,hq,hx⟩:=hg;obtain⟨its,rv,p,hz⟩:=uD I hq;obtain⟨u,hu,ru⟩:=rv.get hx;obtain⟨f0,f1,f2,f3,f4,f5⟩:=hf e (by simp);obtain⟨g0,g1,g2,g3,g4,g5⟩:=hf J (by simp);obtain⟨⟨L,he⟩,U⟩:=st
  have hsz:i<its.toArray.size:=by have:=(ae.mp hu).1;simpa using this
  have bb:a≠J:=by intro z;obtain⟨o,ho,al,_⟩:=p;obtain⟨o',bd,a0,_⟩:=U;rw[z,bd] at ho;cases ho;rw[a0] at al;exact absurd (Value.type.inj al) (by decide)
  have bk:e≠a:=by intro z;obtain⟨o,ho,al,_⟩:=p;rw[<- z,he] at ho;cases ho;have:Value.type "enumerate" = Value.type "list" := al;exact absurd (Value.type.inj this) (by decide)
  refine wpAny_pyNext_enum_itemD (Draws.list (A:=X.A.in1) (I.ok.hd hc) J a bb its.toArray) he ⟨U,p⟩ hsz ad (by simp[ad,bk]) fun y h' tk hy ho a1 hT b3 hk=>?_
  have bl:y=u:=by
   have:its.toArray[i]?=some y:=hy;have:its[i]?=some y:=by simpa using this
   rw[hu] at this;exact (be this).symm
  subst bl;refine⟨_,rfl,?_⟩;refine wpAny_letOwnedTupleGo_enum ho fun Y an O=>?_;have a2:s.heap.objs.size≠e:=dg (ay he)
  have bo:s.heap.objs.size≠J:=by obtain⟨o,a3,_⟩:=U;exact dg (ay a3)
  have B:=I.hok.fresh (ag s.heap.objs.size);have kp:∀b o,b≠e->b≠J->s.heap.get? b=some o->Y.get? b=some o:=fun b o h1 h2 D=>(O.2 b h1).trans (hk b o h1 h2 D);have a4:Y.get? s.heap.objs.size=some { cls:=.type "tuple",data:=.seq #[.int i tk,y] }:=(O.2 _ a2).trans hT;obtain⟨oe,b4⟩:∃o,Y.get? e=some o:=⟨_,an⟩
  obtain⟨oi,a3⟩:∃o,Y.get? J=some o:=by obtain⟨⟨o,as,_⟩,_⟩:=a1;exact⟨o,(O.2 J (Ne.symm ad)).trans as⟩
  have ap:∀b u',H b=some u'->b≠e/\b≠J:=fun b u' D=>⟨zc D f0,zc D g0⟩
  have a5:HOk X.prog X.w (upd H s.heap.objs.size (.tup [.int i,x])) Y:=by
   intro b u' D;by_cases a7:b=s.heap.objs.size
   ·subst a7;rw[zj] at D;cases D;exact⟨by show 2<=sizeLine;decide,[.int i tk,y],.cons ⟨tk,rfl⟩ (.cons ru .nil),_,a4,rfl,⟨0,rfl⟩,rfl⟩
   ·rw[ze a7] at D;refine (I.hok b u' D).stay (fun c v Z q=>?_) (fun c q=>?_) (fun c ys q=>?_)
    ·refine kp c v ?_ ?_ q
     ·rcases Z with rfl | Z
      ·exact (ap _ _ D).1
      ·exact zc Z f0
     ·rcases Z with rfl | Z
      ·exact (ap _ _ D).2
      ·exact zc Z g0
    ·rw[ze (zc q B)];exact q
    ·rw[ze (zc q B)];exact q
  have I1:Inv X pins σ (upd H s.heap.objs.size (.tup [.int i,x])) { s with heap:=Y,toks:=tk+1 }:=by
   refine Inv.step (ch:=[e,J]) (g':=s.gens) (d':=s.drawn) (t':=tk+1) I (fun b D=>?_) (fun b o h1 h2 h3 h4 h5=>?_) (fun b o h1 h2 h3 h4 h5=>?_) (fun b o h3 h4 h5=>?_) (fun b o h3 h4=>?_) (fun b ys q=>?_) (fun b o u' q=>?_) (fun b ps q=>?_) (fun m hm=>?_) a5 I.bare
   ·rcases aE.mp D with rfl | D
    ·exact⟨f3,f1,f4,f5⟩
    ·rw[az.mp D];exact⟨g3,g1,g4,g5⟩
   ·exact kp b o (fun z=>h3 (by simp[z])) (fun z=>h3 (by simp[z])) h4
   ·exact⟨o.slots,kp b o (fun z=>h3 (by simp[z])) (fun z=>h3 (by simp[z])) h4⟩
   ·rw[ze (aM (ay h4))];exact h5
   ·exact⟨o,kp b o (fun z=>h3 (by simp[z])) (fun z=>h3 (by simp[z])) h4⟩
   ·rw[ze (zc q B)];exact q
   ·rw[ze (zc q B)];exact q
   ·exact⟨#[],by rw[ze (zc q B),dw];exact q⟩
   ·obtain⟨o,es,ep,bs,r1⟩:=hm;exact⟨o,es,ep,kp _ o (Ne.symm f1) (Ne.symm g1) bs,r1⟩
  refine⟨.ref s.heap.objs.size,_,I1,rfl,⟨s.heap.objs.size,x,rfl,B,rfl,fun ys bx=>by rw[I.list_inj bx hq];exact hx⟩,⟨⟨y,by have:=an;push_cast;exact this⟩,?_⟩,fun b D=>?_⟩
  ·obtain⟨⟨o,as,r2⟩,_⟩:=a1;exact⟨o,(O.2 J (Ne.symm ad)).trans as,r2⟩
  ·rcases aE.mp D with rfl | D
   ·rw[ze (Ne.symm a2)];exact f0
   ·rw[az.mp D,ze (Ne.symm bo)];exact g0
 done:=by
  intro X hP hw hK hc i pins s σ H E I hf st hg;subst hP hw hK;obtain⟨xs,hq,hx⟩:=hg;obtain⟨its,rv,p,hz⟩:=uD I hq;obtain⟨f0,f1,f2,f3,f4,f5⟩:=hf J (by simp);obtain⟨⟨L,he⟩,U⟩:=st;have hl:=rv.length;have hT:s.TypeIs (.ref e) "enumerate" := ⟨_,he,rfl⟩;unfold pyNext
  refine aa (c4 (wpAny_callSpecial?_slot (name:=Str.ofString "__next__") hT F.slot_enumerate_next
   (bm F.slot_enumerate_next hT F.entry_enumerate_next ?_ (F.args_enumerate_next_1 _))))
  show wpAny _ _ (field (.ref e) 2 >>= _) _ _ _;refine aa (wpAny_field he rfl (x:=.ref J) rfl ?_);refine aa (wpAny_nextOf_list_end (A:=X.A.in1) (I.ok.hd hc) U p (by simp;lia) fun h' x b0 b1=>?_);obtain⟨o,ho,b2⟩:=b1;refine aa (cR (T := "StopIteration") (b:=true) ⟨o,ho,b2⟩ dH ?_);exact ac ⟨rfl,I.turned (t':=s.toks) (fun b o D e=>b0 b o D e) f0 f1 f3 f4 f5⟩
 self:=fun A i s Q E st h=>by obtain⟨⟨L,he⟩,U⟩:=st;exact wpAny_pyIter_enum he h
def zmf (K:PySem.W.Frag)(ta:TA):TI:=fun σ H R=>ta σ H fun vs H1=>∃a,vs=[.ref a]/\(∃xs,SqL K H1 a xs)/\R (Iel K a) H1
theorem zlv {X:Cx}{D:List Expr}{x1}{tpos:Pos}{a:Expr}{ta:TA}{p pos:Pos}(O:Gl X "enumerate")(U:X.mg "enumerate" = none)(Y:PA X [a] ta)(Z:starEach [a] X.env=[(false,eval a X.env)]:=by rfl) :
  PI X (.Tuple D x1 tpos) (.Call (.Name "enumerate" p) [a] [] pos) (zmf X.K ta):=by
 intro pins s σ H R I h;refine Call_ (zcg I O U boot_enumerate (cx (thn (Y pos pins s σ H _ I h) fun us B ⟨vs,H1,I1,r1,q1⟩=>?_) Z rfl));obtain⟨b,rfl,⟨xs,hq⟩,q⟩:=q1;obtain⟨u,rfl,ru⟩:=za0 r1;cases ru;obtain⟨its,rv,pt,hz⟩:=uD I1 hq;refine call_enumerate_list (show B.heap.IsList b its.toArray from pt) fun h' L F hsz hk=>?_;have I2:Inv X pins σ H1 { B with heap:=h',toks:=B.toks }:=I1.kept (t':=B.toks) hk;refine wpAny_pyIter_enum L ?_;refine⟨B.heap.objs.size+1,[B.heap.objs.size+1,B.heap.objs.size],_,_,H1,rfl,I2,zhz b B.heap.objs.size (B.heap.objs.size+1) (Nat.succ_ne_self _),⟨⟨_,L⟩,F⟩,fun c J=>?_,q⟩;rcases aE.mp J with rfl | J
 ·exact I1.fpOk (dB _) (I1.hok.fresh (dB _))
 ·rw[az.mp J];exact I1.fpOk (ag _) (I1.hok.fresh (ag _))
theorem zlD {X:Cx}{q:List Expr}{x1}{tpos:Pos}{a:Expr}{ta:TA}{p pos:Pos}(B:Gl X "enumerate")(D:X.mg "enumerate" = none)(F:QA X [a] ta)(I:starEach [a] X.env=[(false,eval a X.env)]:=by rfl) :
  QI X (.Tuple q x1 tpos) (.Call (.Name "enumerate" p) [a] [] pos) (zmf X.K ta):=⟨zlv B D F.run I⟩
def Izl (K:PySem.W.Frag)(a b:Addr):It:=
 ⟨fun i H=>∃xs ys x y,SqL K H a xs/\SqL K H b ys/\xs[i]?=some x/\ys[i]?=some y,fun i H v H'=>∃T x y,v = .ref T/\H T=none/\H'=upd H T (.tup [x,y])/\(∀xs,SqL K H a xs->xs[i]?=some x)/\∀ys,SqL K H b ys->ys[i]?=some y,fun i H=>∃xs ys,SqL K H a xs/\SqL K H b ys/\(xs.length<=i\/ys.length<=i)⟩
theorem zkh {P:Program}{w:World}{K:PySem.W.Frag}{a7:List Expr}{x1}{tpos:Pos}(z TI TO Y Z a b:Addr)(D:ZipApart z TI TO Y Z a b) :
  Turn P w K (.Tuple a7 x1 tpos) (Izl K a b) [z,TI,TO,Y,Z] z (fun i h=>IsZip h z TI TO .none/\IsPair h TI (.ref Y) (.ref Z)/\(∃c d,IsPair h TO c d)/\h.IsListIter Y a i/\h.IsListIter Z b i) where
 mem:=by simp
 obj:=fun i h st c O=>by
  obtain⟨hz,U,⟨u,v,ad⟩,⟨o1,e1,c1,d1⟩,⟨o2,e2,c2,d2⟩⟩:=st;simp only[aE,bP,or_false] at O;rcases O with rfl | rfl | rfl | rfl | rfl
  ·exact⟨_,hz,fun v q=>by have q':Data.fields _=Data.cell v:=q;cases q'⟩
  ·exact⟨_,U,fun v q=>by have q':Data.seq _ 0=Data.cell v:=q;cases q'⟩
  ·exact⟨_,ad,fun v q=>by have q':Data.seq _ 0=Data.cell v:=q;cases q'⟩
  ·exact⟨o1,e1,fun v q=>by rw[d1] at q;cases q⟩
  ·exact⟨o2,e2,fun v q=>by rw[d2] at q;cases q⟩
 keep:=fun i h h' st k=>by obtain⟨hz,U,⟨u,v,ad⟩,⟨o1,e1,r1⟩,⟨o2,e2,r2⟩⟩:=st;exact⟨k z (by simp) _ hz,k TI (by simp) _ U,⟨u,v,k TO (by simp) _ ad⟩,⟨o1,k Y (by simp) _ e1,r1⟩,⟨o2,k Z (by simp) _ e2,r2⟩⟩
 item:=by
  intro X hP hw hK O i pins s σ H E I hf st hg;subst hP hw hK;obtain⟨xs,ys,x,y,as,av,hx,hy⟩:=hg;obtain⟨bb,a2,p1,df⟩:=uD I as;obtain⟨bd,a3,p2,dk⟩:=uD I av;obtain⟨u1,b3,b4⟩:=a2.get hx;obtain⟨u2,ca,cc⟩:=a3.get hy;have fz:=hf z (by simp);have B:=hf TO (by simp);have f1:=hf Y (by simp);have f2:=hf Z (by simp);obtain⟨hz,U,⟨c0,d0,ad⟩,a0,a1⟩:=st;have hT:s.TypeIs (.ref z) "zip" := ⟨_,hz,rfl⟩;unfold pyNext
  refine aa (c4 (wpAny_callSpecial?_slot (name:=Str.ofString "__next__") hT eE
   (bm eE hT F.entry_zip_next (zip_next_item (A:=X.A.in1) D hz U ad a0 a1 p1 p2 (x:=u1) (y:=u2) (by simpa using b3) (by simpa using ca) fun h' gz cd cl cn gT dm hk=>?_) (F.args_zip_next_1 _))))
  refine ac ⟨_,rfl,?_⟩;refine wpAny_letOwnedTupleGo_zip (s:={ s with heap:=h' }) gz fun ap bk al=>?_;have nz:∀b' o',s.heap.get? b'=some o'->s.heap.objs.size≠b':=fun b' o' e=>dg (ay e);have bl:s.heap.objs.size≠z:=nz z _ hz;have bo:s.heap.objs.size≠TO:=nz TO _ ad;have co:s.heap.objs.size≠Y:=by obtain⟨o,ho,_⟩:=a0;exact nz Y _ ho
  have cp:s.heap.objs.size≠Z:=by obtain⟨o,ho,_⟩:=a1;exact nz Z _ ho
  have bs:s.heap.objs.size≠TI:=nz TI _ U;have J:=I.hok.fresh (ag s.heap.objs.size);have kp:∀c o,c≠z->c≠TO->c≠Y->c≠Z->s.heap.get? c=some o->ap.get? c=some o:=fun c o h1 h2 h3 h4 hb=>(al.2 c h1).trans (hk c o h1 h2 h3 h4 hb);have bx:ap.get? s.heap.objs.size=some { cls:=.type "tuple",data:=.seq #[u1,u2] }:=(al.2 _ bl).trans gT;have b0:∀b' u',H b'=some u'->b'≠z/\b'≠TO/\b'≠Y/\b'≠Z:=fun b' u' hb=>⟨zc hb fz.1,zc hb B.1,zc hb f1.1,zc hb f2.1⟩
  have b1:HOk X.prog X.w (upd H s.heap.objs.size (.tup [x,y])) ap:=by
   intro b' u' hb;by_cases b2:b'=s.heap.objs.size
   ·subst b2;rw[zj] at hb;cases hb;exact⟨by show 2<=sizeLine;decide,[u1,u2],.cons b4 (.cons cc .nil),_,bx,rfl,⟨0,rfl⟩,rfl⟩
   ·rw[ze b2] at hb;refine (I.hok b' u' hb).stay (fun c v L q=>?_) (fun c q=>?_) (fun c ys q=>?_)
    ·have:c≠z/\c≠TO/\c≠Y/\c≠Z:=by
      rcases L with rfl | L
      ·exact b0 _ _ hb
      ·exact⟨zc L fz.1,zc L B.1,zc L f1.1,zc L f2.1⟩
     exact kp c v this.1 this.2.1 this.2.2.1 this.2.2.2 q
    ·rw[ze (zc q J)];exact q
    ·rw[ze (zc q J)];exact q
  have an:∀c o,c∉[z,TO,Y,Z]->s.heap.get? c=some o->ap.get? c=some o:=fun c o O e=>kp c o (fun q=>O (by simp[q])) (fun q=>O (by simp[q])) (fun q=>O (by simp[q])) (fun q=>O (by simp[q])) e
  have I1:Inv X pins σ (upd H s.heap.objs.size (.tup [x,y])) { s with heap:=ap,toks:=s.toks }:=by
   refine Inv.step (ch:=[z,TO,Y,Z]) (g':=s.gens) (d':=s.drawn) (t':=s.toks) I (fun c O=>?_) (fun c o h1 h2 h3 h4 h5=>?_) (fun c o h1 h2 h3 h4 h5=>?_) (fun c o h3 h4 h5=>?_) (fun c o h3 h4=>?_) (fun c ys q=>?_) (fun c o u' q=>?_) (fun c ps q=>?_) (fun m hm=>?_) b1 I.bare
   ·simp only[aE,bP,or_false] at O;rcases O with rfl | rfl | rfl | rfl
    ·exact⟨fz.2.2.2.1,fz.2.1,fz.2.2.2.2.1,fz.2.2.2.2.2⟩
    ·exact⟨B.2.2.2.1,B.2.1,B.2.2.2.2.1,B.2.2.2.2.2⟩
    ·exact⟨f1.2.2.2.1,f1.2.1,f1.2.2.2.2.1,f1.2.2.2.2.2⟩
    ·exact⟨f2.2.2.2.1,f2.2.1,f2.2.2.2.2.1,f2.2.2.2.2.2⟩
   ·exact an c o h3 h4
   ·exact⟨o.slots,an c o h3 h4⟩
   ·rw[ze (aM (ay h4))];exact h5
   ·exact⟨o,an c o h3 h4⟩
   ·rw[ze (zc q J)];exact q
   ·rw[ze (zc q J)];exact q
   ·exact⟨#[],by rw[ze (zc q J),dw];exact q⟩
   ·obtain⟨o,es,ep,a4,r1⟩:=hm;exact⟨o,es,ep,kp _ o (Ne.symm fz.2.1) (Ne.symm B.2.1) (Ne.symm f1.2.1) (Ne.symm f2.2.1) a4,r1⟩
  refine⟨.ref s.heap.objs.size,_,I1,rfl,⟨s.heap.objs.size,x,y,rfl,J,rfl,fun zs a5=>by rw[I.list_inj a5 as];exact hx,fun zs a5=>by rw[I.list_inj a5 av];exact hy⟩,⟨bk,?_,⟨_,_,(al.2 TO D.TOz).trans cd⟩,?_,?_⟩,fun c O=>?_⟩
  ·exact kp TI _ D.TIz D.TITO D.TIi1 D.TIi2 U
  ·obtain⟨o,ho,r⟩:=cl;exact⟨o,(al.2 Y D.i1z).trans ho,r⟩
  ·obtain⟨o,ho,r⟩:=cn;exact⟨o,(al.2 Z D.i2z).trans ho,r⟩
  ·simp only[aE,bP,or_false] at O;rcases O with rfl | rfl | rfl | rfl | rfl
   ·rw[ze (Ne.symm bl)];exact fz.1
   ·rw[ze (Ne.symm bs)];exact (hf _ (by simp)).1
   ·rw[ze (Ne.symm bo)];exact B.1
   ·rw[ze (Ne.symm co)];exact f1.1
   ·rw[ze (Ne.symm cp)];exact f2.1
 done:=by
  intro X hP hw hK O i pins s σ H E I hf st hg;subst hP hw hK;obtain⟨xs,ys,as,av,hx⟩:=hg;obtain⟨bb,a2,p1,dp⟩:=uD I as;obtain⟨bd,a3,p2,dd⟩:=uD I av;have fz:=hf z (by simp);have B:=hf TO (by simp);have f1:=hf Y (by simp);have f2:=hf Z (by simp);obtain⟨hz,U,⟨c0,d0,ad⟩,a0,a1⟩:=st;have dt:=a2.length;have d3:=a3.length;have hT:s.TypeIs (.ref z) "zip" := ⟨_,hz,rfl⟩;unfold pyNext
  refine aa (c4 (wpAny_callSpecial?_slot (name:=Str.ofString "__next__") hT eE
   (bm eE hT F.entry_zip_next (zip_next_end (A:=X.A.in1) (I.ok.hd O) D hz U ad a0 a1 p1 p2 (hx.elim (fun z=>.inl (by simp;lia)) fun z=>.inr (by simp;lia)) fun h' e ko he=>?_) (F.args_zip_next_1 _))))
  obtain⟨o,ho,cs⟩:=he;refine aa (cR (T := "StopIteration") (b:=true) ⟨o,ho,cs⟩ dH ?_);refine ac ⟨rfl,?_⟩;have an:∀c o,c∉[z,TO,Y,Z]->s.heap.get? c=some o->h'.get? c=some o:=fun c o O e=>ko c o (fun q=>O (by simp[q])) (fun q=>O (by simp[q])) (fun q=>O (by simp[q])) (fun q=>O (by simp[q])) e;refine Inv.step (ch:=[z,TO,Y,Z]) (g':=s.gens) (d':=s.drawn) (t':=s.toks) I (fun c O=>?_) (fun c o h1 h2 h3 h4 h5=>an c o h3 h4) (fun c o h1 h2 h3 h4 h5=>⟨o.slots,an c o h3 h4⟩) (fun c o h3 h4 h5=>h5) (fun c o h3 h4=>⟨o,an c o h3 h4⟩) (fun c ys q=>q) (fun c o u' q=>q) (fun c ps q=>⟨#[],by rw[dw];exact q⟩) (fun m hm=>?_) (fun b' u' hb=>?_) I.bare
  ·simp only[aE,bP,or_false] at O;rcases O with rfl | rfl | rfl | rfl
   ·exact⟨fz.2.2.2.1,fz.2.1,fz.2.2.2.2.1,fz.2.2.2.2.2⟩
   ·exact⟨B.2.2.2.1,B.2.1,B.2.2.2.2.1,B.2.2.2.2.2⟩
   ·exact⟨f1.2.2.2.1,f1.2.1,f1.2.2.2.2.1,f1.2.2.2.2.2⟩
   ·exact⟨f2.2.2.2.1,f2.2.1,f2.2.2.2.2.1,f2.2.2.2.2.2⟩
  ·obtain⟨o,es,ep,a4,r1⟩:=hm;exact⟨o,es,ep,ko _ o (Ne.symm fz.2.1) (Ne.symm B.2.1) (Ne.symm f1.2.1) (Ne.symm f2.2.1) a4,r1⟩
  ·refine (I.hok b' u' hb).stay (fun c v L q=>?_) (fun c q=>q) (fun c ys q=>q)
   have:c≠z/\c≠TO/\c≠Y/\c≠Z:=by
    rcases L with rfl | L
    ·exact⟨zc hb fz.1,zc hb B.1,zc hb f1.1,zc hb f2.1⟩
    ·exact⟨zc L fz.1,zc L B.1,zc L f1.1,zc L f2.1⟩
   exact ko c v this.1 this.2.1 this.2.2.1 this.2.2.2 q
 self:=fun A i s Q E st h=>by obtain⟨hz,_⟩:=st;exact wpAny_pyIter_zip hz h
def zpV (K:PySem.W.Frag)(ta:TA):TI:=fun σ H R=>ta σ H fun vs H1=>∃a b,vs=[.ref a,.ref b]/\(∃xs,SqL K H1 a xs)/\(∃ys,SqL K H1 b ys)/\R (Izl K a b) H1
theorem zoa {X:Cx}{D:List Expr}{x1}{tpos:Pos}{a b:Expr}{ta:TA}{p pos:Pos}(hg:Gl X "zip")(hm:X.mg "zip" = none)(ha:PA X [a,b] ta)(hs:starEach [a,b] X.env=[(false,eval a X.env),(false,eval b X.env)]:=by rfl)(F:starEach [b] X.env=[(false,eval b X.env)]:=by rfl) :
  PI X (.Tuple D x1 tpos) (.Call (.Name "zip" p) [a,b] [] pos) (zpV X.K ta):=by
 intro pins s σ H R I h;refine Call_ (zcg I hg hm boot_zip (cx (thn (ha pos pins s σ H _ I h) fun us B ⟨vs,H1,I1,r1,q1⟩=>?_) (by rw[hs,F]) (by rw[F];rfl)));obtain⟨c,d,e,⟨xs,O⟩,⟨ys,U⟩,q⟩:=q1;subst e
 cases r1 with
 | cons r Y=>
  cases Y with
  | cons r' Y=>
   cases Y;cases r;cases r';obtain⟨J,av,p1,a0⟩:=uD I1 O;obtain⟨L,a1,p2,a2⟩:=uD I1 U;have Z:c<B.heap.objs.size:=by obtain⟨o,ho,_⟩:=id p1;exact ay ho
   have ad:d<B.heap.objs.size:=by obtain⟨o,ho,_⟩:=id p2;exact ay ho
   refine call_zip_2 (show B.heap.IsList c J.toArray from p1) (show B.heap.IsList d L.toArray from p2) fun h' gz al an ap as hsz hk=>?_;have I2:Inv X pins σ H1 { B with heap:=h',toks:=B.toks }:=I1.kept (t':=B.toks) hk;refine wpAny_pyIter_zip gz ?_;refine⟨B.heap.objs.size+4,[B.heap.objs.size+4,B.heap.objs.size+2,B.heap.objs.size+3,B.heap.objs.size,B.heap.objs.size+1],_,_,H1,rfl,I2,zkh _ _ _ _ _ c d (zipApart_new Z ad),⟨gz,al,⟨_,_,an⟩,ap,as⟩,fun e he=>?_,q⟩;simp only[aE,bP,or_false] at he;rcases he with rfl | rfl | rfl | rfl | rfl
   ·exact I1.fpOk (by lia) (I1.hok.fresh (by lia))
   ·exact I1.fpOk (by lia) (I1.hok.fresh (by lia))
   ·exact I1.fpOk (by lia) (I1.hok.fresh (by lia))
   ·exact I1.fpOk (ag _) (I1.hok.fresh (ag _))
   ·exact I1.fpOk (by lia) (I1.hok.fresh (by lia))
theorem zoA {X:Cx}{q:List Expr}{x1}{tpos:Pos}{a b:Expr}{ta:TA}{p pos:Pos}(D:Gl X "zip")(F:X.mg "zip" = none)(I:QA X [a,b] ta)(J:starEach [a,b] X.env=[(false,eval a X.env),(false,eval b X.env)]:=by rfl)(B:starEach [b] X.env=[(false,eval b X.env)]:=by rfl) :
  QI X (.Tuple q x1 tpos) (.Call (.Name "zip" p) [a,b] [] pos) (zpV X.K ta):=⟨zoa D F I.run J B⟩
section
variable {prog:Program}{w:World}{A:Around}{E:Value->Shared->Prop}{s:Shared}
end
section
variable {X:Cx}
def zoG:V->List V->Hp->VK->Prop:=fun x vs H Q=>∃l xs k y,x = .ref l/\vs=[.int k,y]/\H l=some (.lst xs)/\0<=k/\k<=xs.length/\xs.length<sizeLine/\Q .non (upd H l (.lst (xs.take k.toNat++y::xs.drop k.toNat)))
theorem zjg:MtM X "list.insert" zoG:=by
 intro pins s σ H x vs v us Q I D J h;obtain⟨l,xs,k,y,rfl,rfl,B,h0,h1,L,q⟩:=h;cases D
 cases J with
 | cons O U=>
  cases U with
  | cons Y Z=>
   cases Z;obtain⟨t,rfl⟩:=O;obtain⟨z,its,n,r,hl,e⟩:=I.lstM B
   have hk:k<2 ^ 63:=by
    have:(xs.length:Int)<=2 ^ 40:=by have h2:xs.length<=2 ^ 40:=aB (cv L) (by decide);lia
    lia
   refine et PySem.F.slot_list_insert ⟨_,e,rfl⟩ PySem.F.entry_list_insert (PySem.F.args_list_insert_3 _ _ _)
    (AutoSeq1.list_insert_list_int_val_1 l its.toArray n k t _ (by rw[fitsIndex_both (by lia) hk];decide) (by rw[aA];lia)) ⟨e,?_⟩
   refine⟨.non,_,I.lset (its':=its.take k.toNat++_::its.drop k.toNat) B e ?_ ((r.take _).append (.cons Y (r.drop _))) ?_,rfl,q⟩
   ·show (its.toArray.extract 0 (if k<0 then (k+(its.toArray.size:Int)).toNat else min k.toNat its.toArray.size)).push _++its.toArray.extract (if k<0 then (k+(its.toArray.size:Int)).toNat else min k.toNat its.toArray.size)=_;rw[if_neg (by lia),aA,Nat.min_eq_left (by lia)];apply Array.toList_inj.mp;simp;rw[bY (by rw[bD];exact ag _)]
   ·rw[ai,aS,aN,bD];lia
theorem zgX {T:String}{name:Str}{id:String}{r:V->List V->Hp->VK->Prop}{o e:Expr}{es:List Expr}{to:TE}{t:TA}{apos cpos:Pos}(L:PlainAttrs T)(F:Slot T name id)(J:typeOf (.builtin id)=pure (.type "method_descriptor"))(O:MtR X id r)(U:QE X o to)(Y:QA X (e::es) t)
  (B:attributeBase o name X.env (eval o X.env)=eval o X.env:=by rfl)
  (I:((backTo cpos (starEach (e::es) X.env)).all (fun x=>!x.1)&&(backToKw cpos (keywordEach [] X.env)).all (fun x=>x.1.isSome)
   && decide ((e::es).length+([]:List Keyword).length+(if ([]:List Keyword).isEmpty then 0 else 1)<30))=true:=by rfl)
  (D:(apos.endLine==cpos.line)=true:=by rfl) (Z:starEach (e::es) X.env=(false,eval e X.env)::starEach es X.env:=by rfl) (q:(backTo cpos (starEach es X.env)).any (·.1)=false:=by rfl) :
  QE X (.Call (.Attribute o name apos) (e::es) [] cpos) (tBM X.K T r to t):=⟨zqF L F J O U.run Y.run B I D Z q⟩
def zjQ:List V->Hp->VK->Prop:=fun xs H Q=>∃ (l:Addr) (ns:List Int),xs=[.ref l]/\H l=some (.lst (ns.map V.int))/\ns.length<64/\∀q:List Int,q.Perm ns->q.Pairwise (·<=·)->New H (.lst (q.map V.int)) Q
theorem zgC:∀ {ns:List Int} {its:List Value},ya (ns.map V.int) its->IntsAre its ns
 | [],_,h=>by cases h;exact .nil
 | n::ns,_,h=>by
  cases h with
  | cons q B=>
   obtain⟨t,rfl⟩:=q;exact .cons _ _ (zgC B)
theorem zkv {ns:List Int}{its:List Value}(h:IntsAre its ns):ya (ns.map V.int) its:=by
 induction h with
 | nil=>exact .nil
 | cons _ _ _ q=>exact .cons ⟨_,rfl⟩ q
theorem zkF:CallQ X (.builtin "sorted") zjQ:=⟨by
 intro pins s σ H xs us Q I r h;obtain⟨l,ns,rfl,hl,an,q⟩:=h;obtain⟨u,rfl,ru⟩:=za0 r;cases ru;obtain⟨its,rv,pl,hz⟩:=I.list (.of hl);obtain⟨m0,B,_⟩:=id I.loc;refine PySem.W.kso_sorted (h₀:=(⟨#[],{}⟩:Heap)) (L:=X.env.locals) (m:=m0) (news:=zaR s.heap X.env.locals) ⟨B,fun b o e=>?_,aT _⟩ (fun p hp=>?_) pl.isList (zgC rv) an fun D av J c h' F N O hi U hp hs _=>?_
 ·have:=ay e;simp at this
 ·obtain⟨b,o⟩:=p;have:=zU.mp hp;refine⟨this.2,this.1,?_⟩
  cases e:(⟨#[],{}⟩:Heap).get? b with
  | none=>rfl
  | some o'=>
   have:=ay e;simp at this
 ·have ap:∀b o,b≠X.env.locals->s.heap.get? b=some o->h'.get? b=some o:=fun b o hb e=>(N (b,o) (am _ (zU.mpr ⟨hb,e⟩))).1;have as:D≠X.env.locals:=(N (D,_) ao).2.1
  have Y:s.heap.get? D=none:=by
   cases e:s.heap.get? D with
   | none=>rfl
   | some o=>exact absurd (O (D,o) (zU.mpr ⟨as,e⟩)) (bU _)
  have Z:H D=none:=by
   cases e:H D with
   | none=>rfl
   | some o=>
    obtain⟨o',ad⟩:=zaL (I.hok D o e);rw[Y] at ad;cases ad
  have al:=(N (D,_) ao).1;have I':=zdG I B (ys:=J.map V.int) ap F.ns Y Z al (zkv hi) (by rw[ab,U,bV];lia) s.toks;exact⟨.ref D,_,I',rfl,(q J hp hs).at Z⟩⟩
end
end L2
namespace L3
open PySem L2
abbrev zm:=Addr×Addr×List Int
inductive W where
 | d (x:Dt) | pen (p:Addr) | dk (kvs:List (Key×Dt)) | dt (kvs:List (List Int×Dt)) | ss (P:Program) (w:World) (ks:List (List Int)) | df (kvs:List (List Int×Dt))
abbrev Mo (α:Type):=Nat->(α->Nat->Prop)->Prop
abbrev Ev:=List (Option W)
def NP (o:HO):Prop:=∀kvs,o = .dK kvs->zaZ kvs (Sum.inr "at" : Key)=none
theorem NP.lst {xs:List V}:NP (.lst xs):=fun _ e=>by cases e
open Classical in
noncomputable def z7 (A:Addr->Prop)(H:Hp):Hp:=fun b=>if A b then none else H b
section
variable {A A0:Addr->Prop}{H H' G G' T T':Hp}{a b:Addr}{o:HO}
theorem yt:z7 A H b=some o↔¬ A b/\H b=some o:=by
 unfold z7;by_cases h:A b
 ·simp[h]
 ·simp[h]
theorem zy (h:¬ A b)(e:H b=some o):z7 A H b=some o:=yt.mpr ⟨h,e⟩
theorem zr:y4 (z7 A H) H:=fun b o e=>(yt.mp e).2
theorem zM (s:zv H H'):zv (z7 A H) (z7 A H'):=fun b o e n=>zy (yt.mp e).1 (s b o (yt.mp e).2 n)
theorem zb6 (s:y4 H H'):y4 (z7 A H) (z7 A H'):=fun b o e=>zy (yt.mp e).1 (s b o (yt.mp e).2)
theorem yV (h:∀b,A0 b->A b):y4 (z7 A H) (z7 A0 H):=fun b o e=>zy (fun z=>(yt.mp e).1 (h b z)) (yt.mp e).2
theorem yn (h:A a):z7 A (upd H a o)=z7 A H:=by
 funext b;unfold z7;by_cases q:A b
 ·simp[q]
 ·have:b≠a:=fun e=>q (e ▸ h);simp[q,ze this]
end
def DAt (T G:Hp):Dt->V->Prop
 | .lst l,v=>∃a xs,v = .ref a/\T a=some (.lst xs)/\IsL G l xs
 | .dct,v=>∃a kvs,v = .ref a/\T a=some (.dK kvs)/\zaZ kvs (Sum.inr "at" : Key)=none
 | .non,v=>Is G .non v
 | .bl b,v=>Is G (.bl b) v
 | .int i,v=>Is G (.int i) v
 | .str x,v=>Is G (.str x) v
 | .tup l,v=>Is G (.tup l) v
theorem DAt.is {G:Hp}{x:Dt}{v:V}(h:DAt G G x v):Is G x v:=by cases x <;> exact h
theorem DAt.of {G:Hp}{x:Dt}{v:V}(h:Is G x v):DAt G G x v:=by cases x <;> exact h
theorem DAt.up {T T' G G':Hp}{x:Dt}{v:V}(t:zv T T')(g:zv G G')(h:DAt T G x v):DAt T' G' x v:=by
 cases x with
 | lst l=>obtain⟨a,xs,e,h1,h2⟩:=h;exact⟨a,xs,e,t.lst h1,h2.stay g⟩
 | dct=>obtain⟨a,kvs,e,h1,h2⟩:=h;exact⟨a,kvs,e,t _ _ h1 fun k q=>by cases q;exact h2,h2⟩
 | _=>exact Is.stay g h
theorem DAt.full {T G H:Hp}{x:Dt}{v:V}(t:y4 T H)(g:y4 G H)(h:DAt T G x v):Is H x v:=(DAt.up (zv.same t) (zv.same g) h).is
def uQ {κ:Type}(G:Hp):List (κ×Dt)->List (κ×V)->Prop
 | [],ks=>ks=[]
 | q::r,ks=>∃v s,ks=(q.1,v)::s/\Is G q.2 v/\uQ G r s
theorem uQ.stay {κ:Type}{G G':Hp}(s:zv G G'):∀ {kvs:List (κ×Dt)} {ks:List (κ×V)},uQ G kvs ks->uQ G' kvs ks
 | [],_,h=>h
 | q::r,ks,⟨v,t,e,h1,h2⟩=>⟨v,t,e,h1.stay s,uQ.stay s h2⟩
def SIs (G:Hp)(ks:List (List Int))(xs:List (List Int×Addr)):Prop:=ks=xs.map (·.1)/\(∀q∈xs,G q.2=some (.tup (q.1.map V.int)))/\ks.Nodup
theorem SIs.stay {G G':Hp}{ks:List (List Int)}{xs:List (List Int×Addr)}(h:SIs G ks xs)(s:zv G G'):SIs G' ks xs:=⟨h.1,fun q B=>s _ _ (h.2.1 q B) (fun _ e=>by cases e),h.2.2⟩
def WAt (T G:Hp):W->V->Prop
 | .d x,v=>DAt T G x v
 | .pen p,v=>v = .ref p
 | .dk kvs,v=>∃a ks,v = .ref a/\T a=some (.dK ks)/\uQ G kvs ks/\zaZ ks (Sum.inr "at" : Key)=none
 | .dt kvs,v=>∃a ks,v = .ref a/\T a=some (dtO ks)/\uQ G kvs ks
 | .ss P w ks,v=>∃a xs,v = .ref a/\T a=some (zfo P w a (uN xs))/\SIs G ks xs
 | .df kvs,v=>∃a q ks,v = .ref a/\T a=some (.frz q (dtO ks))/\uQ G kvs ks
theorem WAt.up {T T' G G':Hp}{w:W}{v:V}(t:zv T T')(g:zv G G')(h:WAt T G w v):WAt T' G' w v:=by
 cases w with
 | d x=>exact DAt.up t g h
 | pen p=>exact h
 | dk kvs=>
  obtain⟨a,ks,e,h1,h2,h3⟩:=h;exact⟨a,ks,e,t _ _ h1 fun k q=>by cases q;exact h3,h2.stay g,h3⟩
 | dt kvs=>
  obtain⟨a,ks,e,h1,h2⟩:=h;exact⟨a,ks,e,t _ _ h1 (fun k q=>by cases q),h2.stay g⟩
 | ss P w kvs=>
  obtain⟨a,ks,e,h1,h2⟩:=h;exact⟨a,ks,e,t _ _ h1 (fun k q=>by cases q),h2.stay g⟩
 | df kvs=>
  obtain⟨a,ob,ks,e,h1,h2⟩:=h;exact⟨a,ob,ks,e,t _ _ h1 (fun k q=>by cases q),h2.stay g⟩
@[reducible] def W.mut:W->Bool
 | .d (.lst _)=>true
 | .d .dct=>true
 | .dk _=>true
 | .dt _=>true
 | .ss _ _ _=>true
 | _=>false
abbrev Val (A:Addr->Prop)(H:Hp)(w:W)(v:V):Prop:=WAt (z7 A H) (z7 A H) w v
abbrev Bor (A:Addr->Prop)(H:Hp)(w:W)(v:V):Prop:=WAt H (z7 A H) w v
theorem Val.bor {A:Addr->Prop}{H:Hp}{w:W}{v:V}(h:Val A H w v):Bor A H w v:=WAt.up (zv.same zr) (zv.refl _) h
theorem Val.stay {A:Addr->Prop}{H H':Hp}{w:W}{v:V}(h:Val A H w v)(s:zv H H'):Val A H' w v:=WAt.up (zM s) (zM s) h
theorem Bor.stay {A:Addr->Prop}{H H':Hp}{w:W}{v:V}(h:Bor A H w v)(s:zv H H'):Bor A H' w v:=WAt.up s (zM s) h
theorem Bor.is {A:Addr->Prop}{H:Hp}{x:Dt}{v:V}(h:Bor A H (.d x) v):Is H x v:=DAt.full (zj1 _) zr h
theorem Val.is {A:Addr->Prop}{H:Hp}{x:Dt}{v:V}(h:Val A H (.d x) v):Is (z7 A H) x v:=DAt.is h
theorem Val.of {A:Addr->Prop}{H:Hp}{x:Dt}{v:V}(h:Is (z7 A H) x v):Val A H (.d x) v:=DAt.of h
mutual
theorem zmj {A:Addr->Prop}{H:Hp}(hA:∀a xs,A a->H a≠some (.tup xs)):∀ {x:Dt} {v:V},x.noL=true->Is H x v->Is (z7 A H) x v
 | .non,_,_,h=>h
 | .bl _,_,_,h=>h
 | .int _,_,_,h=>h
 | .str _,_,_,h=>h
 | .tup l,_,n,h=>by obtain⟨p,xs,e,hp,hl⟩:=h;exact⟨p,xs,e,zy (fun z=>hA p xs z hp) hp,x9 hA (by simpa [Dt.noL] using n) hl⟩
 | .lst l,_,n,_=>by simp[Dt.noL] at n
 | .dct,_,n,_=>by simp[Dt.noL] at n
theorem x9 {A:Addr->Prop}{H:Hp}(hA:∀a xs,A a->H a≠some (.tup xs)):∀ {ds:List Dt} {xs:List V},Dt.noLs ds=true->IsL H ds xs->IsL (z7 A H) ds xs
 | [],_,_,h=>h
 | d::ds,xs,n,h=>by
  obtain⟨x,r,e,h1,h2⟩:=h;have n':(d.noL&&Dt.noLs ds)=true:=by simpa [Dt.noLs] using n
  rw[ar] at n';exact⟨x,r,e,zmj hA n'.1 h1,x9 hA n'.2 h2⟩
end
def y2 (Pn:Option zm)(A:Addr->Prop)(n:Nat)(H:Hp):Prop:=
 match Pn with
 | none=>True
 | some (p,c,ns)=>Pen H p c ns n/\¬ A c/\¬ A p
def Own (A:Addr->Prop)(H:Hp)(w:W)(v:V):Prop:=∃a,v = .ref a/\A a/\Bor A H w v/\w.mut=true
def Al (A:Addr->Prop)(H:Hp):Prop:=∀a,A a->∃o,H a=some o/\NP o/\∀xs,o≠.tup xs
structure EnvR (A:Addr->Prop)(M:List Nat)(σ:St)(H:Hp)(ρ:Ev):Prop where
 len:σ.length=ρ.length
 val:∀i w,ρ[i]?=some (some w)->∃v,σ[i]?=some (some v)/\(i∉M->Val A H w v)/\(i∈M->Own A H w v)
 dis:∀i j w u a,i∈M->j∈M->i≠j->ρ[i]?=some (some w)->ρ[j]?=some (some u)->σ[i]?=some (some (.ref a))->σ[j]?≠some (some (.ref a))
 al:Al A H
theorem EnvR.stay {A:Addr->Prop}{M:List Nat}{σ:St}{H H':Hp}{ρ:Ev}(E:EnvR A M σ H ρ)(s:zv H H'):EnvR A M σ H' ρ where
 len:=E.len
 val:=fun i w e=>by obtain⟨v,h1,h2,q⟩:=E.val i w e;refine⟨v,h1,fun z=>(h2 z).stay s,fun z=>?_⟩;obtain⟨a,e,B,D,F⟩:=q z;exact⟨a,e,B,D.stay s,F⟩
 dis:=E.dis
 al:=fun a h=>by obtain⟨o,h1,h2,q⟩:=E.al a h;exact⟨o,s _ _ h1 h2,h2,q⟩
theorem EnvR.alT {A:Addr->Prop}{M:List Nat}{σ:St}{H:Hp}{ρ:Ev}(E:EnvR A M σ H ρ):∀a xs,A a->H a≠some (.tup xs):=fun a xs h e=>by obtain⟨o,h1,_,q⟩:=E.al a h;rw[h1] at e;cases e;exact q xs rfl
theorem EnvR.new {A:Addr->Prop}{M:List Nat}{σ:St}{H:Hp}{ρ:Ev}(E:EnvR A M σ H ρ){p:Addr}(h:H p=none):¬ A p:=fun z=>by obtain⟨o,h1,_⟩:=E.al p z;rw[h] at h1;cases h1
def Fr (H:Hp)(a:Addr):Prop:=∀o,H a=some o->¬ NP o
theorem Fr.of {H:Hp}{a:Addr}(h:H a=none):Fr H a:=fun o e=>by rw[h] at e;cases e
theorem Fr.back {H H1:Hp}{a:Addr}(h:Fr H1 a)(s:zv H H1):Fr H a:=fun o e n=>h o (s _ _ e n) n
def FrV (A:Addr->Prop)(H H':Hp)(w:W)(v:V):Prop:=∃a,v = .ref a/\Fr H a/\WAt H' (z7 (fun b=>A b\/b=a) H') w v
theorem FrV.back {A:Addr->Prop}{H H1 H':Hp}{w:W}{v:V}(h:FrV A H1 H' w v)(s:zv H H1):FrV A H H' w v:=let ⟨a,e,f,g⟩:=h;⟨a,e,f.back s,g⟩
theorem FrV.less {A A0:Addr->Prop}{H H':Hp}{w:W}{v:V}(h:FrV A H H' w v)(s:∀a,A0 a->A a):FrV A0 H H' w v:=let ⟨a,e,f,g⟩:=h;⟨a,e,f,WAt.up (zv.refl _) (zv.same (yV fun b z=>z.elim (fun z=>.inl (s b z)) .inr)) g⟩
theorem EnvR.newF {A:Addr->Prop}{M:List Nat}{σ:St}{H:Hp}{ρ:Ev}(E:EnvR A M σ H ρ){p:Addr}(h:Fr H p):¬ A p:=fun z=>by obtain⟨o,h1,h2,_⟩:=E.al p z;exact h o h1 h2
theorem yB {A:Addr->Prop}{H H':Hp}{p:Addr}(s:zv H H')(n:Fr H p):zv (z7 A H) (z7 (fun b=>A b\/b=p) H'):=fun b o e q=>by obtain⟨h1,h2⟩:=yt.mp e;exact zy (fun z=>z.elim h1 fun z=>by subst z;exact n o h2 q) (s b o h2 q)
structure Go (Pn:Option zm)(A:Addr->Prop)(H:Hp)(n:Nat)(H':Hp):Prop where
 st:zv H H'
 pn:y2 Pn A n H'
theorem Go.trans {Pn:Option zm}{A:Addr->Prop}{H H1 H2:Hp}{n m:Nat}(a:Go Pn A H n H1)(b:Go Pn A H1 m H2):Go Pn A H m H2:=⟨a.st.trans b.st,b.pn⟩
structure RE (Pn:Option zm)(M:List Nat)(fr:Bool)(te:TE)(f:Ev->Mo W):Prop where
 run:∀A σ H ρ n Q R,EnvR A M σ H ρ->y2 Pn A n H->f ρ n R->(∀w m v H',R w m->Val A H' w v->Go Pn A H m H'->(fr=true->FrV A H H' w v)->Q v H')->te σ H Q
structure RB (Pn:Option zm)(M:List Nat)(te:TE)(f:Ev->Mo W):Prop where
 run:∀A σ H ρ n Q R,EnvR A M σ H ρ->y2 Pn A n H->f ρ n R->(∀w m v H',R w m->Bor A H' w v->Go Pn A H m H'->Q v H')->te σ H Q
structure RT (Pn:Option zm)(M:List Nat)(te:TT)(f:Ev->Mo Bool):Prop where
 run:∀A σ H ρ n Q R,EnvR A M σ H ρ->y2 Pn A n H->f ρ n R->(∀b m H',R b m->Go Pn A H m H'->Q b H')->te σ H Q
def zpe (A:Addr->Prop)(H:Hp):List W->List V->Prop
 | [],vs=>vs=[]
 | w::q,vs=>∃v r,vs=v::r/\Bor A H w v/\zpe A H q r
def zcO (A:Addr->Prop)(H:Hp):List W->List V->Prop
 | [],vs=>vs=[]
 | w::q,vs=>∃v r,vs=v::r/\Val A H w v/\zcO A H q r
theorem zcO.bor {A:Addr->Prop}{H:Hp}:∀ {q:List W} {vs:List V},zcO A H q vs->zpe A H q vs
 | [],_,h=>h
 | _::_,_,⟨v,r,e,h1,h2⟩=>⟨v,r,e,h1.bor,zcO.bor h2⟩
structure RA (Pn:Option zm)(M:List Nat)(ta:TA)(f:Ev->Mo (List W)):Prop where
 run:∀A σ H ρ n Q R,EnvR A M σ H ρ->y2 Pn A n H->f ρ n R->(∀ws m vs H',R ws m->zcO A H' ws vs->Go Pn A H m H'->Q vs H')->ta σ H Q
structure RAB (Pn:Option zm)(M:List Nat)(ta:TA)(f:Ev->Mo (List W)):Prop where
 run:∀A σ H ρ n Q R,EnvR A M σ H ρ->y2 Pn A n H->f ρ n R->(∀ws m vs H',R ws m->zpe A H' ws vs->Go Pn A H m H'->Q vs H')->ta σ H Q
structure Kt where
 nx:Ev->Nat->Prop
 rt:W->Nat->Prop
 bk:Ev->Nat->Prop:=fun _ _=>False
 ct:Ev->Nat->Prop:=fun _ _=>False
abbrev Ms:=Ev->Nat->Kt->Prop
def StX (q:Addr->Prop)(H0 H:Hp):Prop:=∀b o,H0 b=some o->NP o->¬ q b->H b=some o
theorem StX.of {q:Addr->Prop}{H0 H:Hp}(s:zv H0 H):StX q H0 H:=fun b o e n _=>s b o e n
theorem StX.stay {H0 H:Hp}(s:StX (fun _=>False) H0 H):zv H0 H:=fun b o e n=>s b o e n fun z=>z
structure Frm (A0:Addr->Prop)(H0:Hp)(ca:Addr->Prop)(A:Addr->Prop)(H:Hp):Prop where
 sub:∀a,A0 a->A a
 new:∀a,A a->A0 a\/Fr H0 a\/ca a
 st:StX ca H0 H
 al:Al A0 H0
 cn:∀a,ca a->¬ A0 a
 cs:∀a,ca a->∃o,H a=some o/\NP o
theorem Frm.back {A0:Addr->Prop}{H0:Hp}{B A:Addr->Prop}{H:Hp}(f:Frm A0 H0 B A H){a:Addr}(h:Fr H a)(n:¬ A a):Fr H0 a:=fun o e q=>h o (f.st a o e q fun z=>let ⟨o2,e2,n2⟩:=f.cs a z;h o2 e2 n2) q
structure Bs where
 ca:Addr->Prop:=fun _=>False
 A0:Addr->Prop
 H0:Hp
 G0:Hp
 σ0:St
structure At3 (Pn:Option zm)(B:Bs)(S M:List Nat)(A:Addr->Prop)(σ:St)(H:Hp)(ρ:Ev)(n:Nat):Prop where
 env:EnvR A M σ H ρ
 frm:Frm B.A0 B.H0 B.ca A H
 pn:y2 Pn A n H
 prot:zv B.G0 (z7 A H)
 fix:∀i∈S,σ[i]?=B.σ0[i]?
 mine:∀i w a,i∈M->ρ[i]?=some (some w)->σ[i]?=some (some (.ref a))->Fr B.H0 a\/B.ca a
structure KOk (Pn:Option zm)(B:Bs)(S M:List Nat)(fr:Bool)(k:Kt)(D:Ends):Prop where
 nx:∀A σ H ρ n,At3 Pn B S M A σ H ρ n->k.nx ρ n->D.nx σ H
 bk:∀A σ H ρ n,At3 Pn B S M A σ H ρ n->k.bk ρ n->D.bk σ H
 ct:∀A σ H ρ n,At3 Pn B S M A σ H ρ n->k.ct ρ n->D.ct σ H
 fc:∀a,¬ B.ca a
 rt:∀w n v H,Val B.A0 H w v->StX B.ca B.H0 H->y2 Pn B.A0 n H->(fr=true->FrV B.A0 B.H0 H w v)->k.rt w n->D.rt v H
structure RS (Pn:Option zm)(S M:List Nat)(fr:Bool)(ts:TS)(fs:Ms):Prop where
 run:∀B A σ H ρ n k D,At3 Pn B S M A σ H ρ n->KOk Pn B S M fr k D->fs ρ n k->ts D σ H
structure RG (S M:List Nat)(g:TG)(mg:W->Ev->(Ev->Prop)->Prop):Prop where
 run:∀A σ H ρ v w Q R,EnvR A M σ H ρ->Val A H w v->mg w ρ R->(∀ σ' ρ',R ρ'->EnvR A M σ' H ρ'->(∀i∈S,σ'[i]?=σ[i]?/\ρ'[i]?=ρ[i]?)->Q σ' H)->g v σ H Q
structure RGs (S M:List Nat)(g:TGs)(mg:List Dt->Ev->(Ev->Prop)->Prop):Prop where
 run:∀A σ H ρ vs ds Q R,EnvR A M σ H ρ->IsL (z7 A H) ds vs->mg ds ρ R->(∀ σ' ρ',R ρ'->EnvR A M σ' H ρ'->(∀i∈S,σ'[i]?=σ[i]?/\ρ'[i]?=ρ[i]?)->Q σ' H)->g vs σ H Q
structure ItV (ow:Bool)(A:Addr->Prop)(H:Hp)(J:It)(l:List W):Prop where
 one:∀i w A2 H2,l[i]?=some w->zv (z7 A H) (z7 A2 H2)->(ow=true->zv H H2)->(∀p,H2 p=none->¬ A2 p)->J.go i H2/\∀x H3,J.yld i H2 x H3->y4 H2 H3/\Val A2 H3 w x
 stop:∀A2 H2,zv (z7 A H) (z7 A2 H2)->(ow=true->zv H H2)->J.stop l.length H2
structure RI (Pn:Option zm)(M:List Nat)(ow:Bool)(wi:TI)(f:Ev->Mo (List W)):Prop where
 run:∀A σ H ρ n Q R,EnvR A M σ H ρ->y2 Pn A n H->f ρ n R->(∀l m J H',R l m->ItV ow A H' J l->Go Pn A H m H'->Q J H')->wi σ H Q
theorem RE.rb {Pn:Option zm}{M:List Nat}{fr:Bool}{te:TE}{f:Ev->Mo W}(h:RE Pn M fr te f):RB Pn M te f:=
 ⟨fun A σ H ρ n Q R E P q k=>h.run A σ H ρ n Q R E P q fun w m v H' r a g _=>k w m v H' r a.bor g⟩
theorem RA.rab {Pn:Option zm}{M:List Nat}{te:TA}{f:Ev->Mo (List W)}(h:RA Pn M te f):RAB Pn M te f:=
 ⟨fun A σ H ρ n Q R E P q k=>h.run A σ H ρ n Q R E P q fun w m v H' r a g=>k w m v H' r a.bor g⟩
theorem y2.same {Pn:Option zm}{A:Addr->Prop}{n:Nat}{H H':Hp}(h:y2 Pn A n H)(s:y4 H H'):y2 Pn A n H':=by
 unfold y2 at h ⊢;split at h
 ·trivial
 ·exact⟨h.1.same s,h.2⟩
theorem Go.same {Pn:Option zm}{A:Addr->Prop}{n:Nat}{H H':Hp}(h:y2 Pn A n H)(s:y4 H H'):Go Pn A H n H':=⟨zv.same s,h.same s⟩
theorem Go.refl {Pn:Option zm}{A:Addr->Prop}{n:Nat}{H:Hp}(h:y2 Pn A n H):Go Pn A H n H:=⟨zv.refl _,h⟩
open PySem L2
structure JE (X:Cx)(Pn:Option zm)(M:List Nat)(fr:Bool)(e:Expr)(f:Ev->Mo W):Prop where
 ex:∃te,QE X e te/\RE Pn M fr te f
structure JB (X:Cx)(Pn:Option zm)(M:List Nat)(e:Expr)(f:Ev->Mo W):Prop where
 ex:∃te,QE X e te/\RB Pn M te f
structure JT (X:Cx)(Pn:Option zm)(M:List Nat)(e:Expr)(f:Ev->Mo Bool):Prop where
 ex:∃te,QT X e te/\RT Pn M te f
structure JW (X:Cx)(Pn:Option zm)(M:List Nat)(e:Expr)(f:Ev->Mo Bool):Prop where
 ex:∃te,QW X e te/\RT Pn M te f
structure JA (X:Cx)(Pn:Option zm)(M:List Nat)(es:List Expr)(f:Ev->Mo (List W)):Prop where
 ex:∃te,QA X es te/\RA Pn M te f
structure JAB (X:Cx)(Pn:Option zm)(M:List Nat)(es:List Expr)(f:Ev->Mo (List W)):Prop where
 ex:∃te,QA X es te/\RAB Pn M te f
structure JO (X:Cx)(Pn:Option zm)(M:List Nat)(e:Option Expr)(f:Ev->Mo (Option Int)):Prop where
 ex:∃t,QO X e t/\∀A σ H ρ n Q R,EnvR A M σ H ρ->y2 Pn A n H->f ρ n R->(∀o m H',R o m->Go Pn A H m H'->Q o H')->t σ H Q
section
variable {X:Cx}{Pn:Option zm}{M:List Nat}{fr:Bool}{e a b c:Expr}{es:List Expr}{f fa fb fc:Ev->Mo W}{pos p:Pos}
def zqj (i:Nat):Ev->Mo W:=fun ρ n Q=>∃w,ρ[i]?=some (some w)/\Q w n
@[reducible] def mC (w:W):Ev->Mo W:=fun _ n Q=>Q w n
@[reducible] def zpi (F:W->W->Mo W) (fa fb:Ev->Mo W):Ev->Mo W:=fun ρ n Q=>fa ρ n fun x q=>fb ρ q fun y B=>F x y B Q
@[reducible] def mUn (F:W->Mo W) (fa:Ev->Mo W):Ev->Mo W:=fun ρ n Q=>fa ρ n fun x q=>F x q Q
def zqh (fa:Ev->Mo W):Ev->Mo Bool:=fun ρ n Q=>fa ρ n fun x q=>∃c,x = .d (.bl c)/\Q c q
def zr5 (t u:Ev->Mo Bool):Ev->Mo Bool:=fun ρ n Q=>t ρ n fun c q=>if c=true then u ρ q Q else Q false q
def mOr (t u:Ev->Mo Bool):Ev->Mo Bool:=fun ρ n Q=>t ρ n fun c q=>if c=true then Q true q else u ρ q Q
def ztd (t:Ev->Mo Bool):Ev->Mo Bool:=fun ρ n Q=>t ρ n fun c q=>Q (!c) q
@[reducible] def ztc:Ev->Mo (List W):=fun _ n Q=>Q [] n
@[reducible] def znB (fa:Ev->Mo W) (fr:Ev->Mo (List W)):Ev->Mo (List W):=fun ρ n Q=>fa ρ n fun x q=>fr ρ q fun xs B=>Q (x::xs) B
@[reducible] def zs4 (F:List W->Mo W) (fa:Ev->Mo (List W)):Ev->Mo W:=fun ρ n Q=>fa ρ n fun xs q=>F xs q Q
theorem JE.bo (h:JE X Pn M fr e f):JB X Pn M e f:=let ⟨te,h1,h2⟩:=h.ex;⟨te,h1,h2.rb⟩
theorem JA.bo {f:Ev->Mo (List W)}(h:JA X Pn M es f):JAB X Pn M es f:=let ⟨te,h1,h2⟩:=h.ex;⟨te,h1,h2.rab⟩
theorem zrb {i:Nat}(hi:i∉M):RE Pn M false (zkl i) (zqj i):=⟨fun A σ H ρ n Q R E P q k=>by obtain⟨w,e,r⟩:=q;obtain⟨v,h1,h2,_⟩:=E.val i w e;exact⟨v,h1,k w n v H r (h2 hi) (Go.refl P) fun z=>by cases z⟩⟩
theorem zq8 {i:Nat}:RB Pn M (zkl i) (zqj i):=⟨fun A σ H ρ n Q R E P q k=>by
 obtain⟨w,e,r⟩:=q;obtain⟨v,h1,h2,B⟩:=E.val i w e;refine⟨v,h1,k w n v H r ?_ (Go.refl P)⟩;by_cases hi:i∈M
 ·obtain⟨a,_,_,h,_⟩:=B hi;exact h
 ·exact (h2 hi).bor⟩
theorem zsX (i:Nat){x:Str}(hi:i∉M:=by decide)(B:X.N[i]?=some x:=by rfl)(D:Vis X.env.scope x:=by walk_at "v")(F:(x==("__debug__" : Str))=false:=by decide)
  (q:(x==("__classdict__" : Str))=false:=by decide):JE X Pn M false (.Name x pos) (zqj i):=⟨_,qv i B D F q,zrb hi⟩
theorem zsU (i:Nat){x:Str}(B:X.N[i]?=some x:=by rfl)(D:Vis X.env.scope x:=by walk_at "v")(F:(x==("__debug__" : Str))=false:=by decide)
  (q:(x==("__classdict__" : Str))=false:=by decide):JB X Pn M (.Name x pos) (zqj i):=⟨_,qv i B D F q,zq8⟩
theorem re_c {x:Dt}{v:V}(h:∀G,Is G x v):RE Pn M false (tC v) (mC (.d x)):=⟨fun A σ H ρ n Q R E P q k=>k _ n v H q (Val.of (h _)) (Go.refl P) fun z=>by cases z⟩
theorem zw {i:Int}{j:Nat}:JE X Pn M false (.Constant (.int i) j pos) (mC (.d (.int i))):=⟨_,yy,re_c fun _=>rfl⟩
theorem zk2 {k:Bool}{j:Nat}:JE X Pn M false (.Constant (.bool k) j pos) (mC (.d (.bl k))):=⟨_,ztE,re_c fun _=>rfl⟩
theorem Al.new {A:Addr->Prop}{H:Hp}(h:Al A H){p:Addr}(e:H p=none):¬ A p:=fun z=>by obtain⟨o,h1,_⟩:=h p z;rw[e] at h1;cases h1
theorem Al.stay {A:Addr->Prop}{H H':Hp}(h:Al A H)(s:zv H H'):Al A H':=fun a z=>by obtain⟨o,h1,h2,q⟩:=h a z;exact⟨o,s _ _ h1 h2,h2,q⟩
theorem Al.noT {A:Addr->Prop}{H:Hp}(h:Al A H):∀a xs,A a->H a≠some (.tup xs):=fun a xs z e=>by obtain⟨o,h1,_,q⟩:=h a z;rw[h1] at e;cases e;exact q xs rfl
theorem Al.noT' {A:Addr->Prop}{H H':Hp}(h:Al A H)(s:zv H H'){p:Addr}{xs:List V}(e:H' p=some (.tup xs)):¬ A p:=fun z=>(h.stay s).noT p xs z e
structure F2 (Pn:Option zm)(fr:Bool)(r:R2)(F:W->W->Mo W):Prop where
 run:∀A H x y wx wy n Q R,Al A H->Bor A H wx x->Bor A H wy y->y2 Pn A n H->F wx wy n R->(∀w m v H',R w m->Val A H' w v->Go Pn A H m H'->(fr=true->FrV A H H' w v)->Q v H')->r x y H Q
structure FL (Pn:Option zm)(fr:Bool)(r:List V->Hp->VK->Prop)(F:List W->Mo W):Prop where
 run:∀A H xs ws n Q R,Al A H->zpe A H ws xs->y2 Pn A n H->F ws n R->(∀w m v H',R w m->Val A H' w v->Go Pn A H m H'->(fr=true->FrV A H H' w v)->Q v H')->r xs H Q
theorem zlI {r:R2}{F:W->W->Mo W}{ta tb:TE}(B:F2 Pn fr r F)(D:RB Pn M ta fa)(I:RB Pn M tb fb):RE Pn M fr (tOp r ta tb) (zpi F fa fb):=⟨fun A σ H ρ n Q R E P J k=>by refine D.run A σ H ρ n _ _ E P J fun x L O H1 U Y q=>?_;refine I.run A σ H1 ρ L _ _ (E.stay q.st) q.pn U fun y Z v2 H2 r2 b2 g2=>?_;have g:=q.trans g2;exact B.run A H2 O v2 x y Z _ _ (E.stay g.st).al (Y.stay g2.st) b2 g2.pn r2 fun w m v H' h1 h2 h3 h4=>k w m v H' h1 h2 (g.trans h3) fun z=>(h4 z).back g.st⟩
theorem zq9 {r:List V->Hp->VK->Prop}{F:List W->Mo W}{ta:TA}{fa:Ev->Mo (List W)}(B:FL Pn fr r F)(D:RAB Pn M ta fa):RE Pn M fr (tCB r ta) (zs4 F fa):=⟨fun A σ H ρ n Q R E P I k=>by refine D.run A σ H ρ n _ _ E P I fun x J L H1 O U q=>?_;exact B.run A H1 L x J _ _ (E.stay q.st).al U q.pn O fun w m v H' h1 h2 Y Z=>k w m v H' h1 h2 (q.trans Y) fun z=>(Z z).back q.st⟩
theorem ux {q:Operator}{r:R2}{F:W->W->Mo W}(B:OpQ X (binaryOp q) r)(D:F2 Pn fr r F)(I:JB X Pn M a fa)(J:JB X Pn M b fb):JE X Pn M fr (.BinOp a q b pos) (zpi F fa fb):=by obtain⟨ta,L,O⟩:=I.ex;obtain⟨tb,U,Y⟩:=J.ex;exact⟨_,yS B L U,zlI D O Y⟩
theorem zsV {q:CmpOp}{r:R2}{F:W->W->Mo W}(B:OpQ X (compareOp q) r)(D:F2 Pn fr r F)(I:JB X Pn M a fa)(J:JB X Pn M b fb)(L:behindInMarks q b=false):JE X Pn M fr (.Compare a [q] [b] pos) (zpi F fa fb):=by obtain⟨ta,O,U⟩:=I.ex;obtain⟨tb,Y,Z⟩:=J.ex;exact⟨_,zop B O Y L,zlI D U Z⟩
theorem zmB {ta:TE}(h:RB Pn M ta fa):RT Pn M (zo0 ta) (zqh fa):=⟨fun A σ H ρ n Q R E P B k=>by refine h.run A σ H ρ n _ _ E P B  ?_;rintro x D F H1 ⟨c,e,r⟩ I J;subst e;have q:F = .bl c:=I;exact⟨c,q,k c D H1 r J⟩⟩
theorem zF {q:CmpOp}{r:R2}{F:W->W->Mo W}(B:OpQ X (compareOp q) r)(D:F2 Pn fr r F)(I:JB X Pn M a fa)(J:JB X Pn M b fb)(L:behindInMarks q b=false):JT X Pn M (.Compare a [q] [b] pos) (zqh (zpi F fa fb)):=by obtain⟨ta,O,U⟩:=I.ex;obtain⟨tb,Y,Z⟩:=J.ex;exact⟨_,zcx B O Y L,zmB (zlI D U Z).rb⟩
theorem zce (h:JB X Pn M e f)(he:∀whole,isTrue e X.env whole=(do let v <- whole;standAt e.pos;holding [v] (truthy v)):=by intro _;rfl):JT X Pn M e (zqh f):=by obtain⟨ta,qa,ra⟩:=h.ex;exact⟨_,zq4 qa he,zmB ra⟩
theorem zeO {t:Ev->Mo Bool}(h:JT X Pn M a t):JT X Pn M (.UnaryOp .Not a pos) (ztd t):=by obtain⟨ta,q,B⟩:=h.ex;exact⟨_,zq3 q,⟨fun A σ H ρ n Q R E P D k=>B.run A σ H ρ n _ _ E P D fun b m H' r g=>k _ m H' r g⟩⟩
theorem uV {q:BoolOp}{t:Ev->Mo Bool}(B:q = .And\/q = .Or)(h:JT X Pn M a t):JW X Pn M (.BoolOp q [a] pos) t:=by
 obtain⟨ta,D,F⟩:=h.ex;rcases B with rfl | rfl
 ·exact⟨_,zjN D,F⟩
 ·exact⟨_,zq5 D,F⟩
theorem zrl {t u:TT}{q B:Ev->Mo Bool}(h:RT Pn M t q)(h':RT Pn M u B):RT Pn M (ztP t u) (zr5 q B):=⟨fun A σ H ρ n Q R E P D k=>by
 refine h.run A σ H ρ n _ _ E P D fun c m H1 r g=>?_
 cases c with
 | true=>exact h'.run A σ H1 ρ m _ _ (E.stay g.st) g.pn (by simpa using r) fun b F H' I g'=>k b F H' I (g.trans g')
 | false=>exact k false m H1 (by simpa using r) g⟩
theorem ztM {t u:TT}{q B:Ev->Mo Bool}(h:RT Pn M t q)(h':RT Pn M u B):RT Pn M (tOr t u) (mOr q B):=⟨fun A σ H ρ n Q R E P D k=>by
 refine h.run A σ H ρ n _ _ E P D fun c m H1 r g=>?_
 cases c with
 | false=>exact h'.run A σ H1 ρ m _ _ (E.stay g.st) g.pn (by simpa using r) fun b F H' I g'=>k b F H' I (g.trans g')
 | true=>exact k true m H1 (by simpa using r) g⟩
theorem zcf {zV:List Expr}{t u:Ev->Mo Bool}(h:JT X Pn M a t)(h':JW X Pn M (.BoolOp .And (b::zV) pos) u):JW X Pn M (.BoolOp .And (a::b::zV) pos) (zr5 t u):=by obtain⟨ta,q,B⟩:=h.ex;obtain⟨tb,D,F⟩:=h'.ex;exact⟨_,zmx q D,zrl B F⟩
theorem zk5 {zV:List Expr}{t u:Ev->Mo Bool}(h:JT X Pn M a t)(h':JW X Pn M (.BoolOp .Or (b::zV) pos) u):JW X Pn M (.BoolOp .Or (a::b::zV) pos) (mOr t u):=by obtain⟨ta,q,B⟩:=h.ex;obtain⟨tb,D,F⟩:=h'.ex;exact⟨_,ztG q D,ztM B F⟩
theorem JW.t {t:Ev->Mo Bool}(h:JW X Pn M e t):JT X Pn M e t:=let ⟨te,h1,h2⟩:=h.ex;⟨te,h1.pt,h2⟩
@[reducible] def zpX:W->Bool
 | .d .non=>true
 | _=>false
@[reducible] def mIsN (fa:Ev->Mo W):Ev->Mo W:=fun ρ n Q=>fa ρ n fun x q=>Q (.d (.bl (zpX x))) q
@[reducible] def mNotN (fa:Ev->Mo W):Ev->Mo W:=fun ρ n Q=>fa ρ n fun x q=>Q (.d (.bl (!zpX x))) q
theorem zd:JA X Pn M [] ztc:=⟨_,yx,⟨fun A σ H ρ n Q R E P q k=>k [] n [] H q rfl (Go.refl P)⟩⟩
theorem za {fs:Ev->Mo (List W)}(B:JE X Pn M fr e f)(D:JA X Pn M es fs)(F:starEach (e::es) X.env=(false,eval e X.env)::starEach es X.env:=by rfl):JA X Pn M (e::es) (znB f fs):=by obtain⟨ta,I,J⟩:=B.ex;obtain⟨tb,L,O⟩:=D.ex;refine⟨_,zJ I L F,⟨fun A σ H ρ n Q R E P U k=>?_⟩⟩;refine J.run A σ H ρ n _ _ E P U fun x Y Z H1 r1 b1 q _=>?_;exact O.run A σ H1 ρ Y _ _ (E.stay q.st) q.pn r1 fun xs n2 vs H2 r2 b2 g2=>k _ n2 _ H2 r2 ⟨Z,vs,rfl,b1.stay g2.st,b2⟩ (q.trans g2)
theorem zk:JAB X Pn M [] ztc:=zd.bo
theorem zh {fs:Ev->Mo (List W)}(B:JB X Pn M e f)(D:JAB X Pn M es fs)(F:starEach (e::es) X.env=(false,eval e X.env)::starEach es X.env:=by rfl):JAB X Pn M (e::es) (znB f fs):=by obtain⟨ta,I,J⟩:=B.ex;obtain⟨tb,L,O⟩:=D.ex;refine⟨_,zJ I L F,⟨fun A σ H ρ n Q R E P U k=>?_⟩⟩;refine J.run A σ H ρ n _ _ E P U fun x Y Z H1 r1 b1 q=>?_;exact O.run A σ H1 ρ Y _ _ (E.stay q.st) q.pn r1 fun xs n2 vs H2 r2 b2 g2=>k _ n2 _ H2 r2 ⟨Z,vs,rfl,b1.stay g2.st,b2⟩ (q.trans g2)
def lim:Nat:=500000
theorem zdb {n:Nat}(h:n<=lim):n<=sizeLine:=aB h (by decide)
theorem zeU {n:Nat}(h:n<=lim):n<sizeLine:=a8 h (by decide)
def dts:List W->Option (List Dt)
 | []=>some []
 | .d x::r=>(dts r).map (x::·)
 | _::_=>none
theorem zcO.dts {A:Addr->Prop}{H:Hp}:∀ {q:List W} {vs:List V} {l:List Dt},zcO A H q vs->dts q=some l->IsL (z7 A H) l vs
 | [],vs,l,h,e=>by cases e;exact h
 | .d x::q,vs,l,⟨v,r,B,h1,h2⟩,e=>by obtain⟨l',D,rfl⟩:=aI.mp e;exact⟨v,r,B,h1.is,zcO.dts h2 D⟩
 | .pen _::_,_,_,_,e=>by cases e
 | .dk _::_,_,_,_,e=>by cases e
 | .dt _::_,_,_,_,e=>by cases e
 | .ss _ _ _::_,_,_,_,e=>by cases e
 | .df _::_,_,_,_,e=>by cases e
theorem zcO.len {A:Addr->Prop}{H:Hp}:∀ {q:List W} {vs:List V},zcO A H q vs->vs.length=q.length
 | [],_,h=>by cases h;rfl
 | _::q,vs,⟨v,r,e,_,h2⟩=>by rw[e,aS,aS,zcO.len h2]
theorem zej {A:Addr->Prop}{H H':Hp}{p:Addr}{xs:List V}{l:List Dt}(q:IsL (z7 A H) l xs)(s:zv H H')(n:¬ A p)(g:H' p=some (.tup xs)):Val A H' (.d (.tup l)) (.ref p):=
 Val.of ⟨p,xs,rfl,zy n g,q.stay (zM s)⟩
theorem xR {A:Addr->Prop}{H H':Hp}{p:Addr}{xs:List V}{l:List Dt}(q:IsL (z7 A H) l xs)(s:zv H H')(n:¬ A p)(g:H' p=some (.lst xs)):Val A H' (.d (.lst l)) (.ref p):=
 Val.of ⟨p,xs,rfl,zy n g,q.stay (zM s)⟩
theorem x8 {A:Addr->Prop}{H H':Hp}{p:Addr}{xs:List V}{l:List Dt}(q:IsL (z7 A H) l xs)(s:y4 H H')(n:H p=none)(g:H' p=some (.lst xs)):FrV A H H' (.d (.lst l)) (.ref p):=
 ⟨p,rfl,.of n,p,xs,rfl,g,q.stay (yB (zv.same s) (.of n))⟩
@[reducible] def zsb:Nat->List W->(List Dt->Prop)->Prop
 | _,[],P=>P []
 | k+1,.d x::r,P=>zsb k r fun l=>P (x::l)
 | _,_,_=>False
theorem zdW:∀ {k:Nat} {l:List W} {P:List Dt->Prop},zsb k l P->∃ds,dts l=some ds/\P ds/\l.length<=k
 | 0,[],P,h=>⟨[],rfl,h,aT _⟩
 | k+1,[],P,h=>⟨[],rfl,h,aT _⟩
 | 0,.d x::r,P,h=>h.elim
 | k+1,.d x::r,P,h=>by obtain⟨ds,e,h2,q⟩:=zdW (k:=k) (l:=r) (P:=fun l=>P (x::l)) h;exact⟨x::ds,by simp[dts,e],h2,Nat.succ_le_succ q⟩
 | 0,.pen _::r,P,h=>h.elim
 | k+1,.pen _::r,P,h=>h.elim
 | 0,.dk _::r,P,h=>h.elim
 | k+1,.dk _::r,P,h=>h.elim
 | 0,.dt _::r,P,h=>h.elim
 | 0,.ss _ _ _::r,P,h=>h.elim
 | 0,.df _::r,P,h=>h.elim
 | k+1,.dt _::r,P,h=>h.elim
 | k+1,.ss _ _ _::r,P,h=>h.elim
 | k+1,.df _::r,P,h=>h.elim
@[reducible] def zqi (fa:Ev->Mo (List W)):Ev->Mo W:=fun ρ n Q=>fa ρ n fun q m=>zsb 200 q fun l=>Q (.d (.tup l)) m
theorem yR {x1}{fs:Ev->Mo (List W)}(h:JA X Pn M es fs):JE X Pn M false (.Tuple es x1 pos) (zqi fs):=by obtain⟨ta,q,B⟩:=h.ex;refine⟨_,zf4 q,⟨fun A σ H ρ n Q R E P D k=>?_⟩⟩;refine B.run A σ H ρ n _ _ E P D fun O m vs H1 F b g=>?_;obtain⟨l,e,r,I⟩:=zdW F;refine⟨zdb (by rw[b.len];exact aB I (by decide)),fun p H2 J L S=>?_⟩;exact k _ m _ H2 r (zej (b.dts e) (zv.same S) ((E.stay g.st).new J) L) (g.trans (Go.same g.pn S)) fun z=>by cases z
@[reducible] def ztb (fa:Ev->Mo (List W)):Ev->Mo W:=fun ρ n Q=>fa ρ n fun q m=>zsb 200 q fun l=>Q (.d (.lst l)) m
theorem xu {fs:Ev->Mo (List W)}(h:JA X Pn M es fs):JE X Pn M true (.List es pos) (ztb fs):=by obtain⟨ta,D,F⟩:=h.ex;refine⟨_,zjJ D,⟨fun A σ H ρ n Q R E P I k=>?_⟩⟩;refine F.run A σ H ρ n _ _ E P I fun O m vs H1 J b g=>?_;obtain⟨l,e,r,L⟩:=zdW J;refine⟨zdb (by rw[b.len];exact aB L (by decide)),fun p H2 q B S=>?_⟩;exact k _ m _ H2 r (xR (b.dts e) (zv.same S) ((E.stay g.st).new q) B) (g.trans (Go.same g.pn S)) fun _=>(x8 (b.dts e) S q B).back g.st
theorem zY {id:String}{r:List V->Hp->VK->Prop}{F:List W->Mo W}{x:Str}{fs:Ev->Mo (List W)}(D:CallQ X (.builtin id) r)(I:FL Pn fr r F)(J:Gl X x)(L:X.mg x=none)(O:bootBuiltins x=some (.builtin id))(U:JAB X Pn M (e::es) fs)(Y:x ≠ "__name__" := by decide)(q:(x==("__debug__" : Str))=false:=by decide)
  (Z:starEach (e::es) X.env=(false,eval e X.env)::starEach es X.env:=by rfl) (B:(backTo pos (starEach es X.env)).any (·.1)=false:=by rfl):JE X Pn M fr (.Call (.Name x p) (e::es) [] pos) (zs4 F fs):=by
 obtain⟨ta,qa,ra⟩:=U.ex;exact⟨_,xi D J L O qa Y q Z B,zq9 I ra⟩
theorem xh {T:String}{r:List V->Hp->VK->Prop}{F:List W->Mo W}{x:Str}{fs:Ev->Mo (List W)}(D:CallQ X (.type T) r)(I:FL Pn fr r F)(J:Gl X x)(L:X.mg x=none)(O:bootBuiltins x=some (.type T))(U:JAB X Pn M (e::es) fs)(Y:x ≠ "__name__" := by decide)(q:(x==("__debug__" : Str))=false:=by decide)
  (Z:starEach (e::es) X.env=(false,eval e X.env)::starEach es X.env:=by rfl) (B:(backTo pos (starEach es X.env)).any (·.1)=false:=by rfl):JE X Pn M fr (.Call (.Name x p) (e::es) [] pos) (zs4 F fs):=by
 obtain⟨ta,qa,ra⟩:=U.ex;exact⟨_,zaQ D J L O qa Y q Z B,zq9 I ra⟩
end
open PySem L2
section
variable {Pn:Option zm}{K:PySem.W.Frag}{A:Addr->Prop}{H:Hp}
theorem xq {i:Int}{v:V}(h:Bor A H (.d (.int i)) v):v = .int i:=h
theorem xG {l:List Dt}{v:V}(h:Bor A H (.d (.tup l)) v):∃a xs,v = .ref a/\H a=some (.tup xs)/\IsL (z7 A H) l xs:=by obtain⟨a,xs,e,h1,h2⟩:=h;exact⟨a,xs,e,zr _ _ h1,h2⟩
theorem y9 {l:List Dt}{v:V}(h:Bor A H (.d (.lst l)) v):∃a xs,v = .ref a/\H a=some (.lst xs)/\IsL (z7 A H) l xs:=h
theorem zhO {l:List Dt}{v:V}(h:Bor A H (.d (.lst l)) v\/Bor A H (.d (.tup l)) v):∃a xs,v = .ref a/\(SqL K H a xs\/SqT K H a xs)/\IsL (z7 A H) l xs:=by
 rcases h with h | h
 ·obtain⟨a,xs,e,h1,h2⟩:=y9 h;exact⟨a,xs,e,.inl (.of h1),h2⟩
 ·obtain⟨a,xs,e,h1,h2⟩:=xG h;exact⟨a,xs,e,.inr (.of h1),h2⟩
def fI (C:Int->Int->Prop)(g:Int->Int->Dt):W->W->Mo W:=fun x y n Q=>∃i j,x = .d (.int i)/\y = .d (.int j)/\C i j/\Q (.d (g i j)) n
def fI0 (g:Int->Int->Dt):W->W->Mo W:=fun x y n Q=>∃i j,x = .d (.int i)/\y = .d (.int j)/\Q (.d (g i j)) n
theorem f2_I {C:Int->Int->Prop}{g:Int->Int->V}{g':Int->Int->Dt}(B:∀i j G,Is G (g' i j) (g i j)):F2 Pn false (rI C g) (fI C g'):=⟨by
 rintro A H x y J L n Q R O D q P ⟨i,j,F,I,c,r⟩ k;subst F I;exact⟨i,j,xq D,xq q,c,k _ n _ H r (Val.of (B _ _ _)) (Go.refl P) fun z=>by cases z⟩⟩
theorem zik {g:Int->Int->V}{g':Int->Int->Dt}(B:∀i j G,Is G (g' i j) (g i j)):F2 Pn false (rI0 g) (fI0 g'):=⟨by
 rintro A H x y J L n Q R O D q P ⟨i,j,F,I,r⟩ k;subst F I;exact⟨i,j,xq D,xq q,k _ n _ H r (Val.of (B _ _ _)) (Go.refl P) fun z=>by cases z⟩⟩
abbrev fAdd:=fI0 fun i j=>.int (i+j)
abbrev fSub:=fI0 fun i j=>.int (i - j)
abbrev fDiv:=fI zpf fun i j=>.int (i / j)
abbrev fMod:=fI (fun _ j=>0<j) fun i j=>.int (i % j)
abbrev fLt:=fI0 fun i j=>.bl (decide (i<j))
abbrev fLe:=fI0 fun i j=>.bl (decide (i<=j))
abbrev fGt:=fI0 fun i j=>.bl (decide (j<i))
theorem ztV:F2 Pn false (rI0 fun i j=>.int (i+j)) fAdd:=zik fun _ _ _=>rfl
theorem zt4:F2 Pn false (rI0 fun i j=>.int (i - j)) fSub:=zik fun _ _ _=>rfl
theorem zrQ:F2 Pn false (rI zpf fun i j=>.int (i / j)) fDiv:=f2_I fun _ _ _=>rfl
theorem zt2:F2 Pn false (rI (fun _ j=>0<j) fun i j=>.int (i % j)) fMod:=f2_I fun _ _ _=>rfl
theorem v_lt:F2 Pn false (rI0 fun i j=>.bl (decide (i<j))) fLt:=zik fun _ _ _=>rfl
theorem v_le:F2 Pn false (rI0 fun i j=>.bl (decide (i<=j))) fLe:=zik fun _ _ _=>rfl
theorem v_gt:F2 Pn false (rI0 fun i j=>.bl (decide (j<i))) fGt:=zik fun _ _ _=>rfl
@[reducible] def sEq:Dt->Dt->Option Bool
 | .int i,.int j=>some (decide (i=j))
 | .bl i,.bl j=>some (decide (i=j))
 | .str i,.str j=>some (decide (i=j))
 | .non,.non=>some true
 | .non,.int _=>some false
 | .int _,.non=>some false
 | .non,.bl _=>some false
 | .bl _,.non=>some false
 | .non,.str _=>some false
 | .str _,.non=>some false
 | .int _,.str _=>some false
 | .str _,.int _=>some false
 | _,_=>none
def plain:Dt->Option V
 | .int i=>some (.int i)
 | .bl i=>some (.bl i)
 | .str i=>some (.str i)
 | .non=>some .non
 | _=>none
theorem zmD {a b:Dt}{r:Bool}(h:sEq a b=some r):∃x y,plain a=some x/\plain b=some y/\ztN x y=true/\decide (x=y)=r:=by cases a <;> cases b <;> cases h <;> refine⟨_,_,rfl,rfl,rfl,?_⟩ <;> first | rfl | exact aO (by intro z;cases z) | exact decide_eq_decide.mpr (by constructor <;> (intro z;cases z;rfl))
theorem zaA {a:Dt}{x v:V}(h:Bor A H (.d a) v)(e:plain a=some x):v=x:=by cases a <;> cases e <;> exact h
def fEq:W->W->Mo W:=fun x y n Q=>∃a b r,x = .d a/\y = .d b/\sEq a b=some r/\Q (.d (.bl r)) n
def fNe:W->W->Mo W:=fun x y n Q=>∃a b r,x = .d a/\y = .d b/\sEq a b=some r/\Q (.d (.bl (!r))) n
theorem v_eq:F2 Pn false rEq fEq:=⟨by
 rintro A H x y J L n Q R O B q P ⟨a,b,r,D,F,e,h⟩ k;subst D F;obtain⟨U,Y,I,p2,s,d⟩:=zmD e;obtain rfl:=zaA B I;obtain rfl:=zaA q p2;exact⟨s,k _ n _ H h (Val.of (by rw[d];rfl)) (Go.refl P) fun z=>by cases z⟩⟩
theorem v_ne:F2 Pn false rNe fNe:=⟨by
 rintro A H x y J L n Q R O B q P ⟨a,b,r,D,F,e,h⟩ k;subst D F;obtain⟨U,Y,I,p2,s,d⟩:=zmD e;obtain rfl:=zaA B I;obtain rfl:=zaA q p2;exact⟨s,k _ n _ H h (Val.of (by rw[d];rfl)) (Go.refl P) fun z=>by cases z⟩⟩
def zsJ:W->W->Mo W:=fun x y n Q=>∃a b,x = .d a/\y = .d b/\a.eqOk/\b.eqOk/\∀r:Bool,(r=true↔a=b)->Q (.d (.bl r)) n
def zsO:W->W->Mo W:=fun x y n Q=>∃a b,x = .d a/\y = .d b/\a.eqOk/\b.eqOk/\∀r:Bool,(r=true↔a=b)->Q (.d (.bl (!r))) n
theorem ztX:F2 Pn false zsd zsJ:=⟨by
 rintro A H x y O U n Q R Y B q P ⟨a,b,D,F,I,J,h⟩ k;subst D F;exact⟨a,b,B.is,q.is,I,J,fun r L=>k _ n _ H (h r L) (Val.of rfl) (Go.refl P) fun z=>by cases z⟩⟩
theorem zt3:F2 Pn false zsh zsO:=⟨by
 rintro A H x y O U n Q R Y B q P ⟨a,b,D,F,I,J,h⟩ k;subst D F;exact⟨a,b,B.is,q.is,I,J,fun r L=>k _ n _ H (h r L) (Val.of rfl) (Go.refl P) fun z=>by cases z⟩⟩
def zfF:W->W->Mo W:=fun x y n Q=>∃ (b:Int) (ns:List Int),x = .d (.int b)/\(y = .d (.lst (ns.map .int))\/y = .d (.tup (ns.map .int)))/\Q (.d (.bl (!ns.contains b))) n
theorem zlV:F2 Pn false (rIn K true) zfF:=⟨by
 rintro A H x y O U n Q R Y B q P ⟨b,ns,D,F,h⟩ k;subst D
 have I:Bor A H (.d (.lst (ns.map .int))) y\/Bor A H (.d (.tup (ns.map .int))) y:=by
  rcases F with rfl | rfl
  ·exact .inl q
  ·exact .inr q
 obtain⟨a,xs,e,J,L⟩:=zhO (K:=K) I;obtain rfl:=L.of_ints;obtain rfl:=xq B;exact⟨a,_,e,J,rfl,ziq ns,k _ n _ H h (Val.of (by rw[zkW];rfl)) (Go.refl P) fun z=>by cases z⟩⟩
def zsK (q:Bool):W->W->Mo W:=fun x y n Q=>∃d ds,x = .d d/\(y = .d (.lst ds)\/y = .d (.tup ds))/\d.eqOk/\(Dt.lst ds).eqOk/\∀b:Bool,(b=true↔d∈ds)->Q (.d (.bl (if q then !b else b))) n
theorem ztY {q:Bool}:F2 Pn false (zse q) (zsK q):=⟨by
 rintro A H x y U Y n Q R Z D B P ⟨d,ds,F,I,J,L,h⟩ k;subst F;refine⟨d,ds,D.is,?_,J,L,fun b O=>k _ n _ H (h b O) (Val.of rfl) (Go.refl P) fun z=>by cases z⟩;rcases I with rfl | rfl
 ·exact .inl B.is
 ·exact .inr B.is⟩
theorem zmi {G:Hp}{l:List Dt}{xs:List V}{i:Int}{d:Dt}(h:IsL G l xs)(e:atI l i=some d):∃v,atI xs i=some v/\Is G d v:=by unfold atI at e ⊢;rw[h.length];obtain⟨j,h1,h2⟩:=Option.bind_eq_some_iff.mp e;obtain⟨v,q,B⟩:=h.getD h2;exact⟨v,by rw[h1];exact q,B⟩
def zsM:W->W->Mo W:=fun x y n Q=>∃l i d,x = .d (.tup l)/\y = .d (.int i)/\atI l i=some d/\Q (.d d) n
def zsL:W->W->Mo W:=fun x y n Q=>∃l i d,x = .d (.lst l)/\y = .d (.int i)/\atI l i=some d/\Q (.d d) n
theorem zt0:F2 Pn false (zsg K) zsM:=⟨by
 rintro A H x y O U n Q R Y B q P ⟨l,i,d,D,F,e,h⟩ k;subst D F;obtain⟨a,xs,I,J,L⟩:=xG B;obtain⟨v,h1,h2⟩:=zmi L e;exact⟨a,xs,i,v,I,xq q,.of J,h1,k _ n _ H h (Val.of h2) (Go.refl P) fun z=>by cases z⟩⟩
theorem ztZ:F2 Pn false (zsf K) zsL:=⟨by
 rintro A H x y O U n Q R Y B q P ⟨l,i,d,D,F,e,h⟩ k;subst D F;obtain⟨a,xs,I,J,L⟩:=y9 B;obtain⟨v,h1,h2⟩:=zmi L e;exact⟨a,xs,i,v,I,xq q,.of J,h1,k _ n _ H h (Val.of h2) (Go.refl P) fun z=>by cases z⟩⟩
def zfE:W->W->Mo W:=fun x y n Q=>∃l m,x = .d (.tup l)/\y = .d (.tup m)/\l.length+m.length<=lim/\Q (.d (.tup (l++m))) n
theorem zrP:F2 Pn false (zjO K) zfE:=⟨by
 rintro A H x y wx wy n Q R F I q P ⟨l,m,J,L,z,h⟩ k;subst J L;obtain⟨a,xs,O,U,B⟩:=xG I;obtain⟨b,ys,Y,Z,D⟩:=xG q;refine⟨a,b,xs,ys,O,Y,U,Z,zdb (by rw[B.length,D.length];exact z),fun p H' g S=>?_⟩;exact k _ n _ H' h (zej (B.append D) (zv.same S) (F.noT' (zv.same S) g) g) (Go.same P S) fun z=>by cases z⟩
def zm3:W->W->Mo W:=fun x y n Q=>∃l m,x = .d (.lst l)/\y = .d (.lst m)/\l.length+m.length<=lim/\Q (.d (.lst (l++m))) n
theorem zrO:F2 Pn true zoE zm3:=⟨by
 rintro A H x y wx wy n Q R I J q P ⟨l,m,L,O,z,h⟩ k;subst L O;obtain⟨a,xs,U,Y,B⟩:=y9 J;obtain⟨b,ys,Z,hb,D⟩:=y9 q;refine⟨a,b,xs,ys,U,Z,Y,hb,zdb (by rw[B.length,D.length];exact z),fun p H' F g S=>?_⟩;exact k _ n _ H' h (xR (B.append D) (zv.same S) (I.new F) g) (Go.same P S) fun z=>x8 (B.append D) S F g⟩
theorem zfM {G:Hp}{l:List Dt}{xs:List V}(h:IsL G l xs):∀k:Nat,IsL G (List.replicate k l).flatten (List.replicate k xs).flatten
 | 0=>rfl
 | k+1=>by rw[b5,b5,cK,cK];exact h.append (zfM h k)
@[reducible] def lenD:W->Option Nat
 | .d (.lst l)=>some l.length
 | .d (.tup l)=>some l.length
 | _=>none
def zsN:List W->Mo W:=fun q n Q=>∃x k,q=[x]/\lenD x=some k/\Q (.d (.int (k:Int))) n
theorem zbv {w:W}{vs:List V}(h:zpe A H [w] vs):∃v,vs=[v]/\Bor A H w v:=by obtain⟨v,r,e,h1,h2⟩:=h;cases h2;exact⟨v,e,h1⟩
theorem zt1:FL Pn false (fun xs H Q=>∃x n,xs=[x]/\zpl K x H n/\Q (.int n) H) zsN:=⟨by
 rintro A H xs J n Q R L b P ⟨x,j,I,q,h⟩ k;subst I;obtain⟨v,rfl,F⟩:=zbv b;refine⟨v,j,rfl,?_,k _ n _ H h (Val.of rfl) (Go.refl P) fun z=>by cases z⟩
 cases x with
 | d x=>
  cases x with
  | lst l=>
   cases q;obtain⟨a,ys,rfl,B,D⟩:=y9 F;exact .inl ⟨ys,.of B,D.length.symm⟩
  | tup l=>
   cases q;obtain⟨a,ys,rfl,B,D⟩:=xG F;exact .inr ⟨ys,.of B,D.length.symm⟩
  | _=>cases q
 | _=>cases q⟩
theorem ziE {G:Hp}:∀ {q:List Bool} {xs:List V},IsL G (q.map .bl) xs->xs=q.map V.bl
 | [],_,h=>h
 | b::q,xs,h=>by obtain⟨y,r,rfl,h1,h2⟩:=h;cases h1;rw[ziE h2];rfl
def zsI:List W->Mo W:=fun B n Q=>∃q:List Bool,B=[.d (.lst (q.map .bl))]/\Q (.d (.bl (q.all id))) n
theorem ztW:FL Pn false (fun xs H Q=>∃ (p:Addr) (q:List Bool),xs=[.ref p]/\H p=some (.lst (q.map V.bl))/\Q (.bl (q.all id)) H) zsI:=⟨by
 rintro A H xs J n Q R L b P ⟨q,B,h⟩ k;subst B;obtain⟨v,rfl,D⟩:=zbv b;obtain⟨a,ys,rfl,F,I⟩:=y9 D;obtain rfl:=ziE I;exact⟨a,q,rfl,F,k _ n _ H h (Val.of rfl) (Go.refl P) fun z=>by cases z⟩⟩
def zpO:List W->Mo W:=fun q n Q=>∃l,(q=[.d (.lst l)]\/q=[.d (.tup l)])/\Q (.d (.lst l)) n
theorem zrR:FL Pn true (zjP K) zpO:=⟨by
 rintro A H xs L n Q R D b P ⟨l,F,h⟩ k
 obtain⟨v,rfl,I⟩:∃v,xs=[v]/\(Bor A H (.d (.lst l)) v\/Bor A H (.d (.tup l)) v):=by
  rcases F with rfl | rfl
  ·obtain⟨v,e,h⟩:=zbv b;exact⟨v,e,.inl h⟩
  ·obtain⟨v,e,h⟩:=zbv b;exact⟨v,e,.inr h⟩
 obtain⟨a,ys,rfl,J,q⟩:=zhO (K:=K) I;exact⟨a,ys,rfl,J,fun p H' B g S=>k _ n _ H' h (xR q (zv.same S) (D.new B) g) (Go.same P S) fun z=>x8 q S B g⟩⟩
def zmd:List W->Mo W:=fun q n Q=>∃l,(q=[.d (.lst l)]\/q=[.d (.tup l)])/\Q (.d (.tup l)) n
theorem zpc:FL Pn false (zf6 K) zmd:=⟨by
 rintro A H xs L n Q R F b P ⟨l,I,h⟩ k;rcases I with rfl | rfl
 ·obtain⟨v,rfl,B⟩:=zbv b;obtain⟨a,ys,rfl,q,D⟩:=y9 B;exact⟨a,ys,rfl,.inl ⟨.of q,fun p H' J g S=>k _ n _ H' h (zej D (zv.same S) (F.new J) g) (Go.same P S) fun z=>by cases z⟩⟩
 ·obtain⟨v,rfl,B⟩:=zbv b;obtain⟨a,ys,e,q,D⟩:=id B;subst e;exact⟨a,ys,rfl,.inr ⟨.of (zr _ _ q),k _ n _ H h (Val.of ⟨a,ys,rfl,q,D⟩) (Go.refl P) fun z=>by cases z⟩⟩⟩
def uq {α:Type}(xs:List α)(lo hi:Option Int):List α:=(xs.drop (HT.sIx xs.length 0 lo)).take (HT.sIx xs.length xs.length hi - HT.sIx xs.length 0 lo)
theorem zfL {G:Hp}{l:List Dt}{xs:List V}{lo hi:Option Int}(h:IsL G l xs):IsL G (uq l lo hi) (zcS xs lo hi):=by unfold uq zcS;rw[h.length];exact (h.drop _).take _
def xx {κ:Type}[DecidableEq κ](kvs:List (κ×Dt))(k:κ):Option Dt:=(kvs.find? fun q=>decide (q.1=k)).map (·.2)
theorem uQ.look {κ:Type}[DecidableEq κ]{G:Hp}{k:κ}:∀ {kvs:List (κ×Dt)} {ks:List (κ×V)},uQ G kvs ks->(xx kvs k=none->zaZ ks k=none)/\∀d,xx kvs k=some d->∃v,zaZ ks k=some v/\Is G d v
 | [],_,h=>by cases h;exact⟨fun _=>rfl,fun d e=>by cases e⟩
 | q::r,ks,⟨v,s,e,h1,h2⟩=>by
  subst e;have D:=uQ.look (k:=k) h2;by_cases B:q.1=k
  ·refine⟨fun z=>?_,fun d z=>?_⟩
   ·simp[xx,bI,B] at z
   ·simp[xx,bI,B] at z;subst z;exact⟨v,xk B,h1⟩
  ·have F:xx (q::r) k=xx r k:=by simp[xx,bI,B]
   rw[F,xE B];exact D
end
open PySem L2
section
variable {X:Cx}{Pn:Option zm}{M S:List Nat}{fr:Bool}{e a b c:Expr}{es:List Expr}{f fa fb fc:Ev->Mo W}{pos p:Pos}
theorem za1 {r:R2}{F:W->W->Mo W}(q:IxQ X r)(B:F2 Pn fr r F)(D:JB X Pn M a fa)(I:JB X Pn M b fb)(J:zfr b):JE X Pn M fr (.Subscript a b pos) (zpi F fa fb):=by obtain⟨ta,L,O⟩:=D.ex;obtain⟨tb,U,Y⟩:=I.ex;exact⟨_,zq0 q L U J,zlI B O Y⟩
@[reducible] def znJ:Ev->Mo (Option Int):=fun _ n Q=>Q none n
def znK (fa:Ev->Mo W):Ev->Mo (Option Int):=fun ρ n Q=>fa ρ n fun x m=>∃i,x = .d (.int i)/\Q (some i) m
theorem yo:JO X Pn M none znJ:=⟨_,zjL,fun A σ H ρ n Q R E P q k=>k none n H q (Go.refl P)⟩
theorem yp (h:JB X Pn M e f):JO X Pn M (some e) (znK f):=by obtain⟨te,q,r⟩:=h.ex;refine⟨_,zjM q,fun A σ H ρ n Q R E P B k=>?_⟩;refine r.run A σ H ρ n _ _ E P B  ?_;rintro w m v H' ⟨i,e,r⟩ D g;subst e;exact⟨i,xq D,k (some i) m H' r g⟩
def ztg (fa:Ev->Mo W)(fl q:Ev->Mo (Option Int)):Ev->Mo W:=fun ρ n Q=>fa ρ n fun x B=>fl ρ B fun lo D=>q ρ D fun hi F=>∃l,x = .d (.tup l)/\Q (.d (.tup (uq l lo hi))) F
def ztf (fa:Ev->Mo W)(fl q:Ev->Mo (Option Int)):Ev->Mo W:=fun ρ n Q=>fa ρ n fun x B=>fl ρ B fun lo D=>q ρ D fun hi F=>∃l,x = .d (.lst l)/\Q (.d (.lst (uq l lo hi))) F
theorem zaH {lo hi:Option Expr}{fl F:Ev->Mo (Option Int)}{p2:Pos}(J:JB X Pn M e f)(B:JO X Pn M lo fl)(L:JO X Pn M hi F):JE X Pn M false (.Subscript e (.Slice lo hi none p2) pos) (ztg f fl F):=by obtain⟨te,O,U⟩:=J.ex;obtain⟨tl,Y,Z⟩:=B.ex;obtain⟨th,qh,rh⟩:=L.ex;refine⟨_,zd1 zoV O Y qh,⟨fun A σ H ρ n Q R E P hf k=>?_⟩⟩;refine U.run A σ H ρ n _ _ E P hf fun w m v H1 r1 bb q=>?_;refine Z A σ H1 ρ m _ _ (E.stay q.st) q.pn r1 fun o m2 H2 r2 g2=>?_;refine rh A σ H2 ρ m2 _ _ ((E.stay q.st).stay g2.st) g2.pn r2  ?_;rintro o3 m3 H3 ⟨l,e,r3⟩ D;subst e;have g:=(q.trans g2).trans D;obtain⟨ad,xs,rfl,ha,B⟩:=xG (bb.stay (g2.trans D).st);exact⟨ad,xs,rfl,ha,fun p H' I S=>k _ m3 _ H' r3 (zej (zfL B) (zv.same S) (Al.noT' (E.stay g.st).al (zv.same S) I) I) (g.trans (Go.same D.pn S)) fun z=>by cases z⟩
theorem ziQ {lo hi:Option Expr}{fl I:Ev->Mo (Option Int)}{p2:Pos}(J:JB X Pn M e f)(q:JO X Pn M lo fl)(L:JO X Pn M hi I):JE X Pn M true (.Subscript e (.Slice lo hi none p2) pos) (ztf f fl I):=by obtain⟨te,O,U⟩:=J.ex;obtain⟨tl,Y,Z⟩:=q.ex;obtain⟨th,qh,rh⟩:=L.ex;refine⟨_,zd1 zj7 O Y qh,⟨fun A σ H ρ n Q R E P hf k=>?_⟩⟩;refine U.run A σ H ρ n _ _ E P hf fun w m v H1 r1 bb B=>?_;refine Z A σ H1 ρ m _ _ (E.stay B.st) B.pn r1 fun o m2 H2 r2 g2=>?_;refine rh A σ H2 ρ m2 _ _ ((E.stay B.st).stay g2.st) g2.pn r2  ?_;rintro o3 m3 H3 ⟨l,e,r3⟩ D;subst e;have g:=(B.trans g2).trans D;obtain⟨ad,xs,rfl,ha,q⟩:=y9 (bb.stay (g2.trans D).st);refine⟨ad,xs,rfl,.of ha,fun p F=>?_⟩;have S:=y4.upd (o:=.lst (zcS xs o o3)) F;exact k _ m3 _ _ r3 (xR (zfL q) (zv.same S) ((E.stay g.st).new F) zj) (g.trans (Go.same D.pn S)) fun z=>(x8 (zfL q) S F zj).back g.st
theorem zfN {G:Hp}:∀ {ds:List Dt} {xs:List V},IsL G ds xs->IsL G ds.reverse xs.reverse
 | [],_,h=>by cases h;rfl
 | d::ds,xs,h=>by obtain⟨x,r,rfl,h1,h2⟩:=h;rw[c3,c3];exact (zfN h2).append (IsL.one h1)
def znN (fa:Ev->Mo W):Ev->Mo W:=fun ρ n Q=>fa ρ n fun x m=>∃l,x = .d (.lst l)/\Q (.d (.lst l.reverse)) m
theorem zp2 {j:Nat}{p2 p3 p4:Pos}(F:JB X Pn M e f):JE X Pn M true (.Subscript e (.Slice none none (some (.UnaryOp .USub (.Constant (.int 1) j p4) p3)) p2) pos) (znN f):=by obtain⟨te,I,J⟩:=F.ex;refine⟨_,zot I,⟨fun A σ H ρ n Q R E P L k=>?_⟩⟩;refine J.run A σ H ρ n _ _ E P L  ?_;rintro w m v H1 ⟨l,e,r⟩ O g;subst e;obtain⟨U,xs,rfl,Y,q⟩:=y9 O;exact⟨U,xs,rfl,Y,fun p H' B D S=>k _ m _ H' r (xR (zfN q) (zv.same S) ((E.stay g.st).new B) D) (g.trans (Go.same g.pn S)) fun z=>(x8 (zfN q) S B D).back g.st⟩
@[reducible] def zs1:W->Option Key
 | .d (.int i)=>some (Sum.inl i)
 | .d (.str x)=>some (Sum.inr x)
 | _=>none
@[reducible] def prD (q:Int×Dt):Dt:=.tup [.int q.1,q.2]
def kvD (q:Int×Dt):Key×Dt:=(Sum.inl q.1,q.2)
def spV (k:Nat)(fr:Bool)(F:Option zm->List W->Mo W):Sp:=fun vs H Q _=>∃Pn A q n R,Al A H/\zcO A H q vs/\q.length=k/\y2 Pn A n H/\F Pn q n R/\∀w m v H',R w m->Val A H' w v->Go Pn A H m H'->(fr=true->FrV A H H' w v)->Q v H'
def mFn (k:Nat)(F:List W->Mo W)(fa:Ev->Mo (List W)):Ev->Mo W:=fun ρ n Q=>fa ρ n fun q m=>q.length=k/\F q m Q
theorem ztK {k:Nat}{F:Option zm->List W->Mo W}{ta:TA}{fs:Ev->Mo (List W)}(q:RA Pn M ta fs):RE Pn M fr (zfh (spV k fr F) [] E0 ta) (mFn k (F Pn) fs):=⟨fun A σ H ρ n Q R E P B D=>by refine q.run A σ H ρ n _ _ E P B  ?_;rintro I m vs H1 ⟨J,r⟩ b g;rw[cy];exact⟨Pn,A,I,m,R,(E.stay g.st).al,b,J,g.pn,r,fun w L v H' h1 h2 O U=>D w L v H' h1 h2 (g.trans O) fun z=>(U z).back g.st⟩⟩
theorem yN {x:Str}{st:Stmt}{ps:List Str}{J:Addr}{fd:FuncData}{k:Nat}{F:Option zm->List W->Mo W}{j L:Nat}{fs:Ev->Mo (List W)}(D:Dfn X.K X.mg x st ps J fd)(G:FnOk X.prog X.w X.K X.mg X.base CX0 j J fd ps (spV k fr F))(O:Room L X.A)
  (U:JA X Pn M (e::es) fs) (q:j<=L:=by decide) (Y:Gl X x:=by rfl) (B:(x==("__debug__" : Str))=false:=by decide) (Z:starEach (e::es) X.env=(false,eval e X.env)::starEach es X.env:=by rfl) (I:(backTo pos (starEach es X.env)).any (·.1)=false:=by rfl) :
  JE X Pn M fr (.Call (.Name x p) (e::es) [] pos) (mFn k (F Pn) fs):=by
 obtain⟨ta,qa,ra⟩:=U.ex;exact⟨_,zjI D G O qa q Y B Z I,ztK ra⟩
@[reducible] def W.flat (fr:Bool):W->Bool
 | .d (.lst l)=>fr&&Dt.noLs l
 | .d x=>x.noL
 | .pen _=>true
 | .dk _=>false
 | .dt _=>false
 | .ss _ _ _=>false
 | .df _=>false
theorem zkO {A A':Addr->Prop}{H H':Hp}{w:W}{v:V}(F:Al A H)(s:zv H H')(h:Val A' H' w v)(I:fr=true->FrV A' H H' w v)(fl:w.flat fr=true):Val A H' w v:=by
 have q:=F.stay s
 cases w with
 | d x=>
  cases x with
  | lst l=>
   rw[show W.flat fr (.d (.lst l))=(fr&&Dt.noLs l) from rfl,ar] at fl;obtain⟨B,xs,rfl,D,J⟩:=h;obtain⟨a2,L,O,_⟩:=I fl.1;cases L
   have U:¬ A B:=fun z=>by obtain⟨o,Y,Z,_⟩:=F B z;exact O o Y Z
   exact⟨B,xs,rfl,zy U (zr _ _ D),x9 q.noT fl.2 (J.stay (zv.same zr))⟩
  | dct=>cases fl
  | non=>exact h
  | bl c=>exact h
  | int c=>exact h
  | str c=>exact h
  | tup l=>exact Val.of (zmj q.noT fl ((Val.is h).stay (zv.same zr)))
 | pen p=>exact h
 | dk kvs=>cases fl
 | dt kvs=>cases fl
 | ss P w kvs=>cases fl
 | df kvs=>cases fl
theorem zkN {A A':Addr->Prop}{H H':Hp}{w:W}{v:V}(al:Al A H)(s:zv H H')(h:Val A' H' w v)(hf:FrV A' H H' w v)(fl:w.flat true=true):FrV A H H' w v:=by
 obtain⟨a2,e2,f2,h2⟩:=hf;refine⟨a2,e2,f2,?_⟩;have al':=al.stay s
 cases w with
 | d x=>
  cases x with
  | lst l=>
   obtain⟨ad,xs,e,had,hl⟩:=h2;rw[e2] at e;cases e;refine⟨a2,xs,e2,had,x9 (fun b ys z g=>?_) (by simpa [W.flat] using fl) (hl.stay (zv.same zr))⟩;rcases z with z | z
   ·exact al'.noT b ys z g
   ·subst z;rw[had] at g;cases g
  | tup l=>
   obtain⟨ad,xs,e,had,_⟩:=h2;rw[e2] at e;cases e;exact absurd rfl (fun z=>(yt.mp had).1 (.inr z))
  | dct=>cases fl
  | non=>exact h2
  | bl c=>exact h2
  | int c=>exact h2
  | str c=>exact h2
 | pen p=>exact h2
 | dk kvs=>cases fl
 | dt kvs=>cases fl
 | ss P w kvs=>cases fl
 | df kvs=>cases fl
def zs2 (A:Addr->Prop)(vs:List V):Addr->Prop:=fun b=>A b/\V.ref b∉vs
theorem zgr {A:Addr->Prop}{H:Hp}{all:List V}:∀ {ws:List W} {vs:List V},(∀v∈vs,v∈all)->zpe A H ws vs->zcO (zs2 A all) H ws vs
 | [],vs,_,h=>h
 | w::ws,vs,hs,⟨v,r,e,h1,h2⟩=>by
  subst e;refine⟨v,r,rfl,?_,zgr (fun z hz=>hs z (am _ hz)) h2⟩;have hv:=hs v ao;have less:y4 (z7 A H) (z7 (zs2 A all) H):=yV fun b z=>z.1
  cases w with
  | d x=>
   cases x with
   | lst l=>obtain⟨ad,xs,rfl,had,hl⟩:=h1;exact⟨ad,xs,rfl,zy (fun z=>z.2 hv) had,hl.stay (zv.same less)⟩
   | dct=>obtain⟨ad,xs,rfl,had,hl⟩:=h1;exact⟨ad,xs,rfl,zy (fun z=>z.2 hv) had,hl⟩
   | non=>exact h1
   | bl c=>exact h1
   | int c=>exact h1
   | str c=>exact h1
   | tup l=>exact Is.stay (zv.same less) h1
  | pen p=>exact h1
  | dk kvs=>obtain⟨ad,xs,rfl,had,hl,hn⟩:=h1;exact⟨ad,xs,rfl,zy (fun z=>z.2 hv) had,hl.stay (zv.same less),hn⟩
  | dt kvs=>obtain⟨ad,xs,rfl,had,hl⟩:=h1;exact⟨ad,xs,rfl,zy (fun z=>z.2 hv) had,hl.stay (zv.same less)⟩
  | ss P w kvs=>obtain⟨ad,xs,rfl,had,hl⟩:=h1;exact⟨ad,xs,rfl,zy (fun z=>z.2 hv) had,hl.stay (zv.same less)⟩
  | df kvs=>obtain⟨ad,ob,xs,rfl,had,hl⟩:=h1;exact⟨ad,ob,xs,rfl,zy (fun z=>z.2 hv) had,hl.stay (zv.same less)⟩
theorem y2.more {A A':Addr->Prop}{n m:Nat}{H H':Hp}(h:y2 Pn A n H)(h':y2 Pn A' m H'):y2 Pn A m H':=by
 unfold y2 at h h' ⊢;split at h
 ·trivial
 ·exact⟨h'.1,h.2⟩
theorem y2.less {A A':Addr->Prop}{n:Nat}{H:Hp}(h:y2 Pn A n H)(s:∀a,A' a->A a):y2 Pn A' n H:=by
 unfold y2 at h ⊢;split at h
 ·trivial
 ·exact⟨h.1,fun z=>h.2.1 (s _ z),fun z=>h.2.2 (s _ z)⟩
def zr7 (k:Nat)(fr:Bool)(F:List W->Mo W)(fa:Ev->Mo (List W)):Ev->Mo W:=fun ρ n Q=>fa ρ n fun q m=>q.length=k/\F q m fun w B=>w.flat fr=true/\Q w B
theorem zra {k:Nat}{F:Option zm->List W->Mo W}{ta:TA}{fs:Ev->Mo (List W)}(I:RAB Pn M ta fs):RE Pn M fr (zfh (spV k fr F) [] E0 ta) (zr7 k fr (F Pn) fs):=⟨fun A σ H ρ n Q R E P J L=>by refine I.run A σ H ρ n _ _ E P J  ?_;rintro O m vs H1 ⟨U,r⟩ b g;rw[cy];have B:=(E.stay g.st).al;refine⟨Pn,zs2 A vs,O,m,_,fun a z=>B a z.1,zgr (fun _ z=>z) b,U,g.pn.less fun a z=>z.1,r,?_⟩;rintro w Y v H' ⟨fl,h1⟩ h2 q D;refine L w Y v H' h1 (zkO B q.st h2 D fl) (g.trans ⟨q.st,g.pn.more q.pn⟩) fun z=>?_;subst z;exact (zkN B q.st h2 (D rfl) fl).back g.st⟩
theorem zsW {x:Str}{st:Stmt}{ps:List Str}{J:Addr}{fd:FuncData}{k:Nat}{F:Option zm->List W->Mo W}{j L:Nat}{fs:Ev->Mo (List W)}(D:Dfn X.K X.mg x st ps J fd)(G:FnOk X.prog X.w X.K X.mg X.base CX0 j J fd ps (spV k fr F))(O:Room L X.A)
  (U:JAB X Pn M (e::es) fs) (q:j<=L:=by decide) (Y:Gl X x:=by rfl) (B:(x==("__debug__" : Str))=false:=by decide) (Z:starEach (e::es) X.env=(false,eval e X.env)::starEach es X.env:=by rfl) (I:(backTo pos (starEach es X.env)).any (·.1)=false:=by rfl) :
  JE X Pn M fr (.Call (.Name x p) (e::es) [] pos) (zr7 k fr (F Pn) fs):=by
 obtain⟨ta,qa,ra⟩:=U.ex;exact⟨_,zjI D G O qa q Y B Z I,zra ra⟩
end
open PySem L2
structure JG (X:Cx)(S M:List Nat)(e:Expr)(mg:W->Ev->(Ev->Prop)->Prop):Prop where
 ex:∃g,QG X e g/\RG S M g mg
structure JGs (X:Cx)(S M:List Nat)(es:List Expr)(mg:List Dt->Ev->(Ev->Prop)->Prop):Prop where
 ex:∃g,QGs X es g/\RGs S M g mg
structure JI (X:Cx)(Pn:Option zm)(M:List Nat)(ow:Bool)(tg e:Expr)(f:Ev->Mo (List W)):Prop where
 ex:∃wi,QI X tg e wi/\RI Pn M ow wi f
structure JTs (X:Cx)(Pn:Option zm)(M:List Nat)(es:List Expr)(f:Ev->Mo Bool):Prop where
 ex:∃t,QTs X es t/\RT Pn M t f
section
variable {X:Cx}{Pn:Option zm}{M S:List Nat}{fr:Bool}{e a b c:Expr}{es:List Expr}{f fa fb fc:Ev->Mo W}{pos p:Pos}
def gN (i:Nat):W->Ev->(Ev->Prop)->Prop:=fun w ρ Q=>Q (ρ.set i (some w))
def gNl:List Dt->Ev->(Ev->Prop)->Prop:=fun ds ρ Q=>ds=[]/\Q ρ
def gCn (g:W->Ev->(Ev->Prop)->Prop)(u:List Dt->Ev->(Ev->Prop)->Prop):List Dt->Ev->(Ev->Prop)->Prop:=fun ds ρ Q=>∃d r,ds=d::r/\g (.d d) ρ fun q=>u r q Q
def gTp (n:Nat)(u:List Dt->Ev->(Ev->Prop)->Prop):W->Ev->(Ev->Prop)->Prop:=fun w ρ Q=>∃ds,w = .d (.tup ds)/\ds.length=n/\u ds ρ Q
theorem EnvR.set {A:Addr->Prop}{σ:St}{H:Hp}{ρ:Ev}(E:EnvR A M σ H ρ){i:Nat}{w:W}{v:V}(hi:i∉M)(h:Val A H w v):EnvR A M (σ.set i (some v)) H (ρ.set i (some w)) where
 len:=by rw[aY,aY];exact E.len
 val:=fun j u e=>by
  by_cases q:j=i
  ·subst q
   have I:j<ρ.length:=by have:=(ae.mp e).1;rwa[aY] at this
   rw[aQ I] at e;cases e;exact⟨v,aQ (by rw[E.len];exact I),fun _=>h,fun z=>absurd z hi⟩
  ·rw[aw (Ne.symm q)] at e ⊢;exact E.val j u e
 dis:=fun j k u Y Z q J B L O U=>by have D:i≠j:=fun z=>hi (z ▸ q);have F:i≠k:=fun z=>hi (z ▸ J);rw[aw D] at L U;rw[aw F] at O ⊢;exact E.dis j k u Y Z q J B L O U
 al:=E.al
theorem zf8 {i:Nat}(hi:i∉M)(q:i∉S):RG S M (uT i) (gN i):=⟨fun A σ H ρ v w Q R E h r k=>k _ _ r (E.set hi h) fun j B=>⟨aw fun (z:i=j)=>q (by rw[z];exact B),aw fun (z:i=j)=>q (by rw[z];exact B)⟩⟩
theorem zi {i:Nat}{x:Str}(q:X.N.Nodup)(B:X.N[i]?=some x)(D:Loc X.env.scope x)(hi:i∉M:=by decide)(F:i∉S:=by decide)(I:X.fn x=true\/X.env.scope.names.lookup x=some .local:=by walk_at "l"):JG X S M (.Name x pos) (gN i):=⟨_,zcv q B D I,zf8 hi F⟩
theorem xa:JGs X S M [] gNl:=⟨_,zox,⟨by
 rintro A σ H ρ vs ds Q R E h ⟨e,r⟩ k;subst e;exact⟨h,k σ ρ r E fun _ _=>⟨rfl,rfl⟩⟩⟩⟩
theorem zt {g:W->Ev->(Ev->Prop)->Prop}{u:List Dt->Ev->(Ev->Prop)->Prop}(h1:JG X S M e g)(h2:JGs X S M es u)(L:(assignEach (e::es) X.env).map (·.2)=assign e X.env::(assignEach es X.env).map (·.2):=by rfl):JGs X S M (e::es) (gCn g u):=by obtain⟨t1,O,U⟩:=h1.ex;obtain⟨t2,Y,Z⟩:=h2.ex;refine⟨_,zlC O Y L,⟨ ?_⟩⟩;rintro A σ H ρ vs ds Q R E h ⟨d,r,e,hg⟩ k;subst e;obtain⟨v,s,rfl,hv,hr⟩:=h;refine⟨v,s,rfl,?_⟩;refine U.run A σ H ρ v _ _ _ E (Val.of hv) hg fun q B hu E' I=>?_;exact Z.run A q H B s _ _ _ E' hr hu fun D F hR E2 J=>k D F hR E2 fun i hi=>⟨(J i hi).1.trans (I i hi).1,(J i hi).2.trans (I i hi).2⟩
theorem uh {k n:Nat}{u:List Dt->Ev->(Ev->Prop)->Prop}(K:PySem.W.Frag)(F:X.K=K)(I:X.calm=true)(h:JGs X S M es u)(J:(assignEach es X.env).length=n:=by rfl)(q:(assignEach es X.env).findIdx? (·.1)=none:=by rfl):JG X S M (.Tuple es k pos) (gTp n u):=by obtain⟨t1,L,O⟩:=h.ex;refine⟨_,zow K F I L J q,⟨ ?_⟩⟩;rintro A σ H ρ v w Q R E h ⟨ds,e,U,Y⟩ Z;subst e;obtain⟨ad,xs,rfl,B,D⟩:=h;exact⟨ad,xs,rfl,.of (zr _ _ B),by rw[D.length];exact U,O.run A σ H ρ xs ds _ _ E D Y Z⟩
def zr8 (fa:Ev->Mo W):Ev->Mo (List W):=fun ρ n Q=>fa ρ n fun x m=>∃l,x = .d (.lst l)/\Q (l.map W.d) m
def zr9 (fa:Ev->Mo W):Ev->Mo (List W):=fun ρ n Q=>fa ρ n fun x m=>∃l,x = .d (.tup l)/\Q (l.map W.d) m
theorem ziN {G G':Hp}{l:List Dt}{xs:List V}{i:Nat}{w:W}(h:IsL G l xs)(e:(l.map W.d)[i]?=some w)(s:zv G G'):∃d x,w = .d d/\xs[i]?=some x/\Is G' d x:=by rw[au] at e;obtain⟨d,h1,rfl⟩:=aI.mp e;obtain⟨x,h2,q⟩:=h.getD h1;exact⟨d,x,rfl,h2,q.stay s⟩
theorem zk0 {K:PySem.W.Frag}{A:Addr->Prop}{H:Hp}{q:Addr}{xs:List V}{l:List Dt}(h:z7 A H q=some (.lst xs))(B:IsL (z7 A H) l xs):ItV false A H (Itl K q) (l.map W.d) where
 one:=fun i w A2 H2 e s _ _=>by obtain⟨d,x,rfl,D,F⟩:=ziN B e s;have g:=zr _ _ (s.lst h);refine⟨⟨xs,x,.of g,D⟩,?_⟩;rintro y H3 ⟨I,J⟩;subst I;have:=J xs (.of g);rw[D] at this;cases this;exact⟨fun _ _ z=>z,Val.of F⟩
 stop:=fun A2 H2 s _=>⟨xs,.of (zr _ _ (s.lst h)),by rw[ab,B.length];exact ag _⟩
theorem znm {K:PySem.W.Frag}{A:Addr->Prop}{H:Hp}{q:Addr}{xs:List V}{l:List Dt}(h:z7 A H q=some (.tup xs))(B:IsL (z7 A H) l xs):ItV false A H (Itt K q) (l.map W.d) where
 one:=fun i w A2 H2 e s _ _=>by obtain⟨d,x,rfl,D,F⟩:=ziN B e s;have g:=zr _ _ (s.tup h);refine⟨⟨xs,x,.of g,D⟩,?_⟩;rintro y H3 ⟨I,J⟩;subst I;have:=J xs (.of g);rw[D] at this;cases this;exact⟨fun _ _ z=>z,Val.of F⟩
 stop:=fun A2 H2 s _=>⟨xs,.of (zr _ _ (s.tup h)),by rw[ab,B.length];exact ag _⟩
theorem xw {tg:Expr}(K:PySem.W.Frag)(D:X.K=K)(h:JE X Pn M fr e f):JI X Pn M false tg e (zr8 f):=by obtain⟨te,q,r⟩:=h.ex;refine⟨_,zgZ K D q,⟨fun A σ H ρ n Q R E P F k=>?_⟩⟩;refine r.run A σ H ρ n _ _ E P F  ?_;rintro w m v H1 ⟨l,e,r⟩ I g _;subst e;obtain⟨J,xs,rfl,B,L⟩:=I;exact⟨J,rfl,⟨xs,.of (zr _ _ B)⟩,k _ m _ H1 r (zk0 B L) g⟩
theorem uU {tg:Expr}(K:PySem.W.Frag)(D:X.K=K)(h:JE X Pn M fr e f):JI X Pn M false tg e (zr9 f):=by obtain⟨te,q,r⟩:=h.ex;refine⟨_,zoz K D q,⟨fun A σ H ρ n Q R E P F k=>?_⟩⟩;refine r.run A σ H ρ n _ _ E P F  ?_;rintro w m v H1 ⟨l,e,r⟩ I g _;subst e;obtain⟨J,xs,rfl,B,L⟩:=I;exact⟨J,rfl,⟨xs,.of (zr _ _ B)⟩,k _ m _ H1 r (znm B L) g⟩
def zhw (lo:Int)(n:Nat):List W:=(List.range n).map fun i:Nat=>W.d (.int (lo+i))
theorem znl {A:Addr->Prop}{H:Hp}{lo:Int}{n:Nat}:ItV false A H (Itr lo n) (zhw lo n) where
 one:=fun i w A2 H2 e s _ _=>by unfold zhw at e;rw[au] at e;obtain⟨j,h1,rfl⟩:=aI.mp e;obtain⟨hi,h2⟩:=ae.mp h1;rw[bX] at h2;subst h2;rw[aj] at hi;refine⟨hi,?_⟩;rintro y H3 ⟨q,B⟩;subst q B;exact⟨fun _ _ z=>z,Val.of rfl⟩
 stop:=fun A2 H2 s _=>by show n<=(zhw lo n).length;unfold zhw;rw[ab,aj];exact ag _
def zs9 (fa:Ev->Mo (List W)):Ev->Mo (List W):=fun ρ n Q=>fa ρ n fun q m=>∃j:Int,q=[.d (.int j)]/\j<=1000000/\-1000000<=j/\Q (zhw 0 j.toNat) m
theorem zA {tg:Expr}{fs:Ev->Mo (List W)}(B:Gl X "range")(D:X.mg "range" = none)(F:JAB X Pn M [a] fs)(I:starEach [a] X.env=[(false,eval a X.env)]:=by rfl):JI X Pn M false tg (.Call (.Name "range" p) [a] [] pos) (zs9 fs):=by obtain⟨te,q,r⟩:=F.ex;refine⟨_,zjK B D q I,⟨fun A σ H ρ n Q R E P J k=>?_⟩⟩;refine r.run A σ H ρ n _ _ E P J  ?_;rintro U m vs H1 ⟨j,e,Y,Z,r⟩ L g;subst e;obtain⟨v,rfl,O⟩:=zbv L;obtain rfl:=xq O;exact⟨j,rfl,by lia,by lia,k _ m _ H1 r znl g⟩
def enW:Nat->List Dt->List W
 | _,[]=>[]
 | k,x::r=>.d (.tup [.int k,x])::enW (k+1) r
theorem zdC:∀ (l:List Dt) (k i:Nat),(enW k l)[i]?=(l[i]?).map fun x=>W.d (.tup [.int ((k+i:Nat):Int),x])
 | [],_,_=>by simp[enW]
 | x::r,k,0=>by simp[enW]
 | x::r,k,i+1=>by have:=zdC r (k+1) i;simp only[enW,bK,this];rw[show k+1+i=k+(i+1) by lia]
theorem zig:∀ (l:List Dt) (k:Nat),(enW k l).length=l.length
 | [],_=>rfl
 | x::r,k=>by rw[enW,aS,aS,zig r]
def ziW:List Dt->List Dt->List W
 | x::r,y::s=>.d (.tup [x,y])::ziW r s
 | _,_=>[]
def zcQ (ρ:Ev)(cix:List (Option Nat)):Ev:=cix.map fun o=>match o with
 | none=>none
 | some i=>(ρ[i]?).join
def yM (M:List Nat)(cix:List (Option Nat)):List Nat:=(List.range cix.length).filter fun k=>match cix[k]? with
 | some (some i)=>M.contains i
 | _=>false
theorem zbK {cix:List (Option Nat)}{k:Nat}:k∈yM M cix↔∃i,cix[k]?=some (some i)/\i∈M:=by
 unfold yM;rw[aW,aP];constructor
 ·rintro⟨h1,h2⟩;rw[ah h1] at h2 ⊢
  cases e:cix[k] with
  | none=>rw[e] at h2;cases h2
  | some i=>rw[e] at h2;exact⟨i,rfl,by simpa using h2⟩
 ·rintro⟨i,h1,h2⟩;exact⟨(ae.mp h1).1,by rw[h1];simpa using h2⟩
theorem za6 {α:Type}{l:List (Option α)}{cix:List (Option Nat)}{k:Nat}{x:α}:(cix.map fun o=>match o with | none=>none | some i=>(l[i]?).join)[k]?=some (some x)↔∃i,cix[k]?=some (some i)/\l[i]?=some (some x):=by
 rw[au]
 cases e:cix[k]? with
 | none=>simp
 | some o=>
  cases o with
  | none=>simp
  | some i=>
   simp only[eF,Option.some.injEq];constructor
   ·intro h;refine⟨i,rfl,?_⟩
    cases q:l[i]? with
    | none=>rw[q] at h;cases h
    | some z=>rw[q] at h;cases z with
     | none=>cases h
     | some y=>cases h;rfl
   ·rintro⟨j,rfl,h⟩;rw[h];rfl
theorem EnvR.cap {A:Addr->Prop}{σ:St}{H:Hp}{ρ:Ev}(E:EnvR A M σ H ρ){cix:List (Option Nat)}(Y:(cix.filterMap id).Nodup):EnvR A (yM M cix) (uR σ cix) H (zcQ ρ cix) where
 len:=by unfold uR zcQ;rw[ab,ab]
 val:=fun k w e=>by obtain⟨i,h1,h2⟩:=za6.mp e;obtain⟨v,Z,s2,s3⟩:=E.val i w h2;refine⟨v,za6.mpr ⟨i,h1,Z⟩,fun z=>s2 fun y=>z (zbK.mpr ⟨i,h1,y⟩),fun z=>?_⟩;obtain⟨j,F,h4⟩:=zbK.mp z;rw[h1] at F;cases F;exact s3 h4
 dis:=fun k k' w u ad hk an ap e1 e2 Z s2=>by
  obtain⟨i,h1,h2⟩:=za6.mp e1;obtain⟨i',q,as⟩:=za6.mp e2;obtain⟨j,F,h4⟩:=za6.mp Z;obtain⟨j',I,av⟩:=za6.mp s2;rw[h1] at F;cases F;rw[q] at I;cases I;obtain⟨m,m1,m2⟩:=zbK.mp hk;rw[h1] at m1;cases m1;obtain⟨m',J,a0⟩:=zbK.mp an;rw[q] at J;cases J;refine E.dis _ _ w u ad m2 a0 (fun z=>?_) h2 as h4 av;subst z
  have key:∀ (l:List (Option Nat)) (a b:Nat) (x:Nat),(l.filterMap id).Nodup->l[a]?=some (some x)->l[b]?=some (some x)->a=b:=by
   intro l
   induction l with
   | nil=>intro a b x _ h;simp at h
   | cons o l ih=>
    intro a b x Y L O;have U:∀ (l:List (Option Nat)) (a:Nat),l[a]?=some (some x)->x∈l.filterMap id:=fun l a h=>cV.mpr ⟨some x,aG h,rfl⟩
    cases o with
    | none=>
     have B:(l.filterMap id).Nodup:=by simpa using Y
     cases a with
     | zero=>simp at L
     | succ a=>
      cases b with
      | zero=>simp at O
      | succ b=>rw[ih a b x B (by simpa using L) (by simpa using O)]
    | some y=>
     have D:y∉l.filterMap id/\(l.filterMap id).Nodup:=by have B:(y::l.filterMap id).Nodup:=Y;exact cb.mp B
     cases a with
     | zero=>
      have a1:y=x:=by simpa using L
      subst a1
      cases b with
      | zero=>rfl
      | succ b=>exact absurd (U l b (by simpa using O)) D.1
     | succ a=>
      cases b with
      | zero=>
       have a2:y=x:=by simpa using O
       subst a2;exact absurd (U l a (by simpa using L)) D.1
      | succ b=>rw[ih a b x D.2 (by simpa using L) (by simpa using O)]
  exact ap (key cix k k' _ Y h1 q)
 al:=E.al
theorem EnvR.more {A:Addr->Prop}{σ:St}{H H':Hp}{ρ:Ev}(E:EnvR A M σ H ρ){p:Addr}{o:HO}(s:zv H H')(n:Fr H p)(g:H' p=some o)(B:NP o)(D:∀xs,o≠.tup xs):EnvR (fun b=>A b\/b=p) M σ H' ρ where
 len:=E.len
 val:=fun i w e=>by obtain⟨v,h1,h2,q⟩:=E.val i w e;refine⟨v,h1,fun z=>WAt.up (yB s n) (yB s n) (h2 z),fun z=>?_⟩;obtain⟨a,e,F,I,J⟩:=q z;exact⟨a,e,.inl F,WAt.up s (yB s n) I,J⟩
 dis:=E.dis
 al:=fun a h=>by
  rcases h with h | h
  ·obtain⟨o,h1,h2,q⟩:=E.al a h;exact⟨o,s _ _ h1 h2,h2,q⟩
  ·subst h;exact⟨o,g,B,D⟩
theorem EnvR.upd {A:Addr->Prop}{σ:St}{H:Hp}{ρ:Ev}(E:EnvR A M σ H ρ){p:Addr}{o:HO}(U:A p)(Z:∀i w,i∈M->ρ[i]?=some (some w)->σ[i]?≠some (some (.ref p)))(np:NP o)(nt:∀xs,o≠.tup xs):EnvR A M σ (L2.upd H p o) ρ where
 len:=E.len
 val:=fun i w e=>by
  obtain⟨v,h1,h2,h3⟩:=E.val i w e;refine⟨v,h1,fun z=>?_,fun z=>?_⟩
  ·show WAt _ _ _ _;rw[yn U];exact h2 z
  ·obtain⟨a,D,h4,J,O⟩:=h3 z;have F:a≠p:=fun q=>Z i w z e (by rw[h1,D,q]);refine⟨a,D,h4,?_,O⟩;show WAt _ _ _ _;rw[yn U]
   cases w with
   | d x=>
    cases x with
    | lst l=>obtain⟨L,xs,B,I,g2⟩:=J;rw[D] at B;cases B;exact⟨a,xs,D,by rw[ze F];exact I,g2⟩
    | dct=>obtain⟨L,xs,B,I,g2⟩:=J;rw[D] at B;cases B;exact⟨a,xs,D,by rw[ze F];exact I,g2⟩
    | _=>cases O
   | pen p=>cases O
   | dk k=>obtain⟨L,xs,B,I,g2⟩:=J;rw[D] at B;cases B;exact⟨a,xs,D,by rw[ze F];exact I,g2⟩
   | dt k=>obtain⟨L,xs,B,I,g2⟩:=J;rw[D] at B;cases B;exact⟨a,xs,D,by rw[ze F];exact I,g2⟩
   | ss P w k=>obtain⟨L,xs,B,I,g2⟩:=J;rw[D] at B;cases B;exact⟨a,xs,D,by rw[ze F];exact I,g2⟩
   | df k=>obtain⟨L,ob,xs,B,I,g2⟩:=J;rw[D] at B;cases B;exact⟨a,ob,xs,D,by rw[ze F];exact I,g2⟩
 dis:=E.dis
 al:=fun a h=>by
  by_cases Y:a=p
  ·subst Y;exact⟨o,zj,np,nt⟩
  ·rw[ze Y];exact E.al a h
theorem y2.upd {A:Addr->Prop}{n:Nat}{H:Hp}{p:Addr}{o:HO}(h:y2 Pn A n H)(B:A p):y2 Pn A n (L2.upd H p o):=by
 unfold y2 at h ⊢;split at h
 ·trivial
 ·refine⟨?_,h.2⟩;rename_i q c ns;obtain⟨h1,h2,D⟩:=h;have F:c≠p:=fun z=>h2 (z ▸ B);have I:q≠p:=fun z=>D (z ▸ B);obtain⟨a,l,J,g2,L,O⟩:=h1.ob;exact⟨⟨a,l,by rw[ze I];exact J,g2,L,O⟩,by rw[ze F];exact h1.ls,h1.len⟩
end
open PySem L2
structure JS (X:Cx)(Pn:Option zm)(S M:List Nat)(fr:Bool)(st:Stmt)(fs:Ms):Prop where
 ex:∃ts,QS X st ts/\RS Pn S M fr ts fs
structure JSs (X:Cx)(Pn:Option zm)(S M:List Nat)(fr:Bool)(st:List Stmt)(fs:Ms):Prop where
 ex:∃ts,QSs X st ts/\RS Pn S M fr ts fs
section
variable {X:Cx}{Pn:Option zm}{M S:List Nat}{fr fr':Bool}{e a b c:Expr}{es:List Expr}{f fa fb fc:Ev->Mo W}{pos p:Pos}
theorem y2.grow {A:Addr->Prop}{n:Nat}{H H':Hp}{q:Addr}{o:HO}(h:y2 Pn A n H)(h':y2 Pn A n H')(B:Fr H q)(g:H' q=some o)(D:NP o):y2 Pn (fun b=>A b\/b=q) n H':=by
 unfold y2 at h h' ⊢;split at h
 ·trivial
 ·rename_i p c ns;refine⟨h'.1,fun z=>z.elim h'.2.1 fun z=>?_,fun z=>z.elim h'.2.2 fun z=>?_⟩
  ·subst z;exact B _ h.1.ls NP.lst
  ·subst z;obtain⟨a,l,e,_⟩:=h'.1.ob;rw[e] at g;cases g;have:=D _ rfl;rw[zls] at this;cases this
theorem y2.grow' {A:Addr->Prop}{n m:Nat}{H H':Hp}{q:Addr}{o:HO}(h:y2 Pn A n H)(h':y2 Pn A m H')(B:Fr H q)(g:H' q=some o)(D:NP o):y2 Pn (fun b=>A b\/b=q) m H':=by
 unfold y2 at h h' ⊢;split at h
 ·trivial
 ·rename_i p c ns;refine⟨h'.1,fun z=>z.elim h'.2.1 fun z=>?_,fun z=>z.elim h'.2.2 fun z=>?_⟩
  ·subst z;exact B _ h.1.ls NP.lst
  ·subst z;obtain⟨a,l,e,_⟩:=h'.1.ob;rw[e] at g;cases g;have:=D _ rfl;rw[zls] at this;cases this
theorem zo6 {scope:Scope}{N:List Str}{fr:Bool}(h:∀C s H ex,JE (zu X scope N C s H ex) Pn M fr e f):∃te,(∀C s H ex,QE (zu X scope N C s H ex) e te)/\RE Pn M fr te f:=
 ⟨fun σ H Q=>∀C s H0 ex,(h C s H0 ex).ex.choose σ H Q,fun C s H0 ex=>⟨fun pins s' σ H Q I z=>(h C s H0 ex).ex.choose_spec.1.run pins s' σ H Q I (z C s H0 ex)⟩,
  ⟨fun A σ H ρ n Q R E P q k C s H0 ex=>(h C s H0 ex).ex.choose_spec.2.run A σ H ρ n Q R E P q k⟩⟩
theorem zo8 {scope:Scope}{N:List Str}{q:Ev->Mo Bool}(h:∀C s H ex,JTs (zu X scope N C s H ex) Pn M es q):∃te,(∀C s H ex,QTs (zu X scope N C s H ex) es te)/\RT Pn M te q:=
 ⟨fun σ H Q=>∀C s H0 ex,(h C s H0 ex).ex.choose σ H Q,fun C s H0 ex=>⟨fun pins s' σ H Q I z=>(h C s H0 ex).ex.choose_spec.1.run pins s' σ H Q I (z C s H0 ex)⟩,
  ⟨fun A σ H ρ n Q R E P B k C s H0 ex=>(h C s H0 ex).ex.choose_spec.2.run A σ H ρ n Q R E P B k⟩⟩
theorem zo7 {scope:Scope}{N:List Str}{mg:W->Ev->(Ev->Prop)->Prop}(h:∀C s H ex,JG (zu X scope N C s H ex) S M e mg):∃g,(∀C s H ex,QG (zu X scope N C s H ex) e g)/\RG S M g mg:=
 ⟨fun v σ H Q=>∀C s H0 ex,(h C s H0 ex).ex.choose v σ H Q,fun C s H0 ex=>⟨fun pins s' σ H v u Q I q z=>(h C s H0 ex).ex.choose_spec.1.run pins s' σ H v u Q I q (z C s H0 ex)⟩,
  ⟨fun A σ H ρ v w Q R E B D k C s H0 ex=>(h C s H0 ex).ex.choose_spec.2.run A σ H ρ v w Q R E B D k⟩⟩
def zex (mg:W->Ev->(Ev->Prop)->Prop)(L:Ev->Mo Bool)(O:Ev->Mo W)(F:Ev)(Q:W->Nat->Prop):List W->Nat->Prop:=fun l U=>l.length<=lim/\∃I:Nat->Ev->Nat->List Dt->Prop,I 0 F U []/\
 (∀i w q D acc,l[i]?=some w->I i q D acc->mg w q fun B=>L B D fun b J=>if b=true then O B J fun x Y=>∃d,x = .d d/\I (i+1) B Y (acc++[d]) else I (i+1) B J acc)/\
 ∀ q D acc,I l.length q D acc->Q (.d (.lst acc)) D
@[reducible] def zld (q:Ev->Mo (List W)) (mg:W->Ev->(Ev->Prop)->Prop) (B:Ev->Mo Bool) (D:Ev->Mo W) (cix:List (Option Nat)):Ev->Mo W:=fun ρ n Q=>q ρ n (zex mg B D (zcQ ρ cix) Q)
theorem zf7 {wi:TI}{g:TG}{ti:TT}{te:TE}{cix:List (Option Nat)}{fi:Ev->Mo (List W)}{mg:W->Ev->(Ev->Prop)->Prop}{ft:Ev->Mo Bool}{fe:Ev->Mo W}{ow:Bool}(hn:(cix.filterMap id).Nodup)
  (hi:RI Pn M ow wi fi) (hg:RG (yM M cix) (yM M cix) g mg) (ht:RT Pn (yM M cix) ti ft) (he:RE Pn (yM M cix) fr' te fe):RE Pn M true (zg6 wi g ti te cix) (zld fi mg ft fe cix):=⟨fun A σ H ρ n Q R E P hf k=>by
 refine hi.run A σ H ρ n _ _ E P hf fun l m J H1 ⟨hz,I,i0,it,ie⟩ iv g1=>fun acc B=>?_;have E1:=E.stay g1.st;have E2:=(E1.cap hn).more (zv.upd (o:=.lst []) B) (Fr.of B) zj NP.lst (by intro xs z;cases z);have P2:y2 Pn (fun b=>A b\/b=acc) m (L2.upd H1 acc (.lst [])):=g1.pn.grow (g1.pn.same (y4.upd B)) (Fr.of B) zj NP.lst
 have a0:∀k w,k∈yM M cix->(zcQ ρ cix)[k]?=some (some w)->(uR σ cix)[k]?≠some (some (.ref acc)):=fun k w Z hw z=>by obtain⟨v,s1,_,s3⟩:=(E1.cap hn).val k w hw;obtain⟨a,e,hA,_⟩:=s3 Z;rw[z] at s1;cases s1;cases e;exact E1.new B hA
 have key:∀ F D H',EnvR (fun b=>A b\/b=acc) (yM M cix) F H' D->(∀k∈yM M cix,F[k]?=(uR σ cix)[k]?/\D[k]?=(zcQ ρ cix)[k]?)->∀k w,k∈yM M cix->D[k]?=some (some w)->F[k]?≠some (some (.ref acc)):=fun F D H' E' ad k w Z hw z=>by obtain⟨f1,f2⟩:=ad k Z;rw[f1] at z;rw[f2] at hw;exact a0 k w Z hw z
 refine⟨fun i mm F H'=>mm=l.length - i/\i<=l.length/\∃ D n' q xs,EnvR (fun b=>A b\/b=acc) (yM M cix) F H' D/\y2 Pn (fun b=>A b\/b=acc) n' H'/\I i D n' q/\H' acc=some (.lst xs)/\IsL (z7 (fun b=>A b\/b=acc) H') q xs/\q.length<=i/\zv (z7 A H1) (z7 (fun b=>A b\/b=acc) H')/\zv H1 H'/\(∀k∈yM M cix,F[k]?=(uR σ cix)[k]?/\D[k]?=(zcQ ρ cix)[k]?),
  ⟨l.length,by simp,aT _,_,m,[],[],E2,P2,i0,zj,rfl,ag _,yB (zv.upd B) (Fr.of B),zv.upd B,fun k Z=>⟨rfl,rfl⟩⟩,?_⟩
 rintro i mm F H' ⟨rfl,a4,D,n',q,xs,E',P',hI,al,O,a5,st,s1,ad⟩;by_cases a1:i<l.length
 ·right;have as:l[i]?=some l[i]:=ah a1;obtain⟨go,yl⟩:=iv.one i l[i] _ H' as st (fun _=>s1) fun p hp=>E'.new hp
  refine⟨go,fun av H2=>∃ D n' q xs,EnvR (fun b=>A b\/b=acc) (yM M cix) av H2 D/\y2 Pn (fun b=>A b\/b=acc) n' H2/\I (i+1) D n' q/\H2 acc=some (.lst xs)/\IsL (z7 (fun b=>A b\/b=acc) H2) q xs/\q.length<=i+1/\zv (z7 A H1) (z7 (fun b=>A b\/b=acc) H2)/\zv H1 H2/\(∀k∈yM M cix,av[k]?=(uR σ cix)[k]?/\D[k]?=(zcQ ρ cix)[k]?),
   fun av H2 h=>⟨l.length - (i+1),by lia,rfl,a1,h⟩,fun x H2 hy=>?_⟩
  obtain⟨S2,V2⟩:=yl x H2 hy;refine hg.run _ F H2 D x l[i] _ _ (E'.stay (zv.same S2)) V2 (it i l[i] D n' q as hI) fun an L r3 E3 f3=>?_;have U:∀k∈yM M cix,an[k]?=(uR σ cix)[k]?/\L[k]?=(zcQ ρ cix)[k]?:=fun k Z=>⟨(f3 k Z).1.trans (ad k Z).1,(f3 k Z).2.trans (ad k Z).2⟩;refine ht.run _ an H2 L n' _ _ E3 (P'.same S2) r3 fun b m3 H4 r4 g4=>?_;have Y:=(zv.same S2).trans g4.st
  cases b with
  | false=>
   rw[if_neg (by decide)] at r4 ⊢;exact⟨L,m3,q,xs,E3.stay g4.st,g4.pn,r4,Y.lst al,O.stay (zM Y),by lia,st.trans (zM Y),s1.trans Y,U⟩
  | true=>
   rw[if_pos rfl] at r4 ⊢;refine he.run _ an H4 L m3 _ _ (E3.stay g4.st) g4.pn r4  ?_;rintro w5 m5 v5 H5 ⟨d,e5,r5⟩ V5 g5 _;subst e5;have ap:=Y.trans g5.st;have E5:=(E3.stay g4.st).stay g5.st;have a2:=ap.lst al;refine⟨xs,a2,zeU (by rw[O.length];lia),L,m5,q++[d],xs++[v5],E5.upd (.inr rfl) (key an L H5 E5 U) NP.lst (by intro xs z;cases z),g5.pn.upd (.inr rfl),r5,zj,?_,by rw[ai];simp;lia,?_,?_,U⟩
   ·rw[yn (.inr rfl)];exact (O.stay (zM ap)).append (IsL.one V5.is)
   ·rw[yn (.inr rfl)];exact st.trans (zM ap)
   ·exact fun b o e nn=>by rw[ze (zc e B)];exact s1.trans ap b o e nn
 ·left;have a3:i=l.length:=by lia
  subst a3;refine⟨iv.stop _ H' st (fun _=>s1),k _ n' _ H' (ie D n' q hI) (Val.of ⟨acc,xs,rfl,zy (E1.new B) al,O.stay (zv.same (yV fun b z=>.inl z))⟩) (g1.trans ⟨s1,P'.less fun a z=>.inl z⟩) fun _=>⟨acc,rfl,(Fr.of B).back g1.st,acc,xs,rfl,al,O⟩⟩⟩
@[reducible] def zsa:Ev->Mo Bool:=fun _ n Q=>Q true n
theorem yY:JTs X Pn M [] zsa:=⟨_,zd6,⟨fun A σ H ρ n Q R E P q k=>k true n H q (Go.refl P)⟩⟩
theorem uy {q:Ev->Mo Bool}(h:JT X Pn M c q):JTs X Pn M [c] q:=let ⟨t,h1,h2⟩:=h.ex;⟨t,zoD h1,h2⟩
theorem xz {B tg q:Expr}{D:List Expr}{scope:Scope}{N:List Str}{cix:List (Option Nat)}{F:Ev->Mo (List W)}{mg:W->Ev->(Ev->Prop)->Prop}{I:Ev->Mo Bool}{J:Ev->Mo W}{L:Bool}(O:X.calm=true)(U:CompOk X scope N cix)
  (hi:JI X Pn M L tg q F) (Y:∀C s H ex,JG (zu X scope N C s H ex) (yM M cix) (yM M cix) tg mg) (Z:∀C s H ex,JTs (zu X scope N C s H ex) Pn (yM M cix) D I) (he:∀C s H ex,JE (zu X scope N C s H ex) Pn (yM M cix) fr' B J)
  (hn:(cix.filterMap id).Nodup:=by decide) (hs:∀x,foldedSetIterable q X.env x=pure x:=by intro _;rfl):JE X Pn M true (.ListComp B [⟨tg,q,D,0⟩] scope pos) (zld F mg I J cix):=by
 obtain⟨ti,qi,ri⟩:=hi.ex;obtain⟨g,qg,rg⟩:=zo7 Y;obtain⟨tt,qt,rt⟩:=zo8 Z;obtain⟨te,qe,re⟩:=zo6 he;exact⟨_,zgY O U qi qg qt qe hs,zf7 hn ri rg rt re⟩
theorem zbI {D tg q:Expr}{F:List Expr}{scope:Scope}{N:List Str}{cix:List (Option Nat)}{Z:Ev->Mo (List W)}{mg:W->Ev->(Ev->Prop)->Prop}{ft:Ev->Mo Bool}{fe:Ev->Mo W}{ow:Bool}{ix:Nat}{nx:Str}{I B:Pos}(J:X.N.Nodup)(L:X.N[ix]?=some nx)(O:X.env.scope.names.lookup nx=some .local)(hc:X.calm=true)(cc:CompOk X scope N cix)
  (hi:JI X Pn M ow tg q Z) (hg:∀C s H ex,JG (zu X scope N C s H ex) (yM M cix) (yM M cix) tg mg) (ht:∀C s H ex,JTs (zu X scope N C s H ex) Pn (yM M cix) F ft) (he:∀C s H ex,JE (zu X scope N C s H ex) Pn (yM M cix) fr' D fe)
  (hn:(cix.filterMap id).Nodup:=by decide) (U:swapsWithSole [.Name nx I] (.ListComp D [⟨tg,q,F,0⟩] scope pos) B.line X.env=pure true:=by rfl)
  (hs:∀x,foldedSetIterable q X.env x=pure x:=by intro _;rfl)
  (Y:(assignEach [.Name nx I] X.env).map (·.2)=[assign (.Name nx I) X.env]:=by rfl):∃te,QS X (.Assign [.Name nx I] (.ListComp D [⟨tg,q,F,0⟩] scope pos) B) (zfp te (uT ix))/\RE Pn M true te (zld Z mg ft fe cix):=by
 obtain⟨ti,qi,ri⟩:=hi.ex;obtain⟨g,qg,rg⟩:=zo7 hg;obtain⟨tt,qt,rt⟩:=zo8 ht;obtain⟨te,qe,re⟩:=zo6 he;exact⟨_,zoC J L O hc cc qi qg qt qe U hs Y,zf7 hn ri rg rt re⟩
theorem At3.step {B:Bs}{A:Addr->Prop}{σ:St}{H H':Hp}{ρ:Ev}{n m:Nat}(h:At3 Pn B S M A σ H ρ n)(g:Go Pn A H m H'):At3 Pn B S M A σ H' ρ m where
 env:=h.env.stay g.st
 frm:=⟨h.frm.sub,h.frm.new,fun b o e n c=>g.st b o (h.frm.st b o e n c) n,h.frm.al,h.frm.cn,fun a z=>let ⟨o,e,n⟩:=h.frm.cs a z;⟨o,g.st a o e n,n⟩⟩
 pn:=g.pn
 prot:=h.prot.trans (zM g.st)
 fix:=h.fix
 mine:=h.mine
@[reducible] def mRet (f:Ev->Mo W):Ms:=fun ρ n k=>f ρ n k.rt
theorem zrj {te:TE}(h:RE Pn M fr te f):RS Pn S M fr (zsk te) (mRet f):=⟨fun B A σ H ρ n k D a F I=>by
 refine h.run A σ H ρ n _ _ a.env a.pn I fun w m v H' r J g L=>?_;have O:=a.step g
 exact F.rt w m v H' (WAt.up (zv.same (yV a.frm.sub)) (zv.same (yV a.frm.sub)) J) O.frm.st (g.pn.less a.frm.sub) (fun z=>by obtain⟨b,e,q,U⟩:=L z;exact FrV.less ⟨b,e,a.frm.back q (a.env.newF q),U⟩ a.frm.sub) r⟩
theorem yu (h:JE X Pn M fr e f):JS X Pn S M fr (.Return (some e) pos) (mRet f):=let ⟨te,q,r⟩:=h.ex;⟨_,zbl q,zrj r⟩
def znM (i:Nat):Ms:=fun ρ n k=>∃w,ρ[i]?=some (some w)/\k.rt w n
theorem zoO {i:Nat}(hi:i∈M):RS Pn S M fr (zsk (zkl i)) (znM i):=⟨by
 rintro B A σ H ρ n k D a kk ⟨w,e,r⟩;obtain⟨v,s1,_,s3⟩:=a.env.val i w e;obtain⟨F,rfl,hA,L,hm⟩:=s3 hi;have U:=a.mine i w F hi e s1
 have Y:¬ B.A0 F:=fun z=>by
  rcases U with U | U
  ·obtain⟨o,o1,o2,_⟩:=a.frm.al F z;exact U o o1 o2
  ·exact a.frm.cn F U z
 have q:y4 (z7 A H) (z7 B.A0 H):=yV a.frm.sub;have O:y4 (z7 A H) (z7 (fun b=>B.A0 b\/b=F) H):=yV fun b z=>z.elim (a.frm.sub b) fun z=>z ▸ hA;refine⟨.ref F,s1,kk.rt w n (.ref F) H ?_ a.frm.st (a.pn.less a.frm.sub) (fun z=>⟨F,rfl,U.resolve_right (kk.fc F),WAt.up (zv.refl _) (zv.same O) L⟩) r⟩
 cases w with
 | d x=>
  cases x with
  | lst l=>obtain⟨Z,xs,I,J,g2⟩:=L;cases I;exact⟨F,xs,rfl,zy Y J,g2.stay (zv.same q)⟩
  | dct=>obtain⟨Z,xs,I,J,g2⟩:=L;cases I;exact⟨F,xs,rfl,zy Y J,g2⟩
  | _=>cases hm
 | pen p=>cases hm
 | dk kvs=>obtain⟨Z,xs,I,J,g2,g3⟩:=L;cases I;exact⟨F,xs,rfl,zy Y J,g2.stay (zv.same q),g3⟩
 | dt kvs=>obtain⟨Z,xs,I,J,g2⟩:=L;cases I;exact⟨F,xs,rfl,zy Y J,g2.stay (zv.same q)⟩
 | ss P w kvs=>obtain⟨Z,xs,I,J,g2⟩:=L;cases I;exact⟨F,xs,rfl,zy Y J,g2.stay (zv.same q)⟩
 | df kvs=>obtain⟨Z,ob,xs,I,J,g2⟩:=L;cases I;exact⟨F,ob,xs,rfl,zy Y J,g2.stay (zv.same q)⟩⟩
theorem zax (i:Nat){x:Str}(hi:i∈M:=by decide)(B:X.N[i]?=some x:=by rfl)(D:Vis X.env.scope x:=by walk_at "v")(F:(x==("__debug__" : Str))=false:=by decide)
  (q:(x==("__classdict__" : Str))=false:=by decide) {pos':Pos}:JS X Pn S M fr (.Return (some (.Name x pos)) pos') (znM i):=⟨_,zbl (qv i B D F q),zoO hi⟩
@[reducible] def znA (f:Ev->Mo W) (mg:W->Ev->(Ev->Prop)->Prop):Ms:=fun ρ n k=>f ρ n fun w m=>mg w ρ fun q=>k.nx q m
theorem EnvR.mineG {B:Bs}{A:Addr->Prop}{σ q:St}{H:Hp}{ρ D:Ev}{n:Nat}(a:At3 Pn B S M A σ H ρ n)(E:EnvR A M q H D)(f:∀i∈S++M,q[i]?=σ[i]?/\D[i]?=ρ[i]?):At3 Pn B S M A q H D n where
 env:=E
 frm:=a.frm
 pn:=a.pn
 prot:=a.prot
 fix:=fun i hi=>(f i (aZ.mpr (.inl hi))).1.trans (a.fix i hi)
 mine:=fun i w F hi e s=>by obtain⟨I,J⟩:=f i (aZ.mpr (.inr hi));rw[I] at s;rw[J] at e;exact a.mine i w F hi e s
theorem zjY {te:TE}{g:TG}{mg:W->Ev->(Ev->Prop)->Prop}(h:RE Pn M fr' te f)(J:RG (S++M) M g mg):RS Pn S M fr (zfp te g) (znA f mg):=⟨fun B A σ H ρ n k D a L O=>by refine h.run A σ H ρ n _ _ a.env a.pn O fun w m v H' r U g' _=>?_;have I:=a.step g';exact J.run A σ H' ρ v w _ _ I.env U r fun q F Y E2 Z=>L.nx A q H' F m (EnvR.mineG I E2 Z) Y⟩
theorem zB {i:Nat}{x:Str}{pos':Pos}(F:X.N.Nodup)(hi:X.N[i]?=some x)(I:Loc X.env.scope x)(J:JE X Pn M fr' e f)(B:i∉M:=by decide)(D:i∉S++M:=by decide)(L:swapsWith e (some (.Name x pos')) pos.line X.env=pure false:=by rfl)(O:X.fn x=true\/X.env.scope.names.lookup x=some .local:=by walk_at "l") :
  JS X Pn S M fr (.Assign [.Name x pos'] e pos) (znA f (gN i)):=let ⟨te,q,r⟩:=J.ex;⟨_,xZ F hi I q L O,zjY r (zf8 B D)⟩
theorem zfQ {i:Nat}{st:Stmt}(h:∃te,QS X st (zfp te (uT i))/\RE Pn M true te f)(B:i∉M:=by decide)(D:i∉S++M:=by decide):JS X Pn S M fr st (znA f (gN i)):=let ⟨te,q,r⟩:=h;⟨_,q,zjY r (zf8 B D)⟩
theorem ziR {tg:Expr}{mg:W->Ev->(Ev->Prop)->Prop}(B:JE X Pn M fr' e f)(D:JG X (S++M) M tg mg)(F:swapsWithSole [tg] e pos.line X.env=pure false:=by rfl)(I:swappedStores [tg] e X.env=pure none:=by rfl)
  (h1:(assignEach [tg] X.env).map (·.2)=[assign tg X.env]:=by rfl):JS X Pn S M fr (.Assign [tg] e pos) (znA f mg):=let ⟨te,q,r⟩:=B.ex;let ⟨g,q2,r2⟩:=D.ex;⟨_,zmv q q2 F I h1,zjY r r2⟩
def zqg (i:Nat)(f:Ev->Mo W):Ms:=fun ρ n k=>f ρ n fun w m=>w.mut=true/\k.nx (ρ.set i (some w)) m
theorem zjh {T G:Hp}{w:W}{v:V}(h:WAt T G w v)(hm:w.mut=true):∃a o,v = .ref a/\T a=some o/\NP o/\∀xs,o≠.tup xs:=by
 cases w with
 | d x=>
  cases x with
  | lst l=>obtain⟨a,xs,e,g1,_⟩:=h;exact⟨a,_,e,g1,NP.lst,fun _ z=>by cases z⟩
  | dct=>obtain⟨a,xs,e,g1,g2⟩:=h;exact⟨a,_,e,g1,fun k z=>by cases z;exact g2,fun _ z=>by cases z⟩
  | _=>cases hm
 | pen p=>cases hm
 | dk kvs=>obtain⟨a,xs,e,g1,_,g3⟩:=h;exact⟨a,_,e,g1,fun k z=>by cases z;exact g3,fun _ z=>by cases z⟩
 | dt kvs=>obtain⟨a,xs,e,g1,_⟩:=h;exact⟨a,_,e,g1,(fun k z=>by cases z),fun _ z=>by cases z⟩
 | ss P w kvs=>obtain⟨a,xs,e,g1,_⟩:=h;exact⟨a,_,e,g1,(fun k z=>by cases z),fun _ z=>by cases z⟩
 | df kvs=>obtain⟨a,ob,xs,e,g1,_⟩:=h;exact⟨a,_,e,g1,(fun k z=>by cases z),fun _ z=>by cases z⟩
theorem zmA {te:TE}{i:Nat}(h:RE Pn M true te f)(hi:i∈M)(hs:i∉S):RS Pn S M fr (zfp te (uT i)) (zqg i f):=⟨fun B A σ H ρ n k D a kk hf=>by
 refine h.run A σ H ρ n _ _ a.env a.pn hf  ?_;rintro w m v H' ⟨hm,r⟩ hv g' av;obtain⟨ad,rfl,Y,hb⟩:=av rfl;obtain⟨a2,o,J,ho,np,nt⟩:=zjh hb hm;cases J;have E1:=a.env.more g'.st Y ho np nt;have L:¬ A ad:=a.env.newF Y;refine kk.nx (fun b=>A b\/b=ad) _ H' _ m ⟨⟨?_,?_,?_,E1.al⟩,⟨fun b z=>.inl (a.frm.sub b z),fun b z=>?_,fun b o e n c=>g'.st b o (a.frm.st b o e n c) n,a.frm.al,a.frm.cn,fun b z=>let ⟨o,e,n⟩:=a.frm.cs b z;⟨o,g'.st b o e n,n⟩⟩,a.pn.grow' g'.pn Y ho np,a.prot.trans (yB g'.st Y),fun j I=>?_,fun j u b I e s=>?_⟩ r
 ·rw[aY,aY];exact a.env.len
 ·intro j u e;by_cases I:j=i
  ·subst I
   have O:j<ρ.length:=by have:=(ae.mp e).1;rwa[aY] at this
   rw[aQ O] at e;cases e;exact⟨.ref ad,aQ (by rw[a.env.len];exact O),fun z=>absurd hi z,fun _=>⟨ad,rfl,.inr rfl,hb,hm⟩⟩
  ·rw[aw (Ne.symm I)] at e ⊢;exact E1.val j u e
 ·intro j l u u' b I O U e1 J s1 Z
  have an:∀q u,q∈M->q≠i->ρ[q]?=some (some u)->σ[q]?≠some (some (.ref ad)):=fun q u hq a0 eq sq=>by obtain⟨v,s,_,s3⟩:=a.env.val q u eq;obtain⟨c,ec,hc,_⟩:=s3 hq;rw[sq] at s;cases s;cases ec;exact L hc
  have ap:∀q (u:W),(ρ.set i (some w))[q]?=some (some u)->q<σ.length:=fun q u e=>by have:=(ae.mp e).1;rw[aY] at this;rw[a.env.len];exact this
  by_cases F:j=i
  ·subst F;rw[aQ (ap _ _ e1)] at s1;cases s1;rw[aw U] at J Z;exact an l u' O (Ne.symm U) J Z
  ·rw[aw (Ne.symm F)] at e1 s1;by_cases as:l=i
   ·subst as;rw[aQ (ap _ _ J)] at Z;cases Z;exact an j u I F e1 s1
   ·rw[aw (Ne.symm as)] at J Z;exact a.env.dis j l u u' b I O U e1 J s1 Z
 ·rcases z with z | z
  ·exact a.frm.new b z
  ·subst z;exact .inr (.inl (a.frm.back Y L))
 ·rw[aw fun (z:i=j)=>hs (by rw[z];exact I)];exact a.fix j I
 ·by_cases F:j=i
  ·subst F
   have O:j<σ.length:=by have:=(ae.mp s).1;rwa[aY] at this
   rw[aQ O] at s;cases s;exact .inl (a.frm.back Y L)
  ·rw[aw (Ne.symm F)] at e s;exact a.mine j u b I e s⟩
theorem xl {i:Nat}{x:Str}{pos':Pos}(F:X.N.Nodup)(hi:X.N[i]?=some x)(I:Loc X.env.scope x)(J:JE X Pn M true e f)(B:i∈M:=by decide)(D:i∉S:=by decide)(L:swapsWith e (some (.Name x pos')) pos.line X.env=pure false:=by rfl)(O:X.fn x=true\/X.env.scope.names.lookup x=some .local:=by walk_at "l") :
  JS X Pn S M fr (.Assign [.Name x pos'] e pos) (zqg i f):=let ⟨te,q,r⟩:=J.ex;⟨_,xZ F hi I q L O,zmA r B D⟩
theorem zns {i:Nat}{st:Stmt}(h:∃te,QS X st (zfp te (uT i))/\RE Pn M true te f)(B:i∈M:=by decide)(D:i∉S:=by decide):JS X Pn S M fr st (zqg i f):=let ⟨te,q,r⟩:=h;⟨_,q,zmA r B D⟩
end
open PySem PySem.Spec L2
section
variable {X:Cx}{Pn:Option zm}{M S:List Nat}{fr fr':Bool}{e a b c:Expr}{es:List Expr}{f fa fb fc:Ev->Mo W}{pos p:Pos}{st:Stmt}{sts:List Stmt}{fs gs:Ms}
@[reducible] def mNx:Ms:=fun ρ n k=>k.nx ρ n
structure blk (g:Ms)(ρ:Ev)(n:Nat)(k:Kt):Prop where
 go:g ρ n k
theorem zpt {g:Ms}{ρ:Ev}{n:Nat}{k:Kt}(h:g ρ n k):blk g ρ n k:=⟨h⟩
@[reducible] def mSeq (f g:Ms):Ms:=fun ρ n k=>f ρ n { k with nx:=fun q B=>blk g q B k }
def zs7 (t:Ev->Mo Bool)(f g:Ms):Ms:=fun ρ n k=>t ρ n fun c m=>if c=true then blk f ρ m k else blk g ρ m k
theorem zN:JSs X Pn S M fr [] mNx:=⟨_,zd5,⟨fun B A σ H ρ n k D a q F=>q.nx A σ H ρ n a F⟩⟩
theorem zrk {t u:TS}(h1:RS Pn S M fr t fs)(h2:RS Pn S M fr u gs):RS Pn S M fr (ztR t u) (mSeq fs gs):=⟨fun B A σ H ρ n k D a F L=>
 h1.run B A σ H ρ n { k with nx:=fun q I=>blk gs q I k } _ a ⟨fun A' J H' q I O r=>h2.run B A' J H' q I k D O F r.go,F.bk,F.ct,F.fc,F.rt⟩ L⟩
theorem zb (h1:JS X Pn S M fr st fs)(h2:JSs X Pn S M fr sts gs):JSs X Pn S M fr (st::sts) (mSeq fs gs):=let ⟨t,q,r⟩:=h1.ex;let ⟨u,q2,r2⟩:=h2.ex;⟨_,z8 q q2,zrk r r2⟩
theorem zf (h1:JS X Pn S M fr st fs):JSs X Pn S M fr [st] fs:=let ⟨t,q,r⟩:=h1.ex;⟨_,uE q,r⟩
theorem yX {body q:List Stmt}{t:Ev->Mo Bool}(I:JT X Pn M c t)(J:JSs X Pn S M fr body fs)(L:JSs X Pn S M fr q gs):JS X Pn S M fr (.If c body q pos) (zs7 t fs gs):=by
 obtain⟨tc,O,U⟩:=I.ex;obtain⟨ta,Y,Z⟩:=J.ex;obtain⟨tb,qb,rb⟩:=L.ex;refine⟨_,zlE O Y qb,⟨fun B A σ H ρ n k D a F hf=>?_⟩⟩;refine U.run A σ H ρ n _ _ a.env a.pn hf fun c m H1 r g=>?_
 cases c with
 | true=>rw[if_pos rfl] at r ⊢;exact Z.run B A σ H1 ρ m k D (a.step g) F r.go
 | false=>rw[if_neg (by decide)] at r ⊢;exact rb.run B A σ H1 ρ m k D (a.step g) F r.go
@[reducible] def mDrop (f:Ev->Mo W):Ms:=fun ρ n k=>f ρ n fun _ m=>k.nx ρ m
theorem At3.wr {B:Bs}{A:Addr->Prop}{σ:St}{H:Hp}{ρ:Ev}{n:Nat}(h:At3 Pn B S M A σ H ρ n){i:Nat}{w:W}{J:Addr}{xs:List V}{l:List Dt}(hi:i∈M)(e:ρ[i]?=some (some w))(s:σ[i]?=some (some (.ref J)))(hl:IsL (z7 A H) l xs):At3 Pn B S M A σ (L2.upd H J (.lst xs)) (ρ.set i (some (.d (.lst l)))) n:=by
 obtain⟨v,s1,_,s3⟩:=h.env.val i w e;rw[s] at s1;cases s1;obtain⟨Z,F,hA,_,_⟩:=s3 hi;cases F;have an:i<ρ.length:=(ae.mp e).1
 have hE:EnvR A M σ (L2.upd H J (.lst xs)) (ρ.set i (some (.d (.lst l)))):=by
  refine⟨by rw[aY];exact h.env.len,fun j u U=>?_,fun j q u u' b Y hq D e1 F=>?_,fun b hb=>?_⟩
  ·by_cases Y:j=i
   ·subst Y;rw[aQ an] at U;cases U;exact⟨.ref J,s,fun z=>absurd hi z,fun _=>⟨J,rfl,hA,⟨J,xs,rfl,zj,by rw[yn hA];exact hl⟩,rfl⟩⟩
   ·rw[aw (Ne.symm Y)] at U;obtain⟨v,t1,t2,t3⟩:=h.env.val j u U;refine⟨v,t1,fun z=>?_,fun z=>?_⟩
    ·show WAt _ _ _ _;rw[yn hA];exact t2 z
    ·obtain⟨b,rfl,hb,I,hm⟩:=t3 z;have D:b≠J:=fun q=>h.env.dis i j w u J hi z (Ne.symm Y) e U s (by rw[t1,q]);refine⟨b,rfl,hb,?_,hm⟩;show WAt _ _ _ _;rw[yn hA]
     cases u with
     | d x=>
      cases x with
      | lst l=>obtain⟨Z,xs,F,L,g2⟩:=I;cases F;exact⟨b,xs,rfl,by rw[ze D];exact L,g2⟩
      | dct=>obtain⟨Z,xs,F,L,g2⟩:=I;cases F;exact⟨b,xs,rfl,by rw[ze D];exact L,g2⟩
      | _=>cases hm
     | pen p=>cases hm
     | dk k=>obtain⟨Z,xs,F,L,g2⟩:=I;cases F;exact⟨b,xs,rfl,by rw[ze D];exact L,g2⟩
     | dt k=>obtain⟨Z,xs,F,L,g2⟩:=I;cases F;exact⟨b,xs,rfl,by rw[ze D];exact L,g2⟩
     | ss P w k=>obtain⟨Z,xs,F,L,g2⟩:=I;cases F;exact⟨b,xs,rfl,by rw[ze D];exact L,g2⟩
     | df k=>obtain⟨Z,ob,xs,F,L,g2⟩:=I;cases F;exact⟨b,ob,xs,rfl,by rw[ze D];exact L,g2⟩
  ·have ap:∀q (u:W),(ρ.set i (some (.d (.lst l))))[q]?=some (some u)->∃u',ρ[q]?=some (some u'):=fun q u z=>by
    by_cases hq:q=i
    ·subst hq;exact⟨w,e⟩
    ·rw[aw (Ne.symm hq)] at z;exact⟨u,z⟩
   obtain⟨v1,f1⟩:=ap j u e1;obtain⟨v2,f2⟩:=ap q u' F;exact h.env.dis j q v1 v2 b Y hq D f1 f2
  ·by_cases O:b=J
   ·subst O;exact⟨_,zj,NP.lst,fun _ z=>by cases z⟩
   ·rw[ze O];exact h.env.al b hb
 refine⟨hE,⟨h.frm.sub,h.frm.new,fun b o eb nn nc=>?_,h.frm.al,h.frm.cn,fun b z=>(by
  by_cases O:b=J
  ·subst O;exact⟨_,zj,NP.lst⟩
  ·rw[ze O];exact h.frm.cs b z)⟩,h.pn.upd hA,by rw[yn hA];exact h.prot,h.fix,fun j u b Y U sj=>?_⟩
 ·have D:b≠J:=fun q=>by
   subst q;rcases h.mine i w b hi e s with z | z
   ·exact z o eb nn
   ·exact nc z
  rw[ze D];exact h.frm.st b o eb nn nc
 ·by_cases as:j=i
  ·subst as;exact h.mine j w b Y e sj
  ·rw[aw (Ne.symm as)] at U;exact h.mine j u b Y U sj
def zr6 (i:Nat)(f:Ev->Mo W):Ms:=fun ρ n k=>(∃l,ρ[i]?=some (some (.d (.lst l))))/\f ρ n fun w m=>∃l d,ρ[i]?=some (some (.d (.lst l)))/\w = .d d/\l.length<lim/\k.nx (ρ.set i (some (.d (.lst (l++[d]))))) m
theorem zrg {K:PySem.W.Frag}{te:TE}{i:Nat}(h:RE Pn M fr' te f)(hi:i∈M):RS Pn S M fr (zlR (tBM K "list" zf5 (zkl i) (zbC te zkb))) (zr6 i f):=⟨by
 rintro B A σ H ρ n k D a U ⟨⟨l0,Y⟩,Z⟩;obtain⟨v,q,_,s3⟩:=a.env.val i _ Y;obtain⟨I,rfl,hA,hb,_⟩:=s3 hi;obtain⟨a2,al,e2,g0,_⟩:=hb;cases e2;refine⟨.ref I,q,.inl ⟨rfl,_,SqL.of g0⟩,?_⟩;refine h.run A σ H ρ n _ _ a.env a.pn Z  ?_;rintro w m v H' ⟨l,d,e,ed,hz,r⟩ hv g _;subst ed;have J:=a.step g;obtain⟨v2,L,_,t3⟩:=J.env.val i _ e;rw[q] at L;cases L;obtain⟨a3,e3,an,F,_⟩:=t3 hi;cases e3;obtain⟨a4,xs,e4,g4,O⟩:=F;cases e4;exact⟨I,xs,v,rfl,rfl,g4,zeU (by rw[O.length];exact cv hz),U.nx A σ _ _ m (J.wr hi e q (O.append (IsL.one hv.is))) r⟩⟩
theorem zao (i:Nat){x:Str}{U I sp J:Pos}(Z:JE X Pn M fr' e f)(hi:i∈M:=by decide)(hN:X.N[i]?=some x:=by rfl)(hv:Vis X.env.scope x:=by walk_at "v")(hd:(x==("__debug__" : Str))=false:=by decide)
  (Y:(x==("__classdict__" : Str))=false:=by decide) (L:starEach (e::[]) X.env=(false,eval e X.env)::starEach [] X.env:=by rfl) (hs:swapsWith (.Call (.Attribute (.Name x J) "append" U) [e] [] I) none sp.line X.env=pure false:=by rfl) (D:attributeBase (.Name x J) "append" X.env (eval (.Name x J) X.env)=eval (.Name x J) X.env:=by rfl) (F:(U.endLine==I.line)=true:=by rfl)
  (O:((backTo I (starEach [e] X.env)).all (fun x=>!x.1)&&(backToKw I (keywordEach [] X.env)).all (fun x=>x.1.isSome)&&decide (([e]:List Expr).length+([]:List Keyword).length+(if ([]:List Keyword).isEmpty then 0 else 1)<30))=true:=by rfl) (B:(backTo I (starEach [] X.env)).any (·.1)=false:=by rfl) :
  JS X Pn S M fr (.Expr (.Call (.Attribute (.Name x J) "append" U) [e] [] I) sp) (zr6 i f):=by
 obtain⟨te,q,r⟩:=Z.ex;exact⟨_,zcw (zqY (qv i hN hv hd Y) (zJ q yx L) D O F L B) hs,zrg r hi⟩
def zpQ (mg:W->Ev->(Ev->Prop)->Prop)(fb:Ms)(ρ:Ev)(k:Kt):List W->Nat->Prop:=fun l F=>∃I:Nat->Ev->Nat->Prop,I 0 ρ F/\
 (∀i w q B,l[i]?=some w->I i q B->mg w q fun D=>fb D B { k with nx:=I (i+1),ct:=I (i+1),bk:=k.nx })/\∀ q B,I l.length q B->k.nx q B
@[reducible] def mFor (q:Ev->Mo (List W)) (mg:W->Ev->(Ev->Prop)->Prop) (fb:Ms):Ms:=fun ρ n k=>q ρ n (zpQ mg fb ρ k)
theorem zrh {wi:TI}{g:TG}{tb:TS}{fi:Ev->Mo (List W)}{mg:W->Ev->(Ev->Prop)->Prop}{fb:Ms}(hi:RI Pn M false wi fi)(hg:RG (S++M) M g mg)(hb:RS Pn S M fr tb fb):RS Pn S M fr (ztQ wi g tb) (mFor fi mg fb):=⟨fun B A σ H ρ n k D a kk hf=>by
 refine hi.run A σ H ρ n _ _ a.env a.pn hf  ?_;rintro l m J H1 ⟨I,i0,it,ie⟩ iv g1;have a1:=a.step g1;have ad:∀ {A':Addr->Prop} {L:St} {H':Hp} {F:Ev} {O:Nat},At3 Pn { B with G0:=z7 A H1 } S M A' L H' F O->At3 Pn B S M A' L H' F O:=fun {A' L H' F O} q=>⟨q.env,q.frm,q.pn,a1.prot.trans q.prot,q.fix,q.mine⟩;refine⟨fun i mm L H'=>mm=l.length - i/\i<=l.length/\∃A' F O,At3 Pn { B with G0:=z7 A H1 } S M A' L H' F O/\I i F O,⟨l.length,by simp,aT _,A,ρ,m,⟨a1.env,a1.frm,a1.pn,zv.refl _,a1.fix,a1.mine⟩,i0⟩,?_⟩;rintro i mm L H' ⟨rfl,a0,A',F,O,a',hI⟩;by_cases al:i<l.length
 ·right;have Y:l[i]?=some l[i]:=ah al;obtain⟨go,yl⟩:=iv.one i l[i] A' H' Y a'.prot (fun z=>by cases z) fun p hp=>a'.env.new hp;refine⟨go,fun an H2=>∃A' F O,At3 Pn { B with G0:=z7 A H1 } S M A' an H2 F O/\I (i+1) F O,fun an H2 h=>⟨l.length - (i+1),by lia,rfl,al,h⟩,fun x H2 hy=>?_⟩;obtain⟨S2,V2⟩:=yl x H2 hy;have a2:=a'.step (Go.same a'.pn S2);refine hg.run A' L H2 F x l[i] _ _ a2.env V2 (it i l[i] F O Y hI) fun ap as r3 E3 f3=>?_;refine hb.run { B with G0:=z7 A H1 } A' ap H2 as O _ _ (EnvR.mineG a2 E3 f3) ⟨?_,?_,?_,kk.fc,?_⟩ r3
  ·exact fun A4 Z H4 U n4 a4 r4=>⟨A4,U,n4,a4,r4⟩
  ·exact fun A4 Z H4 U n4 a4 r4=>kk.nx A4 Z H4 U n4 (ad a4) r4
  ·exact fun A4 Z H4 U n4 a4 r4=>⟨A4,U,n4,a4,r4⟩
  ·exact kk.rt
 ·left;have av:i=l.length:=by lia
  subst av;exact⟨iv.stop A' H' a'.prot (fun z=>by cases z),kk.nx A' L H' F O (ad a') (ie F O hI)⟩⟩
theorem yb {tg q:Expr}{body:List Stmt}{B:Ev->Mo (List W)}{mg:W->Ev->(Ev->Prop)->Prop}{fb:Ms}(D:PassesOwn (model X.prog X.w) X.A X.env X.xe)(F:X.calm=true)(hi:JI X Pn M false tg q B)(I:JG X (S++M) M tg mg)(J:JSs X Pn S M fr body fb)(L:∀x,foldedSetIterable q X.env x=pure x:=by intro _;rfl) :
  JS X Pn S M fr (.For tg q body [] pos) (mFor B mg fb):=by
 obtain⟨ti,O,U⟩:=hi.ex;obtain⟨Y,Z,rg⟩:=I.ex;obtain⟨tb,qb,rb⟩:=J.ex;exact⟨_,zmw D F O Z qb L,zrh U rg rb⟩
def xp (N:List Str)(q:List W):Ev:=q.map some++List.replicate (N.length - q.length) none
theorem zcO.get {A:Addr->Prop}{H:Hp}:∀ {q:List W} {vs:List V} {i:Nat} {w:W},zcO A H q vs->q[i]?=some w->∃v,vs[i]?=some v/\Val A H w v
 | [],_,_,_,_,e=>by simp at e
 | x::q,vs,0,w,⟨v,r,B,h1,_⟩,e=>by
  subst B;have:x=w:=by simpa using e
  subst this;exact⟨v,rfl,h1⟩
 | x::q,vs,i+1,w,⟨v,r,B,_,h2⟩,e=>by subst B;obtain⟨u,D,F⟩:=zcO.get (i:=i) h2 (by simpa using e);exact⟨u,by simpa using D,F⟩
theorem zii {A:Addr->Prop}{H:Hp}{N:List Str}{ws:List W}{vs:List V}(al:Al A H)(h:zcO A H ws vs)(hM:∀i∈M,ws.length<=i):EnvR A M (L2.xg N vs) H (xp N ws) where
 len:=by unfold L2.xg xp;rw[ai,ai,ab,ab,dL,dL,h.len]
 val:=fun i w e=>by
  unfold xp at e
  have hi:i<ws.length:=by apply bO;intro z;rw[bc (by rw[ab];lia)] at e;obtain⟨_,q⟩:=ae.mp e;rw[cA] at q;cases q
  rw[a9 (by rw[ab];exact hi),au] at e;obtain⟨w',e1,e2⟩:=aI.mp e;cases e2;obtain⟨v,h1,h2⟩:=h.get e1;refine⟨v,?_,fun _=>h2,fun z=>absurd (hM i z) (by lia)⟩;unfold L2.xg;have hi':i<vs.length:=by rw[h.len];exact hi
  rw[a9 (by rw[ab];exact hi'),au,h1];rfl
 dis:=fun i j w u ad hi hj hne e1=>by unfold xp at e1;have:=hM i hi;rw[bc (by rw[ab];lia)] at e1;obtain⟨_,q⟩:=ae.mp e1;rw[cA] at q;cases q
 al:=al
theorem zqm {P:Program}{w:World}{K:PySem.W.Frag}{mg:Str->Option Value}{base:Heap}{I:Str}{st:Stmt}{f:Addr}{fd:FuncData}{N ps:List Str}{k m:Nat}{F:Option zm->List W->Mo W}(M:List Nat)(Z:(∀vs H Q E,spV m fr F vs H Q E->vs.length=ps.length)->(∀ (D:Value) (A:Around) (B:List Env) (s:Shared) (H:Hp) (vs:List V) (Q:VK) (E:XK),Room k (A.deeper (PyProof.Rows.envOfC I (zg st) s.heap.objs.size f D))->spV m fr F vs H Q E->
   ∃t,QSs (zdB CX0 P w K mg base N I (zg st) f D A B s H E).nox (ym st) t/\t { nx:=fun _ H'=>Q .non H',rt:=Q } (L2.xg N vs) H)->FnOk P w K mg base CX0 (k+1) f fd ps (spV m fr F)) (hm:m=ps.length) (hM:∀i∈M,m<=i)
  (J:∀ (D:Value) (A:Around) (B:List Env) (s:Shared) (H:Hp) (E:XK) (Pn:Option zm),Room k (A.deeper (PyProof.Rows.envOfC I (zg st) s.heap.objs.size f D))->
   ∃fs,JSs (zdB CX0 P w K mg base N I (zg st) f D A B s H E).nox Pn [] M fr (ym st) fs/\∀L n R,L.length=m->F Pn L n R->fs (xp N L) n { nx:=fun _ U=>fr=false/\R (.d .non) U,rt:=R }):FnOk P w K mg base CX0 (k+1) f fd ps (spV m fr F):=by
 refine Z (fun vs H Q E h=>?_) (fun D A B s H vs Q E hr h=>?_)
 ·obtain⟨Pn,A,L,n,R,_,hv,Y,_⟩:=h;rw[hv.len,Y,hm]
 ·obtain⟨Pn,A3,L,n,R,al,hv,Y,hp,hF,q⟩:=h;obtain⟨fs,⟨t,qs,rs⟩,ad⟩:=J D A B s H E Pn hr;refine⟨t,qs,rs.run { A0:=A3,H0:=H,G0:=z7 A3 H,σ0:=L2.xg N vs } A3 (L2.xg N vs) H (xp N L) n _ _ ⟨zii al hv (fun i hi=>by rw[Y];exact hM i hi),⟨fun _ z=>z,fun _ z=>.inl z,.of (zv.refl _),al,fun _ z=>z.elim,fun _ z=>z.elim⟩,hp,zv.refl _,fun i hi=>rfl,fun i w a hi e=>?_⟩ ⟨?_,?_,?_,fun _ z=>z,?_⟩ (ad L n R Y hF)⟩
  ·exact absurd e (by unfold xp;have:=hM i hi;rw[bc (by rw[ab];lia)];intro z;obtain⟨_,q⟩:=ae.mp z;rw[cA] at q;cases q)
  ·intro A' ap H' as U a' ⟨O,r⟩;exact q _ U .non H' r (Val.of (show Is _ .non .non from rfl)) ⟨a'.frm.st.stay,a'.pn.less a'.frm.sub⟩ fun z=>by rw[O] at z;cases z
  ·intro _ _ _ _ _ _ z;exact z.elim
  ·intro _ _ _ _ _ _ z;exact z.elim
  ·intro w U v H' an st pn O r;exact q w U v H' r an ⟨st.stay,pn⟩ O
end
open PySem PySem.Spec L2
section
variable {X:Cx}{Pn:Option zm}{M S:List Nat}{fr fr':Bool}{e a b c:Expr}{es:List Expr}{f fa fb fc:Ev->Mo W}{pos p p2:Pos}
def znE (B:Dt->Bool)(f:Ev->Mo W):Ev->Mo W:=fun ρ n Q=>f ρ n fun w m=>∃d,w = .d d/\Q (.d (.bl (B d))) m
theorem zjU {K:PySem.W.Frag}{T:String}{B:Dt->Bool}{te:TE}(q:∀d:Dt,PySem.W.kitOne K (.type d.ty) (.type T)=some (B d))(h:RB Pn M te f):RE Pn M false (tCB (fun xs H Q=>∃x T t b,xs=[x,.ty T]/\TyOf K H x t/\PySem.W.kitOne K t (.type T)=some b/\Q (.bl b) H) (zbC te (zbC (tC (.ty T)) zkb))) (znE B f):=⟨fun A σ H ρ n Q R E P D k=>by refine h.run A σ H ρ n _ _ E P D  ?_;rintro w m v H' ⟨d,e,r⟩ F g;subst e;exact⟨v,T,_,_,rfl,F.is.ty,q d,k _ m _ H' r (Val.of rfl) g fun z=>by cases z⟩⟩
@[reducible] def isStr:Dt->Bool
 | .str _=>true
 | _=>false
@[reducible] def isDct:Dt->Bool
 | .dct=>true
 | _=>false
theorem znq {T:String}{x:Str}{B:Dt->Bool}(O:∀d:Dt,PySem.W.kitOne X.K (.type d.ty) (.type T)=some (B d))(U:bootBuiltins x=some (.type T))(F:Gl X x)(Y:x ≠ "__name__")(Z:(x==("__debug__" : Str))=false)(hg:Gl X "isinstance")(hm:X.mg "isinstance" = none)(I:X.mg x=none)(h:JB X Pn M e f)
  (D:starEach (e::[.Name x p2]) X.env=(false,eval e X.env)::starEach [.Name x p2] X.env) (J:starEach (.Name x p2::[]) X.env=(false,eval (.Name x p2) X.env)::starEach [] X.env) (L:(backTo pos (starEach [.Name x p2] X.env)).any (·.1)=false):JE X Pn M false (.Call (.Name "isinstance" p) [e,.Name x p2] [] pos) (znE B f):=by
 obtain⟨te,q,r⟩:=h.ex;exact⟨_,xi zhY hg hm PyProof.Rows.boot_isinstance (zJ q (zJ (zoo (v:=.ty T) F I U rfl Y Z) yx J) D) (by decide) (by decide) D L,zjU O r⟩
theorem zcW (J:Gl X "isinstance")(L:X.mg "isinstance" = none)(q:X.mg "tuple" = none)(h:JB X Pn M e f)(B:Gl X "tuple" := by rfl)(D:starEach (e::[.Name "tuple" p2]) X.env=(false,eval e X.env)::starEach [.Name "tuple" p2] X.env:=by rfl)(F:starEach (.Name "tuple" p2::[]) X.env=(false,eval (.Name "tuple" p2) X.env)::starEach [] X.env:=by rfl)(I:(backTo pos (starEach [.Name "tuple" p2] X.env)).any (·.1)=false:=by rfl) :
  JE X Pn M false (.Call (.Name "isinstance" p) [e,.Name "tuple" p2] [] pos) (znE Dt.isTup f):=znq (znw _) br B (by decide) (by decide) J L q h D F I
theorem zdK (J:Gl X "isinstance")(L:X.mg "isinstance" = none)(q:X.mg "list" = none)(h:JB X Pn M e f)(B:Gl X "list" := by rfl)(D:starEach (e::[.Name "list" p2]) X.env=(false,eval e X.env)::starEach [.Name "list" p2] X.env:=by rfl)(F:starEach (.Name "list" p2::[]) X.env=(false,eval (.Name "list" p2) X.env)::starEach [] X.env:=by rfl)(I:(backTo pos (starEach [.Name "list" p2] X.env)).any (·.1)=false:=by rfl) :
  JE X Pn M false (.Call (.Name "isinstance" p) [e,.Name "list" p2] [] pos) (znE Dt.isLst f):=znq (znv _) cU B (by decide) (by decide) J L q h D F I
theorem zdJ (J:Gl X "isinstance")(L:X.mg "isinstance" = none)(q:X.mg "bool" = none)(h:JB X Pn M e f)(B:Gl X "bool" := by rfl)(D:starEach (e::[.Name "bool" p2]) X.env=(false,eval e X.env)::starEach [.Name "bool" p2] X.env:=by rfl)(F:starEach (.Name "bool" p2::[]) X.env=(false,eval (.Name "bool" p2) X.env)::starEach [] X.env:=by rfl)(I:(backTo pos (starEach [.Name "bool" p2] X.env)).any (·.1)=false:=by rfl) :
  JE X Pn M false (.Call (.Name "isinstance" p) [e,.Name "bool" p2] [] pos) (znE Dt.isBl f):=znq (zqc _) PyProof.Rows.boot_bool B (by decide) (by decide) J L q h D F I
def zfn (n:Nat):List Dt:=(List.range n).map fun i:Nat=>Dt.int i
theorem ziG {G:Hp}(n:Nat):IsL G (zfn n) ((List.range n).map fun i:Nat=>V.int i):=by
 have q:zfn n=(((List.range n).map fun i:Nat=>(i:Int))).map Dt.int:=by unfold zfn;rw[aC];rfl
 have B:((List.range n).map fun i:Nat=>V.int i)=(((List.range n).map fun i:Nat=>(i:Int))).map V.int:=by rw[aC];rfl
 rw[q,B];exact IsL.ints
def zdN (fa:Ev->Mo (List W)):Ev->Mo W:=fun ρ n Q=>fa ρ n fun q m=>∃j:Nat,q=[.d (.int (j:Int))]/\j<=1000/\Q (.d (.lst (zfn j))) m
theorem zaG {q:Pos}{I:Pos}{fs:Ev->Mo (List W)}(Z:X.mg "list" = none)(J:X.mg "range" = none)(ha:JAB X Pn M [a] fs)(hc:X.calm=true:=by rfl)(hg:Gl X "list" := by rfl)(L:Gl X "range" := by rfl)(hs:starEach (a::[]) X.env=(false,eval a X.env)::starEach [] X.env:=by rfl)(D:starEach (.Call (.Name "range" I) [a] [] q::[]) X.env=(false,eval (.Call (.Name "range" I) [a] [] q) X.env)::starEach [] X.env:=by rfl)
  (O:(backTo q (starEach [] X.env)).any (·.1)=false:=by rfl) (U:(backTo pos (starEach [] X.env)).any (·.1)=false:=by rfl):JE X Pn M true (.Call (.Name "list" p) [.Call (.Name "range" I) [a] [] q] [] pos) (zdN fs):=by
 obtain⟨ta,qa,ra⟩:=ha.ex;refine⟨_,zaQ (zfy hc) hg Z cU (zJ (zaQ zkE L J PyProof.Rows.boot_range qa (by decide) (by decide) hs O) yx D) (by decide) (by decide) D U,⟨fun A σ H ρ n Q R E P hf k=>?_⟩⟩;refine ra.run A σ H ρ n _ _ E P hf  ?_;rintro ws m vs H1 ⟨j,e,hj,r⟩ bb g;subst e;obtain⟨v,rfl,b1⟩:=zbv bb;obtain rfl:=xq b1;refine⟨_,rfl,fun p1 H2 np g2 S2=>⟨p1,j,rfl,g2,hj,fun p3 H3 F Y S3=>?_⟩⟩;have B:=g.trans (Go.same g.pn S2);exact k _ m _ H3 r (xR (H:=H2) (ziG j) (zv.same S3) ((E.stay B.st).new F) Y) (B.trans (Go.same B.pn S3)) fun _=>(x8 (H:=H2) (ziG j) S3 F Y).back B.st
@[reducible] def truD:W->Option Bool
 | .d (.lst l)=>some (!l.isEmpty)
 | .d (.tup l)=>some (!l.isEmpty)
 | .d (.bl b)=>some b
 | .d (.int i)=>some (i != 0)
 | .d .non=>some false
 | _=>none
theorem At3.own {B:Bs}{A:Addr->Prop}{σ:St}{H:Hp}{ρ:Ev}{n:Nat}(h:At3 Pn B S M A σ H ρ n){i:Nat}{l:List Dt}(hi:i∈M)(e:ρ[i]?=some (some (.d (.lst l)))):∃q xs,σ[i]?=some (some (.ref q))/\A q/\H q=some (.lst xs)/\IsL (z7 A H) l xs:=by obtain⟨v,D,_,F⟩:=h.env.val i _ e;obtain⟨q,rfl,I,J,_⟩:=F hi;obtain⟨Y,xs,L,O,U⟩:=J;cases L;exact⟨q,xs,D,I,O,U⟩
theorem ziH {G:Hp}{d:Dt}{v:V}(q:Is G d v):∀ {ds:List Dt} {xs:List V} (k:Nat),IsL G ds xs->IsL G (ds.set k d) (xs.set k v)
 | [],_,_,h=>by cases h;rfl
 | x::ds,xs,0,⟨y,r,e,h1,h2⟩=>by subst e;exact⟨v,r,rfl,q,h2⟩
 | x::ds,xs,k+1,⟨y,r,e,h1,h2⟩=>by subst e;exact⟨y,_,rfl,h1,ziH q k h2⟩
def zte (i:Nat)(fk f:Ev->Mo W):Ms:=fun ρ n k=>(∃l,ρ[i]?=some (some (.d (.lst l))))/\f ρ n fun w m=>fk ρ m fun y q=>∃l d j,ρ[i]?=some (some (.d (.lst l)))/\w = .d d/\y = .d (.int j)/\0<=j/\j<l.length/\k.nx (ρ.set i (some (.d (.lst (l.set j.toNat d))))) q
theorem zmk (i:Nat){x:Str}{np sp:Pos}(hk:JB X Pn M c fc)(he:JE X Pn M fr' e f)(hi:i∈M:=by decide)(hN:X.N[i]?=some x:=by rfl)(hv:Vis X.env.scope x:=by walk_at "v")(hd:(x==("__debug__" : Str))=false:=by decide)
  (hcd:(x==("__classdict__" : Str))=false:=by decide) (hs:swapsWithSole [.Subscript (.Name x np) c p] e sp.line X.env=pure false:=by rfl) (hw:swappedStores [.Subscript (.Name x np) c p] e X.env=pure none:=by rfl)
  (h1:(assignEach [.Subscript (.Name x np) c p] X.env).map (·.2)=[assign (.Subscript (.Name x np) c p) X.env]:=by rfl) (ha:∀v,assign (.Subscript (.Name x np) c p) X.env v=(do
   let ov <- holding [v] (eval (.Name x np) X.env)
   let iv <- holding [v,ov] (eval c X.env)
   standAt p
   holding [v,ov,iv] (setItem ov iv v)
   release [v,ov,iv] []):=by intro _;rfl) :
  JS X Pn S M fr (.Assign [.Subscript (.Name x np) c p] e sp) (zte i fc f):=by
 obtain⟨te,q,r⟩:=he.ex;obtain⟨tk,qk,rk⟩:=hk.ex;refine⟨_,zmv q (zov (qv i hN hv hd hcd) qk ha) hs hw h1,⟨ ?_⟩⟩;rintro B A σ H ρ n k D a kk ⟨⟨l0,e0⟩,hf⟩;obtain⟨ad,xs0,s0,hA,_⟩:=a.own hi e0;refine r.run A σ H ρ n _ _ a.env a.pn hf fun w m v H1 r1 hv1 g1 _=>⟨.ref ad,s0,?_⟩;have a1:=a.step g1;refine rk.run A σ H1 ρ m _ _ a1.env a1.pn r1  ?_;rintro y m2 v2 H2 ⟨l,d,j,e,ed,ey,j0,j1,r2⟩ b2 g2;subst ed ey;have a2:=a1.step g2;obtain⟨ad2,xs,s2,_,g,hl⟩:=a2.own hi e;rw[s0] at s2;cases s2;exact⟨ad,xs,j,rfl,xq b2,g,j0,by rw[hl.length];exact j1,kk.nx A σ _ _ m2 (a2.wr hi e s0 (ziH (hv1.stay g2.st).is _ hl)) r2⟩
end
open PySem PySem.Spec L2
section
variable {A:Addr->Prop}{H:Hp}
theorem zrT {w:W}{vs:List V}(h:zcO A H [w] vs):∃v,vs=[v]/\Val A H w v:=by obtain⟨v,r,e,h1,h2⟩:=h;cases h2;exact⟨v,e,h1⟩
theorem zrU {w u:W}{vs:List V}(h:zcO A H [w,u] vs):∃v y,vs=[v,y]/\Val A H w v/\Val A H u y:=by obtain⟨v,r,e,h1,h2⟩:=h;obtain⟨y,rfl,q⟩:=zrT h2;exact⟨v,y,e,h1,q⟩
theorem zrV {st:List Int}{v:V}(h:Val A H (.d (stD st)) v):∃a,v = .ref a/\H a=some (.tup (st.map V.int)):=by obtain⟨a,xs,e,h1,h2⟩:=h;obtain rfl:=h2.of_ints;exact⟨a,e,zr _ _ h1⟩
end
structure RoomOk (rm:List Int):Prop where
 ne:rm≠[]
 few:rm.length<=8
 box:∀r∈rm,2<=r/\r<=4
theorem RoomOk.pos {rm:List Int}(h:RoomOk rm):1<=rm.length:=by
 cases rm with
 | nil=>exact absurd rfl h.ne
 | cons _ _=>simp
abbrev FV:=Option zm->List W->Mo W
def zr1 (k:Nat)(fr:Bool)(F:FV)(sp:Sp):Prop:=∀vs H Q E,spV k fr F vs H Q E->sp vs H Q E
theorem FnOk.lift {P:Program}{w:World}{K:PySem.W.Frag}{mg:Str->Option Value}{base:Heap}{CX:CXT}{j k:Nat}{f:Addr}{fd:FuncData}{ps:List Str}{sp:Sp}{fr:Bool}{F:FV}(h:FnOk P w K mg base CX j f fd ps sp)(l:zr1 k fr F sp):FnOk P w K mg base CX j f fd ps (spV k fr F):=h.imp l
def zhD:FV:=fun Pn q n R=>∃p c ns yf,Pn=some (p,c,ns)/\q=[.pen p,.d (.int yf)]/\n<=1000000/\1<=yf/\yf<1073741824/\∀r,0<=r->r<yf->R (.d (.int r)) (n+1)
theorem ziZ:zr1 2 false zhD zj5:=by rintro vs H Q E ⟨Pn,A,ws,n,R,al,D,hl,B,⟨p,c,ns,yf,rfl,rfl,h1,h2,F,I⟩,q⟩;obtain⟨v,y,rfl,J,L⟩:=zrU D;have O:v = .ref p:=J;have U:y = .int yf:=L;subst O U;exact⟨p,c,ns,n,yf,rfl,B.1,h1,h2,F,fun r H' Y Z P' S'=>q _ (n+1) _ H' (I r Y Z) (Val.of rfl) ⟨S',P',B.2⟩ fun z=>by cases z⟩
@[reducible] def zr0:FV:=fun Pn B n R=>∃p c ns q,Pn=some (p,c,ns)/\B=[.pen p,.d (.int q)]/\n+20<=1000000/\4<=q/\q<=256/\∀rm,RoomOk rm->yz rm<=q->R (.d (stD rm)) (n+10)
@[reducible] def zlY:FV:=fun Pn q n R=>∃p c ns rm,Pn=some (p,c,ns)/\q=[.pen p,.d (stD rm)]/\n+20<=1000000/\RoomOk rm/\∀st,st.length=rm.length->(∀b:Int,0<=b->b<rm.length->0<=yf st b/\yf st b<yf rm b)->R (.d (stD st)) (n+10)
@[reducible] def zem (g:List (Int×Int)):Dt:=.tup (g.map xo)
@[reducible] def zpk:FV:=fun Pn D n R=>∃p c ns rm B,Pn=some (p,c,ns)/\D=[.pen p,.d (stD rm),.d (.int B)]/\n+40<=1000000/\RoomOk rm/\∀g,Giv rm g->(∀q∈g,q.1≠B)->g.length<=8->R (.d (zem g)) (n+30)
@[reducible] def zsn:FV:=fun _ q n R=>∃d,q=[.d d]/\R (.d (.bl d.isWhole)) n
@[reducible] def zsm:FV:=fun _ q n R=>∃a b,q=[.d (.bl a),.d (.bl b)]/\R (.d (.bl (a==b))) n
@[reducible] def F_prod:FV:=fun _ q n R=>∃ns:List Int,q=[.d (stD ns)]/\(∀n∈ns,2<=n/\n<=4)/\R (.d (.int (yz ns))) n
@[reducible] def zsl:FV:=fun _ B n R=>∃st g,B=[.d (stD st),.d (zem g)]/\(∀q∈g,0<=q.1/\q.1<st.length)/\R (.d (.bl (xm st g))) n
@[reducible] def xD (sts:List (List Int)):Dt:=.lst (sts.map stD)
theorem zoW {A:Addr->Prop}{H H':Hp}{a:Addr}{ys:List V}{sts:List (List Int)}(D:Al A H)(s:y4 H H')(n:H a=none)(h:H' a=some (.lst ys))(F:IsL H' (sts.map stD) ys):Val A H' (.d (xD sts)) (.ref a)/\FrV A H H' (.d (xD sts)) (.ref a):=by
 have q:=D.stay (zv.same s);have B:=x9 q.noT (xW sts) F;refine⟨Val.of ⟨a,ys,rfl,zy (D.new n) h,B⟩,a,rfl,.of n,a,ys,rfl,h,x9 (fun b xs z e=>?_) (xW sts) F⟩;rcases z with z | z
 ·exact q.noT b xs z e
 ·subst z;rw[h] at e;cases e
@[reducible] def F_all:FV:=fun _ q n R=>∃rm,q=[.d (stD rm)]/\RoomOk rm/\yz rm<=256/\R (.d (xD (y3 (rm.map zp)))) n
@[reducible] def lsD (c:List Int):Dt:=.lst (c.map .int)
@[reducible] def zc4:FV:=fun _ q n R=>∃cs:List (List Int),q=[.d (.lst (cs.map lsD))]/\cs.length<=8/\(∀c∈cs,c.length<=4)/\R (.d (xD (y3 cs))) n
theorem zlb {G H:Hp}(s:y4 G H):∀ {cs:List (List Int)} {xs:List V},IsL G (cs.map lsD) xs->zpm H xs cs:=fun {cs xs} h=>by refine⟨by rw[h.length,ab],fun i c q=>?_⟩;obtain⟨v,h1,h2⟩:=h.getD (i:=i) (d:=lsD c) (by rw[au,q];rfl);obtain⟨a,ys,rfl,B,D⟩:=h2;obtain rfl:=D.of_ints;exact⟨a,h1,s _ _ B⟩
theorem zdM {K:PySem.W.Frag}:zr1 1 true zc4 (zdp K):=by rintro vs H Q E ⟨Pn,A,ws,n,R,F,I,hl,J,⟨cs,rfl,h1,h2,L⟩,q⟩;obtain⟨v,rfl,O⟩:=zrT I;obtain⟨a,xs,rfl,U,Y⟩:=O;refine⟨a,xs,cs,rfl,zr _ _ U,zlb zr Y,h1,h2,fun a ys H' Z B D S=>?_⟩;obtain⟨z1,z2⟩:=zoW F S Z B D;exact q _ n _ H' L z1 (Go.same J S) fun _=>z2
theorem ztk {P:Program}{w:World}{K:PySem.W.Frag}{mg:Str->Option Value}{base:Heap}{x F:Str}{st:Stmt}{f:Addr}{fd:FuncData}{N ps:List Str}{k r:Nat}(M:List Nat)(Fu:Fun K x F st f fd)(S:FnScope N ps (zg st))(al:ps.length=1)(hN:N.length=r+2)(hM:∀i∈M,2<=i)
  (U:∀ (J:Value) (A:Around) (B:List Env) (s:Shared) (H:Hp) (E:XK) (Pn:Option zm),Room k (A.deeper (PyProof.Rows.envOfC F (zg st) s.heap.objs.size f J))->
   ∃O zV fs,ym st=O::zV/\QS (zdB CX0 P w K mg base N F (zg st) f J A B s H E).nox O (zfp (zfh (zlP K) [] E0 (zbC (zkl 0) zkb)) (uT 1))/\
    JSs (zdB CX0 P w K mg base N F (zg st) f J A B s H E).nox Pn [] M false zV fs/\∀p c ns,Pn=some (p,c,ns)->fs (none::some (.pen p)::List.replicate r none) 0 { nx:=fun _ _=>False,rt:=fun w _=>w = .d (.bl true) }):FnOk P w K mg base CX0 (k+1) f fd ps (zj6 K):=by
 refine Fun.okQ Fu S (fun vs H Q E h=>?_) (fun J A B s H vs Q E hr h=>?_)
 ·obtain⟨a,ns,rfl,_⟩:=h;exact al.symm
 ·obtain⟨a,ns,rfl,hS,hl,q⟩:=h;have Y:=fun (Pn:Option zm)=>U J A B s H E Pn hr
  have ad:L2.xg N [.ref a]=some (.ref a)::none::List.replicate r none:=by unfold L2.xg;rw[hN];rfl
  have hd:∃O zV,ym st=O::zV:=let ⟨O,zV,_,e,_⟩:=Y none;⟨O,zV,e⟩;obtain⟨O,zV,e0⟩:=hd;rw[e0]
  have c2:∀Pn,∃fs,JSs (zdB CX0 P w K mg base N F (zg st) f J A B s H E).nox Pn [] M false zV fs/\∀p c ns,Pn=some (p,c,ns)->fs (none::some (.pen p)::List.replicate r none) 0 { nx:=fun _ _=>False,rt:=fun w _=>w = .d (.bl true) }:=fun Pn=>by obtain⟨an,Z,fs,e,_,h1,h2⟩:=Y Pn;rw[e0] at e;cases e;exact⟨fs,h1,h2⟩
  have q1:QS (zdB CX0 P w K mg base N F (zg st) f J A B s H E).nox O (zfp (zfh (zlP K) [] E0 (zbC (zkl 0) zkb)) (uT 1)):=by obtain⟨an,Z,fs,e,h0,_⟩:=Y none;rw[e0] at e;cases e;exact h0
  refine⟨_,z8 q1 (u:=fun D σ H=>∃Pn,(c2 Pn).choose_spec.1.ex.choose D σ H) ⟨fun pins s' σ H D I ⟨Pn,z⟩=>(c2 Pn).choose_spec.1.ex.choose_spec.1.run pins s' σ H D I z⟩,?_⟩;refine⟨.ref a,by rw[ad];rfl,a,ns,rfl,hS,hl,fun p c H1 P1 S1=>⟨some (p,c,ns),?_⟩⟩;have hs:=(c2 (some (p,c,ns))).choose_spec.2 p c ns rfl;have e1:(L2.xg N [.ref a]).set 1 (some (.ref p))=some (.ref a)::some (.ref p)::List.replicate r none:=by rw[ad];rfl
  rw[e1]
  have L:∀i (u:W),(none::some (.pen p)::List.replicate r none:Ev)[i]?=some (some u)->i=1/\u = .pen p:=fun i u e=>by
   match i,e with
   | 0,e=>simp at e
   | 1,e=>exact⟨rfl,by simpa using e.symm⟩
   | i+2,e=>
    simp only[bK] at e;obtain⟨_,q⟩:=ae.mp e;rw[cA] at q;cases q
  refine (c2 (some (p,c,ns))).choose_spec.1.ex.choose_spec.2.run { A0:=fun _=>False,H0:=H1,G0:=z7 (fun _=>False) H1,σ0:=[] } (fun _=>False) _ H1 _ 0 _ _ ⟨⟨?_,?_,?_,fun _ z=>z.elim⟩,⟨fun _ z=>z,fun _ z=>z.elim,.of (zv.refl _),fun _ z=>z.elim,fun _ z=>z.elim,fun _ z=>z.elim⟩,⟨P1,fun z=>z,fun z=>z⟩,zv.refl _,fun i hi=>by simp at hi,?_⟩ ⟨?_,?_,?_,fun _ z=>z,?_⟩ hs
  ·simp
  ·intro i u e;obtain⟨rfl,rfl⟩:=L i u e;exact⟨.ref p,rfl,fun _=>rfl,fun z=>absurd (hM 1 z) (by lia)⟩
  ·intro i j u u' b hi hj ap e1;obtain⟨rfl,rfl⟩:=L i u e1;exact absurd (hM 1 hi) (by lia)
  ·intro i u b hi e;obtain⟨rfl,rfl⟩:=L i u e;exact absurd (hM 1 hi) (by lia)
  ·intro _ _ _ _ _ _ z;exact z.elim
  ·intro _ _ _ _ _ _ z;exact z.elim
  ·intro _ _ _ _ _ _ z;exact z.elim
  ·intro w n' v H' hv st pn _ r;have r':w = .d (.bl true):=r;subst r';have:v = .bl true:=hv;subst this;exact q H'
open PySem PySem.Spec L2
theorem zhV {α:Type}{l:List W}{D:Ev}{n:Nat}{mg:W->Ev->(Ev->Prop)->Prop}{Z:Ev->Mo Bool}{fe:Ev->Mo W}{Q:W->Nat->Prop}(xs:List α)(F:α->W)(hl:l=xs.map F)(J:Ev->Prop)(P:α->Bool)(E:α->Dt)(I:xs.length<=lim)(j0:J D)
  (h:∀a∈xs,∀ B,J B->∀C:Ev->Nat->Option Dt->Prop,(∀ q,J q->C q n (if P a then some (E a) else none))->mg (F a) B fun q=>Z q n fun b n2=>if b=true then fe q n2 fun x U=>∃d,x = .d d/\C q U (some d) else C q n2 none)
  (fin:Q (.d (.lst ((xs.filter P).map E))) n):zex mg Z fe D Q l n:=by
 subst hl;refine⟨by rw[ab];exact I,fun i B L acc=>J B/\L=n/\acc=((xs.take i).filter P).map E,⟨j0,rfl,by simp⟩,?_,?_⟩
 ·rintro i w B L acc hw ⟨hj,rfl,rfl⟩;rw[au] at hw;obtain⟨a,ha,rfl⟩:=aI.mp hw
  have:=h a (aG ha) B hj (fun q U o=>match o with
   | some d=>J q/\U=L/\((xs.take i).filter P).map E++[d]=((xs.take (i+1)).filter P).map E
   | none=>J q/\U=L/\((xs.take i).filter P).map E=((xs.take (i+1)).filter P).map E) (fun q O=>by
    rw[zl ha,cg,ax];by_cases Y:P a=true
    ·rw[if_pos Y];exact⟨O,rfl,by simp[Y]⟩
    ·rw[if_neg Y];exact⟨O,rfl,by simp[Y]⟩)
  exact this
 ·rintro B L acc ⟨_,rfl,rfl⟩;rw[ab,ba];exact fin
theorem zkC {α:Type}{l:List W}{D:Ev}{n:Nat}{mg:W->Ev->(Ev->Prop)->Prop}{Y:Ev->Mo W}{Q:W->Nat->Prop}(xs:List α)(F:α->W)(hl:l=xs.map F)(J:Ev->Prop)(E:α->Dt)(I:xs.length<=lim)(j0:J D)
  (h:∀a∈xs,∀ B,J B->∀C:Ev->Nat->Dt->Prop,(∀ q,J q->C q n (E a))->mg (F a) B fun q=>Y q n fun x O=>∃d,x = .d d/\C q O d)
  (fin:Q (.d (.lst (xs.map E))) n):zex mg zsa Y D Q l n:=by
 subst hl;refine⟨by rw[ab];exact I,fun i B L acc=>J B/\L=n/\acc=(xs.take i).map E,⟨j0,rfl,by simp⟩,?_,?_⟩
 ·rintro i w B L acc Z ⟨hj,rfl,rfl⟩;rw[au] at Z;obtain⟨a,ha,rfl⟩:=aI.mp Z;exact h a (aG ha) B hj (fun q O d=>J q/\O=L/\(xs.take i).map E++[d]=(xs.take (i+1)).map E) fun q U=>⟨U,rfl,by rw[zl ha,ax];rfl⟩
 ·rintro B L acc ⟨_,rfl,rfl⟩;rw[ab,ba];exact fin
theorem znb {r:Nat}{ρ:Ev}{n:Nat}{mg:W->Ev->(Ev->Prop)->Prop}{fb:Ms}{k:Kt}(I:Nat->Ev->Nat->Prop)(L:I 0 ρ n)
  (h:∀i q B,i<r->I i q B->mg (.d (.int (i:Int))) q fun F=>fb F B { k with nx:=I (i+1),ct:=I (i+1),bk:=k.nx }) (O:∀ q B,I r q B->k.nx q B):zpQ mg fb ρ k (zhw 0 r) n:=by
 refine⟨I,L,fun i w q B J D=>?_,fun q B D=>O q B ?_⟩
 ·unfold zhw at J;rw[au] at J;obtain⟨j,h1,rfl⟩:=aI.mp J;obtain⟨hi,h2⟩:=ae.mp h1;rw[bX] at h2;subst h2;rw[aj] at hi;have:=h i q B hi D;rw[Int.zero_add];exact this
 ·unfold zhw at D;rwa[ab,aj] at D
theorem zir {α:Type}{l:List W}{ρ:Ev}{n:Nat}{mg:W->Ev->(Ev->Prop)->Prop}{fb:Ms}{k:Kt}(xs:List α)(D:α->W)(O:l=xs.map D)(I:Nat->Ev->Nat->Prop)(U:I 0 ρ n)
  (h:∀i a q B,xs[i]?=some a->I i q B->mg (D a) q fun F=>fb F B { k with nx:=I (i+1),ct:=I (i+1),bk:=k.nx }) (Y:∀ q B,I xs.length q B->k.nx q B):zpQ mg fb ρ k l n:=by
 subst O;refine⟨I,U,fun i w q B L J=>?_,fun q B J=>Y q B (by rwa[ab] at J)⟩;rw[au] at L;obtain⟨a,Z,rfl⟩:=aI.mp L;exact h i a q B Z J
theorem uH {r:Nat}{ρ:Ev}{n:Nat}{mg:W->Ev->(Ev->Prop)->Prop}{fb:Ms}{k:Kt}(I:Nat->Ev->Nat->Prop)(J:I 0 ρ n)
  (h:∀i q D,i<r->I i q D->∀ (C B:Ev->Nat->Prop) (E:W->Nat->Prop),(∀ {ρ m},I (i+1) ρ m->C ρ m)->(∀ {ρ m},k.nx ρ m->B ρ m)->(∀ {w m},k.rt w m->E w m)->mg (.d (.int (i:Int))) q fun F=>fb F D { rt:=E,nx:=C,ct:=C,bk:=B }) (L:∀ q D,I r q D->k.nx q D):zpQ mg fb ρ k (zhw 0 r) n:=
 znb I J (fun i q D hi O=>h i q D hi O (I (i+1)) k.nx k.rt (fun z=>z) (fun z=>z) fun z=>z) L
theorem yc {α:Type}{l:List W}{ρ:Ev}{n:Nat}{mg:W->Ev->(Ev->Prop)->Prop}{fb:Ms}{k:Kt}(xs:List α)(D:α->W)(L:l=xs.map D)(I:Nat->Ev->Nat->Prop)(O:I 0 ρ n)
  (h:∀i a q F,xs[i]?=some a->I i q F->∀ (C B:Ev->Nat->Prop) (E:W->Nat->Prop),(∀ {ρ m},I (i+1) ρ m->C ρ m)->(∀ {ρ m},k.nx ρ m->B ρ m)->(∀ {w m},k.rt w m->E w m)->mg (D a) q fun J=>fb J F { rt:=E,nx:=C,ct:=C,bk:=B }) (U:∀ q F,I xs.length q F->k.nx q F):zpQ mg fb ρ k l n:=
 zir xs D L I O (fun i a q F Y Z=>h i a q F Y Z (I (i+1)) k.nx k.rt (fun z=>z) (fun z=>z) fun z=>z) U
theorem zkB {α:Type}{l:List W}{F:Ev}{n:Nat}{mg:W->Ev->(Ev->Prop)->Prop}{U:Ev->Mo Bool}{Y:Ev->Mo W}{Q:W->Nat->Prop}(xs:List α)(J:α->W)(hl:l=xs.map J)(L:xs.length<=lim)(I:Nat->Ev->Nat->List Dt->Prop)(h0:I 0 F n [])
  (h:∀i a q B acc,xs[i]?=some a->I i q B acc->∀C:Ev->Nat->List Dt->Prop,(∀ {ρ m l},I (i+1) ρ m l->C ρ m l)->mg (J a) q fun D=>U D B fun b Z=>if b=true then Y D Z fun x n3=>∃d,x = .d d/\C D n3 (acc++[d]) else C D Z acc)
  (fin:∀ q B acc,I xs.length q B acc->Q (.d (.lst acc)) B):zex mg U Y F Q l n:=by
 subst hl;refine⟨by rw[ab];exact L,I,h0,fun i w q B acc hw O=>?_,fun q B acc O=>fin q B acc (by rwa[ab] at O)⟩;rw[au] at hw;obtain⟨a,ha,rfl⟩:=aI.mp hw;exact h i a q B acc ha O (I (i+1)) fun z=>z
theorem zgq {α:Type}{l:List α}{i:Nat}{x:α}(h:l[i]?=some x):atI l (i:Int)=some x:=by have:=(ae.mp h).1;unfold atI ixN;rw[if_pos (by lia),if_pos (by lia)];simpa using h
theorem zpq {α:Type}{l:List α}{i:Int}(B:0<=i)(h1:i<l.length):∃d,atI l i=some d/\d∈l:=by
 obtain⟨j,rfl⟩:∃j:Nat,i=j:=⟨i.toNat,by lia⟩;have q:j<l.length:=by lia
 exact⟨l[j],zgq (ah q),bg q⟩
theorem zmO {st:List Int}{b:Int}(B:0<=b)(h1:b<st.length):atI (st.map Dt.int) b=some (.int (yf st b)):=by
 obtain⟨j,rfl⟩:∃j:Nat,b=j:=⟨b.toNat,by lia⟩;have q:j<st.length:=by lia
 refine zgq ?_;rw[au,ah q,yd];simp[q]
open PySem L2
def gw (g:List (Int×Int))(i:Nat):Option Int:=(g.find? fun q=>decide (q.1=(i:Int))).map (·.2)
theorem zm1 (rm:List Int):enW 0 (rm.map Dt.int)=(List.range rm.length).map fun i:Nat=>W.d (.tup [.int (i:Int),.int (rm.getD i 0)]):=by
 apply dC;intro i;rw[zdC,au,au];by_cases h:i<rm.length
 ·rw[ah h,b6 h];simp[h]
 ·rw[bA (by lia),bA (by rw[aj];lia)];rfl
def cho (rm:List Int)(g:List (Int×Int))(i:Nat):List Int:=match gw g i with
 | some w=>[w]
 | none=>zp (rm.getD i 0)
def chs (rm:List Int)(g:List (Int×Int)):List (List Int):=(List.range rm.length).map (cho rm g)
def zs0 (rm:List Int)(g:List (Int×Int)):List (List Int):=y3 (chs rm g)
theorem znc {rm:List Int}{g:List (Int×Int)}(I:Giv rm g){q r:Int×Int}(h1:q∈g)(h2:r∈g)(e:q.1=r.1):q=r:=by
 have key:∀g:List (Int×Int),(g.Pairwise fun a b=>a.1<b.1)->q∈g->r∈g->q=r:=by
  intro g J
  induction J with
  | nil=>intro h;simp at h
  | cons D _ L=>
   intro h1 h2;rcases aE.mp h1 with F | m1
   ·rcases aE.mp h2 with B | m2
    ·rw[F,B]
    ·have:=D r m2;rw[<- F] at this;lia
   ·rcases aE.mp h2 with B | m2
    ·have:=D q m1;rw[<- B] at this;lia
    ·exact L m1 m2
 exact key g I.up h1 h2
section
variable {X:Cx}{Pn:Option zm}{M S:List Nat}{fr fr':Bool}{e a b c:Expr}{es:List Expr}{f fa fb fc:Ev->Mo W}{pos p p2:Pos}
def znF (fa:Ev->Mo (List W)):Ev->Mo (List W):=fun ρ n Q=>fa ρ n fun q m=>∃l,q=[.d (.lst l)]/\Q (enW 0 l) m
theorem ziM {K:PySem.W.Frag}{A:Addr->Prop}{H:Hp}{q:Addr}{xs:List V}{l:List Dt}(h:z7 A H q=some (.lst xs))(B:IsL (z7 A H) l xs):ItV false A H (Iel K q) (enW 0 l) where
 one:=fun i w A2 H2 e s _ I=>by rw[zdC] at e;obtain⟨d,h1,rfl⟩:=aI.mp e;obtain⟨x,D,J⟩:=B.getD h1;have g:=zr _ _ (s.lst h);refine⟨⟨xs,x,.of g,D⟩,?_⟩;rintro y H3 ⟨T,z,L,F,O,U⟩;subst L O;have:=U xs (.of g);rw[D] at this;cases this;have S:=y4.upd (o:=.tup [.int i,x]) F;refine⟨S,Val.of ⟨T,_,rfl,zy (I T F) zj,_,_,rfl,?_,_,_,rfl,(J.stay s).stay (zv.same (zb6 S)),rfl⟩⟩;show V.int (i:Int)=V.int ((0+i:Nat):Int);rw[Nat.zero_add]
 stop:=fun A2 H2 s _=>⟨xs,.of (zr _ _ (s.lst h)),by rw[zig,B.length];exact ag _⟩
theorem zbH {B:List Expr}{x1}{tpos:Pos}{fs:Ev->Mo (List W)}(I:Gl X "enumerate")(J:X.mg "enumerate" = none)(L:JA X Pn M [a] fs)(F:starEach [a] X.env=[(false,eval a X.env)]:=by rfl):JI X Pn M false (.Tuple B x1 tpos) (.Call (.Name "enumerate" p) [a] [] pos) (znF fs):=by obtain⟨te,q,r⟩:=L.ex;refine⟨_,zlD I J q F,⟨fun A σ H ρ n Q R E P O k=>?_⟩⟩;refine r.run A σ H ρ n _ _ E P O  ?_;rintro ws m vs H1 ⟨l,e,r⟩ U g;subst e;obtain⟨v,s,rfl,⟨Y,xs,rfl,D,Z⟩,F⟩:=U;cases F;exact⟨Y,rfl,⟨xs,.of (zr _ _ D)⟩,k _ m _ H1 r (ziM D Z) g⟩
theorem zg7:∀ (l k:List Dt) (i:Nat),(ziW l k)[i]?=(l[i]?).bind fun x=>(k[i]?).map fun y=>W.d (.tup [x,y])
 | [],_,_=>by simp[ziW]
 | _::_,[],_=>by simp[ziW]
 | x::r,y::s,0=>by simp[ziW]
 | x::r,y::s,i+1=>by have:=zg7 r s i;simp only[ziW,bK,this]
theorem zg8:∀ (l k:List Dt),(ziW l k).length=min l.length k.length
 | [],_=>by simp[ziW]
 | _::_,[]=>by simp[ziW]
 | x::r,y::s=>by rw[ziW,aS,aS,aS,zg8 r s];lia
def znH (fa:Ev->Mo (List W)):Ev->Mo (List W):=fun ρ n Q=>fa ρ n fun q m=>∃l k,q=[.d (.lst l),.d (.lst k)]/\Q (ziW l k) m
theorem zk1 {K:PySem.W.Frag}{A:Addr->Prop}{H:Hp}{F I:Addr}{xs ys:List V}{l k:List Dt}(h:z7 A H F=some (.lst xs))(J:IsL (z7 A H) l xs)(h':z7 A H I=some (.lst ys))(L:IsL (z7 A H) k ys):ItV false A H (Izl K F I) (ziW l k) where
 one:=fun i w A2 H2 e s _ hA=>by rw[zg7] at e;obtain⟨d,h1,e⟩:=Option.bind_eq_some_iff.mp e;obtain⟨d',q,rfl⟩:=aI.mp e;obtain⟨x,O,hd⟩:=J.getD h1;obtain⟨y,U,B⟩:=L.getD q;have g:=zr _ _ (s.lst h);have g':=zr _ _ (s.lst h');refine⟨⟨xs,ys,x,y,.of g,.of g',O,U⟩,?_⟩;rintro v H3 ⟨T,z,z',e1,Y,e3,hz,D⟩;subst e1 e3;have Z:=hz xs (.of g);have q2:=D ys (.of g');rw[O] at Z;rw[U] at q2;cases Z;cases q2;have S:=y4.upd (o:=.tup [x,y]) Y;exact⟨S,Val.of ⟨T,_,rfl,zy (hA T Y) zj,_,_,rfl,(hd.stay s).stay (zv.same (zb6 S)),_,_,rfl,(B.stay s).stay (zv.same (zb6 S)),rfl⟩⟩
 stop:=fun A2 H2 s _=>⟨xs,ys,.of (zr _ _ (s.lst h)),.of (zr _ _ (s.lst h')),by rw[zg8,J.length,L.length];lia⟩
theorem znr {B:List Expr}{x1}{tpos:Pos}{fs:Ev->Mo (List W)}(L:Gl X "zip")(O:X.mg "zip" = none)(U:JA X Pn M [a,b] fs)(I:starEach [a,b] X.env=[(false,eval a X.env),(false,eval b X.env)]:=by rfl)(J:starEach [b] X.env=[(false,eval b X.env)]:=by rfl):JI X Pn M false (.Tuple B x1 tpos) (.Call (.Name "zip" p) [a,b] [] pos) (znH fs):=by obtain⟨te,q,r⟩:=U.ex;refine⟨_,zoA L O q I J,⟨fun A σ H ρ n Q R E P Y k=>?_⟩⟩;refine r.run A σ H ρ n _ _ E P Y  ?_;rintro ws m vs H1 ⟨l,kk,e,r⟩ Z g;subst e;obtain⟨v,s,rfl,⟨ad,xs,rfl,D,hl⟩,v2,s2,rfl,⟨bd,ys,rfl,F,hk⟩,I⟩:=Z;cases I;exact⟨ad,bd,rfl,⟨xs,.of (zr _ _ D)⟩,⟨ys,.of (zr _ _ F)⟩,k _ m _ H1 r (zk1 D hl F hk) g⟩
def zs6 (i:Nat)(f:Ev->Mo W):Ms:=fun ρ n k=>(∃l,ρ[i]?=some (some (.d (.lst l))))/\f ρ n fun w m=>∃l q,ρ[i]?=some (some (.d (.lst l)))/\w = .d (.lst q)/\l.length+q.length<=lim/\k.nx (ρ.set i (some (.d (.lst (l++q))))) m
theorem ziS (i:Nat){x:Str}{ap O sp U:Pos}(he:JE X Pn M fr' e f)(hi:i∈M:=by decide)(hN:X.N[i]?=some x:=by rfl)(hv:Vis X.env.scope x:=by walk_at "v")(hd:(x==("__debug__" : Str))=false:=by decide)
  (an:(x==("__classdict__" : Str))=false:=by decide) (Y:starEach (e::[]) X.env=(false,eval e X.env)::starEach [] X.env:=by rfl) (hs:swapsWith (.Call (.Attribute (.Name x U) "extend" ap) [e] [] O) none sp.line X.env=pure false:=by rfl) (J:attributeBase (.Name x U) "extend" X.env (eval (.Name x U) X.env)=eval (.Name x U) X.env:=by rfl) (L:(ap.endLine==O.line)=true:=by rfl)
  (Z:((backTo O (starEach [e] X.env)).all (fun x=>!x.1)&&(backToKw O (keywordEach [] X.env)).all (fun x=>x.1.isSome)&&decide (([e]:List Expr).length+([]:List Keyword).length+(if ([]:List Keyword).isEmpty then 0 else 1)<30))=true:=by rfl) (I:(backTo O (starEach [] X.env)).any (·.1)=false:=by rfl) :
  JS X Pn S M fr (.Expr (.Call (.Attribute (.Name x U) "extend" ap) [e] [] O) sp) (zs6 i f):=by
 obtain⟨te,q,r⟩:=he.ex;refine⟨_,zcw (zgX cr PySem.F.slot_list_extend PySem.F.type_list_extend zjf (qv i hN hv hd an) (zJ q yx Y) J Z L Y I) hs,⟨ ?_⟩⟩;rintro B A σ H ρ n k D a kk ⟨⟨l0,e0⟩,hf⟩;obtain⟨ad,av,s1,hA,g0,_⟩:=a.own hi e0;refine⟨.ref ad,s1,.inl ⟨rfl,_,SqL.of g0⟩,?_⟩;refine r.run A σ H ρ n _ _ a.env a.pn hf  ?_;rintro w m v H' ⟨l,l2,e,ed,hz,r⟩ hv g _;subst ed;have a':=a.step g;obtain⟨a0,xs,s2,_,g4,hl⟩:=a'.own hi e;rw[s1] at s2;cases s2;obtain⟨b2,ys,rfl,as,al⟩:=hv;exact⟨ad,b2,xs,ys,rfl,rfl,g4,zr _ _ as,zdb (by rw[hl.length,al.length];exact hz),kk.nx A σ _ _ m (a'.wr hi e s1 (hl.append al)) r⟩
def zmh {α:Type}(l:List α)(k:Nat)(x:α):List α:=l.take k++x::l.drop k
def zs8 (i:Nat)(fk f:Ev->Mo W):Ms:=fun ρ n k=>(∃l,ρ[i]?=some (some (.d (.lst l))))/\fk ρ n fun y m=>f ρ m fun w q=>∃l d j,ρ[i]?=some (some (.d (.lst l)))/\w = .d d/\y = .d (.int j)/\0<=j/\j<=l.length/\l.length<lim/\k.nx (ρ.set i (some (.d (.lst (zmh l j.toNat d))))) q
theorem zp7 (i:Nat){x:Str}{ap O sp U:Pos}{al:Bool}(hc:JE X Pn M al c fc)(he:JE X Pn M fr' e f)(hi:i∈M:=by decide)(hN:X.N[i]?=some x:=by rfl)(hv:Vis X.env.scope x:=by walk_at "v")(hd:(x==("__debug__" : Str))=false:=by decide)
  (an:(x==("__classdict__" : Str))=false:=by decide) (Y:starEach (c::[e]) X.env=(false,eval c X.env)::starEach [e] X.env:=by rfl) (as:starEach (e::[]) X.env=(false,eval e X.env)::starEach [] X.env:=by rfl) (hs:swapsWith (.Call (.Attribute (.Name x U) "insert" ap) [c,e] [] O) none sp.line X.env=pure false:=by rfl) (J:attributeBase (.Name x U) "insert" X.env (eval (.Name x U) X.env)=eval (.Name x U) X.env:=by rfl) (L:(ap.endLine==O.line)=true:=by rfl)
  (Z:((backTo O (starEach [c,e] X.env)).all (fun x=>!x.1)&&(backToKw O (keywordEach [] X.env)).all (fun x=>x.1.isSome)&&decide (([c,e]:List Expr).length+([]:List Keyword).length+(if ([]:List Keyword).isEmpty then 0 else 1)<30))=true:=by rfl) (I:(backTo O (starEach [e] X.env)).any (·.1)=false:=by rfl) :
  JS X Pn S M fr (.Expr (.Call (.Attribute (.Name x U) "insert" ap) [c,e] [] O) sp) (zs8 i fc f):=by
 obtain⟨te,q,r⟩:=he.ex;obtain⟨tc,qc,rc⟩:=hc.ex;refine⟨_,zcw (zgX cr PySem.F.slot_list_insert PySem.F.type_list_insert zjg (qv i hN hv hd an) (zJ qc (zJ q yx as) Y) J Z L Y I) hs,⟨ ?_⟩⟩;rintro B A σ H ρ n k D a kk ⟨⟨l0,e0⟩,hf⟩;obtain⟨ad,a0,s1,hA,g0,_⟩:=a.own hi e0;refine⟨.ref ad,s1,.inl ⟨rfl,_,SqL.of g0⟩,?_⟩;refine rc.run A σ H ρ n _ _ a.env a.pn hf fun w1 m1 v1 H1 r1 av g1 _=>?_;have a1:=a.step g1;refine r.run A σ H1 ρ m1 _ _ a1.env a1.pn r1  ?_;rintro w m v H' ⟨l,d,j,e,ed,ey,j0,j1,hz,r⟩ hv g _;subst ed ey;have e1:v1 = .int j:=av;subst e1;have a':=a1.step g;obtain⟨a2,xs,s2,_,g4,hl⟩:=a'.own hi e;rw[s1] at s2;cases s2;refine⟨ad,xs,j,v,rfl,rfl,g4,j0,by rw[hl.length];exact j1,zeU (by rw[hl.length];exact cv hz),kk.nx A σ _ _ m (a'.wr hi e s1 ?_) r⟩;exact (hl.take _).append ⟨v,_,rfl,hv.is,hl.drop _⟩
theorem zeM {G:Hp}:∀ {ds:List Dt} {xs:List V} (k:Nat),IsL G ds xs->IsL G (ds.eraseIdx k) (xs.eraseIdx k)
 | [],_,_,h=>by cases h;rfl
 | x::ds,xs,0,⟨y,r,e,h1,h2⟩=>by subst e;exact h2
 | x::ds,xs,k+1,⟨y,r,e,h1,h2⟩=>by subst e;exact⟨y,_,rfl,h1,zeM k h2⟩
def znL (i:Nat)(fk:Ev->Mo W):Ms:=fun ρ n k=>(∃l,ρ[i]?=some (some (.d (.lst l))))/\fk ρ n fun y m=>∃l j,ρ[i]?=some (some (.d (.lst l)))/\y = .d (.int j)/\0<=j/\j<l.length/\l.length<=lim/\k.nx (ρ.set i (some (.d (.lst (l.eraseIdx j.toNat))))) m
theorem zmE {n:Nat}{j:Int}(q:0<=j)(h1:j<n):seqIndex? j n=some j.toNat:=(zfO (by unfold ixN;rw[if_pos q,if_pos h1])).1
theorem znt (i:Nat){x:Str}{Z L sp O:Pos}(hc:JB X Pn M c fc)(hi:i∈M:=by decide)(hN:X.N[i]?=some x:=by rfl)(hv:Vis X.env.scope x:=by walk_at "v")(hd:(x==("__debug__" : Str))=false:=by decide)
  (al:(x==("__classdict__" : Str))=false:=by decide) (U:starEach (c::[]) X.env=(false,eval c X.env)::starEach [] X.env:=by rfl) (hs:swapsWith (.Call (.Attribute (.Name x O) "pop" Z) [c] [] L) none sp.line X.env=pure false:=by rfl) (I:attributeBase (.Name x O) "pop" X.env (eval (.Name x O) X.env)=eval (.Name x O) X.env:=by rfl) (J:(Z.endLine==L.line)=true:=by rfl)
  (Y:((backTo L (starEach [c] X.env)).all (fun x=>!x.1)&&(backToKw L (keywordEach [] X.env)).all (fun x=>x.1.isSome)&&decide (([c]:List Expr).length+([]:List Keyword).length+(if ([]:List Keyword).isEmpty then 0 else 1)<30))=true:=by rfl) (q:(backTo L (starEach [] X.env)).any (·.1)=false:=by rfl) :
  JS X Pn S M fr (.Expr (.Call (.Attribute (.Name x O) "pop" Z) [c] [] L) sp) (znL i fc):=by
 obtain⟨tc,qc,rc⟩:=hc.ex;refine⟨_,zcw (zgX cr PySem.F.slot_list_pop PySem.F.type_list_pop zgN (qv i hN hv hd al) (zJ qc yx U) I Y J U q) hs,⟨ ?_⟩⟩;rintro B A σ H ρ n k D a kk ⟨⟨l0,e0⟩,hf⟩;obtain⟨ad,av,s1,hA,g0,_⟩:=a.own hi e0;refine⟨.ref ad,s1,.inl ⟨rfl,_,SqL.of g0⟩,?_⟩;refine rc.run A σ H ρ n _ _ a.env a.pn hf  ?_;rintro w m v H' ⟨l,j,e,ey,j0,j1,hz,r⟩ hv g;subst ey;have e1:v = .int j:=hv;subst e1;have a':=a.step g;obtain⟨a0,xs,s2,_,g4,hl⟩:=a'.own hi e;rw[s1] at s2;cases s2;have an:=hl.length;have as:(l.length:Int)<=500000:=by have:l.length<=500000:=hz;lia
 exact⟨ad,xs,j,j.toNat,xs[j.toNat]'(by lia),rfl,rfl,g4,by lia,by lia,zmE j0 (by lia),ah _,kk.nx A σ _ _ m (a'.wr hi e s1 (zeM _ hl)) r⟩
def zna:W->W->Mo W:=fun x y n Q=>∃l j,x = .d (.lst l)/\y = .d (.int j)/\0<=j/\j<=1000000/\l.length * j.toNat<=lim/\Q (.d (.lst (List.replicate j.toNat l).flatten)) n
theorem zrS:F2 Pn true zsi zna:=⟨by
 rintro A H x y Y Z n Q R F I q P ⟨l,j,J,L,j1,j2,z,h⟩ k;subst J L;obtain⟨a,xs,O,U,B⟩:=y9 I;refine⟨a,j,xs,O,xq q,U,by lia,by lia,zdb (by rw[B.length];exact z),fun p D=>?_⟩;have S:=y4.upd (o:=.lst (List.replicate j.toNat xs).flatten) D;exact k _ n _ _ h (xR (zfM B _) (zv.same S) (F.new D) zj) (Go.same P S) fun z=>x8 (zfM B _) S D zj⟩
def zil:List W->Mo W:=fun B n Q=>∃ns:List Int,B=[.d (.lst (ns.map .int))]/\ns.length<64/\∀q:List Int,q.Perm ns->q.Pairwise (·<=·)->Q (.d (.lst (q.map .int))) n
theorem zpa:FL Pn true zjQ zil:=⟨by
 rintro A H xs Y n Q R F b P ⟨ns,e,q,h⟩ k;subst e;obtain⟨v,rfl,I⟩:=zbv b;obtain⟨a,ys,rfl,J,L⟩:=y9 I;obtain rfl:=L.of_ints;exact⟨a,ns,rfl,J,q,fun B O U p H' D g S=>k _ n _ H' (h B O U) (xR (H:=H) IsL.ints (zv.same S) (F.new D) g) (Go.same P S) fun z=>x8 (H:=H) IsL.ints S D g⟩⟩
def zin:List W->Mo W:=fun B n Q=>∃ (sts:List (List Int)) (m:Nat),B=[.d (.lst (sts.map stD))]/\sts.length<64/\1<=m/\(∀st∈sts,st.length=m)/\sts.Nodup/\∀q:List (List Int),q.Perm sts->(q.Pairwise fun a b=>HT.lexLt a b=true)->Q (.d (xD q)) n
theorem zpb:FL Pn true zoH zin:=⟨by
 rintro A H xs ws n Q R J b P ⟨sts,m,e,D,h1,O,F,h⟩ k;subst e;obtain⟨v,rfl,U⟩:=zbv b;obtain⟨a,ys,rfl,Y,Z⟩:=y9 U;refine⟨a,ys,sts,m,rfl,Y,Z.stay (zv.same zr),D,h1,O,F,fun I q hy hp hs p H' L g S=>?_⟩;have B:IsL (z7 A H) (q.map stD) I:=x9 J.noT (xW q) hy;exact k _ n _ H' (h q hp hs) (xR B (zv.same S) (J.new L) g) (Go.same P S) fun z=>x8 B S L g⟩
theorem znp:JE X Pn M true (.Dict [] [] pos) (mC (.dt [])):=⟨_,zlB,⟨fun A σ H ρ n Q R E P B k=>fun p H' q g S=>k _ n _ H' B ⟨p,[],rfl,zy (E.new q) g,rfl⟩ (Go.same P S) fun _=>⟨p,rfl,.of q,p,[],rfl,g,rfl⟩⟩⟩
def zi8 (fd fk:Ev->Mo W):Ev->Mo W:=fun ρ n Q=>fd ρ n fun x q=>fk ρ q fun y B=>∃kvs st d,x = .dt kvs/\y = .d (stD st)/\xx kvs st=some d/\Q (.d d) B
theorem ziP (F:X.A.units+1<cLine)(I:JB X Pn M a fa)(J:JB X Pn M b fb)(L:zpn b):JE X Pn M false (.Subscript a b pos) (zi8 fa fb):=by obtain⟨ta,O,U⟩:=I.ex;obtain⟨tb,Y,Z⟩:=J.ex;refine⟨_,ub F O Y L,⟨fun A σ H ρ n Q R E P hf k=>?_⟩⟩;refine U.run A σ H ρ n _ _ E P hf fun w1 m1 v1 H1 r1 b1 q=>?_;refine Z.run A σ H1 ρ m1 _ _ (E.stay q.st) q.pn r1  ?_;rintro w2 m2 v2 H2 ⟨kvs,st,d,e1,e2,e3,r⟩ b2 g2;subst e1 e2;obtain⟨ad,ks,rfl,B,hk⟩:=b1.stay g2.st;obtain⟨bd,xs,rfl,D,hx⟩:=xG b2;obtain rfl:=hx.of_ints;obtain⟨v,h1,h2⟩:=(hk.look (k:=st)).2 d e3;refine⟨ad,v,rfl,?_,k _ m2 _ H2 r (Val.of h2) (q.trans g2) fun z=>by cases z⟩;rw[<- h1];exact zbQ.i B D
def zgW {κ:Type}[DecidableEq κ](kvs:List (κ×Dt))(k:κ)(d:Dt):List (κ×Dt):=
 if (kvs.any fun kv=>decide (kv.1=k))=true then kvs.map (fun kv=>if kv.1=k then (kv.1,d) else kv) else kvs++[(k,d)]
theorem uQ.any {κ:Type}[DecidableEq κ]{G:Hp}{k:κ}:∀ {kvs:List (κ×Dt)} {ks:List (κ×V)},uQ G kvs ks->(ks.any fun kv=>decide (kv.1=k))=kvs.any fun kv=>decide (kv.1=k)
 | [],_,h=>by cases h;rfl
 | q::r,ks,⟨v,s,e,h1,h2⟩=>by subst e;rw[cq,cq,uQ.any h2]
theorem uQ.map1 {κ:Type}[DecidableEq κ]{G:Hp}{k:κ}{d:Dt}{x:V}(D:Is G d x):∀ {kvs:List (κ×Dt)} {ks:List (κ×V)},uQ G kvs ks->uQ G (kvs.map fun kv=>if kv.1=k then (kv.1,d) else kv) (ks.map fun kv=>if kv.1=k then (kv.1,x) else kv)
 | [],_,h=>by cases h;rfl
 | q::r,ks,⟨v,s,e,h1,h2⟩=>by
  subst e;rw[aq,aq];by_cases B:q.1=k
  ·rw[if_pos B,if_pos B];exact⟨x,_,rfl,D,uQ.map1 D h2⟩
  ·rw[if_neg B,if_neg B];exact⟨v,_,rfl,h1,uQ.map1 D h2⟩
theorem uQ.snoc {κ:Type}{G:Hp}{k:κ}{d:Dt}{x:V}(B:Is G d x):∀ {kvs:List (κ×Dt)} {ks:List (κ×V)},uQ G kvs ks->uQ G (kvs++[(k,d)]) (ks++[(k,x)])
 | [],_,h=>by cases h;exact⟨x,[],rfl,B,rfl⟩
 | q::r,ks,⟨v,s,e,h1,h2⟩=>by subst e;exact⟨v,_,rfl,h1,uQ.snoc B h2⟩
theorem uQ.put {κ:Type}[DecidableEq κ]{G:Hp}{k:κ}{d:Dt}{x:V}{kvs:List (κ×Dt)}{ks:List (κ×V)}(h:uQ G kvs ks)(q:Is G d x):uQ G (zgW kvs k d) (zam ks k x):=by
 unfold zgW zam;rw[h.any];split
 ·exact h.map1 q
 ·exact h.snoc q
theorem uQ.len {κ:Type}{G:Hp}:∀ {kvs:List (κ×Dt)} {ks:List (κ×V)},uQ G kvs ks->ks.length=kvs.length
 | [],_,h=>by cases h;rfl
 | q::r,ks,⟨v,s,e,h1,h2⟩=>by subst e;rw[aS,aS,uQ.len h2]
theorem At3.wrX {B:Bs}{A:Addr->Prop}{σ:St}{H:Hp}{ρ:Ev}{n:Nat}(h:At3 Pn B S M A σ H ρ n){i:Nat}{w w':W}{ad:Addr}{o:HO}(hi:i∈M)(e:ρ[i]?=some (some w))(s:σ[i]?=some (some (.ref ad)))(hw:WAt (L2.upd H ad o) (z7 A H) w' (.ref ad))(hm':w'.mut=true)(np:NP o)(nt:∀xs,o≠.tup xs):At3 Pn B S M A σ (L2.upd H ad o) (ρ.set i (some w')) n:=by
 obtain⟨v,s1,_,s3⟩:=h.env.val i w e;rw[s] at s1;cases s1;obtain⟨a2,e2,hA,_,_⟩:=s3 hi;cases e2;have hlen:i<ρ.length:=(ae.mp e).1
 have hE:EnvR A M σ (L2.upd H ad o) (ρ.set i (some w')):=by
  refine⟨by rw[aY];exact h.env.len,fun j u ej=>?_,fun j q u u' b hj hq hne e1 e2=>?_,fun b hb=>?_⟩
  ·by_cases hj:j=i
   ·subst hj;rw[aQ hlen] at ej;cases ej;exact⟨.ref ad,s,fun z=>absurd hi z,fun _=>⟨ad,rfl,hA,by show WAt _ _ _ _;rw[yn hA];exact hw,hm'⟩⟩
   ·rw[aw (Ne.symm hj)] at ej;obtain⟨v,t1,t2,t3⟩:=h.env.val j u ej;refine⟨v,t1,fun z=>?_,fun z=>?_⟩
    ·show WAt _ _ _ _;rw[yn hA];exact t2 z
    ·obtain⟨b,rfl,hb,hbb,hm⟩:=t3 z;have hne:b≠ad:=fun q=>h.env.dis i j w u ad hi z (Ne.symm hj) e ej s (by rw[t1,q]);refine⟨b,rfl,hb,?_,hm⟩;show WAt _ _ _ _;rw[yn hA]
     cases u with
     | d x=>
      cases x with
      | lst l=>obtain⟨a2,xs,e2,g1,g2⟩:=hbb;cases e2;exact⟨b,xs,rfl,by rw[ze hne];exact g1,g2⟩
      | dct=>obtain⟨a2,xs,e2,g1,g2⟩:=hbb;cases e2;exact⟨b,xs,rfl,by rw[ze hne];exact g1,g2⟩
      | _=>cases hm
     | pen p=>cases hm
     | dk k=>obtain⟨a2,xs,e2,g1,g2⟩:=hbb;cases e2;exact⟨b,xs,rfl,by rw[ze hne];exact g1,g2⟩
     | dt k=>obtain⟨a2,xs,e2,g1,g2⟩:=hbb;cases e2;exact⟨b,xs,rfl,by rw[ze hne];exact g1,g2⟩
     | ss P w k=>obtain⟨a2,xs,e2,g1,g2⟩:=hbb;cases e2;exact⟨b,xs,rfl,by rw[ze hne];exact g1,g2⟩
     | df k=>obtain⟨a2,ob,xs,e2,g1,g2⟩:=hbb;cases e2;exact⟨b,ob,xs,rfl,by rw[ze hne];exact g1,g2⟩
  ·have get:∀q (u:W),(ρ.set i (some w'))[q]?=some (some u)->∃u',ρ[q]?=some (some u'):=fun q u z=>by
    by_cases hq:q=i
    ·subst hq;exact⟨w,e⟩
    ·rw[aw (Ne.symm hq)] at z;exact⟨u,z⟩
   obtain⟨v1,f1⟩:=get j u e1;obtain⟨v2,f2⟩:=get q u' e2;exact h.env.dis j q v1 v2 b hj hq hne f1 f2
  ·by_cases hb':b=ad
   ·subst hb';exact⟨_,zj,np,nt⟩
   ·rw[ze hb'];exact h.env.al b hb
 refine⟨hE,⟨h.frm.sub,h.frm.new,fun b o eb nn nc=>?_,h.frm.al,h.frm.cn,fun b z=>(by
  by_cases hb':b=ad
  ·subst hb';exact⟨_,zj,np⟩
  ·rw[ze hb'];exact h.frm.cs b z)⟩,h.pn.upd hA,by rw[yn hA];exact h.prot,h.fix,fun j u b hj ej sj=>?_⟩
 ·have hne:b≠ad:=fun q=>by
   subst q;rcases h.mine i w b hi e s with z | z
   ·exact z o eb nn
   ·exact nc z
  rw[ze hne];exact h.frm.st b o eb nn nc
 ·by_cases hj':j=i
  ·subst hj';exact h.mine j w b hj e sj
  ·rw[aw (Ne.symm hj')] at ej;exact h.mine j u b hj ej sj
def zi9 (i:Nat)(fk f:Ev->Mo W):Ms:=fun ρ n k=>(∃kvs,ρ[i]?=some (some (.dt kvs)))/\f ρ n fun w m=>fk ρ m fun y q=>∃kvs st d,ρ[i]?=some (some (.dt kvs))/\w = .d d/\y = .d (stD st)/\kvs.length<lim/\k.nx (ρ.set i (some (.dt (zgW kvs st d)))) q
theorem zk4 (i:Nat){x:Str}{np sp:Pos}(hu:X.A.units+1<cLine)(hk:JB X Pn M c fc)(he:JE X Pn M fr' e f)(hi:i∈M:=by decide)(hN:X.N[i]?=some x:=by rfl)(hv:Vis X.env.scope x:=by walk_at "v")(hd:(x==("__debug__" : Str))=false:=by decide)
  (I:(x==("__classdict__" : Str))=false:=by decide) (hs:swapsWith e (some (.Subscript (.Name x np) c p)) sp.line X.env=pure false:=by rfl) :
  JS X Pn S M fr (.Assign [.Subscript (.Name x np) c p] e sp) (zi9 i fc f):=by
 obtain⟨te,q,r⟩:=he.ex;obtain⟨tk,qk,rk⟩:=hk.ex;refine⟨_,zd4 hu (qv i hN hv hd I) qk q hs,⟨ ?_⟩⟩;rintro B A σ H ρ n k D a kk ⟨⟨l0,e0⟩,hf⟩;obtain⟨v0,J,_,o3⟩:=a.env.val i _ e0;obtain⟨L,rfl,hA,al,_⟩:=o3 hi;refine r.run A σ H ρ n _ _ a.env a.pn hf fun w m v H1 r1 O g1 _=>⟨.ref L,J,?_⟩;have U:=a.step g1;refine rk.run A σ H1 ρ m _ _ U.env U.pn r1  ?_;rintro y m2 v2 H2 ⟨kvs,st,d,e,ed,ey,hz,r2⟩ b2 g2;subst ed ey;have a2:=U.step g2;obtain⟨v3,s3,_,o4⟩:=a2.env.val i _ e;rw[J] at s3;cases s3;obtain⟨an,e4,_,hb,_⟩:=o4 hi;cases e4;obtain⟨a5,ks,e5,Y,F⟩:=hb;cases e5;obtain⟨bd,xs,rfl,Z,hx⟩:=xG b2;obtain rfl:=hx.of_ints;exact⟨L,_,rfl,zek.i Y Z (zeU (by rw[F.len];exact cv hz)),kk.nx A σ _ _ m2 (a2.wrX (w':=.dt (zgW kvs st d)) hi e J ⟨L,_,rfl,zj,F.put (O.stay g2.st).is⟩ rfl (fun k z=>by cases z) (fun _ z=>by cases z)) r2⟩
end
open PySem PySem.Spec L2
theorem zje {a c:Int}{n:Nat}(q:0<=a)(h1:a<=n)(h2:n<=1000000)(D:0<=c)(F:c<2147483549):0<=(c+70009) * (2 * a+1)+6133 * a * a+577 * a/\(c+70009) * (2 * a+1)+6133 * a * a+577 * a<=11000000000000000:=by have I:(c+70009) * (2 * a+1)<=2147553558 * 2000001:=c7 (by lia) (by lia) (by lia) (by lia);have J:0<=(c+70009) * (2 * a+1):=Int.mul_nonneg (by lia) (by lia);have L:a * a<=1000000 * 1000000:=c7 (by lia) (by lia) (by lia) (by lia);have O:0<=a * a:=Int.mul_nonneg q q;have B:6133 * a * a=6133 * (a * a):=Int.mul_assoc ..;rw[B];lia
theorem zos {X:Cx}(K:PySem.W.Frag)(J:X.K=K){o e:Expr}{es:List Expr}{to:TE}{t:TA}{apos cpos:Pos}(L:QE X o to)(O:QA X (e::es) t)
  (B:attributeBase o "pop" X.env (eval o X.env)=eval o X.env:=by rfl)
  (I:((backTo cpos (starEach (e::es) X.env)).all (fun x=>!x.1)&&(backToKw cpos (keywordEach [] X.env)).all (fun x=>x.1.isSome)
   && decide ((e::es).length+([]:List Keyword).length+(if ([]:List Keyword).isEmpty then 0 else 1)<30))=true:=by rfl)
  (D:(apos.endLine==cpos.line)=true:=by rfl) (U:starEach (e::es) X.env=(false,eval e X.env)::starEach es X.env:=by rfl) (q:(backTo cpos (starEach es X.env)).any (·.1)=false:=by rfl) :
  QE X (.Call (.Attribute o "pop" apos) (e::es) [] cpos) (tBM K "list" zmz to t):=by
 subst J;exact zgX cr PySem.F.slot_list_pop PySem.F.type_list_pop zgN L O B I D U q
def zmF:Sp:=fun vs H Q E=>∃ (p c a:Addr) (ns:List Int) (n:Nat) (xs:List V),vs=[.ref p,.ref a]/\Pen H p c ns n/\n+xs.length<=1000000/\xs.length<=100000/\H a=some (.lst xs)/\
 ∀b ys H',H b=none->H' b=some (.lst ys)->ys.Perm xs->Pen H' p c ns (n+xs.length)->zv H H'->Q (.ref b) H'
theorem zkY {G:Hp}{xs ys:List V}(h:ys.Perm xs):∀ {l:List Dt},IsL G l xs->∃l':List Dt,l'.Perm l/\IsL G l' ys:=by
 induction h with
 | nil=>intro l h;exact⟨l,.refl _,h⟩
 | cons x _ I=>
  intro l h
  match l,h with
  | [],h=>exact absurd h (by intro z;cases z)
  | d::ds,⟨Y,r,e,h1,h2⟩=>
   cases e;obtain⟨l',p,B⟩:=I h2;exact⟨d::l',p.cons d,x,_,rfl,h1,B⟩
 | swap x y s=>
  intro l h
  match l,h with
  | [],h=>exact absurd h (by intro z;cases z)
  | [_],⟨_,_,e,_,h2⟩=>cases e;exact absurd h2 (by intro z;cases z)
  | d::e::ds,⟨_,_,q,h1,_,_,J,B,L⟩=>
   cases q;cases J;exact⟨e::d::ds,.swap _ _ _,_,_,rfl,B,_,_,rfl,h1,L⟩
 | trans _ _ D F=>
  intro l h;obtain⟨Z,O,h1⟩:=F h;obtain⟨U,p2,h2⟩:=D h1;exact⟨U,p2.trans O,h2⟩
def zhE:FV:=fun Pn q n R=>∃p c ns l,Pn=some (p,c,ns)/\q=[.pen p,.d (.lst l)]/\n+l.length<=1000000/\l.length<=100000/\∀l':List Dt,l'.Perm l->R (.d (.lst l')) (n+l.length)
theorem zi0:zr1 2 true zhE zmF:=by rintro vs H Q E ⟨Pn,A,ws,n,R,U,Y,hl,L,⟨p,c,ns,l,rfl,rfl,h1,h2,Z⟩,q⟩;obtain⟨v,y,rfl,b1,b2⟩:=zrU Y;have e1:v = .ref p:=b1;subst e1;obtain⟨a,xs,rfl,ha,O⟩:=b2;have D:=O.length;refine⟨p,c,a,ns,n,xs,rfl,L.1,by lia,by lia,zr _ _ ha,fun b ys H' J F B P' S'=>?_⟩;obtain⟨l',pl,I⟩:=zkY B O;refine q _ _ _ H' (Z l' pl) (xR I S' (U.new J) F) ⟨S',by rw[<- D];exact P',L.2⟩ fun _=>⟨b,rfl,.of J,b,ys,rfl,F,I.stay (yB S' (.of J))⟩
theorem zgp {α:Type}:∀ {l:List α} {k:Nat} (h:k<l.length),(l[k]::l.eraseIdx k).Perm l
 | [],_,h=>absurd h (by simp)
 | x::l,0,_=>.refl _
 | x::l,k+1,h=>by have:=zgp (l:=l) (k:=k) (by simpa using h);simp only[List.getElem_cons_succ,List.eraseIdx_cons_succ];exact (List.Perm.swap x _ _).trans (this.cons x)
theorem zhh {xs ys zs:List V}{k:Nat}(q:k<zs.length)(h:(ys++zs).Perm xs):(ys++[zs[k]]++zs.eraseIdx k).Perm xs:=by refine .trans ?_ h;rw[bF];exact (zgp q).append_left ys
section
variable {X:Cx}{Pn:Option zm}{M S:List Nat}{fr fr':Bool}{e a b c:Expr}{es:List Expr}{f fa fb fc:Ev->Mo W}{pos p:Pos}
theorem ztF {tg e:Expr}{q B:TI}(h1:QI X tg e q)(h2:QI X tg e B):QI X tg e (fun σ H R=>q σ H R\/B σ H R):=⟨fun pins s σ H R I h=>h.elim (h1.run pins s σ H R I) (h2.run pins s σ H R I)⟩
def zta (fa:Ev->Mo W):Ev->Mo (List W):=fun ρ n Q=>zr8 fa ρ n Q\/zr9 fa ρ n Q
theorem zp5 {tg:Expr}(K:PySem.W.Frag)(q:X.K=K)(h:JE X Pn M fr e f):JI X Pn M false tg e (zta f):=by obtain⟨L,B,D⟩:=(xw (tg:=tg) K q h).ex;obtain⟨O,F,I⟩:=(uU (tg:=tg) K q h).ex;exact⟨_,ztF B F,⟨fun A σ H ρ n Q R E P J k=>J.elim (fun z=>.inl (D.run A σ H ρ n Q R E P z k)) fun z=>.inr (I.run A σ H ρ n Q R E P z k)⟩⟩
theorem uQ.keys {κ:Type}{G:Hp}:∀ {kvs:List (κ×Dt)} {ks:List (κ×V)},uQ G kvs ks->ks.map (·.1)=kvs.map (·.1)
 | [],_,h=>by cases h;rfl
 | q::r,_,⟨v,s,e,_,h⟩=>by subst e;rw[aq,aq,uQ.keys h]
theorem WAt.mv {T T' G G':Hp}{w:W}{ad:Addr}(t:∀o,T ad=some o->T' ad=some o)(g:y4 G G')(m:w.mut=true)(h:WAt T G w (.ref ad)):WAt T' G' w (.ref ad):=by
 cases w with
 | d x=>
  cases x with
  | lst l=>obtain⟨a2,xs,e2,g1,g2⟩:=h;cases e2;exact⟨ad,xs,rfl,t _ g1,g2.stay (zv.same g)⟩
  | dct=>obtain⟨a2,xs,e2,g1,g2⟩:=h;cases e2;exact⟨ad,xs,rfl,t _ g1,g2⟩
  | _=>cases m
 | pen p=>cases m
 | dk k=>obtain⟨a2,xs,e2,g1,g2,g3⟩:=h;cases e2;exact⟨ad,xs,rfl,t _ g1,g2.stay (zv.same g),g3⟩
 | dt k=>obtain⟨a2,xs,e2,g1,g2⟩:=h;cases e2;exact⟨ad,xs,rfl,t _ g1,g2.stay (zv.same g)⟩
 | ss P w k=>obtain⟨a2,xs,e2,g1,g2⟩:=h;cases e2;exact⟨ad,xs,rfl,t _ g1,g2.stay (zv.same g)⟩
 | df k=>obtain⟨a2,ob,xs,e2,g1,g2⟩:=h;cases e2;exact⟨ad,ob,xs,rfl,t _ g1,g2.stay (zv.same g)⟩
theorem At3.move {B:Bs}{A:Addr->Prop}{σ:St}{H:Hp}{ρ:Ev}{n:Nat}(h:At3 Pn B S M A σ H ρ n){i j:Nat}{w:W}{F:Addr}(hj:j∈M)(hi:i∉M)(a0:i∉S)(e:ρ[j]?=some (some w))(s:σ[j]?=some (some (.ref F))):At3 Pn B S M (fun b=>A b/\b≠F) (σ.set i (some (.ref F))) H ((ρ.set j none).set i (some w)) n:=by
 obtain⟨v,s1,_,s3⟩:=h.env.val j w e;rw[s] at s1;cases s1;obtain⟨a2,e2,hA,ap,as⟩:=s3 hj;cases e2;have a4:i≠j:=fun z=>hi (z ▸ hj);have I:∀b,(A b/\b≠F)->A b:=fun b z=>z.1;have J:y4 (z7 A H) (z7 (fun b=>A b/\b≠F) H):=yV I
 have U:∀q (u:W),((ρ.set j none).set i (some w))[q]?=some (some u)->q≠i->q≠j/\ρ[q]?=some (some u):=fun q u z Z=>by
  rw[aw (Ne.symm Z)] at z;by_cases L:q=j
  ·subst L;rw[List.getElem?_set] at z;split at z
   ·split at z
    ·cases z
    ·cases z
   ·exact absurd rfl ‹_›
  ·rw[aw (Ne.symm L)] at z;exact⟨L,z⟩
 have Y:¬ B.A0 F:=fun z=>by
  rcases h.mine j w F hj e s with q | q
  ·obtain⟨o,o1,o2,_⟩:=h.frm.al F z;exact q o o1 o2
  ·exact h.frm.cn F q z
 have an:Val (fun b=>A b/\b≠F) H w (.ref F):=by exact WAt.mv (fun o ho=>zy (fun z=>z.2 rfl) ho) J as ap
 refine⟨⟨?_,?_,?_,?_⟩,⟨fun b z=>⟨h.frm.sub b z,fun q=>Y (q ▸ z)⟩,fun b z=>h.frm.new b z.1,h.frm.st,h.frm.al,h.frm.cn,h.frm.cs⟩,h.pn.less I,h.prot.trans (zv.same J),fun k hk=>?_,fun k u b hk ek sk=>?_⟩
 ·rw[aY,aY,aY];exact h.env.len
 ·intro q u eq;by_cases Z:q=i
  ·subst Z
   have O:q<(ρ.set j none).length:=by have:=(ae.mp eq).1;rwa[aY] at this
   rw[aQ O] at eq;cases eq;rw[aY] at O;refine⟨.ref F,aQ (by rw[h.env.len];exact O),fun _=>an,fun z=>absurd z hi⟩
  ·obtain⟨L,z⟩:=U q u eq Z;obtain⟨v,t1,t2,t3⟩:=h.env.val q u z;refine⟨v,by rw[aw (Ne.symm Z)];exact t1,fun y=>WAt.up (zv.same J) (zv.same J) (t2 y),fun y=>?_⟩;obtain⟨b,rfl,hb,a1,hm⟩:=t3 y;refine⟨b,rfl,⟨hb,fun q'=>?_⟩,WAt.up (zv.refl _) (zv.same J) a1,hm⟩;subst q';exact h.env.dis j q w u b hj y (Ne.symm L) e z s t1
 ·intro q k u u' b Z hk a3 e1 e2;have av:q≠i:=fun z=>hi (z ▸ Z);have D:k≠i:=fun z=>hi (z ▸ hk);rw[aw (Ne.symm av),aw (Ne.symm D)];exact h.env.dis q k u u' b Z hk a3 (U q u e1 av).2 (U k u' e2 D).2
 ·exact fun b z=>h.env.al b z.1
 ·have D:k≠i:=fun z=>a0 (z ▸ hk);rw[aw (Ne.symm D)];exact h.fix k hk
 ·have D:k≠i:=fun z=>hi (z ▸ hk);rw[aw (Ne.symm D)] at sk;exact h.mine k u b hk (U k u ek D).2 sk
def znI (i j:Nat):Ms:=fun ρ n k=>∃w,ρ[j]?=some (some w)/\k.nx ((ρ.set j none).set i (some w)) n
theorem zfP {i:Nat}(j:Nat){x y:Str}{L O sp:Pos}(Z:X.N.Nodup)(hi:X.N[i]?=some x)(hx:Loc X.env.scope x)(U:j∈M:=by decide)(q:i∉M:=by decide)(F:i∉S:=by decide)(I:X.N[j]?=some y:=by rfl)(hv:Vis X.env.scope y:=by walk_at "v")(hd:(y==("__debug__" : Str))=false:=by decide)
  (J:(y==("__classdict__" : Str))=false:=by decide) (hs:swapsWith (.Name y O) (some (.Name x L)) sp.line X.env=pure false:=by rfl) (hf:X.fn x=true\/X.env.scope.names.lookup x=some .local:=by walk_at "l"):JS X Pn S M fr (.Assign [.Name x L] (.Name y O) sp) (znI i j):=by
 refine⟨_,xZ (i:=i) Z hi hx (qv j I hv hd J) hs hf,⟨ ?_⟩⟩;rintro B A σ H ρ n k D a kk ⟨w,e,r⟩;obtain⟨v,Y,_,s3⟩:=a.env.val j w e;obtain⟨ad,rfl,hA,_,_⟩:=s3 U;exact⟨.ref ad,Y,kk.nx _ _ H _ n (a.move U q F e Y) r⟩
end
open PySem PySem.Spec L2
end L3
namespace L3
open PySem PySem.Spec L2
structure StOk (rm st:List Int):Prop where
 len:st.length=rm.length
 box:∀b:Int,0<=b->b<rm.length->0<=yf st b/\yf st b<yf rm b
theorem ur:∀ (ns:List Int),(∀n∈ns,1<=n)->((y3 (ns.map zp)).length:Int)=yz ns:=by
 have:∀ (k:Nat) (ns:List Int),ns.length=k->(∀n∈ns,1<=n)->((y3 (ns.map zp)).length:Int)=yz ns:=by
  intro k
  induction k with
  | zero=>intro ns e _;rw[bp e];rfl
  | succ k B=>
   intro ns e h
   obtain⟨m,x,rfl⟩:∃m x,ns=m++[x]:=by
    have q:ns≠[]:=by intro z;rw[z] at e;cases e
    exact⟨ns.dropLast,ns.getLast q,(bt q).symm⟩
   rw[ai] at e;rw[ax,aq,dM,yT,ue,uk,yG];have h1:=B m (by simpa using e) fun n D=>h n (bL _ D);have h2:=h x (ak _ (by simp));rw[Int.natCast_mul,h1,b7 (by lia)]
 exact fun ns h=>this _ ns rfl h
theorem zaP:∀ {ns:List Int},(∀n∈ns,1<=n)->1<=yz ns:=fun {ns} h=>by
 have h1:=ur ns h
 have:∀ (ns:List Int) (a:Int),1<=a->(∀n∈ns,1<=n)->1<=ns.foldl (· * ·) a:=by
  intro ns
  induction ns with
  | nil=>intro a q _;exact q
  | cons n ns D=>
   intro a q B;refine D (a * n) ?_ fun m F=>B m (am _ F);have:=B n ao;exact Int.le_trans (by decide) (c7 q this (by decide) (by lia))
 exact this ns 1 (by decide) h
theorem zjE {ns:List Int}(q:ns≠[])(h:∀n∈ns,2<=n):2<=yz ns:=by
 obtain⟨m,x,rfl⟩:∃m x,ns=m++[x]:=⟨ns.dropLast,ns.getLast q,(bt q).symm⟩;rw[uk];have h1:=zaP (ns:=m) fun n B=>by have:=h n (bL _ B);lia
 have h2:=h x (ak _ (by simp));exact Int.le_trans (by decide:(2:Int)<=1 * 2) (c7 h1 h2 (by decide) (by lia))
def zpR (a b:List Int)(k:Nat):Wi:=⟨((List.range a.length).filter fun i=>!decide (i=k)).map fun i:Nat=>((i:Int),a.getD i 0),(k:Int),b.getD k 0,a.getD k 0⟩
theorem zkR {rm a b:List Int}{k:Nat}(I:StOk rm a)(J:StOk rm b)(O:k<a.length)(D:a.getD k 0≠b.getD k 0):WishOk rm (zpR a b k):=by
 have U:=I.len
 have A:∀i:Nat,i<rm.length->0<=a.getD i 0/\a.getD i 0<yf rm (i:Int):=fun i hi=>by have:=I.box (i:Int) (by lia) (by lia);rwa[yd] at this
 have Bb:∀i:Nat,i<rm.length->0<=b.getD i 0/\b.getD i 0<yf rm (i:Int):=fun i hi=>by have:=J.box (i:Int) (by lia) (by lia);rwa[yd] at this
 have B:k<rm.length:=by lia
 refine⟨⟨fun q F=>?_,?_⟩,by show (0:Int)<=(k:Int);lia,by show (k:Int)<_;lia,fun q F=>?_,(Bb k B).1,(Bb k B).2,(A k B).1,(A k B).2,fun z=>D z.symm⟩
 ·obtain⟨i,hi,rfl⟩:=aH.mp F;have L:=aP.mp (aW.mp hi).1;exact⟨by show (0:Int)<=(i:Int);lia,by show (i:Int)<_;lia,(A i (by lia)).1,(A i (by lia)).2⟩
 ·show List.Pairwise (fun a b:Int×Int=>a.1<b.1) (((List.range a.length).filter fun i=>!decide (i=k)).map fun i:Nat=>((i:Int),a.getD i 0));rw[bw];refine List.Pairwise.imp (R:=fun i j:Nat=>i<j) (fun {i j} h=>?_) (List.Pairwise.filter _ List.pairwise_lt_range);show (i:Int)<(j:Int);lia
 ·obtain⟨i,hi,rfl⟩:=aH.mp F;have:=(aW.mp hi).2;show (i:Int)≠(k:Int);intro z;have:i=k:=by lia
  subst this;simp at *
def zsr (rm:List Int)(bk:List Wi)(g:List (Int×Int)):List (List Int):=(zs0 rm g).filter fun st=>decide (zba bk st (g.map (·.1))=[])
@[reducible] def x5 (bk:List Wi):Dt:=.tup (bk.map zP)
def yL (rm:List Int)(bk:List Wi):Prop:=∀x∈bk,WishOk rm x
@[reducible] def F_bett:FV:=fun _ B n R=>∃rm bk st q,B=[.d (stD rm),.d (x5 bk),.d (stD st),.d (stD q)]/\RoomOk rm/\yL rm bk/\st.length=rm.length/\R (.d (xD (zl2 bk st q))) n
@[reducible] def zrX:FV:=fun _ q n R=>∃rm bk g,q=[.d (stD rm),.d (x5 bk),.d (zem g)]/\RoomOk rm/\yL rm bk/\Giv rm g/\R (.d (xD (zsr rm bk g))) n
theorem xj (r:Nat):zhw 0 r=(List.range r).map fun k:Nat=>W.d (.int (k:Int)):=by unfold zhw;apply bR;intro k _;simp
theorem zdv {ns:List Int}(q:ns.length<=8)(B:∀m∈ns,2<=m/\m<=4)(k:Nat):(y3 ((ns.take k).map zp)).length<=65536:=by
 have:=zgo (cs:=ns.map zp) (by rw[ab];exact q) (fun c D=>by obtain⟨m,F,rfl⟩:=aH.mp D;have:=B m F;rw[yG];lia) k
 rwa[<- el] at this
theorem zb2 {q:List (List Int)}{i:Nat}(h:i<q.length):q.getD i []∈q:=by rw[aF,ah h];exact bg h
theorem zpp {L:List Dt}{a:Int}{G:Dt->Prop}(q:0<=a)(h1:a<L.length)(h:∀x∈L,G x):∃x,atI L a=some x/\G x:=by obtain⟨d,h2,B⟩:=zpq q h1;exact⟨d,h2,h d B⟩
theorem zbk:∀ {rm:List Int},(∀r∈rm,2<=r/\r<=4)->yz rm<=256->rm.length<=8:=fun {rm} B J=>by
 have:∀ (k:Nat) (rm:List Int),rm.length=k->(∀r∈rm,2<=r/\r<=4)->(2:Int) ^ k<=yz rm:=by
  intro k
  induction k with
  | zero=>intro rm e _;rw[bp e];decide
  | succ k F=>
   intro rm e B
   obtain⟨m,x,rfl⟩:∃m x,rm=m++[x]:=by
    have q:rm≠[]:=by intro z;rw[z] at e;cases e
    exact⟨rm.dropLast,rm.getLast q,(bt q).symm⟩
   rw[ai] at e;have h1:=F m (by simpa using e) fun n D=>B n (bL _ D);have h2:=B x (ak _ (by simp));rw[uk,Int.pow_succ];have I:(0:Int)<=2 ^ k:=Int.pow_nonneg (by decide);exact c7 h1 h2.1 (by decide) (by lia)
 apply bO;intro D;have h1:=this _ rm rfl B
 have h2:(2:Int) ^ 9<=2 ^ rm.length:=by
  have:(2:Nat) ^ 9<=2 ^ rm.length:=cJ (by decide) (by lia)
  exact_mod_cast this
 have I:(2:Int) ^ 9=512:=by decide
 lia
theorem zib {a b:List Int}(B:a.length=b.length)(q:a≠b):∃k zV,((List.range a.length).filter fun k=>!decide (a.getD k 0=b.getD k 0))=k::zV/\k<a.length/\a.getD k 0≠b.getD k 0:=by
 cases h:(List.range a.length).filter fun k=>!decide (a.getD k 0=b.getD k 0) with
 | nil=>
  exfalso;apply q;apply dW B;intro i h1 h2;have:=List.filter_eq_nil_iff.mp h i (aP.mpr h1);have e:a.getD i 0=b.getD i 0:=by simpa using this
  simpa [h1,h2] using e
 | cons k zV=>
  have D:k∈(List.range a.length).filter fun k=>!decide (a.getD k 0=b.getD k 0):=by rw[h];simp
  obtain⟨h1,h2⟩:=aW.mp D;exact⟨k,zV,rfl,aP.mp h1,by simpa using h2⟩
theorem StOk.snoc {rm st:List Int}{w v:Int}(h:StOk rm st)(I:0<=v)(J:v<w):StOk (rm++[w]) (st++[v]):=by
 have B:=h.len;refine⟨by rw[ai,ai,B];rfl,fun b q D=>?_⟩;rw[ai] at D;by_cases F:b<(rm.length:Int)
 ·rw[zbg q (by lia),zbg q F];exact h.box b q F
 ·have e:b=(rm.length:Int):=by
   have:b<(rm.length:Int)+1:=by simpa using D
   lia
  subst e;rw[zbf,<- B,zbf];exact⟨I,J⟩
theorem zhy {sts q B:List (List Int)}{k w:Nat}(J:k<sts.length)(Z:sts.Nodup)(h1:q.Nodup)(h2:∀x∈q,∃a∈sts.take k,∃v:Int,0<=v/\v<w/\x=a++[v])(h3:q.length=k * w)(L:B.Perm ((List.range w).map fun v:Nat=>sts.getD k []++[(v:Int)])) :
  (q++B).Nodup/\(∀x∈q++B,∃a∈sts.take (k+1),∃v:Int,0<=v/\v<w/\x=a++[v])/\(q++B).length=(k+1) * w:=by
 have D:sts.getD k []=sts[k]:=by simp[J]
 have ht:sts.take (k+1)=sts.take k++[sts[k]]:=zl (ah J)
 have U:∀x∈B,∃v:Int,0<=v/\v<w/\x=sts[k]++[v]:=fun x F=>by obtain⟨v,hv,rfl⟩:=aH.mp (L.mem_iff.mp F);have:=aP.mp hv;exact⟨(v:Int),by lia,by lia,by rw[D]⟩
 have nB:B.Nodup:=by
  refine L.nodup_iff.mpr ?_;show List.Pairwise _ _;rw[bw];refine List.Pairwise.imp (fun {a b} h e=>h ?_) dX;have:=List.append_cancel_left e;have h2:(a:Int)=(b:Int):=by simpa using this
  lia
 have O:sts[k]∉sts.take k:=fun z=>by have Y:=Z;rw[<- dQ k sts,List.drop_eq_getElem_cons J] at Y;exact (fq.mp Y).2.2 _ z _ ao rfl
 refine⟨fq.mpr ⟨h1,nB,fun x F y hy e=>?_⟩,fun x F=>?_,?_⟩
 ·obtain⟨a,I,v,_,_,rfl⟩:=h2 x F;obtain⟨u,_,_,rfl⟩:=U y hy;have:=(List.append_inj' e rfl).1;rw[this] at I;exact O I
 ·rw[ht];rcases aZ.mp F with z | z
  ·obtain⟨a,I,r⟩:=h2 x z;exact⟨a,bL _ I,r⟩
  ·obtain⟨v,r⟩:=U x z;exact⟨_,ak _ (by simp),v,r⟩
 ·rw[ai,h3,L.length_eq,ab,aj,dP]
theorem x6 {α q:Type}(f:α->q)(l:List α)(lo hi:Option Int):uq (l.map f) lo hi=(uq l lo hi).map f:=by unfold uq;rw[ab,<- fD,<- el]
theorem zbY {α:Type}(l:List α)(lo hi:Option Int):(uq l lo hi).length<=l.length:=by unfold uq;rw[aN,bD];lia
theorem zpw {st:List Int}{b w:Int}(q:0<=b):uq st none (some b)++[w]++uq st (some (b+1)) none=chg st b w:=by
 have h:=zmS st (w:=w) q;have B:zcS (st.map V.int) none (some b)=(uq st none (some b)).map V.int:=by rw[<- x6];rfl
 have D:zcS (st.map V.int) (some (b+1)) none=(uq st (some (b+1)) none).map V.int:=by rw[<- x6];rfl
 rw[B,D] at h;have F:(uq st none (some b)).map V.int++[V.int w]++(uq st (some (b+1)) none).map V.int=(uq st none (some b)++[w]++uq st (some (b+1)) none).map V.int:=by rw[ax,ax];rfl
 rw[F] at h;exact List.map_inj_right (fun a b e=>by cases e;rfl) |>.mp h
theorem zhp {l:List (List Int)}(h:l.Nodup){k:Nat}(q:k+1<l.length):l.getD k []≠l.getD (k+1) []:=by have:=b8.mp h k (k+1) (by lia) q (by lia);simpa [show k<l.length by lia,q] using this
theorem yL.app {rm:List Int}{bk q:List Wi}(h:yL rm bk)(h':yL rm q):yL rm (bk++q):=fun x B=>(aZ.mp B).elim (h x) (h' x)
theorem yL.set {rm:List Int}{bk:List Wi}(h:yL rm bk){x:Wi}(q:WishOk rm x)(i:Nat):yL rm (bk.set i x):=fun y B=>(List.mem_or_eq_of_mem_set B).elim (h y) fun e=>e ▸ q
theorem yL.ins {rm:List Int}{bk:List Wi}(h:yL rm bk){x:Wi}(q:WishOk rm x)(i:Nat):yL rm (zmh bk i x):=fun y B=>by
 rcases aZ.mp B with z | z
 ·exact h y (bM z)
 ·rcases aE.mp z with rfl | z
  ·exact q
  ·exact h y (List.mem_of_mem_drop z)
theorem znk {α q:Type}(f:α->q)(l:List α)(i:Nat)(x:α):zmh (l.map f) i (f x)=(zmh l i x).map f:=by unfold zmh;rw[<- el,<- fD,ax,aq]
theorem znj {α:Type}(l:List α)(i:Nat)(x:α):(zmh l i x).length=l.length+1:=by unfold zmh;rw[ai,aS,aN,bD];lia
def unI:Dt->Int
 | .int i=>i
 | _=>0
theorem zbD {α:Type}(l:List α)(k:Nat):uq l none (some (k:Int))=l.take k:=by unfold uq;rw[HT.sIx_none,HT.sIx_nat,dF,eO];rw[List.take_eq_take_iff];lia
theorem za4:∀ (ns st:List Int),st∈y3 (ns.map zp)->StOk ns st:=by
 have:∀ (k:Nat) (ns:List Int),ns.length=k->∀st,st∈y3 (ns.map zp)->StOk ns st:=by
  intro k
  induction k with
  | zero=>
   intro ns e st q;rw[bp e] at q ⊢;rw[az.mp q];exact⟨rfl,fun b O D=>absurd D (by simp;lia)⟩
  | succ k F=>
   intro ns e st q
   obtain⟨m,x,rfl⟩:∃m x,ns=m++[x]:=by
    have B:ns≠[]:=by intro z;rw[z] at e;cases e
    exact⟨ns.dropLast,ns.getLast B,(bt B).symm⟩
   rw[ai] at e;rw[ax,aq,dM,yT] at q;obtain⟨r,I,q⟩:=fJ.mp q;obtain⟨v,J,rfl⟩:=aH.mp q;obtain⟨j,L,rfl⟩:=aH.mp J;have:=aP.mp L;exact (F m (by simpa using e) r I).snoc (by lia) (by lia)
 exact fun ns st h=>this _ ns rfl st h
theorem zjG {κ:Type}[DecidableEq κ](kvs:List (κ×Dt))(k:κ)(d:Dt):(zgW kvs k d).length<=kvs.length+1:=by
 unfold zgW;split
 ·rw[ab];lia
 ·rw[ai];simp
theorem zc8 (bk:List Wi)(x:Wi)(st q:List Int):zba (bk++[x]) st q=zba bk st q++(if (zal st x&&!q.contains x.b)=true then [chg st x.b x.r] else []):=by
 unfold zba;rw[cg,ax];congr 1;by_cases h:(zal st x&&!q.contains x.b)=true
 ·rw[if_pos h,List.filter_cons,if_pos h];rfl
 ·rw[if_neg h,List.filter_cons,if_neg h];rfl
theorem zhg {ns:List Int}:(Dt.lst (ns.map .int)).eqOk:=zb0 (ns:=ns)
theorem zmR {st:List Int}{b x:Int}{n:Nat}{Q:W->Nat->Prop}(q:0<=b)(B:st.length<=1000)(h:Q (.d (stD (chg st b x))) n):zfE (.d (.tup (uq (st.map Dt.int) none (some b)))) (.d (.tup [.int x])) n fun w m=>zfE w (.d (.tup (uq (st.map Dt.int) (some (b+1)) none))) m Q:=by
 have D:=zbY st none (some b);have F:=zbY st (some (b+1)) none;rw[x6,x6];refine⟨_,_,rfl,rfl,by rw[ab];exact aB (by simp;lia:_<=1001) (by decide),_,_,rfl,rfl,by rw[ai,ab,ab];exact aB (by simp;lia:_<=2001) (by decide),?_⟩
 have e:(uq st none (some b)).map Dt.int++[Dt.int x]++(uq st (some (b+1)) none).map Dt.int=(chg st b x).map Dt.int:=by rw[<- zpw q,ax,ax];rfl
 rw[e];exact h
section
variable {X:Cx}{Pn:Option zm}{M S:List Nat}{fr fr':Bool}{e a b c:Expr}{es:List Expr}{f fa fb fc:Ev->Mo W}{pos p:Pos}
end
end L3
namespace L2
open PySem PySem.Spec PyProof.Rows
theorem zcU {env:Env}(ke ve gens scope pos):eval (.DictComp ke ve gens scope pos) env=comprehension (.DictComp ke ve gens scope pos) scope env (firstIterPos gens pos) newDict (firstAsync gens) (firstIter gens env):=rfl
theorem zdA (ke ve target iter:Expr)(ifs:List Expr)(scope:Scope)(pos:Pos)(it:Value)(d:Addr)(env:Env) :
  compTurn (.DictComp ke ve [⟨target,iter,ifs,0⟩] scope pos) 0 it (.ref d) env=(do
   standAt iter.pos
   match <- pyNext it with
   | none=>pure (.done .next)
   | some v=>
    letOwnedTupleGo target it v
    assign target env v
    let mut ok:=true
    for c in ifs do
     if ok then ok <- isTrue c env (eval c env)
    if ok then
     (do
      let kv <- eval ke env
      let vv <- holding [kv] (eval ve env)
      standAt { ke.pos with endLine:=ve.pos.endLine,endCol:=ve.pos.endCol }
      holding [kv,vv] (dictSet d kv vv))
    again (.compLoop (.DictComp ke ve [⟨target,iter,ifs,0⟩] scope pos) 0 it (.ref d) env)):=by rfl
section
variable {prog:Program}{w:World}{A:Around}{E:Value->Shared->Prop}{R:Result->Shared->Prop}{s:Shared}
theorem uM {ke ve target iter ifs zV scope pos it acc env}
  (h0:codeAny (model prog w) A (.compLoop (.DictComp ke ve (⟨target,iter,ifs,0⟩::zV) scope pos) 0 it acc env) R s)
  (h:wpAny (model prog w) A (pyIter it) (fun it' s'=>codeAny (model prog w) A (.compLoop (.DictComp ke ve (⟨target,iter,ifs,0⟩::zV) scope pos) 0 it' acc env) R s')
   (notedBy (model prog w) A env fun x s'=>R (.error x) s') s) :
  codeAny (model prog w) A (.compStart (.DictComp ke ve (⟨target,iter,ifs,0⟩::zV) scope pos) 0 it acc env) R s:=by
 refine dv ?_;show wpAny _ _ ((compStart (.DictComp ke ve (⟨target,iter,ifs,0⟩::zV) scope pos) 0 it acc env).onRaise (fun x=>do noteFrame x env;standAt theWindowsPlace)) _ _ s;refine wpAny_notedAt ?_;unfold compStart;show wpAny _ _ (ask >>= _) _ _ s;refine aa (bu (wpAny_ite ?_));split
 ·first
   | exact aa (ac (ac (And.intro rfl h0)))
   | exact ac (And.intro rfl h0)
 ·first
   | exact aa (eu (aa (bC (aa (aX h (fun it' s' h'=>ac (And.intro rfl h')) fun _ _ x=>x)))))
   | (refine aa (eu ?_);show wpAny _ _ (standAt iter.pos >>= _) _ _ s;exact aa (bC (aa (aX h (fun it' s' h'=>ac (And.intro rfl h')) fun _ _ x=>x))))
theorem za9 {ke ve target iter:Expr}{ifs:List Expr}{scope:Scope}{pos:Pos}{it:Value}{d:Addr}{env:Env}(I:Nat->Shared->Prop)
  (turn:∀n s,I n s->wpAny (model prog w) A (pyNext it) (fun r s₁=>match r with
   | none=>R (.ok .next) s₁
   | some v=>wpAny (model prog w) A (letOwnedTupleGo target it v) (fun _ s₂=>wpAny (model prog w) A (assign target env v) (fun _ s₃=>
     wpAny (model prog w) A (forIn ifs true fun c r=>if r=true then do let ok <- isTrue c env (eval c env);pure (ForInStep.yield ok) else pure (ForInStep.yield r)) (fun ok s₄=>
      if ok=true then wpAny (model prog w) A (eval ke env) (fun x s₅=>wpAny (model prog w) A (eval ve env) (fun y s₆=>
       wpAny (model prog w) A (dictSet d x y) (fun _ s₇=>∃m,m<n/\I m s₇) (fun _ _=>False) s₆) (fun _ _=>False) s₅) (fun _ _=>False) s₄
      else ∃m,m<n/\I m s₄) (fun _ _=>False) s₃) (fun _ _=>False) s₂) (fun _ _=>False) s₁) (fun _ _=>False) s)
  (n:Nat) (h:I n s) :
  codeAny (model prog w) A (.compLoop (.DictComp ke ve [⟨target,iter,ifs,0⟩] scope pos) 0 it (.ref d) env) R s:=by
 refine eP rfl I (fun n s hI=>?_) n h;show wpAny _ A ((compTurn (.DictComp ke ve [⟨target,iter,ifs,0⟩] scope pos) 0 it (.ref d) env).onRaise (fun x=>do noteFrame x env;theTreesLotGoes x)) _ _ s;refine fB ?_;rw[zdA];refine aa (bC (aa (aX (turn n s hI) (fun r s₁ h₁=>?_) fun _ _ h'=>h'.elim)))
 cases r with
 | none=>exact ac h₁
 | some v=>
  refine aa (aX h₁ (fun _ s₂ h₂=>?_) fun _ _ h'=>h'.elim);refine aa (aX h₂ (fun _ s₃ h₃=>aa (aX h₃ (fun ok s₄ h₄=>?_) fun _ _ h'=>h'.elim)) fun _ _ h'=>h'.elim)
  cases ok with
  | false=>exact ac ⟨rfl,h₄⟩
  | true=>
   refine aa (aa (aX h₄ (fun x s₅ h₅=>?_) fun _ _ h'=>h'.elim));refine aa (bB (aX h₅ (fun y s₆ h₆=>?_) fun _ _ h'=>h'.elim));refine aa (bC (bB (aX h₆ (fun _ s₇ h₇=>?_) fun _ _ h'=>h'.elim)));exact ac ⟨rfl,h₇⟩
theorem zhn {Q:Value->Shared->Prop}(h:Q (.ref s.heap.objs.size) { s with heap:=s.heap.push { cls:=.type "dict",data:=.dict #[] } }):wpAny (model prog w) A (newDict) Q E s:=by simp only[newDict,newObj];exact aa (fF (ac h))
end
section
variable {X:Cx}{pins:List (Addr×Obj)}{σ:St}{H:Hp}{s:Shared}{a:Addr}{y v:V}{u r:Value}{o:Option V}{A:Around}{E:Value->Shared->Prop}
theorem zez {H':Hp}{Q:Unit->Shared->Prop}(hu:A.units+1<cLine)(I:Inv X pins σ H s)(g:zek H a y v H')(Z:yF y u)(rv:yF v r)(h:∀s',Inv X pins σ H' s'->Q () s') :
  wpAny (model X.prog X.w) A (dictSet a u r) Q E s:=by
 rcases g with ⟨kvs,k,e,ey,l,eH⟩ | ⟨kvs,k,b,e,ey,eb,l,eH⟩
 ·subst ey eH;obtain⟨z,J,vs,B,L⟩:=zmZ I.hok e;have O:vs.length<=sizeLine:=by rw[<- B.length];exact z
  have U:(zam kvs k v).length<=sizeLine:=by have:=xJ kvs k v;lia
  refine wpAny_dictSet_pairs (hsz:=O) (zhk Z) L fun h' D Y=>h _ ?_;have he:∃q,h'.get? a=some q:=let ⟨q,_,_,F,_⟩:=D;⟨q,F⟩;exact zbZ I (by rw[e];exact True.intro) Y he (zic U J (B.put k rv) D)
 ·subst ey eH;cases (show u=Value.ref b from Z);obtain⟨z,J,xs,B,L⟩:=zpJ I.hok e;have O:xs.length<=sizeLine:=by rw[<- fw B];exact z
  have U:(zam kvs k v).length<=sizeLine:=by have:=xJ kvs k v;lia
  refine wpAny_dictSet_heap (hsz:=O) (Nat.lt_of_succ_lt hu) (zeQ I.hok eb) L fun h' D Y=>h _ ?_;obtain⟨q,es,ep,F,h2,h3,h4,_,h5⟩:=D;refine zbZ I (by rw[e];exact True.intro) Y ⟨q,F⟩ ⟨U,J,_,(B.put k eb rv).keeps fun c ys ec=>?_,q,es,ep,F,h2,h3,h4,h5⟩;rw[ze (zf0 ec e (fun z=>nomatch z))];exact ec
end
def zsH (g:TG)(ti:TT)(tk tv:TE)(acc:Addr)(N:St->Hp->Prop)(x:V)(σ:St)(H:Hp):Prop:=
 g x σ H fun q H3=>ti q H3 fun B H4=>if B=true then tk q H4 fun y H5=>tv q H5 fun v H6=>∃H7,zek H6 acc y v H7/\N q H7 else N q H4
def zsG (J:It)(g:TG)(ti:TT)(tk tv:TE)(acc:Addr)(Q:VK)(σ:St)(H:Hp):Prop:=∃W:Nat->Nat->St->Hp->Prop,(∃m,W 0 m σ H)/\
 ∀i m q H',W i m q H'->(J.stop i H'/\Q (.ref acc) H')\/(J.go i H'/\∃N:St->Hp->Prop,(∀ B H2,N B H2->∃D,D<m/\W (i+1) D B H2)/\∀x H2,J.yld i H' x H2->zsH g ti tk tv acc N x q H2)
def zka (o0:HO)(q:TI)(g:TG)(ti:TT)(tk tv:TE)(cix:List (Option Nat)):TE:=fun σ H Q=>q σ H fun J H1=>∀acc,H1 acc=none->zsG J g ti tk tv acc Q (uR σ cix) (upd H1 acc o0)
theorem zeV:typeLookup (.type "list") "keys" = pure none:=by rw[typeLookup_type,dR];kernel_rfl
theorem zcP {prog:Program}{w:World}{A:Around}{E:Value->Shared->Prop}{s:Shared}{a:Addr}{xs:Array Value}{k:Nat}{name:Str}{Q:Option Value->Shared->Prop}
  (hx:s.heap.get? a=some { cls:=.type "list",data:=.seq xs k }) (hmiss:typeLookup (.type "list") name=pure none) (hname:(["__module__","__name__","__qualname__","__doc__","__annotations__"]:List Str).contains name=false) (hA:A.handled=none)
  (h:∀h' tk e,Heap.NewExcOf s.heap h' e "AttributeError" -> Q none { s with heap:=h',toks:=tk }) (hsz:name.length+100<=sizeLine:=by size_fits) :
  wpAny (model prog w) A (getAttr? (.ref a) name) Q E s:=by
 obtain⟨hp,g,d,tk,os⟩:=s;have hT:∀tk',(⟨hp,g,d,tk',os⟩:Shared).TypeIs (.ref a) "list" := fun _=>⟨_,hx,rfl⟩;have f1:=sub_AttributeError;have f3:=F.slot_list_getattribute.lookup;have f4:=F.slot_list_getattribute.bind (.ref a);have f5:=am_list_getattr_none;unfold getAttr? getAttrBy? getAttrBy
 repeat (any_goals (first | assumption | exact hT _ | ((with_reducible show wpAny _ _ (call (Value.builtin "list.__getattribute__") _ _) _ _ _);refine et F.slot_list_getattribute (hT _) am_entry_list_getattribute (F.args_list_getattribute_2 _ _) (meets_getattribute_miss_list a xs k #[] name _ hmiss hname hsz) ⟨hx,hA,fun h' tk e hx'=>?_⟩) | wp_step))
 obtain⟨t',u',he⟩:=hx'.there;show wpAny _ _ (getattributeRaised _ _ _ _ _ _ _) _ _ _;unfold getattributeRaised
 repeat (any_goals (first | assumption | wp_step))
 exact h _ _ _ hx'.of
section
variable {X:Cx}{pins:List (Addr×Obj)}{σ:St}{H:Hp}{A:Around}
abbrev Pr:=Addr×Addr×List Int×V
structure PrL (H:Hp)(l:Addr)(ps:List Pr):Prop where
 at':H l=some (.lst (ps.map fun q=>V.ref q.1))
 one:∀q∈ps,H q.1=some (.tup [.ref q.2.1,q.2.2.2])/\H q.2.1=some (.tup (q.2.2.1.map V.int))
 nd:(ps.map (·.2.2.1)).Nodup
 few:ps.length<=500000
def prK (ps:List Pr):List (List Int×V):=ps.map fun q=>(q.2.2.1,q.2.2.2)
theorem zoe {ps:List Pr}{q:Pr}(h:q.2.2.1∉ps.map (·.2.2.1)):zam (prK ps) q.2.2.1 q.2.2.2=prK (ps++[q]):=by
 rw[zlA]
 ·unfold prK;rw[ax];rfl
 ·unfold zaZ prK;rw[eS.mpr]
  ·rfl
  ·intro x B;obtain⟨y,D,rfl⟩:=aH.mp B;intro e;exact h (aH.mpr ⟨y,D,bq e⟩)
theorem zhe {R:Result->Shared->Prop}{D F l:Addr}{ps:List Pr}(hh:A.in1.handled=none)(hu:A.in1.units+1<cLine)(J:PrL H l ps)(hD:H D=none)(hf:zbt X pins H F)(L:F≠D) :
  ∀ (k i:Nat) (s:Shared) (j:Int) (Z:Tok),ps.length - i=k->i<=ps.length->s.heap.IsListIter F l i->Inv X pins σ (upd H D (dtO (prK (ps.take i)))) s->
   (∀s',Inv X pins σ (upd H D (dtO (prK ps))) s'->R (.ok (.ret .none)) s')->
   codeAny (model X.prog X.w) A (.builtin "dict.update.loop" ⟨[.ref D,.ref F,.int j Z,.none],[]⟩) R s:=by
 have Y:∀ {b o},H b=some o->b≠D:=fun {b o} e z=>by rw[z,hD] at e;cases e
 obtain⟨f0,f1,f2,f3,f4,f5⟩:=hf;intro k
 induction k with
 | zero=>
  intro i s j Z hk hi hI I hR;have ad:i=ps.length:=by lia
  subst ad;rw[ba] at I;obtain⟨its,rv,p,hz⟩:=I.list (show SqL X.K _ l (ps.map fun q=>V.ref q.1) from .of (by rw[ze (Y J.at')];exact J.at'));refine eG y6 ?_;rw[ei z3 _];show wpAny _ A.in1 (pyNext (.ref F) >>= _) _ _ s;have hl:=rv.length;rw[ab] at hl;refine aa (wpAny_pyNext_list_end hh hI p.isList (by simp;lia) fun h' hx=>?_);show wpAny _ A.in1 (Builtin.Dict.addKeywords D [] >>= _) _ _ _;refine aa (ac (ac (hR _ (I.turned (t':=s.toks) (fun b o O e=>hx b o O e) (by rw[ze L];exact f0) f1 f3 f4 f5))))
 | succ k ih=>
  intro i s j Z hk hi hI I hR;have B:i<ps.length:=by lia
  have al:ps[i]∈ps:=bg B;obtain⟨o1,o2⟩:=J.one _ al;obtain⟨its,rv,p,hz⟩:=I.list (show SqL X.K _ l (ps.map fun q=>V.ref q.1) from .of (by rw[ze (Y J.at')];exact J.at'));have an:(ps.map fun q=>V.ref q.1)[i]?=some (V.ref ps[i].1):=by rw[au,ah B];rfl
  obtain⟨u,ap,ru⟩:=rv.get an;cases ru;refine eG y6 ?_;rw[ei z3 _];show wpAny _ A.in1 (pyNext (.ref F) >>= _) _ _ s;refine aa (wpAny_pyNext_list_item hI p.isList (x:=.ref ps[i].1) (by simpa using ap) fun h1 as av=>?_);have I1:Inv X pins σ (upd H D (dtO (prK (ps.take i)))) { s with heap:=h1 }:=I.turned (t':=s.toks) (fun b o O e=>(av.2 b O).trans e) (by rw[ze L];exact f0) f1 f3 f4 f5;obtain⟨_,us,U,ob,ho,hc,⟨n,hd⟩,_⟩:=(show yr X.prog X.w _ h1 ps[i].1 (.tup [.ref ps[i].2.1,ps[i].2.2.2]) from I1.hok _ _ (by rw[ze (Y o1)];exact o1))
  cases U with
  | cons rk U=>
   cases U with
   | @cons _ uv _ _ ru rn=>
    cases rn;cases rk;have hT:Shared.TypeIs { s with heap:=h1 } (.ref ps[i].1) "tuple" := ⟨ob,ho,hc⟩;refine aa (bB ?_);refine aa (wpAny_tryCatch ?_);unfold Builtin.Dict.pairItems;refine aa (cO hT ?_);rw[if_pos (by decide)];refine aa (zcM ho hd ?_);refine ac ?_;show wpAny _ _ (holding [Value.ref ps[i].2.1,uv] (dictSet D (Value.ref ps[i].2.1) uv)) _ _ _;refine bB ?_;have a0:zbt X pins (upd H D (dtO (prK (ps.take i)))) F:=⟨by rw[ze L];exact f0,f1,f2,f3,f4,f5⟩;obtain⟨oi,oe,oc,od⟩:=id as;have I2:=I1.pinned (fp:=[F]) (fun b O=>by rw[az.mp O];exact a0) (fun b O=>by rw[az.mp O];exact⟨oi,oe,fun v z=>by rw[od] at z;cases z⟩);have a1:(prK (ps.take i)).length<sizeLine:=by unfold prK;rw[ab,aN,bV];have:=J.few;lia
    refine zez hu I2 (zek.i (st:=ps[i].2.2.1) zj (by rw[ze (Y o2)];exact o2) a1) rfl ru fun s3 I3=>?_;rw[zo9,zoe (ps:=ps.take i) (q:=ps[i]),<- zl (ah B)] at I3
    ·refine ac ⟨plainId_quiet z3 _,ih (i+1) _ (j+1) _ (by lia) B ?_ I3.unpinned hR⟩;exact⟨oi,(I3.pin (F,oi) (ak _ (ak _ (zG (by simp) oe)))).1,oc,od⟩
    ·have:=J.nd;intro z;obtain⟨y,hy,e⟩:=aH.mp z;obtain⟨j,hj,e2⟩:=bH.mp hy;rw[aN] at hj;have a2:j<ps.length:=by lia
     have e3:ps[j]=y:=by rw[<- e2,dD]
     have:=(cj (h₀:=by rw[ab];exact a2) (h₁:=by rw[ab];exact B) J.nd).mp (by rw[cC,cC,e3];exact e);lia
def zmy:List V->Hp->VK->Prop:=fun xs H Q=>∃ (l:Addr) (ps:List Pr),xs=[.ref l]/\PrL H l ps/\New H (dtO (prK ps)) Q
theorem zkD (hc:X.calm=true)(hu:X.A.units+64<cLine):CallQ X (.type "dict") zmy:=⟨by
 intro pins s σ H xs us Q I rr hh;obtain⟨l,ps,rfl,hp,q⟩:=hh;obtain⟨u,rfl,ru⟩:=za0 rr;cases ru;have hf:H s.heap.objs.size=none:=I.hok.fresh (ag _);refine callType_codes (Q₁:=fun obj s₁=>obj = .ref s.heap.objs.size/\s₁={ s with heap:=s.heap.push { cls:=.type "dict",data:=.dict #[] } }) F.kt_called_dict (F.kt_typeCall_dict_1 _) F.entry_dict_init (kt_code_dict_new _ ⟨rfl,rfl⟩) ?_;rintro obj s₁ ⟨rfl,rfl⟩;have hD0:(s.heap.push { cls:=.type "dict",data:=.dict #[] }).get? s.heap.objs.size=some { cls:=.type "dict",data:=.dict #[] }:=aK _ rfl;have hT0:Shared.TypeIs { s with heap:=s.heap.push { cls:=.type "dict",data:=.dict #[] } } (.ref s.heap.objs.size) "dict" := ⟨_,hD0,rfl⟩;have nD:∀ {b o},H b=some o->b≠s.heap.objs.size:=fun {b o} e z=>by rw[z,hf] at e;cases e
 have I1:Inv X pins σ (upd H s.heap.objs.size (dtO [])) { s with heap:=s.heap.push { cls:=.type "dict",data:=.dict #[] } }:=I.laid (t':=s.toks) (fun b o e=>af _ e) (ag _) ⟨aT _,da.mpr (Ne.symm (aM I.big)),[],.nil,_,#[],0,hD0,⟨rfl,rfl,rfl⟩,rfl,rfl,.nil⟩;obtain⟨hz,its,n,rv,ho⟩:=(show yr X.prog X.w _ _ l (.lst _) from I1.hok l _ (by rw[ze (nD hp.at')];exact hp.at'));have hT1:Shared.TypeIs { s with heap:=s.heap.push { cls:=.type "dict",data:=.dict #[] } } (.ref l) "list" := ⟨_,ho,rfl⟩;refine⟨hT0,F.args_dict_init_2 _ _,?_⟩;unfold Builtin.«dict.__init__»;refine aa ?_;unfold Builtin.Dict.selfAndRest;refine aa (wpAny_notOrdered_dict hT0 ?_);show wpAny _ _ (pure (s.heap.objs.size,[Value.ref l])) _ _ _;refine ac ?_;show wpAny _ _ (Builtin.Dict.updateFrom "dict.__init__" s.heap.objs.size (.ref l) [] .none) _ _ _;unfold Builtin.Dict.updateFrom;refine aa (cO hT1 ?_);rw[if_pos (by decide)];have hh:X.A.handled=none:=I.ok.hd hc;refine aa (zcP ho zeV (by decide) (by simp[hh]) (fun h2 tk e hx=>?_) (by decide));rw[if_pos (by rfl)];refine aa (eu ?_);have I2:Inv X pins σ (upd H s.heap.objs.size (dtO [])) { s with heap:=h2,toks:=tk }:=I1.kept (t':=tk) hx.keeps;refine aa (eZ (s:={ s with heap:=h2,toks:=tk }) (items:=its.toArray) ⟨_,hx.keeps _ _ ho,rfl,n,rfl⟩ ?_);have I3:Inv X pins σ (upd H s.heap.objs.size (dtO (prK (ps.take 0)))) _:=I2.kept (t':=tk) (h':=h2.push { cls:=.type "list_iterator",data:=.fields #[.ref l,.int 0 0] }) fun b o e=>af _ e;have hlt:s.heap.objs.size<h2.objs.size:=ay (hx.keeps _ _ hD0);refine ac ⟨plainId_quiet z3 _,?_⟩;refine zhe (X:=X) (pins:=pins) (σ:=σ) (H:=H) (A:=X.A.in1) (ps:=ps) (l:=l) (by simp[hh]) (by simpa using (show X.A.units+1+1+1<cLine by lia)) hp hf ?_ (Ne.symm (aM hlt)) (ps.length - 0) 0 _ _ _ rfl (aT _) ⟨_,aK _ rfl,rfl,rfl⟩ I3 fun s' I'=>⟨rfl,?_⟩
 ·have:=I2.fpOk (H':=H) (b:=h2.objs.size) (ag _) ?_
  ·exact this
  ·have:=I2.hok.fresh (ag h2.objs.size);rwa[ze (Ne.symm (aM hlt))] at this
 ·exact⟨.ref s.heap.objs.size,_,I',rfl,q.at hf⟩⟩
end
end L2
namespace L3
open PySem PySem.Spec L2
section
variable {X:Cx}{Pn:Option zm}{M S:List Nat}{fr fr':Bool}{e a b c:Expr}{es:List Expr}{f fa fb fc:Ev->Mo W}{pos p:Pos}
theorem zjl (ks:List (List Int×V)):NP (dtO ks):=fun _ e=>by cases e
def zma (mg:W->Ev->(Ev->Prop)->Prop)(L:Ev->Mo Bool)(fk fv:Ev->Mo W)(F:Ev)(Q:W->Nat->Prop):List W->Nat->Prop:=fun l O=>l.length<=lim/\∃I:Nat->Ev->Nat->List (List Int×Dt)->Prop,I 0 F O []/\
 (∀i w B D acc,l[i]?=some w->I i B D acc->mg w B fun q=>L q D fun b J=>if b=true then fk q J fun y U=>fv q U fun x Y=>∃st d,y = .d (stD st)/\x = .d d/\I (i+1) q Y (zgW acc st d) else I (i+1) q J acc)/\
 ∀ B D acc,I l.length B D acc->Q (.dt acc) D
@[reducible] def zi7 (q:Ev->Mo (List W)) (mg:W->Ev->(Ev->Prop)->Prop) (B:Ev->Mo Bool) (fk fv:Ev->Mo W) (cix:List (Option Nat)):Ev->Mo W:=fun ρ n Q=>q ρ n (zma mg B fk fv (zcQ ρ cix) Q)
def zpH (mg:W->Ev->(Ev->Prop)->Prop)(L:Ev->Mo Bool)(fk fv:Ev->Mo W)(F:Ev)(Q:W->Nat->Prop):List W->Nat->Prop:=fun l O=>l.length<=lim/\∃I:Nat->Ev->Nat->List (Key×Dt)->Prop,I 0 F O []/\
 (∀i w B D acc,l[i]?=some w->I i B D acc->mg w B fun q=>L q D fun b J=>if b=true then fk q J fun y U=>fv q U fun x Y=>∃ (j:Int) (d:Dt),y = .d (.int j)/\x = .d d/\I (i+1) q Y (zgW acc (Sum.inl j) d) else I (i+1) q J acc)/\
 ∀ B D acc,I l.length B D acc->Q (.dk acc) D
@[reducible] def zs5 (q:Ev->Mo (List W)) (mg:W->Ev->(Ev->Prop)->Prop) (B:Ev->Mo Bool) (fk fv:Ev->Mo W) (cix:List (Option Nat)):Ev->Mo W:=fun ρ n Q=>q ρ n (zpH mg B fk fv (zcQ ρ cix) Q)
theorem zjT {wi:TI}{g:TG}{ti:TT}{tk tv:TE}{cix:List (Option Nat)}{fi:Ev->Mo (List W)}{mg:W->Ev->(Ev->Prop)->Prop}{ft:Ev->Mo Bool}{fk fv:Ev->Mo W}{ow:Bool}(hn:(cix.filterMap id).Nodup)
  (hi:RI Pn M ow wi fi) (hg:RG (yM M cix) (yM M cix) g mg) (ht:RT Pn (yM M cix) ti ft) (O:RB Pn (yM M cix) tk fk) (he:RE Pn (yM M cix) fr' tv fv):RE Pn M true (zka (.dT []) wi g ti tk tv cix) (zi7 fi mg ft fk fv cix):=⟨fun A σ H ρ n Q R E P hf k=>by
 refine hi.run A σ H ρ n _ _ E P hf fun l m J H1 ⟨hz,I,i0,it,ie⟩ iv g1=>fun acc B=>?_;have E1:=E.stay g1.st;have E2:=(E1.cap hn).more (zv.upd (o:=.dT []) B) (Fr.of B) zj (zjl []) (by intro xs z;cases z);have P2:y2 Pn (fun b=>A b\/b=acc) m (L2.upd H1 acc (.dT [])):=g1.pn.grow (g1.pn.same (y4.upd B)) (Fr.of B) zj (zjl [])
 have a0:∀k w,k∈yM M cix->(zcQ ρ cix)[k]?=some (some w)->(uR σ cix)[k]?≠some (some (.ref acc)):=fun k w O hw z=>by obtain⟨v,s1,_,s3⟩:=(E1.cap hn).val k w hw;obtain⟨a,e,hA,_⟩:=s3 O;rw[z] at s1;cases s1;cases e;exact E1.new B hA
 have key:∀ F D H',EnvR (fun b=>A b\/b=acc) (yM M cix) F H' D->(∀k∈yM M cix,F[k]?=(uR σ cix)[k]?/\D[k]?=(zcQ ρ cix)[k]?)->∀k w,k∈yM M cix->D[k]?=some (some w)->F[k]?≠some (some (.ref acc)):=fun F D H' E' al k w O hw z=>by obtain⟨f1,f2⟩:=al k O;rw[f1] at z;rw[f2] at hw;exact a0 k w O hw z
 refine⟨fun i mm F H'=>mm=l.length - i/\i<=l.length/\∃ D n' q xs,EnvR (fun b=>A b\/b=acc) (yM M cix) F H' D/\y2 Pn (fun b=>A b\/b=acc) n' H'/\I i D n' q/\H' acc=some (dtO xs)/\uQ (z7 (fun b=>A b\/b=acc) H') q xs/\q.length<=i/\zv (z7 A H1) (z7 (fun b=>A b\/b=acc) H')/\zv H1 H'/\(∀k∈yM M cix,F[k]?=(uR σ cix)[k]?/\D[k]?=(zcQ ρ cix)[k]?),
  ⟨l.length,by simp,aT _,_,m,[],[],E2,P2,i0,zj,rfl,ag _,yB (zv.upd B) (Fr.of B),zv.upd B,fun k O=>⟨rfl,rfl⟩⟩,?_⟩
 rintro i mm F H' ⟨rfl,a5,D,n',q,xs,E',P',hI,an,U,a7,st,s1,al⟩;by_cases a1:i<l.length
 ·right;have as:l[i]?=some l[i]:=ah a1;obtain⟨go,yl⟩:=iv.one i l[i] _ H' as st (fun _=>s1) fun p hp=>E'.new hp
  refine⟨go,fun av H2=>∃ D n' q xs,EnvR (fun b=>A b\/b=acc) (yM M cix) av H2 D/\y2 Pn (fun b=>A b\/b=acc) n' H2/\I (i+1) D n' q/\H2 acc=some (dtO xs)/\uQ (z7 (fun b=>A b\/b=acc) H2) q xs/\q.length<=i+1/\zv (z7 A H1) (z7 (fun b=>A b\/b=acc) H2)/\zv H1 H2/\(∀k∈yM M cix,av[k]?=(uR σ cix)[k]?/\D[k]?=(zcQ ρ cix)[k]?),
   fun av H2 h=>⟨l.length - (i+1),by lia,rfl,a1,h⟩,fun x H2 hy=>?_⟩
  obtain⟨S2,V2⟩:=yl x H2 hy;refine hg.run _ F H2 D x l[i] _ _ (E'.stay (zv.same S2)) V2 (it i l[i] D n' q as hI) fun Y L r3 E3 f3=>?_;have Z:∀k∈yM M cix,Y[k]?=(uR σ cix)[k]?/\L[k]?=(zcQ ρ cix)[k]?:=fun k O=>⟨(f3 k O).1.trans (al k O).1,(f3 k O).2.trans (al k O).2⟩;refine ht.run _ Y H2 L n' _ _ E3 (P'.same S2) r3 fun b m3 H4 r4 g4=>?_;have ad:=(zv.same S2).trans g4.st
  cases b with
  | false=>
   rw[if_neg (by decide)] at r4 ⊢;exact⟨L,m3,q,xs,E3.stay g4.st,g4.pn,r4,ad _ _ an (zjl _),U.stay (zM ad),by lia,st.trans (zM ad),s1.trans ad,Z⟩
  | true=>
   rw[if_pos rfl] at r4 ⊢;refine O.run _ Y H4 L m3 _ _ (E3.stay g4.st) g4.pn r4 fun y5 m5 u5 H5 r5 B5 g5=>?_;refine he.run _ Y H5 L m5 _ _ ((E3.stay g4.st).stay g5.st) g5.pn r5  ?_;rintro w6 m6 v6 H6 ⟨ky,d,ey,e6,r6⟩ V6 g6 _;subst ey e6;have ap:=(ad.trans g5.st).trans g6.st;have E6:=((E3.stay g4.st).stay g5.st).stay g6.st;have a2:H6 acc=some (dtO xs):=ap _ _ an (zjl _);obtain⟨bd,zs,rfl,a3,hx⟩:=xG (B5.stay g6.st);obtain rfl:=hx.of_ints;have bb:=zjG q ky d;refine⟨_,zek.i a2 a3 (zeU (by rw[U.len];lia)),L,m6,zgW q ky d,zam xs ky v6,E6.upd (.inr rfl) (key Y L H6 E6 Z) (zjl _) (by intro xs z;cases z),g6.pn.upd (.inr rfl),r6,zj,?_,by lia,?_,?_,Z⟩
   ·rw[yn (.inr rfl)];exact (U.stay (zM ap)).put V6.is
   ·rw[yn (.inr rfl)];exact st.trans (zM ap)
   ·exact fun b o e nn=>by rw[ze (zc e B)];exact s1.trans ap b o e nn
 ·left;have a4:i=l.length:=by lia
  subst a4;refine⟨iv.stop _ H' st (fun _=>s1),k _ n' _ H' (ie D n' q hI) ⟨acc,xs,rfl,zy (E1.new B) an,U.stay (zv.same (yV fun b z=>.inl z))⟩ (g1.trans ⟨s1,P'.less fun a z=>.inl z⟩) fun _=>⟨acc,rfl,(Fr.of B).back g1.st,acc,xs,rfl,an,U⟩⟩⟩
end
open PySem PySem.Spec L2
@[reducible] def onI (w:W) (P:Int->Prop):Prop:=match w with | .d (.int i)=>P i | _=>False
@[reducible] def onB (w:W) (P:Bool->Prop):Prop:=match w with | .d (.bl i)=>P i | _=>False
@[reducible] def onT (w:W) (P:List Dt->Prop):Prop:=match w with | .d (.tup i)=>P i | _=>False
@[reducible] def onL (w:W) (P:List Dt->Prop):Prop:=match w with | .d (.lst i)=>P i | _=>False
@[reducible] def onS (w:W) (P:List Dt->Prop):Prop:=match w with | .d (.lst i)=>P i | .d (.tup i)=>P i | _=>False
@[reducible] def onD (w:W) (P:Dt->Prop):Prop:=match w with | .d i=>P i | _=>False
@[reducible] def onK (w:W) (P:List (Key×Dt)->Prop):Prop:=match w with | .dk i=>P i | _=>False
@[reducible] def onE (w:W) (P:List (List Int×Dt)->Prop):Prop:=match w with | .dt i=>P i | _=>False
@[reducible] def onO {α:Type} (o:Option α) (P:α->Prop):Prop:=match o with | some i=>P i | none=>False
@[reducible] def onC (c:Bool) (A B:Prop):Prop:=match c with | true=>A | false=>B
@[reducible] def on1 (l:List W) (P:W->Prop):Prop:=match l with | [a]=>P a | _=>False
@[reducible] def on2 (l:List W) (P:W->W->Prop):Prop:=match l with | [a,b]=>P a b | _=>False
@[reducible] def onV:Ev->Nat->(W->Prop)->Prop
 | [],_,_=>False
 | a::_,0,P=>onO a P
 | _::r,i+1,P=>onV r i P
@[reducible] def onP:Ev->Nat->W->(Ev->Prop)->Prop
 | [],_,_,Q=>Q []
 | _::r,0,w,Q=>Q (some w::r)
 | a::r,i+1,w,Q=>onP r i w fun q=>Q (a::q)
@[reducible] def onN:Ev->Nat->(Ev->Prop)->Prop
 | [],_,Q=>Q []
 | _::r,0,Q=>Q (none::r)
 | a::r,i+1,Q=>onN r i fun q=>Q (a::q)
@[reducible] def zdX {α:Type}:Nat->List α->Prop->Prop
 | 0,[],P=>P
 | k+1,_::r,P=>zdX k r P
 | _,_,_=>False
theorem uI {w:W}{P:Int->Prop}:onI w P = ∃i,w = .d (.int i)/\P i:=propext ⟨fun h=>by rcases w with (x|x|x|x|_|_) <;> first | exact False.elim h | (cases x <;> first | exact False.elim h | exact⟨_,rfl,h⟩),by rintro⟨i,e,h⟩;subst e;exact h⟩
theorem zmo {w:W}{P:Bool->Prop}:onB w P = ∃i,w = .d (.bl i)/\P i:=propext ⟨fun h=>by rcases w with (x|x|x|x|_|_) <;> first | exact False.elim h | (cases x <;> first | exact False.elim h | exact⟨_,rfl,h⟩),by rintro⟨i,e,h⟩;subst e;exact h⟩
theorem zde {w:W}{P:List Dt->Prop}:onT w P = ∃i,w = .d (.tup i)/\P i:=propext ⟨fun h=>by rcases w with (x|x|x|x|_|_) <;> first | exact False.elim h | (cases x <;> first | exact False.elim h | exact⟨_,rfl,h⟩),by rintro⟨i,e,h⟩;subst e;exact h⟩
theorem xN {w:W}{P:List Dt->Prop}:onL w P = ∃i,w = .d (.lst i)/\P i:=propext ⟨fun h=>by rcases w with (x|x|x|x|_|_) <;> first | exact False.elim h | (cases x <;> first | exact False.elim h | exact⟨_,rfl,h⟩),by rintro⟨i,e,h⟩;subst e;exact h⟩
theorem zgQ {w:W}{P:List Dt->Prop}:onS w P = ∃i,(w = .d (.lst i)\/w = .d (.tup i))/\P i:=propext ⟨fun h=>by rcases w with (x|x|x|x|_|_) <;> first | exact False.elim h | (cases x <;> first | exact False.elim h | exact⟨_,.inl rfl,h⟩ | exact⟨_,.inr rfl,h⟩),by rintro⟨i,e,h⟩;rcases e with e | e <;> subst e <;> exact h⟩
theorem xM {w:W}{P:Dt->Prop}:onD w P = ∃i,w = .d i/\P i:=propext ⟨fun h=>by cases w <;> first | exact False.elim h | exact⟨_,rfl,h⟩,by rintro⟨i,e,h⟩;subst e;exact h⟩
theorem zjr {w:W}{P:List (List Int×Dt)->Prop}:onE w P = ∃i,w = .dt i/\P i:=propext ⟨fun h=>by cases w <;> first | exact False.elim h | exact⟨_,rfl,h⟩,by rintro⟨i,e,h⟩;subst e;exact h⟩
theorem zcp {α:Type}{w:Option α}{P:α->Prop}:onO w P = ∃i,w=some i/\P i:=propext ⟨fun h=>by cases w <;> first | exact False.elim h | exact⟨_,rfl,h⟩,by rintro⟨i,e,h⟩;subst e;exact h⟩
theorem zbi {c:Bool}{A B:Prop}:onC c A B=if c=true then A else B:=by cases c <;> simp[onC]
theorem zaq {l:List W}{P:W->Prop}:on1 l P = ∃a,l=[a]/\P a:=propext ⟨fun h=>by rcases l with (_|⟨a,_|⟨b,l⟩⟩) <;> first | exact False.elim h | exact⟨_,rfl,h⟩,by rintro⟨i,e,h⟩;subst e;exact h⟩
theorem zqp {l:List W}{P:W->W->Prop}:on2 l P = ∃a b,l=[a,b]/\P a b:=propext ⟨fun h=>by rcases l with (_|⟨a,_|⟨b,_|⟨c,l⟩⟩⟩) <;> first | exact False.elim h | exact⟨_,_,rfl,h⟩,by rintro⟨i,j,e,h⟩;subst e;exact h⟩
theorem zar:∀ {ρ:Ev} {i:Nat} {P:W->Prop},onV ρ i P = ∃w,ρ[i]?=some (some w)/\P w
 | [],i,P=>by simp[onV]
 | some w::r,0,P=>by simp[onV]
 | none::r,0,P=>by simp[onV]
 | some w::r,i+1,P=>by simpa [onV] using zar (ρ:=r) (i:=i) (P:=P)
 | none::r,i+1,P=>by simpa [onV] using zar (ρ:=r) (i:=i) (P:=P)
theorem uJ:∀ {ρ:Ev} {i:Nat} {w:W} {Q:Ev->Prop},onP ρ i w Q=Q (ρ.set i (some w))
 | [],i,w,Q=>rfl
 | a::r,0,w,Q=>rfl
 | a::r,i+1,w,Q=>by rw[onP,uJ];rfl
theorem zmp:∀ {ρ:Ev} {i:Nat} {Q:Ev->Prop},onN ρ i Q=Q (ρ.set i none)
 | [],i,Q=>rfl
 | a::r,0,Q=>rfl
 | a::r,i+1,Q=>by rw[onN,zmp];rfl
theorem zbL {α:Type}:∀ {k:Nat} {l:List α} {P:Prop},zdX k l P=(l.length=k/\P)
 | 0,[],P=>by simp[zdX]
 | 0,a::r,P=>by simp[zdX]
 | k+1,[],P=>by simp[zdX]
 | k+1,a::r,P=>by simp[zdX,zbL (l:=r)]
theorem xC {P:Prop}[Decidable P]{A B:Prop}(h1:P->A)(h2:¬ P->B):onC (decide P) A B:=by
 by_cases h:P
 ·rw[aL h];exact h1 h
 ·rw[aO h];exact h2 h
theorem zjq {P:Prop}[Decidable P]{A B:Prop}(h1:¬ P->A)(h2:P->B):onC (!decide P) A B:=by
 by_cases h:P
 ·rw[aL h];exact h2 h
 ·rw[aO h];exact h1 h
theorem zdV {c:Bool}{A B:Prop}(h1:c=true->A)(h2:c=false->B):onC c A B:=by
 cases c
 ·exact h2 rfl
 ·exact h1 rfl
theorem ztm {c:Bool}{A B:Prop}(h:c=true)(h1:A):onC c A B:=by subst h;exact h1
theorem ztl {c:Bool}{A B:Prop}(h:c=false)(h1:B):onC c A B:=by subst h;exact h1
theorem zbB {α:Type}{o:Option α}{a:α}{P:α->Prop}(e:o=some a)(h:P a):onO o P:=by subst e;exact h
theorem onA {st:List Int}{b:Int}{P:Dt->Prop}(q:0<=b)(h1:b<st.length)(h:P (.int (yf st b))):onO (atI (st.map Dt.int) b) P:=zbB (zmO q h1) h
theorem znQ {L:List Dt}{a:Int}{P:Dt->Prop}(q:0<=a)(h1:a<L.length)(h:∀x∈L,P x):onO (atI L a) P:=by obtain⟨x,e,B⟩:=zpp q h1 h;exact zbB e B
section
variable {X:Cx}{Pn:Option zm}{M S:List Nat}{fr fr':Bool}{e a b c:Expr}{es:List Expr}{f fa fb fc g:Ev->Mo W}{pos p:Pos}{t u:Ev->Mo Bool}{fs gs:Ev->Mo (List W)}
theorem wE (h:f=g)(j:JE X Pn M fr e f):JE X Pn M fr e g:=h ▸ j
theorem wB (h:f=g)(j:JB X Pn M e f):JB X Pn M e g:=h ▸ j
theorem wT (h:t=u)(j:JT X Pn M e t):JT X Pn M e u:=h ▸ j
theorem wW (h:t=u)(j:JW X Pn M e t):JW X Pn M e u:=h ▸ j
theorem wO {f g:Ev->Mo (Option Int)}{e:Option Expr}(h:f=g)(j:JO X Pn M e f):JO X Pn M e g:=h ▸ j
theorem wG {f g:W->Ev->(Ev->Prop)->Prop}(h:f=g)(j:JG X S M e f):JG X S M e g:=h ▸ j
theorem wH {f g:List Dt->Ev->(Ev->Prop)->Prop}(h:f=g)(j:JGs X S M es f):JGs X S M es g:=h ▸ j
theorem wI {tg:Expr}{q:Bool}(h:fs=gs)(j:JI X Pn M q tg e fs):JI X Pn M q tg e gs:=h ▸ j
theorem wS {s:Stmt}{f g:Ms}(h:f=g)(j:JS X Pn S M fr s f):JS X Pn S M fr s g:=h ▸ j
@[reducible] def zph (i:Nat):Ev->Mo W:=fun ρ n Q=>onV ρ i fun w=>Q w n
theorem zjd {i:Nat}:zqj i=zph i:=by funext ρ n Q;exact zar.symm
theorem kv (i:Nat){x:Str}(hi:i∉M:=by decide)(B:X.N[i]?=some x:=by rfl)(D:Vis X.env.scope x:=by walk_at "v")(F:(x==("__debug__" : Str))=false:=by decide)
  (q:(x==("__classdict__" : Str))=false:=by decide):JE X Pn M false (.Name x pos) (zph i):=wE zjd (zsX i hi B D F q)
theorem kb (i:Nat){x:Str}(B:X.N[i]?=some x:=by rfl)(D:Vis X.env.scope x:=by walk_at "v")(F:(x==("__debug__" : Str))=false:=by decide)
  (q:(x==("__classdict__" : Str))=false:=by decide):JB X Pn M (.Name x pos) (zph i):=wB zjd (zsU i B D F q)
@[reducible] def dTst (fa:Ev->Mo W):Ev->Mo Bool:=fun ρ n Q=>fa ρ n fun x m=>onB x fun c=>Q c m
theorem zn:zqh fa=dTst fa:=by funext ρ n Q;simp only[zqh,dTst,zmo]
@[reducible] def dAnd (t u:Ev->Mo Bool):Ev->Mo Bool:=fun ρ n Q=>t ρ n fun c m=>onC c (u ρ m Q) (Q false m)
theorem zay:zr5 t u=dAnd t u:=by funext ρ n Q;simp only[zr5,dAnd,zbi]
@[reducible] def dOr (t u:Ev->Mo Bool):Ev->Mo Bool:=fun ρ n Q=>t ρ n fun c m=>onC c (Q true m) (u ρ m Q)
theorem zgM:mOr t u=dOr t u:=by funext ρ n Q;simp only[mOr,dOr,zbi]
@[reducible] def dNot (t:Ev->Mo Bool):Ev->Mo Bool:=fun ρ n Q=>t ρ n fun c m=>onC c (Q false m) (Q true m)
theorem zcj:ztd t=dNot t:=by funext ρ n Q;simp only[ztd,dNot];congr 1;funext c m;cases c <;> rfl
@[reducible] def dAndV (fa fb:Ev->Mo W):Ev->Mo W:=fun ρ n Q=>fa ρ n fun x m=>onB x fun c=>onC c (fb ρ m Q) (Q (.d (.bl false)) m)
@[reducible] def dOrV (fa fb:Ev->Mo W):Ev->Mo W:=fun ρ n Q=>fa ρ n fun x m=>onB x fun c=>onC c (Q (.d (.bl true)) m) (fb ρ m Q)
@[reducible] def dNotV (fa:Ev->Mo W):Ev->Mo W:=fun ρ n Q=>fa ρ n fun x m=>onB x fun c=>Q (.d (.bl (!c))) m
@[reducible] def dIf (t:Ev->Mo Bool) (fa fb:Ev->Mo W):Ev->Mo W:=fun ρ n Q=>t ρ n fun c m=>onC c (fa ρ m Q) (fb ρ m Q)
@[reducible] def dI (C:Int->Int->Prop) (g:Int->Int->Dt):W->W->Mo W:=fun x y n Q=>onI x fun i=>onI y fun j=>C i j/\Q (.d (g i j)) n
theorem zpN {C:Int->Int->Prop}{g:Int->Int->Dt}:fI C g=dI C g:=by funext x y n Q;simp only[dI,uI];exact propext ⟨by rintro⟨i,j,q,B,h⟩;exact⟨i,q,j,B,h⟩,by rintro⟨i,q,j,B,h⟩;exact⟨i,j,q,B,h⟩⟩
@[reducible] def dI0 (g:Int->Int->Dt):W->W->Mo W:=fun x y n Q=>onI x fun i=>onI y fun j=>Q (.d (g i j)) n
theorem zeC {g:Int->Int->Dt}:fI0 g=dI0 g:=by funext x y n Q;simp only[dI0,uI];exact propext ⟨by rintro⟨i,j,q,B,h⟩;exact⟨i,q,j,B,h⟩,by rintro⟨i,q,j,B,h⟩;exact⟨i,j,q,B,h⟩⟩
theorem zaY:F2 Pn false (rI0 fun i j=>.int (i+j)) (dI0 fun i j=>.int (i+j)):=zeC ▸ ztV
theorem zrK:F2 Pn false (rI0 fun i j=>.int (i - j)) (dI0 fun i j=>.int (i - j)):=zeC ▸ zt4
theorem zrF:F2 Pn false (rI zpf fun i j=>.int (i / j)) (dI zpf fun i j=>.int (i / j)):=zpN ▸ zrQ
theorem zrI:F2 Pn false (rI (fun _ j=>0<j) fun i j=>.int (i % j)) (dI (fun _ j=>0<j) fun i j=>.int (i % j)):=zpN ▸ zt2
theorem u_lt:F2 Pn false (rI0 fun i j=>.bl (decide (i<j))) (dI0 fun i j=>.bl (decide (i<j))):=zeC ▸ v_lt
theorem u_le:F2 Pn false (rI0 fun i j=>.bl (decide (i<=j))) (dI0 fun i j=>.bl (decide (i<=j))):=zeC ▸ v_le
theorem u_gt:F2 Pn false (rI0 fun i j=>.bl (decide (i > j))) (dI0 fun i j=>.bl (decide (j<i))):=zeC ▸ v_gt
@[reducible] def dNeg:W->Mo W:=fun x n Q=>onI x fun i=>Q (.d (.int (-i))) n
@[reducible] def dEq:W->W->Mo W:=fun x y n Q=>onD x fun a=>onD y fun b=>onO (sEq a b) fun r=>Q (.d (.bl r)) n
theorem zpM:fEq=dEq:=by funext x y n Q;simp only[fEq,dEq,xM,zcp];exact propext ⟨by rintro⟨a,b,r,q,B,D,h⟩;exact⟨a,q,b,B,r,D,h⟩,by rintro⟨a,q,b,B,r,D,h⟩;exact⟨a,b,r,q,B,D,h⟩⟩
@[reducible] def dNe:W->W->Mo W:=fun x y n Q=>onD x fun a=>onD y fun b=>onO (sEq a b) fun r=>Q (.d (.bl (!r))) n
theorem zpP:fNe=dNe:=by funext x y n Q;simp only[fNe,dNe,xM,zcp];exact propext ⟨by rintro⟨a,b,r,q,B,D,h⟩;exact⟨a,q,b,B,r,D,h⟩,by rintro⟨a,q,b,B,r,D,h⟩;exact⟨a,b,r,q,B,D,h⟩⟩
theorem zcL:F2 Pn false rEq dEq:=zpM ▸ v_eq
theorem zrJ:F2 Pn false rNe dNe:=zpP ▸ v_ne
@[reducible] def zsu:W->W->Mo W:=fun x y n Q=>onD x fun a=>onD y fun b=>a.eqOk/\b.eqOk/\∀r:Bool,(r=true↔a=b)->Q (.d (.bl r)) n
@[reducible] def zsE:W->W->Mo W:=fun x y n Q=>onD x fun a=>onD y fun b=>a.eqOk/\b.eqOk/\∀r:Bool,(r=true↔a=b)->Q (.d (.bl (!r))) n
theorem zm4:zsJ=zsu:=by funext x y n Q;simp only[zsJ,zsu,xM];exact propext ⟨by rintro⟨a,b,q,B,h⟩;exact⟨a,q,b,B,h⟩,by rintro⟨a,q,b,B,h⟩;exact⟨a,b,q,B,h⟩⟩
theorem zm9:zsO=zsE:=by funext x y n Q;simp only[zsO,zsE,xM];exact propext ⟨by rintro⟨a,b,q,B,h⟩;exact⟨a,q,b,B,h⟩,by rintro⟨a,q,b,B,h⟩;exact⟨a,b,q,B,h⟩⟩
theorem zrE:F2 Pn false zsd zsu:=zm4 ▸ ztX
theorem zlT:F2 Pn false zsh zsE:=zm9 ▸ zt3
@[reducible] def dIsB:W->W->Mo W:=fun x y n Q=>onB x fun a=>onB y fun b=>Q (.d (.bl (a==b))) n
@[reducible] def zsx:W->W->Mo W:=fun x y n Q=>onB x fun a=>onB y fun b=>Q (.d (.bl (a != b))) n
@[reducible] def dInI:W->W->Mo W:=fun x y n Q=>onI x fun b=>onS y fun l=>∃ns:List Int,l=ns.map .int/\Q (.d (.bl (ns.contains b))) n
@[reducible] def zfA:W->W->Mo W:=fun x y n Q=>onI x fun b=>onS y fun l=>∃ns:List Int,l=ns.map .int/\Q (.d (.bl (!ns.contains b))) n
theorem zhi:zfF=zfA:=by funext x y n Q;simp only[zfF,zfA,uI,zgQ];exact propext ⟨by rintro⟨a,b,q,B,h⟩;exact⟨a,q,_,B,b,rfl,h⟩,by rintro⟨a,q,l,B,b,e,h⟩;subst e;exact⟨a,b,q,B,h⟩⟩
theorem zlU {K:PySem.W.Frag}:F2 Pn false (rIn K true) zfA:=zhi ▸ zlV
@[reducible] def xr:Bool->Bool->Bool
 | false,b=>b
 | true,b=>!b
@[reducible] def zsw (q:Bool):W->W->Mo W:=fun x y n Q=>onD x fun d=>onS y fun ds=>d.eqOk/\(Dt.lst ds).eqOk/\∀b:Bool,(b=true↔d∈ds)->Q (.d (.bl (xr q b))) n
theorem zt6 {q b:Bool}:(if q then !b else b)=xr q b:=by cases q <;> rfl
theorem zm5 {q:Bool}:zsK q=zsw q:=by funext x y n Q;simp only[zsK,zsw,xM,zgQ,zt6];exact propext ⟨by rintro⟨a,b,B,D,h⟩;exact⟨a,B,b,D,h⟩,by rintro⟨a,B,b,D,h⟩;exact⟨a,b,B,D,h⟩⟩
theorem zrG {q:Bool}:F2 Pn false (zse q) (zsw q):=zm5 ▸ ztY
@[reducible] def zsB:W->W->Mo W:=fun x y n Q=>onT x fun l=>onI y fun i=>onO (atI l i) fun d=>Q (.d d) n
@[reducible] def zsA:W->W->Mo W:=fun x y n Q=>onL x fun l=>onI y fun i=>onO (atI l i) fun d=>Q (.d d) n
theorem zm7:zsM=zsB:=by funext x y n Q;simp only[zsM,zsB,zde,uI,zcp];exact propext ⟨by rintro⟨a,b,r,q,B,D,h⟩;exact⟨a,q,b,B,r,D,h⟩,by rintro⟨a,q,b,B,r,D,h⟩;exact⟨a,b,r,q,B,D,h⟩⟩
theorem zm6:zsL=zsA:=by funext x y n Q;simp only[zsL,zsA,xN,uI,zcp];exact propext ⟨by rintro⟨a,b,r,q,B,D,h⟩;exact⟨a,q,b,B,r,D,h⟩,by rintro⟨a,q,b,B,r,D,h⟩;exact⟨a,b,r,q,B,D,h⟩⟩
theorem uO {K:PySem.W.Frag}:F2 Pn false (zsg K) zsB:=zm7 ▸ zt0
theorem zc3 {K:PySem.W.Frag}:F2 Pn false (zsf K) zsA:=zm6 ▸ ztZ
@[reducible] def zkH:W->W->Mo W:=fun x y n Q=>onT x fun l=>onT y fun m=>l.length+m.length<=lim/\Q (.d (.tup (l++m))) n
@[reducible] def zmW:W->W->Mo W:=fun x y n Q=>onL x fun l=>onL y fun m=>l.length+m.length<=lim/\Q (.d (.lst (l++m))) n
theorem zkL:zfE=zkH:=by funext x y n Q;simp only[zfE,zkH,zde];exact propext ⟨by rintro⟨a,b,q,B,h⟩;exact⟨a,q,b,B,h⟩,by rintro⟨a,q,b,B,h⟩;exact⟨a,b,q,B,h⟩⟩
theorem zkK:zm3=zmW:=by funext x y n Q;simp only[zm3,zmW,xN];exact propext ⟨by rintro⟨a,b,q,B,h⟩;exact⟨a,q,b,B,h⟩,by rintro⟨a,q,b,B,h⟩;exact⟨a,b,q,B,h⟩⟩
theorem xA {K:PySem.W.Frag}:F2 Pn false (zjO K) zkH:=zkL ▸ zrP
theorem zmG:F2 Pn true zoE zmW:=zkK ▸ zrO
@[reducible] def dRepT:W->W->Mo W:=fun x y n Q=>onT x fun l=>onI y fun j=>(1<=j/\j<=1000000/\l.length * j.toNat<=lim)/\Q (.d (.tup (List.replicate j.toNat l).flatten)) n
@[reducible] def zmX:W->W->Mo W:=fun x y n Q=>onL x fun l=>onI y fun j=>(0<=j/\j<=1000000/\l.length * j.toNat<=lim)/\Q (.d (.lst (List.replicate j.toNat l).flatten)) n
theorem zkM:zna=zmX:=by funext x y n Q;simp only[zna,zmX,xN,uI,and_assoc];exact propext ⟨by rintro⟨a,b,q,B,h⟩;exact⟨a,q,b,B,h⟩,by rintro⟨a,q,b,B,h⟩;exact⟨a,b,q,B,h⟩⟩
theorem zmH:F2 Pn true zsi zmX:=zkM ▸ zrS
@[reducible] def zsC:List W->Mo W:=fun q n Q=>on1 q fun x=>onO (lenD x) fun k=>Q (.d (.int (k:Int))) n
theorem zm8:zsN=zsC:=by funext ws n Q;simp only[zsN,zsC,zaq,zcp];exact propext ⟨by rintro⟨x,k,e,q,h⟩;exact⟨x,e,k,q,h⟩,by rintro⟨x,e,k,q,h⟩;exact⟨x,k,e,q,h⟩⟩
theorem uP {K:PySem.W.Frag}:FL Pn false (fun xs H Q=>∃x n,xs=[x]/\zpl K x H n/\Q (.int n) H) zsC:=zm8 ▸ zt1
@[reducible] def dAbs:List W->Mo W:=fun q n Q=>on1 q fun x=>onI x fun i=>Q (.d (.int (if i<0 then -i else i))) n
@[reducible] def dMin:List W->Mo W:=fun q n Q=>on2 q fun x y=>onI x fun i=>onI y fun j=>Q (.d (.int (if j<i then j else i))) n
@[reducible] def dMax:List W->Mo W:=fun q n Q=>on2 q fun x y=>onI x fun i=>onI y fun j=>Q (.d (.int (if j > i then j else i))) n
@[reducible] def zst:List W->Mo W:=fun B n Q=>on1 B fun x=>onL x fun l=>∃q:List Bool,l=q.map .bl/\Q (.d (.bl (q.all id))) n
theorem zm2:zsI=zst:=by funext ws n Q;simp only[zsI,zst,zaq,xN];exact propext ⟨by rintro⟨x,e,h⟩;exact⟨_,e,_,rfl,x,rfl,h⟩,by rintro⟨x,e,k,q,l,B,h⟩;subst B q;exact⟨l,e,h⟩⟩
theorem ztS:FL Pn false (fun xs H Q=>∃ (p:Addr) (q:List Bool),xs=[.ref p]/\H p=some (.lst (q.map V.bl))/\Q (.bl (q.all id)) H) zst:=zm2 ▸ ztW
@[reducible] def zpA:List W->Mo W:=fun q n Q=>on1 q fun x=>onS x fun l=>Q (.d (.lst l)) n
@[reducible] def zl9:List W->Mo W:=fun q n Q=>on1 q fun x=>onS x fun l=>Q (.d (.tup l)) n
theorem zrr {B:List W}{P:List Dt->Prop}:(∃l,(B=[.d (.lst l)]\/B=[.d (.tup l)])/\P l)=on1 B fun x=>onS x P:=by simp only[zaq,zgQ];exact propext ⟨by rintro⟨l,e,h⟩;exact e.elim (fun e=>⟨_,e,l,.inl rfl,h⟩) fun e=>⟨_,e,l,.inr rfl,h⟩,by rintro⟨x,e,l,q,h⟩;exact⟨l,by rcases q with q | q <;> subst q <;> simp[e],h⟩⟩
theorem zrH {K:PySem.W.Frag}:FL Pn true (zjP K) zpA:=(show zpO=zpA by funext ws n Q;exact zrr) ▸ zrR
theorem zac {K:PySem.W.Frag}:FL Pn false (zf6 K) zl9:=(show zmd=zl9 by funext ws n Q;exact zrr) ▸ zpc
@[reducible] def dDictT:List W->Mo W:=fun q n Q=>on1 q fun x=>onT x fun l=>∃ps:List (Int×Dt),l=ps.map prD/\(ps.map (·.1)).Nodup/\ps.length<=1000/\Q (.dk (ps.map kvD)) n
@[reducible] def dInt1:List W->Mo W:=fun q n Q=>on1 q fun x=>match x with
 | .d (.int i)=>Q (.d (.int i)) n
 | .d (.bl b)=>Q (.d (.int (if b then 1 else 0))) n
 | _=>False
@[reducible] def zh4:List W->Mo W:=fun B n Q=>on1 B fun x=>onL x fun l=>∃ns:List Int,l=ns.map .int/\ns.length<64/\∀q:List Int,q.Perm ns->q.Pairwise (·<=·)->Q (.d (.lst (q.map .int))) n
theorem zim:zil=zh4:=by funext ws n Q;simp only[zil,zh4,zaq,xN];exact propext ⟨by rintro⟨x,e,h⟩;exact⟨_,e,_,rfl,x,rfl,h⟩,by rintro⟨x,e,k,q,l,B,h⟩;subst B q;exact⟨l,e,h⟩⟩
theorem zo4:FL Pn true zjQ zh4:=zim ▸ zpa
@[reducible] def zh5:List W->Mo W:=fun B n Q=>on1 B fun x=>onL x fun l=>∃ (sts:List (List Int)) (m:Nat),l=sts.map stD/\sts.length<64/\1<=m/\(∀st∈sts,st.length=m)/\sts.Nodup/\∀q:List (List Int),q.Perm sts->(q.Pairwise fun a b=>HT.lexLt a b=true)->Q (.d (xD q)) n
theorem zio:zin=zh5:=by funext ws n Q;simp only[zin,zh5,zaq,xN];exact propext ⟨by rintro⟨x,m,e,h⟩;exact⟨_,e,_,rfl,x,m,rfl,h⟩,by rintro⟨x,e,k,q,l,m,B,h⟩;subst B q;exact⟨l,m,e,h⟩⟩
theorem zki:FL Pn true zoH zh5:=zio ▸ zpb
@[reducible] def dListD:List W->Mo W:=fun q n Q=>on1 q fun x=>onE x fun kvs=>((kvs.map (·.1)).Nodup->Q (.d (.lst ((kvs.map (·.1)).map stD))) n)
end
open PySem PySem.Spec L2
section
variable {fa fb fc f fk fd fv:Ev->Mo W}{t u:Ev->Mo Bool}{fs gs:Ev->Mo (List W)}
@[reducible] def zpC (fa:Ev->Mo W):Ev->Mo (Option Int):=fun ρ n Q=>fa ρ n fun x m=>onI x fun i=>Q (some i) m
theorem zQ:znK fa=zpC fa:=by funext ρ n Q;simp only[znK,zpC,uI]
@[reducible] def dSlT (fa:Ev->Mo W) (fl q:Ev->Mo (Option Int)):Ev->Mo W:=fun ρ n Q=>fa ρ n fun x B=>fl ρ B fun lo D=>q ρ D fun hi F=>onT x fun l=>Q (.d (.tup (uq l lo hi))) F
theorem yZ {fl q:Ev->Mo (Option Int)}:ztg fa fl q=dSlT fa fl q:=by funext ρ n Q;simp only[ztg,dSlT,zde]
@[reducible] def dSlL (fa:Ev->Mo W) (fl q:Ev->Mo (Option Int)):Ev->Mo W:=fun ρ n Q=>fa ρ n fun x B=>fl ρ B fun lo D=>q ρ D fun hi F=>onL x fun l=>Q (.d (.lst (uq l lo hi))) F
theorem zck {fl q:Ev->Mo (Option Int)}:ztf fa fl q=dSlL fa fl q:=by funext ρ n Q;simp only[ztf,dSlL,xN]
@[reducible] def dRevT (fa:Ev->Mo W):Ev->Mo W:=fun ρ n Q=>fa ρ n fun x m=>onT x fun l=>Q (.d (.tup l.reverse)) m
@[reducible] def zpE (fa:Ev->Mo W):Ev->Mo W:=fun ρ n Q=>fa ρ n fun x m=>onL x fun l=>Q (.d (.lst l.reverse)) m
theorem zlg:znN fa=zpE fa:=by funext ρ n Q;simp only[znN,zpE,xN]
@[reducible] def dDGet (fd fk:Ev->Mo W):Ev->Mo W:=fun ρ n Q=>fd ρ n fun x q=>fk ρ q fun y B=>onK x fun kvs=>onO (zs1 y) fun k=>onO (xx kvs k) fun d=>Q (.d d) B
@[reducible] def dDIn (q:Bool) (fk fd:Ev->Mo W):Ev->Mo W:=fun ρ n Q=>fk ρ n fun y B=>fd ρ B fun x D=>onK x fun kvs=>onO (zs1 y) fun k=>Q (.d (.bl (xr q (xx kvs k).isSome))) D
@[reducible] def dFn (k:Nat) (F:List W->Mo W) (fs:Ev->Mo (List W)):Ev->Mo W:=fun ρ n Q=>fs ρ n fun q m=>zdX k q (F q m Q)
theorem zq {k:Nat}{F:List W->Mo W}:mFn k F fs=dFn k F fs:=by funext ρ n Q;simp only[mFn,dFn,zbL]
@[reducible] def dFnB (k:Nat) (fr:Bool) (F:List W->Mo W) (fs:Ev->Mo (List W)):Ev->Mo W:=fun ρ n Q=>fs ρ n fun q m=>zdX k q (F q m fun w B=>W.flat fr w=true/\Q w B)
theorem znC {k:Nat}{fr:Bool}{F:List W->Mo W}:zr7 k fr F fs=dFnB k fr F fs:=by funext ρ n Q;simp only[zr7,dFnB,zbL]
@[reducible] def eN (i:Nat):W->Ev->(Ev->Prop)->Prop:=fun w ρ Q=>onP ρ i w Q
theorem zx {i:Nat}:gN i=eN i:=by funext w ρ Q;exact uJ.symm
@[reducible] def eNl:List Dt->Ev->(Ev->Prop)->Prop:=fun ds ρ Q=>match ds with | []=>Q ρ | _=>False
theorem uf:gNl=eNl:=by
 funext ds ρ Q
 cases ds with
 | nil=>simp[gNl,eNl]
 | cons _ _=>simp[gNl,eNl]
@[reducible] def eCn (g:W->Ev->(Ev->Prop)->Prop) (u:List Dt->Ev->(Ev->Prop)->Prop):List Dt->Ev->(Ev->Prop)->Prop:=fun ds ρ Q=>match ds with | d::r=>g (.d d) ρ fun q=>u r q Q | []=>False
theorem zO {g:W->Ev->(Ev->Prop)->Prop}{u:List Dt->Ev->(Ev->Prop)->Prop}:gCn g u=eCn g u:=by
 funext ds ρ Q
 cases ds with
 | nil=>simp[gCn,eCn]
 | cons d r=>exact propext ⟨by rintro⟨d',q,e,h⟩;cases e;exact h,fun h=>⟨d,r,rfl,h⟩⟩
@[reducible] def eTp (n:Nat) (u:List Dt->Ev->(Ev->Prop)->Prop):W->Ev->(Ev->Prop)->Prop:=fun w ρ Q=>onT w fun ds=>zdX n ds (u ds ρ Q)
theorem ug {n:Nat}{u:List Dt->Ev->(Ev->Prop)->Prop}:gTp n u=eTp n u:=by funext w ρ Q;simp only[gTp,eTp,zde,zbL]
@[reducible] def zsy (fa:Ev->Mo W):Ev->Mo (List W):=fun ρ n Q=>fa ρ n fun x m=>onL x fun l=>Q (l.map W.d) m
@[reducible] def zsz (fa:Ev->Mo W):Ev->Mo (List W):=fun ρ n Q=>fa ρ n fun x m=>onT x fun l=>Q (l.map W.d) m
theorem xy:zr8 fa=zsy fa:=by funext ρ n Q;simp only[zr8,zsy,xN]
theorem xK:zr9 fa=zsz fa:=by funext ρ n Q;simp only[zr9,zsz,zde]
@[reducible] def dItR (fs:Ev->Mo (List W)):Ev->Mo (List W):=fun ρ n Q=>fs ρ n fun q m=>on1 q fun x=>onI x fun j=>(j<=1000000/\-1000000<=j)/\Q (zhw 0 j.toNat) m
theorem z5:zs9 fs=dItR fs:=by funext ρ n Q;simp only[zs9,dItR,zaq,uI];congr 1;funext ws m;exact propext ⟨by rintro⟨j,e,h1,h2,h⟩;exact⟨_,e,j,rfl,⟨h1,h2⟩,h⟩,by rintro⟨x,e,j,q,⟨h1,h2⟩,h⟩;subst q;exact⟨j,e,h1,h2,h⟩⟩
@[reducible] def dItR2 (fs:Ev->Mo (List W)):Ev->Mo (List W):=fun ρ n Q=>fs ρ n fun q m=>on2 q fun x y=>onI x fun i=>onI y fun j=>(j<=1000000/\-1000000<=j/\i<=1000000/\-1000000<=i)/\Q (zhw i (j - i).toNat) m
@[reducible] def dItE (fs:Ev->Mo (List W)):Ev->Mo (List W):=fun ρ n Q=>fs ρ n fun q m=>on1 q fun x=>onT x fun l=>Q (enW 0 l) m
@[reducible] def zpy (fs:Ev->Mo (List W)):Ev->Mo (List W):=fun ρ n Q=>fs ρ n fun q m=>on1 q fun x=>onL x fun l=>Q (enW 0 l) m
theorem zbJ:znF fs=zpy fs:=by funext ρ n Q;simp only[znF,zpy,zaq,xN];congr 1;funext ws m;exact propext ⟨by rintro⟨l,e,h⟩;exact⟨_,e,l,rfl,h⟩,by rintro⟨x,e,l,q,h⟩;subst q;exact⟨l,e,h⟩⟩
@[reducible] def dItZ (fs:Ev->Mo (List W)):Ev->Mo (List W):=fun ρ n Q=>fs ρ n fun q m=>on2 q fun x y=>onT x fun l=>onT y fun k=>l.length=k.length/\Q (ziW l k) m
@[reducible] def dItZM (fs:Ev->Mo (List W)):Ev->Mo (List W):=fun ρ n Q=>fs ρ n fun q m=>on2 q fun x y=>onL x fun l=>onT y fun k=>l.length=k.length/\Q (ziW l k) m
@[reducible] def zpz (fs:Ev->Mo (List W)):Ev->Mo (List W):=fun ρ n Q=>fs ρ n fun q m=>on2 q fun x y=>onL x fun l=>onL y fun k=>Q (ziW l k) m
theorem zle:znH fs=zpz fs:=by funext ρ n Q;simp only[znH,zpz,zqp,xN];congr 1;funext ws m;exact propext ⟨by rintro⟨i,j,e,h⟩;exact⟨_,_,e,i,rfl,j,rfl,h⟩,by rintro⟨x,y,e,i,q,j,B,h⟩;subst q B;exact⟨i,j,e,h⟩⟩
@[reducible] def dIfS (t:Ev->Mo Bool) (f g:Ms):Ms:=fun ρ n k=>t ρ n fun c m=>onC c (blk f ρ m k) (blk g ρ m k)
theorem zI {f g:Ms}:zs7 t f g=dIfS t f g:=by funext ρ n k;simp only[zs7,dIfS,zbi]
@[reducible] def zsF (i:Nat):Ms:=fun ρ n k=>onV ρ i fun w=>k.rt w n
theorem uB {i:Nat}:znM i=zsF i:=by funext ρ n k;exact zar.symm
@[reducible] def dSet (i:Nat) (f:Ev->Mo W):Ms:=fun ρ n k=>f ρ n fun w m=>onP ρ i w fun q=>k.nx q m
theorem zo {i:Nat}:znA f (gN i)=dSet i f:=by show znA f (gN i)=znA f (eN i);rw[zx]
@[reducible] def dOwn (i:Nat) (f:Ev->Mo W):Ms:=fun ρ n k=>f ρ n fun w m=>onC (W.mut w) (onP ρ i w fun ρ'=>k.nx ρ' m) False
theorem yv {i:Nat}:zqg i f=dOwn i f:=by funext ρ n k;simp only[zqg,dOwn,uJ (Q:=fun ρ'=>k.nx ρ' _)];congr 1;funext w m;cases h:W.mut w <;> simp
@[reducible] def dApp (i:Nat) (f:Ev->Mo W):Ms:=fun ρ n k=>onV ρ i fun v=>onL v fun l=>f ρ n fun w m=>onD w fun d=>l.length<lim/\onP ρ i (.d (.lst (l++[d]))) fun q=>k.nx q m
theorem zci {ρ:Ev}{i:Nat}{P:List Dt->Prop}:(onV ρ i fun v=>onL v P) = ∃l,ρ[i]?=some (some (.d (.lst l)))/\P l:=by simp only[zar,xN];exact propext ⟨by rintro⟨w,e,l,q,h⟩;exact⟨l,by rw[e,q],h⟩,by rintro⟨l,e,h⟩;exact⟨_,e,l,rfl,h⟩⟩
theorem zpK {ρ:Ev}{i:Nat}{P:List (List Int×Dt)->Prop}:(onV ρ i fun v=>onE v P) = ∃l,ρ[i]?=some (some (.dt l))/\P l:=by simp only[zar,zjr];exact propext ⟨by rintro⟨w,e,l,q,h⟩;exact⟨l,by rw[e,q],h⟩,by rintro⟨l,e,h⟩;exact⟨_,e,l,rfl,h⟩⟩
theorem ua {i:Nat}:zr6 i f=dApp i f:=by
 funext ρ n k;simp only[zr6,dApp,zci,xM,uJ (Q:=fun q=>k.nx q _)];refine propext ⟨fun⟨⟨l,e⟩,h⟩=>⟨l,e,?_⟩,fun⟨l,e,h⟩=>⟨⟨l,e⟩,?_⟩⟩
 all_goals
  refine (congrArg (f ρ n) ?_).mp h;funext w m;refine propext ?_;simp[e]
@[reducible] def dExt (i:Nat) (f:Ev->Mo W):Ms:=fun ρ n k=>onV ρ i fun v=>onL v fun l=>f ρ n fun w m=>onL w fun B=>l.length+B.length<=lim/\onP ρ i (.d (.lst (l++B))) fun q=>k.nx q m
theorem zfU {i:Nat}:zs6 i f=dExt i f:=by
 funext ρ n k;simp only[zs6,dExt,zci];simp only[xN,uJ (Q:=fun q=>k.nx q _)];refine propext ⟨fun⟨⟨l,e⟩,h⟩=>⟨l,e,?_⟩,fun⟨l,e,h⟩=>⟨⟨l,e⟩,?_⟩⟩
 all_goals
  refine (congrArg (f ρ n) ?_).mp h;funext w m;refine propext ?_;simp[e]
@[reducible] def dIns (i:Nat) (fk f:Ev->Mo W):Ms:=fun ρ n k=>onV ρ i fun v=>onL v fun l=>fk ρ n fun y m=>f ρ m fun w B=>onD w fun d=>onI y fun j=>(0<=j/\j<=l.length/\l.length<lim)/\onP ρ i (.d (.lst (zmh l j.toNat d))) fun q=>k.nx q B
theorem znD {i:Nat}:zs8 i fk f=dIns i fk f:=by
 funext ρ n k;simp only[zs8,dIns,zci,xM,uI,uJ (Q:=fun q=>k.nx q _)];refine propext ⟨fun⟨⟨l,e⟩,h⟩=>⟨l,e,?_⟩,fun⟨l,e,h⟩=>⟨⟨l,e⟩,?_⟩⟩
 all_goals
  refine (congrArg (fk ρ n) ?_).mp h;funext y m;refine congrArg (f ρ m) ?_;funext w m2;refine propext ?_;simp[e,and_assoc]
@[reducible] def zpD (i:Nat) (fk:Ev->Mo W):Ms:=fun ρ n k=>onV ρ i fun v=>onL v fun l=>fk ρ n fun y m=>onI y fun j=>(0<=j/\j<l.length/\l.length<=lim)/\onP ρ i (.d (.lst (l.eraseIdx j.toNat))) fun q=>k.nx q m
theorem zlf {i:Nat}:znL i fk=zpD i fk:=by
 funext ρ n k;simp only[znL,zpD,zci,uI,uJ (Q:=fun q=>k.nx q _)];refine propext ⟨fun⟨⟨l,e⟩,h⟩=>⟨l,e,?_⟩,fun⟨l,e,h⟩=>⟨⟨l,e⟩,?_⟩⟩
 all_goals
  refine (congrArg (fk ρ n) ?_).mp h;funext y m;refine propext ?_;simp[e,and_assoc]
@[reducible] def zr2 (i:Nat):Ms:=fun ρ n k=>onV ρ i fun v=>onL v fun l=>onP ρ i (.d (.lst l.reverse)) fun q=>k.nx q n
@[reducible] def dPut (i:Nat) (fk f:Ev->Mo W):Ms:=fun ρ n k=>onV ρ i fun v=>onL v fun l=>f ρ n fun w m=>fk ρ m fun y B=>onD w fun d=>onI y fun j=>(0<=j/\j<l.length)/\onP ρ i (.d (.lst (l.set j.toNat d))) fun q=>k.nx q B
theorem zjb {i:Nat}:zte i fk f=dPut i fk f:=by
 funext ρ n k;simp only[zte,dPut,zci,xM,uI,uJ (Q:=fun q=>k.nx q _)];refine propext ⟨fun⟨⟨l,e⟩,h⟩=>⟨l,e,?_⟩,fun⟨l,e,h⟩=>⟨⟨l,e⟩,?_⟩⟩
 all_goals
  refine (congrArg (f ρ n) ?_).mp h;funext y m;refine congrArg (fk ρ m) ?_;funext w m2;refine propext ?_;simp[e,and_assoc]
@[reducible] def onSt (w:W) (P:List Int->Prop):Prop:=∃st,w = .d (stD st)/\P st
@[reducible] def zl5 (fd fk:Ev->Mo W):Ev->Mo W:=fun ρ n Q=>fd ρ n fun x q=>fk ρ q fun y B=>onE x fun kvs=>∃st,y = .d (stD st)/\onO (xx kvs st) fun d=>Q (.d d) B
theorem zeW:zi8 fd fk=zl5 fd fk:=by funext ρ n Q;simp only[zi8,zl5,zjr,zcp];congr 1;funext x n1;congr 1;funext y n2;exact propext ⟨by rintro⟨a,b,r,q,B,D,h⟩;exact⟨a,q,b,B,r,D,h⟩,by rintro⟨a,q,b,B,r,D,h⟩;exact⟨a,b,r,q,B,D,h⟩⟩
@[reducible] def zl6 (i:Nat) (fk f:Ev->Mo W):Ms:=fun ρ n k=>onV ρ i fun v=>onE v fun kvs=>f ρ n fun w m=>fk ρ m fun y B=>onD w fun d=>∃st,y = .d (stD st)/\kvs.length<lim/\onP ρ i (.dt (zgW kvs st d)) fun q=>k.nx q B
theorem zja {i:Nat}:zi9 i fk f=zl6 i fk f:=by
 funext ρ n k;simp only[zi9,zl6,zpK,xM,uJ (Q:=fun F=>k.nx F _)];refine propext ⟨fun⟨⟨l,e⟩,h⟩=>⟨l,e,?_⟩,fun⟨l,e,h⟩=>⟨⟨l,e⟩,?_⟩⟩
 all_goals
  refine (congrArg (f ρ n) ?_).mp h;funext y m;refine congrArg (fk ρ m) ?_;funext w m2;refine propext ?_;constructor
 ·rintro⟨kvs,st,d,D,q,B,h1,h2⟩;rw[e] at D;cases D;exact⟨d,q,st,B,h1,h2⟩
 ·rintro⟨d,q,st,B,h1,h2⟩;exact⟨l,st,d,e,q,B,h1,h2⟩
 ·rintro⟨d,q,st,B,h1,h2⟩;exact⟨l,st,d,e,q,B,h1,h2⟩
 ·rintro⟨kvs,st,d,D,q,B,h1,h2⟩;rw[e] at D;cases D;exact⟨d,q,st,B,h1,h2⟩
@[reducible] def zpB (i j:Nat):Ms:=fun ρ n k=>onV ρ j fun w=>onN ρ j fun q=>onP q i w fun B=>k.nx B n
theorem zdO {i j:Nat}:znI i j=zpB i j:=by funext ρ n k;simp only[znI,zpB,zar,uJ (Q:=fun q=>k.nx q _),zmp (Q:=fun B=>k.nx (B.set i (some _)) n)]
@[reducible] def dPar (i j:Nat) (fs:Ev->Mo (List W)):Ms:=fun ρ n k=>fs ρ n fun D m=>on2 D fun w u=>onP ρ i w fun q=>onP q j u fun B=>k.nx B m
@[reducible] def dIsi (B:Dt->Bool) (f:Ev->Mo W):Ev->Mo W:=fun ρ n Q=>f ρ n fun w m=>onD w fun d=>Q (.d (.bl (B d))) m
theorem zfV {B:Dt->Bool}:znE B f=dIsi B f:=by funext ρ n Q;simp only[znE,dIsi,xM]
@[reducible] def zgv (fs:Ev->Mo (List W)):Ev->Mo W:=fun ρ n Q=>fs ρ n fun q m=>on1 q fun x=>onI x fun j=>(0<=j/\j<=1000)/\Q (.d (.lst (zfn j.toNat))) m
@[reducible] def zpF (fs:Ev->Mo (List W)):Ev->Mo W:=fun ρ n Q=>fs ρ n fun q m=>on1 q fun x=>onI x fun j=>(0<=j/\j<=1000)/\Q (.d (.tup (zfn j.toNat))) m
theorem zrf {q:List W}{P:Nat->Prop}:(∃j:Nat,q=[.d (.int (j:Int))]/\j<=1000/\P j)=on1 q fun x=>onI x fun j=>(0<=j/\j<=1000)/\P j.toNat:=by simp only[zaq,uI];exact propext ⟨by rintro⟨j,e,h1,h⟩;exact⟨_,e,_,rfl,⟨by lia,by lia⟩,by simpa using h⟩,by rintro⟨x,e,j,B,⟨h1,h2⟩,h⟩;exact⟨j.toNat,by subst B;rw[e];simp;lia,by lia,h⟩⟩
theorem uA:zdN fs=zgv fs:=by funext ρ n Q;simp only[zdN,zgv];congr 1;funext ws m;exact zrf (P:=fun j=>Q (.d (.lst (zfn j))) m)
@[reducible] def dTru (f:Ev->Mo W):Ev->Mo Bool:=fun ρ n Q=>f ρ n fun w m=>onO (truD w) fun b=>Q b m
@[reducible] def dChain (F G:W->W->Mo W) (fa fb fc:Ev->Mo W):Ev->Mo W:=fun ρ n Q=>fa ρ n fun x B=>fb ρ B fun y D=>F x y D fun z q=>onB z fun k=>onC k (fc ρ q fun u I=>G y u I Q) (Q (.d (.bl false)) q)
theorem zew {α:Type}{l:List W}{J:Ev}{n:Nat}{mg:W->Ev->(Ev->Prop)->Prop}{O:Ev->Mo Bool}{U:Ev->Mo W}{Q:W->Nat->Prop}(xs:List α)(D:α->W)(Z:l=xs.map D)(L:xs.length<=lim)(I:Nat->Ev->Nat->List Dt->Prop)(h0:I 0 J n [])
  (h:∀i a q F acc,xs[i]?=some a->I i q F acc->∀C:Ev->Nat->List Dt->Prop,(∀ {ρ m l},I (i+1) ρ m l->C ρ m l)->mg (D a) q fun B=>O B F fun b Y=>onC b (U B Y fun x n3=>onD x fun d=>C B n3 (acc++[d])) (C B Y acc))
  (fin:∀ q F acc,I xs.length q F acc->Q (.d (.lst acc)) F):zex mg O U J Q l n:=by
 refine zkB xs D Z L I h0 (fun i a q F acc ha hI C hC=>?_) fin;have:=h i a q F acc ha hI C hC;simp only[zbi,xM] at this;exact this
theorem zat {α:Type}{l:List W}{F:Ev}{n:Nat}{mg:W->Ev->(Ev->Prop)->Prop}{L:Ev->Mo Bool}{O:Ev->Mo W}{Q:W->Nat->Prop}(xs:List α)(D:α->W)(Z:l=xs.map D)(J:Ev->Prop)(P:α->Bool)(E:α->Dt)(I:xs.length<=lim)(j0:J F)
  (h:∀a∈xs,∀ B,J B->∀C:Ev->Nat->Option Dt->Prop,(∀ {q},P a=true->J q->C q n (some (E a)))->(∀ {q},P a=false->J q->C q n none)->mg (D a) B fun q=>L q n fun b U=>onC b (O q U fun x n3=>onD x fun d=>C q n3 (some d)) (C q U none))
  (fin:Q (.d (.lst ((xs.filter P).map E))) n):zex mg L O F Q l n:=by
 refine zhV xs D Z J P E I j0 (fun a ha B hj C Y=>?_) fin;have:=h a ha B hj C (fun {q} e z=>by have:=Y q z;rwa[if_pos e] at this) fun {q} e z=>by have:=Y q z;rwa[if_neg (by rw[e];decide)] at this
 simp only[zbi,xM] at this;exact this
theorem zaC {α:Type}{l:List W}{F:Ev}{n:Nat}{mg:W->Ev->(Ev->Prop)->Prop}{L:Ev->Mo W}{Q:W->Nat->Prop}(xs:List α)(D:α->W)(O:l=xs.map D)(J:Ev->Prop)(E:α->Dt)(I:xs.length<=lim)(U:J F)
  (h:∀a∈xs,∀ B,J B->∀C:Ev->Nat->Dt->Prop,(∀ {q},J q->C q n (E a))->mg (D a) B fun q=>L q n fun x Y=>onD x fun d=>C q Y d)
  (fin:Q (.d (.lst (xs.map E))) n):zex mg zsa L F Q l n:=by
 refine zkC xs D O J E I U (fun a Z B hj C hC=>?_) fin;have:=h a Z B hj C fun {q} z=>hC q z;simp only[xM] at this;exact this
end
open PySem PySem.Spec L2
@[reducible] def rep:Nat->(Ev->Prop)->Prop
 | 0,Q=>Q []
 | k+1,Q=>rep k fun ρ=>Q (none::ρ)
@[reducible] def beg:List W->Nat->(Ev->Prop)->Prop
 | [],r,Q=>rep r Q
 | w::q,r,Q=>beg q r fun ρ=>Q (some w::ρ)
theorem zjW:∀ {r:Nat} {Q:Ev->Prop},rep r Q=Q (List.replicate r none)
 | 0,Q=>rfl
 | r+1,Q=>by rw[rep,zjW];rfl
theorem zhL:∀ {q:List W} {r:Nat} {Q:Ev->Prop},beg q r Q=Q (q.map some++List.replicate r none)
 | [],r,Q=>by rw[beg,zjW];rfl
 | w::q,r,Q=>by rw[beg,zhL];rfl
theorem zqn {P:Program}{w:World}{K:PySem.W.Frag}{mg:Str->Option Value}{base:Heap}{D:Str}{st:Stmt}{f:Addr}{fd:FuncData}{N ps:List Str}{k m:Nat}{fr:Bool}{F:Option zm->List W->Mo W}(M:List Nat)(r:Nat)(O:(∀vs H Q E,spV m fr F vs H Q E->vs.length=ps.length)->(∀ (B:Value) (A:Around) (q:List Env) (s:Shared) (H:Hp) (vs:List V) (Q:VK) (E:XK),Room k (A.deeper (PyProof.Rows.envOfC D (zg st) s.heap.objs.size f B))->spV m fr F vs H Q E->
   ∃t,QSs (zdB CX0 P w K mg base N D (zg st) f B A q s H E).nox (ym st) t/\t { nx:=fun _ H'=>Q .non H',rt:=Q } (L2.xg N vs) H)->FnOk P w K mg base CX0 (k+1) f fd ps (spV m fr F)) (U:m=ps.length) (Y:∀i∈M,m<=i) (Z:N.length=m+r)
  (I:∀ (B:Value) (A:Around) (q:List Env) (s:Shared) (H:Hp) (E:XK) (Pn:Option zm),Room k (A.deeper (PyProof.Rows.envOfC D (zg st) s.heap.objs.size f B))->
   ∃fs,JSs (zdB CX0 P w K mg base N D (zg st) f B A q s H E).nox Pn [] M fr (ym st) fs/\∀J n R,F Pn J n R->beg J r fun ρ=>fs ρ n { nx:=fun _ L=>onC fr False (R (.d .non) L),rt:=R }):FnOk P w K mg base CX0 (k+1) f fd ps (spV m fr F):=by
 refine zqm M O U Y fun B A q s H E Pn hr=>?_;obtain⟨fs,h1,h2⟩:=I B A q s H E Pn hr;refine⟨fs,h1,fun J n R hl hF=>?_⟩;have:=h2 J n R hF;rw[zhL] at this;have e:xp N J=J.map some++List.replicate r none:=by unfold xp;rw[Z,hl,Nat.add_sub_cancel_left]
 rw[e]
 have e2:(fun (_:Ev) (L:Nat)=>onC fr False (R (.d .non) L))=fun _ L=>fr=false/\R (.d .non) L:=by funext _ L;cases fr <;> simp
 rw[<- e2];exact this
theorem Fun.okW {P:Program}{w:World}{K:PySem.W.Frag}{mg:Str->Option Value}{base:Heap}{x q:Str}{st:Stmt}{f:Addr}{fd:FuncData}{N ps:List Str}{k m:Nat}{fr:Bool}{F:Option zm->List W->Mo W}(M:List Nat)(r:Nat)(Fu:Fun K x q st f fd)(S:FnScope N ps (zg st))(L:m=ps.length)(O:∀i∈M,m<=i)(U:N.length=m+r)
  (B:∀ (I:Value) (A:Around) (D:List Env) (s:Shared) (H:Hp) (E:XK) (Pn:Option zm),Room k (A.deeper (PyProof.Rows.envOfC q (zg st) s.heap.objs.size f I))->
   ∃fs,JSs (zdB CX0 P w K mg base N q (zg st) f I A D s H E).nox Pn [] M fr (ym st) fs/\∀J n R,F Pn J n R->beg J r fun ρ=>fs ρ n { nx:=fun _ Y=>onC fr False (R (.d .non) Y),rt:=R }):FnOk P w K mg base CX0 (k+1) f fd ps (spV m fr F):=zqn M r (fun l b=>Fun.okQ Fu S l b) L O U B
@[reducible] def dItS (i:Nat):Ev->Mo (List W):=fun ρ n Q=>onV ρ i fun x=>onS x fun l=>Q (l.map W.d) n
theorem znG {i:Nat}:zta (zph i)=dItS i:=by
 funext ρ n Q;simp only[zta,xy,xK,zsy,zsz,dItS,zar,zgQ,xN,zde];refine propext ⟨fun h=>?_,fun⟨w,e,l,q,h⟩=>?_⟩
 ·rcases h with ⟨w,e,l,q,h⟩ | ⟨w,e,l,q,h⟩
  ·exact⟨w,e,l,.inl q,h⟩
  ·exact⟨w,e,l,.inr q,h⟩
 ·rcases q with q | q
  ·exact .inl ⟨w,e,l,q,h⟩
  ·exact .inr ⟨w,e,l,q,h⟩
theorem zrc {fs:Ms}{a b:Option W}{r n:Nat}{k:Kt}(h:rep r fun ρ=>fs (a::b::ρ) n k):fs (a::b::List.replicate r none) n k:=by rw[zjW] at h;exact h
theorem ztj {G:Prop}(P:W->Prop)(h:(∀a,P a)->G)(r:∀a,P a):G:=h r
theorem len1 {st:List Int}{x:Dt}(h:st.length<=1000):(st.map Dt.int).length+[x].length<=lim:=by rw[ab];exact aB (by simp;lia:_<=1001) (by decide)
theorem cat1 {st:List Int}{x:Int}:st.map Dt.int++[Dt.int x]=(st++[x]).map Dt.int:=by rw[ax];rfl
theorem za7 {st:List Int}{b x:Int}(q:0<=b)(B:st.length<=1000):uq (st.map Dt.int) none (some b)++[Dt.int x]++uq (st.map Dt.int) (some (b+1)) none=(chg st b x).map Dt.int:=by have key:∀z:W,zfE (.d (.tup (uq (st.map Dt.int) none (some b)))) (.d (.tup [.int x])) 0 (fun w m=>zfE w (.d (.tup (uq (st.map Dt.int) (some (b+1)) none))) m fun w' _=>w' = .d (stD (chg st b x))):=fun z=>zmR q B rfl;obtain⟨l,m,D,F,_,L,O,I,J,_,h⟩:=key (.d .non);cases D;cases F;cases I;cases J;simpa using h
theorem zae {st:List Int}{b:Int}{x:Dt}(q:st.length<=1000):(uq (st.map Dt.int) none (some b)).length+[x].length<=lim:=by have:=zbY (st.map Dt.int) none (some b);rw[ab] at this;exact aB (by simp;lia:_<=1001) (by decide)
theorem zaf {st:List Int}{b c:Int}{x:Dt}(q:st.length<=1000):(uq (st.map Dt.int) none (some b)++[x]).length+(uq (st.map Dt.int) (some c) none).length<=lim:=by have h1:=zbY (st.map Dt.int) none (some b);have h2:=zbY (st.map Dt.int) (some c) none;rw[ab] at h1 h2;rw[ai];exact aB (by simp;lia:_<=2001) (by decide)
def scR (mg:W->Ev->(Ev->Prop)->Prop)(L:Ev->Mo Bool)(O:Ev->Mo W)(F:Ev)(Q:List (List Int)->Nat->Prop):List W->Nat->Prop:=fun l U=>∃I:Nat->Ev->Nat->List (List Int)->Prop,I 0 F U []/\
 (∀i w q D acc,l[i]?=some w->I i q D acc->mg w q fun B=>L B D fun b J=>if b=true then O B J fun x Y=>∃st,x = .d (stD st)/\I (i+1) B Y (acc++[st]) else I (i+1) B J acc)/\
 (∀i q D acc ks,I i q D acc->List.Nodup ks->(∀z∈ks,z∈acc)->ks.length<300)/\
 ∀ q D acc ks,I l.length q D acc->List.Nodup ks->(∀z,z∈ks↔z∈acc)->Q ks D
@[reducible] def zjc (q:Ev->Mo (List W)) (mg:W->Ev->(Ev->Prop)->Prop) (B:Ev->Mo Bool) (D:Ev->Mo W) (cix:List (Option Nat)):Ev->Mo W:=fun ρ n Q=>q ρ n (scR mg B D (zcQ ρ cix) fun ks F=>∃m,ks.length<64/\1<=m/\(∀st∈ks,st.length=m)/\∀l':List (List Int),l'.Perm ks->(l'.Pairwise fun a b=>HT.lexLt a b=true)->Q (.d (xD l')) F)
theorem zjm {P:Program}{w:World}{a:Addr}{xs:List (List Key×Addr)}:NP (zfo P w a xs):=fun _ e=>by cases e
theorem zgc {P:Program}{w:World}{H:Hp}{acc:Addr}{o:HO}{ks:List (List Int)}(S:zel P w (upd H acc o) acc ks):NP o/\∀xs,o≠.tup xs:=by obtain⟨xs,h1,_⟩:=S;rw[zj] at h1;cases h1;exact⟨zjm,fun _ e=>by cases e⟩
section
variable {X:Cx}{Pn:Option zm}{M S:List Nat}{fr fr':Bool}{pos p:Pos}
theorem zjV {P:Program}{w:World}{wi:TI}{g:TG}{ti:TT}{te:TE}{cix:List (Option Nat)}{fi:Ev->Mo (List W)}{mg:W->Ev->(Ev->Prop)->Prop}{ft:Ev->Mo Bool}{fe:Ev->Mo W}{ow:Bool}(hn:(cix.filterMap id).Nodup)
  (hi:RI Pn M ow wi fi) (hg:RG (yM M cix) (yM M cix) g mg) (ht:RT Pn (yM M cix) ti ft) (he:RE Pn (yM M cix) fr' te fe):RE Pn M true (tCB (zjR P w) (zbC (zoZ P w wi g ti te cix) zkb)) (zjc fi mg ft fe cix):=⟨fun A σ H ρ n Q R E Pp hf k=>by
 refine hi.run A σ H ρ n _ _ E Pp hf fun l m J H1 ⟨I,i0,it,ib,ie⟩ iv g1=>fun acc D S0=>?_;have E1:=E.stay g1.st;have E2:=(E1.cap hn).more (zv.upd (o:=zfo P w acc []) D) (Fr.of D) zj zjm (by intro xs z;cases z);have P2:y2 Pn (fun b=>A b\/b=acc) m (L2.upd H1 acc (zfo P w acc [])):=g1.pn.grow (g1.pn.same (y4.upd D)) (Fr.of D) zj zjm
 have a1:∀k w,k∈yM M cix->(zcQ ρ cix)[k]?=some (some w)->(uR σ cix)[k]?≠some (some (.ref acc)):=fun k w Z hw z=>by obtain⟨v,s1,_,s3⟩:=(E1.cap hn).val k w hw;obtain⟨a,e,hA,_⟩:=s3 Z;rw[z] at s1;cases s1;cases e;exact E1.new D hA
 have key:∀ F q H',EnvR (fun b=>A b\/b=acc) (yM M cix) F H' q->(∀k∈yM M cix,F[k]?=(uR σ cix)[k]?/\q[k]?=(zcQ ρ cix)[k]?)->∀k w,k∈yM M cix->q[k]?=some (some w)->F[k]?≠some (some (.ref acc)):=fun F q H' E' ad k w Z hw z=>by obtain⟨f1,f2⟩:=ad k Z;rw[f1] at z;rw[f2] at hw;exact a1 k w Z hw z
 refine⟨fun i mm F H'=>mm=l.length - i/\i<=l.length/\∃ q O B ks,EnvR (fun b=>A b\/b=acc) (yM M cix) F H' q/\y2 Pn (fun b=>A b\/b=acc) O H'/\I i q O B/\zel P w H' acc ks/\(∀z,z∈ks↔z∈B)/\zv (z7 A H1) (z7 (fun b=>A b\/b=acc) H')/\zv H1 H'/\(∀k∈yM M cix,F[k]?=(uR σ cix)[k]?/\q[k]?=(zcQ ρ cix)[k]?),
  ⟨l.length,by simp,aT _,_,m,[],[],E2,P2,i0,S0,fun _=>Iff.rfl,yB (zv.upd D) (Fr.of D),zv.upd D,fun k Z=>⟨rfl,rfl⟩⟩,?_⟩
 rintro i mm F H' ⟨rfl,b2,q,O,B,ks,E',P',hI,hS,hm,st,s1,ad⟩;have a2:ks.Nodup:=hS.choose_spec.2.2.2;by_cases a3:i<l.length
 ·right;have as:l[i]?=some l[i]:=ah a3;obtain⟨go,yl⟩:=iv.one i l[i] _ H' as st (fun _=>s1) fun p hp=>E'.new hp
  refine⟨go,fun av H2=>∃ q O B ks,EnvR (fun b=>A b\/b=acc) (yM M cix) av H2 q/\y2 Pn (fun b=>A b\/b=acc) O H2/\I (i+1) q O B/\zel P w H2 acc ks/\(∀z,z∈ks↔z∈B)/\zv (z7 A H1) (z7 (fun b=>A b\/b=acc) H2)/\zv H1 H2/\(∀k∈yM M cix,av[k]?=(uR σ cix)[k]?/\q[k]?=(zcQ ρ cix)[k]?),
   fun av H2 h=>⟨l.length - (i+1),by lia,rfl,a3,h⟩,fun x H2 hy=>?_⟩
  obtain⟨S2,V2⟩:=yl x H2 hy;refine hg.run _ F H2 q x l[i] _ _ (E'.stay (zv.same S2)) V2 (it i l[i] q O B as hI) fun an L r3 E3 f3=>?_;have U:∀k∈yM M cix,an[k]?=(uR σ cix)[k]?/\L[k]?=(zcQ ρ cix)[k]?:=fun k Z=>⟨(f3 k Z).1.trans (ad k Z).1,(f3 k Z).2.trans (ad k Z).2⟩;refine ht.run _ an H2 L O _ _ E3 (P'.same S2) r3 fun b m3 H4 r4 g4=>?_;have ap:=(zv.same S2).trans g4.st
  cases b with
  | false=>
   rw[if_neg (by decide)] at r4 ⊢;exact⟨L,m3,B,ks,E3.stay g4.st,g4.pn,r4,hS.stay ap,hm,st.trans (zM ap),s1.trans ap,U⟩
  | true=>
   rw[if_pos rfl] at r4 ⊢;refine he.run _ an H4 L m3 _ _ (E3.stay g4.st) g4.pn r4  ?_;rintro w5 m5 v5 H5 ⟨d,e5,r5⟩ V5 g5 _;subst e5;have a0:=ap.trans g5.st;have E5:=(E3.stay g4.st).stay g5.st;obtain⟨b,rfl,hb⟩:=zrV V5;refine⟨b,d,ks,rfl,hb,hS.stay a0,ib i q O B ks hI a2 fun z hz=>(hm z).mp hz,fun o bd S' bk b3=>?_⟩;obtain⟨np,nt⟩:=zgc S';refine⟨L,m5,B++[d],bd,E5.upd (.inr rfl) (key an L H5 E5 U) np nt,g5.pn.upd (.inr rfl),r5,S',fun z=>?_,?_,?_,U⟩
   ·rw[bk z,aZ,az,hm z,or_comm]
   ·rw[yn (.inr rfl)];exact st.trans (zM a0)
   ·exact fun b o e nn=>by rw[ze (zc e D)];exact s1.trans a0 b o e nn
 ·left;have bl:i=l.length:=by lia
  subst bl;refine⟨iv.stop _ H' st (fun _=>s1),?_⟩;obtain⟨ml,bo,h1,bs,hq⟩:=ie q O B ks hI a2 hm;refine⟨acc,ks,ml,rfl,hS,bo,h1,bs,fun ys Y bx hp hu=>fun p H3 a4 gp S3=>?_⟩;have b0:=s1.trans (zv.same S3);have a5:Al A H':=E1.al.stay s1;have b1:y2 Pn A O H3:=(P'.same S3).less fun a z=>.inl z;have a7:=a5.stay (zv.same S3);have bb:=bx.stay (zv.same S3);refine k _ O _ H3 (hq Y hp hu) (Val.of ⟨p,ys,rfl,zy (a5.new a4) gp,x9 a7.noT (xW Y) bb⟩) (g1.trans ⟨b0,b1⟩) fun _=>⟨p,rfl,((Fr.of a4).back s1).back g1.st,p,ys,rfl,gp,x9 (fun b xs z e=>?_) (xW Y) bb⟩;rcases z with z | z
  ·exact a7.noT b xs z e
  ·subst z;rw[gp] at e;cases e⟩
theorem zk3 {B tg q:Expr}{D:List Expr}{scope:Scope}{N:List Str}{cix:List (Option Nat)}{O:Ev->Mo (List W)}{mg:W->Ev->(Ev->Prop)->Prop}{U:Ev->Mo Bool}{Y:Ev->Mo W}{ow:Bool}{sp:Pos}(I:X.mg "sorted" = none)(hu:X.A.units+1<cLine)(Z:X.calm=true)(cc:CompOk X scope N cix)
  (hi:JI X Pn M ow tg q O) (hg:∀C s H ex,JG (zu X scope N C s H ex) (yM M cix) (yM M cix) tg mg) (ht:∀C s H ex,JTs (zu X scope N C s H ex) Pn (yM M cix) D U) (he:∀C s H ex,JE (zu X scope N C s H ex) Pn (yM M cix) fr' B Y)
  (hn:(cix.filterMap id).Nodup:=by decide) (hs:∀x,foldedSetIterable q X.env x=pure x:=by intro _;rfl) (J:Gl X "sorted" := by rfl) (F:starEach [.SetComp B [⟨tg,q,D,0⟩] scope sp] X.env=[(false,eval (.SetComp B [⟨tg,q,D,0⟩] scope sp) X.env)]:=by rfl) (L:(backTo pos (starEach [] X.env)).any (·.1)=false:=by rfl) :
  JE X Pn M true (.Call (.Name "sorted" p) [.SetComp B [⟨tg,q,D,0⟩] scope sp] [] pos) (zjc O mg U Y cix):=by
 obtain⟨ti,qi,ri⟩:=hi.ex;obtain⟨g,qg,rg⟩:=zo7 hg;obtain⟨tt,qt,rt⟩:=zo8 ht;obtain⟨te,qe,re⟩:=zo6 he;exact⟨_,xi (zgu Z) J I ci (zJ (zhu hu Z cc qi qg qt qe hs) yx F) (by decide) (by decide) F L,zjV hn ri rg rt re⟩
end
theorem zoU {α:Type}{l:List W}{I:Ev}{n:Nat}{mg:W->Ev->(Ev->Prop)->Prop}{ft:Ev->Mo Bool}{fe:Ev->Mo W}{Q:List (List Int)->Nat->Prop}(xs:List α)(L:α->W)(hl:l=xs.map L)(J:Ev->Prop)(P:α->Bool)(E:α->List Int)(j0:J I)
  (h:∀a∈xs,∀ B,J B->∀C:Ev->Nat->Option (List Int)->Prop,(∀ {q},P a=true->J q->C q n (some (E a)))->(∀ {q},P a=false->J q->C q n none)->mg (L a) B fun q=>ft q n fun b n2=>onC b (fe q n2 fun x U=>∃st,x = .d (stD st)/\C q U (some st)) (C q n2 none))
  (Z:∀ks,List.Nodup ks->(∀z∈ks,z∈(xs.filter P).map E)->ks.length<300)
  (fin:∀ks,List.Nodup ks->(∀z,z∈ks↔z∈(xs.filter P).map E)->Q ks n):scR mg ft fe I Q l n:=by
 subst hl;refine⟨fun i B F acc=>J B/\F=n/\acc=((xs.take i).filter P).map E,⟨j0,rfl,by simp⟩,?_,?_,?_⟩
 ·rintro i w B F acc hw ⟨hj,rfl,rfl⟩;rw[au] at hw;obtain⟨a,O,rfl⟩:=aI.mp hw
  have:=h a (aG O) B hj (fun q U o=>match o with
   | some d=>J q/\U=F/\((xs.take i).filter P).map E++[d]=((xs.take (i+1)).filter P).map E
   | none=>J q/\U=F/\((xs.take i).filter P).map E=((xs.take (i+1)).filter P).map E) (fun {q} hp D=>by
    rw[zl O,cg,ax]
    exact⟨D,rfl,by simp[hp]⟩) (fun {q} hp D=>by
    rw[zl O,cg,ax];exact⟨D,rfl,by simp[hp]⟩)
  simp only[zbi] at this;exact this
 ·rintro i B F acc ks ⟨_,rfl,rfl⟩ hn Y;refine Z ks hn fun z hz=>?_;obtain⟨a,O,e⟩:=aH.mp (Y z hz);obtain⟨h1,h2⟩:=aW.mp O;exact aH.mpr ⟨a,aW.mpr ⟨bM h1,h2⟩,e⟩
 ·rintro B F acc ks ⟨_,rfl,rfl⟩ hn Y;rw[ab,ba] at Y;exact fin ks hn Y
open PySem PySem.Spec L2
@[reducible] def dGetI (fd fk q:Ev->Mo W):Ev->Mo W:=fun ρ n Q=>fd ρ n fun x B=>onK x fun kvs=>fk ρ B fun y D=>q ρ D fun z F=>onO (zs1 y) fun k=>onI z fun i=>Q (.d ((xx kvs k).getD (.int i))) F
section
variable {X:Cx}{Pn:Option zm}{M:List Nat}{a b c:Expr}{fa fb fc:Ev->Mo W}{apos cpos:Pos}
end
end L3
namespace L2
open PySem PySem.Spec PyProof.Rows
section
variable {X:Cx}{e lo st:Expr}{te tl tk:TE}{pos p2:Pos}
end
end L2
namespace L3
open PySem PySem.Spec L2
@[reducible] def dFromL (fa fl fk:Ev->Mo W):Ev->Mo W:=fun ρ n Q=>fa ρ n fun x q=>onL x fun l=>fl ρ q fun y B=>onI y fun c=>fk ρ B fun z D=>onI z fun k=>(0<=c/\1<=k)/\∀ys:List Dt,ys.Sublist (l.drop c.toNat)->Q (.d (.lst ys)) D
section
variable {X:Cx}{Pn:Option zm}{M:List Nat}{e lo st:Expr}{f fl fk:Ev->Mo W}{pos p2:Pos}
end
open PySem PySem.Spec L2
def zfS (A:Addr->Prop)(a:Addr):Addr->Prop:=fun b=>A b/\b≠a
def znd:HO:=.dK [(Sum.inr "at",.non)]
theorem ziy:¬ NP znd:=fun h=>by have:=h _ rfl;rw[xk (p:=((Sum.inr "at" : Key),V.non)) rfl] at this;cases this
abbrev ziv (H:Hp)(a:Addr):Hp:=L2.upd H a znd
theorem ziw {H:Hp}{a:Addr}:ziv H a a=some znd:=zj
theorem zb5 {H:Hp}{a b:Addr}(h:b≠a):ziv H a b=H b:=ze h
theorem zix {H:Hp}{a:Addr}:Fr (ziv H a) a:=fun o e=>by rw[ziw] at e;cases e;exact ziy
theorem zaE {A:Addr->Prop}{H:Hp}{a:Addr}(B:A a):zv (z7 A H) (z7 (zfS A a) (ziv H a)):=fun b o e D=>by
 obtain⟨h1,h2⟩:=yt.mp e;by_cases q:b=a
 ·subst q;exact absurd B h1
 ·exact zy (fun z=>h1 z.1) (by rw[zb5 q];exact h2)
theorem zhI {A:Addr->Prop}{H:Hp}{a:Addr}(q:Al A H):Al (zfS A a) (ziv H a):=fun b z=>by obtain⟨o,h1,h2⟩:=q b z.1;exact⟨o,by rw[zb5 z.2];exact h1,h2⟩
theorem WAt.top {T T' G:Hp}{u:W}{c:Addr}(h:WAt T G u (.ref c))(e:T' c=T c)(hm:u.mut=true):WAt T' G u (.ref c):=by
 cases u with
 | d x=>
  cases x with
  | lst l=>obtain⟨a2,xs,e2,g1,g2⟩:=h;cases e2;exact⟨c,xs,rfl,by rw[e];exact g1,g2⟩
  | dct=>obtain⟨a2,xs,e2,g1,g2⟩:=h;cases e2;exact⟨c,xs,rfl,by rw[e];exact g1,g2⟩
  | _=>cases hm
 | pen p=>cases hm
 | dk kvs=>obtain⟨a2,xs,e2,g1,g2,g3⟩:=h;cases e2;exact⟨c,xs,rfl,by rw[e];exact g1,g2,g3⟩
 | dt kvs=>obtain⟨a2,xs,e2,g1,g2⟩:=h;cases e2;exact⟨c,xs,rfl,by rw[e];exact g1,g2⟩
 | ss P w kvs=>obtain⟨a2,xs,e2,g1,g2⟩:=h;cases e2;exact⟨c,xs,rfl,by rw[e];exact g1,g2⟩
 | df kvs=>obtain⟨a2,ob,xs,e2,g1,g2⟩:=h;cases e2;exact⟨c,ob,xs,rfl,by rw[e];exact g1,g2⟩
section
variable {X:Cx}{Pn:Option zm}{M S:List Nat}{fr fr':Bool}{pos p:Pos}
theorem At3.put {B:Bs}{A:Addr->Prop}{σ:St}{H H':Hp}{ρ:Ev}{n m i:Nat}{w:W}{ad:Addr}(a:At3 Pn B S M A σ H ρ n)(hi:i∈M)(hs:i∉S)(g':Go Pn A H m H')(hF:Fr H ad)(hb:WAt H' (z7 (fun b=>A b\/b=ad) H') w (.ref ad))(hm:w.mut=true) :
  At3 Pn B S M (fun b=>A b\/b=ad) (σ.set i (some (.ref ad))) H' (ρ.set i (some w)) m:=by
 obtain⟨a2,o,e2,ho,np,nt⟩:=zjh hb hm;cases e2;have E1:=a.env.more g'.st hF ho np nt;have hnA:¬ A ad:=a.env.newF hF;refine⟨⟨?_,?_,?_,E1.al⟩,⟨fun b z=>.inl (a.frm.sub b z),fun b z=>?_,fun b o e n c=>g'.st b o (a.frm.st b o e n c) n,a.frm.al,a.frm.cn,fun b z=>let ⟨o,e,n⟩:=a.frm.cs b z;⟨o,g'.st b o e n,n⟩⟩,a.pn.grow' g'.pn hF ho np,a.prot.trans (yB g'.st hF),fun j hj=>?_,fun j u b hj e s=>?_⟩
 ·rw[aY,aY];exact a.env.len
 ·intro j u e;by_cases hj:j=i
  ·subst hj
   have hl:j<ρ.length:=by have:=(ae.mp e).1;rwa[aY] at this
   rw[aQ hl] at e;cases e;exact⟨.ref ad,aQ (by rw[a.env.len];exact hl),fun z=>absurd hi z,fun _=>⟨ad,rfl,.inr rfl,hb,hm⟩⟩
  ·rw[aw (Ne.symm hj)] at e ⊢;exact E1.val j u e
 ·intro j l u u' b hj hl hne e1 e2 s1 s2
  have own:∀q u,q∈M->q≠i->ρ[q]?=some (some u)->σ[q]?≠some (some (.ref ad)):=fun q u hq hqi eq sq=>by obtain⟨v,s,_,s3⟩:=a.env.val q u eq;obtain⟨c,ec,hc,_⟩:=s3 hq;rw[sq] at s;cases s;cases ec;exact hnA hc
  have len:∀q (u:W),(ρ.set i (some w))[q]?=some (some u)->q<σ.length:=fun q u e=>by have:=(ae.mp e).1;rw[aY] at this;rw[a.env.len];exact this
  by_cases hji:j=i
  ·subst hji;rw[aQ (len _ _ e1)] at s1;cases s1;rw[aw hne] at e2 s2;exact own l u' hl (Ne.symm hne) e2 s2
  ·rw[aw (Ne.symm hji)] at e1 s1;by_cases hli:l=i
   ·subst hli;rw[aQ (len _ _ e2)] at s2;cases s2;exact own j u hj hji e1 s1
   ·rw[aw (Ne.symm hli)] at e2 s2;exact a.env.dis j l u u' b hj hl hne e1 e2 s1 s2
 ·rcases z with z | z
  ·exact a.frm.new b z
  ·subst z;exact .inr (.inl (a.frm.back hF hnA))
 ·rw[aw fun (z:i=j)=>hs (by rw[z];exact hj)];exact a.fix j hj
 ·by_cases hji:j=i
  ·subst hji
   have hl:j<σ.length:=by have:=(ae.mp s).1;rwa[aY] at this
   rw[aQ hl] at s;cases s;exact .inl (a.frm.back hF hnA)
  ·rw[aw (Ne.symm hji)] at e s;exact a.mine j u b hj e s
theorem At3.let' {B:Bs}{A:Addr->Prop}{σ:St}{H:Hp}{ρ:Ev}{n i:Nat}{w:W}{F:Addr}(a:At3 Pn B S M A σ H ρ n)(I:∀b,¬ B.ca b)(hi:i∈M)(e:ρ[i]?=some (some w))(s:σ[i]?=some (some (.ref F)))(J:A F) :
  At3 Pn B S M (zfS A F) σ (ziv H F) (ρ.set i none) n:=by
 have Z:Fr B.H0 F:=(a.mine i w F hi e s).resolve_right (I F)
 have O:∀ {j:Nat} {u:W},(ρ.set i none)[j]?=some (some u)->j≠i/\ρ[j]?=some (some u):=fun {j u} h=>by
  by_cases D:j=i
  ·subst D;rw[aQ (ae.mp e).1] at h;cases h
  ·rw[aw (Ne.symm D)] at h;exact⟨D,h⟩
 refine⟨⟨?_,?_,?_,zhI a.env.al⟩,⟨fun b z=>?_,fun b z=>a.frm.new b z.1,fun b o e' np nc=>?_,a.frm.al,a.frm.cn,fun b z=>absurd z (I b)⟩,(a.pn.upd J).less fun _ z=>z.1,a.prot.trans (zaE J),a.fix,?_⟩
 ·rw[aY];exact a.env.len
 ·intro j u h;obtain⟨D,h⟩:=O h;obtain⟨v,U,s2,s3⟩:=a.env.val j u h;refine⟨v,U,fun z=>WAt.up (zaE J) (zaE J) (s2 z),fun z=>?_⟩;obtain⟨c,rfl,hc,hb,hm⟩:=s3 z
  have L:c≠F:=fun q=>by subst q;exact a.env.dis i j w u c hi z (Ne.symm D) e h s U
  refine⟨c,rfl,⟨hc,L⟩,?_,hm⟩;exact WAt.top (WAt.up (zv.refl _) (zaE J) hb) (zb5 L) hm
 ·intro j l u u' b D hl Y e1 e2;exact a.env.dis j l u u' b D hl Y (O e1).2 (O e2).2
 ·refine⟨a.frm.sub b z,fun q=>?_⟩;subst q;obtain⟨o,o1,o2,_⟩:=a.frm.al b z;exact Z o o1 o2
 ·rw[zb5 fun q=>by subst q;exact Z o e' np];exact a.frm.st b o e' np nc
 ·intro j u b D h U;exact a.mine j u b D (O h).2 U
def spG (k:Nat)(fr:Bool)(F:Option zm->List W->Mo W):Sp:=fun vs H Q _=>∃Pn A us zs w a n R,vs=us++[.ref a]/\Al A H/\A a/\zcO A H zs us/\Bor A H w (.ref a)/\w.mut=true/\zs.length+1=k/\y2 Pn A n H/\F Pn (zs++[w]) n R/\
 ∀w' m v H',R w' m->Val (zfS A a) H' w' v->zv (ziv H a) H'->y2 Pn (zfS A a) m H'->(fr=true->FrV (zfS A a) (ziv H a) H' w' v)->Q v H'
@[reducible] def dGiv (i:Nat) (F:List W->Mo W) (f1 f2:Ev->Mo W):Ms:=fun ρ n k=>f1 ρ n fun w1 m1=>f2 ρ m1 fun w2 m2=>onV ρ i fun w=>F [w1,w2,w] m2 fun w' m'=>onC (W.mut w') (onP ρ i w' fun ρ'=>k.nx ρ' m') False
theorem zri {t1 t2:TE}{f1 f2:Ev->Mo W}{b1 b2:Bool}{i:Nat}{F:Option zm->List W->Mo W}(h1:RE Pn M b1 t1 f1)(h2:RE Pn M b2 t2 f2)(hi:i∈M)(hs:i∉S) :
  RS Pn S M fr (zfp (zfh (spG 3 true F) [] E0 (zbC t1 (zbC t2 (zbC (zkl i) zkb)))) (uT i)) (dGiv i (F Pn) f1 f2):=⟨fun B A σ H ρ n k D a kk hf=>by
 refine h1.run A σ H ρ n _ _ a.env a.pn hf fun w1 m1 v1 H1 r1 V1 g1 _=>?_;refine h2.run A σ H1 ρ m1 _ _ (a.env.stay g1.st) g1.pn r1 fun w2 m2 v2 H2 r2 V2 g2 _=>?_;rw[zar] at r2;obtain⟨w,ew,r2⟩:=r2;have a2:=(a.step g1).step g2;obtain⟨v,s1,_,s3⟩:=a2.env.val i w ew;obtain⟨ad,rfl,hA,hb,hm⟩:=s3 hi;refine⟨.ref ad,s1,?_⟩;show spG 3 true F ([v1,v2,.ref ad]++[]) H2 (fun x H1=>uT i x σ H1 D.nx) E0;rw[cy];refine⟨Pn,A,[v1,v2],[w1,w2],w,ad,m2,_,rfl,a2.env.al,hA,⟨v1,_,rfl,V1.stay g2.st,v2,_,rfl,V2,rfl⟩,hb,hm,rfl,g2.pn,r2,fun w' m' v' H' r' hv st pn hfr=>?_⟩;rw[zbi] at r'
 cases hm':W.mut w' with
 | false=>rw[hm'] at r';exact r'.elim
 | true=>
  rw[hm',if_pos rfl,uJ] at r';obtain⟨a',rfl,hF,hb'⟩:=hfr rfl;have av:=a2.let' kk.fc hi ew s1 hA;have:=av.put hi hs ⟨st,pn⟩ hF hb' hm';rw[List.set_set] at this;exact kk.nx _ _ H' _ m' this r'⟩
theorem zp6 {i kk:Nat}{x y:Str}{st:Stmt}{ps:List Str}{fA:Addr}{fd:FuncData}{F:Option zm->List W->Mo W}{j:Nat}{I q:Expr}{f1 f2:Ev->Mo W}{b1 b2:Bool}{p3 px B:Pos}(D:Dfn X.K X.mg y st ps fA fd)(G:FnOk X.prog X.w X.K X.mg X.base CX0 j fA fd ps (spG 3 true F))(hr:Room kk X.A)
  (h1:JE X Pn M b1 I f1) (h2:JE X Pn M b2 q f2) (hN:X.N.Nodup) (hi:X.N[i]?=some x) (hx:Loc X.env.scope x) (J:i∈M:=by decide) (L:i∉S:=by decide) (O:j<=kk:=by decide) (hg:Gl X y:=by rfl) (U:(y==("__debug__" : Str))=false:=by decide)
  (hv:Vis X.env.scope x:=by walk_at "v") (hd:(x==("__debug__" : Str))=false:=by decide) (Y:(x==("__classdict__" : Str))=false:=by decide)
  (q1:starEach [I,q,.Name x p3] X.env=(false,eval I X.env)::starEach [q,.Name x p3] X.env:=by rfl) (q2:starEach [q,.Name x p3] X.env=(false,eval q X.env)::starEach [.Name x p3] X.env:=by rfl) (q3:starEach [.Name x p3] X.env=(false,eval (.Name x p3) X.env)::starEach [] X.env:=by rfl)
  (Z:(backTo pos (starEach [q,.Name x p3] X.env)).any (·.1)=false:=by rfl)
  (hs:swapsWith (.Call (.Name y p) [I,q,.Name x p3] [] pos) (some (.Name x px)) B.line X.env=pure false:=by rfl) (hf:X.fn x=true\/X.env.scope.names.lookup x=some .local:=by walk_at "l") :
  JS X Pn S M fr (.Assign [.Name x px] (.Call (.Name y p) [I,q,.Name x p3] [] pos) B) (dGiv i (F Pn) f1 f2):=by
 obtain⟨t1,p1,r1⟩:=h1.ex;obtain⟨t2,p2,r2⟩:=h2.ex;exact⟨_,xZ hN hi hx (zjI D G hr (zJ p1 (zJ p2 (zJ (qv i hi hv hd Y) yx q3) q2) q1) O hg U q1 Z) hs hf,zri r1 r2 J L⟩
theorem zhf {A:Addr->Prop}{H:Hp}{N:List Str}{zs:List W}{us:List V}{w:W}{a:Addr}(al:Al A H)(hA:A a)(h:zcO A H zs us)(hb:Bor A H w (.ref a))(hm:w.mut=true)(hg:zs.length∈M)(hM:∀i∈M,zs.length<=i) :
  EnvR A M (L2.xg N (us++[.ref a])) H (xp N (zs++[w]))/\∀i u,i∈M->(xp N (zs++[w]))[i]?=some (some u)->(L2.xg N (us++[.ref a]))[i]?=some (some (.ref a)):=by
 have hl:=h.len
 have few:∀i u,(xp N (zs++[w]))[i]?=some (some u)->i<zs.length+1/\(zs++[w])[i]?=some u:=fun i u e=>by
  unfold xp at e
  have hi:i<(zs++[w]).length:=by apply bO;intro z;rw[bc (by rw[ab];lia)] at e;obtain⟨_,q⟩:=ae.mp e;rw[cA] at q;cases q
  rw[a9 (by rw[ab];exact hi),au] at e;obtain⟨w',e1,e2⟩:=aI.mp e;cases e2;rw[ai] at hi;exact⟨hi,e1⟩
 have at':∀i v,(us++[V.ref a])[i]?=some v->(L2.xg N (us++[.ref a]))[i]?=some (some v):=fun i v e=>by unfold L2.xg;rw[a9 (by rw[ab];exact (ae.mp e).1),au,e];rfl
 have last:(us++[V.ref a])[zs.length]?=some (.ref a):=by rw[<- hl];simp
 refine⟨⟨?_,fun i u e=>?_,fun i j u u' b hi hj hne e1 e2=>?_,al⟩,fun i u hi e=>?_⟩
 ·unfold L2.xg xp;simp[hl]
 ·obtain⟨h1,h2⟩:=few i u e;by_cases hi:i<zs.length
  ·rw[a9 hi] at h2;obtain⟨v,v1,v2⟩:=h.get h2;exact⟨v,at' i v (by rw[a9 (by lia)];exact v1),fun _=>v2,fun z=>absurd (hM i z) (by lia)⟩
  ·have hie:i=zs.length:=by lia
   subst hie;have:u=w:=by simpa using h2.symm
   subst this;exact⟨.ref a,at' _ _ last,fun z=>absurd hg z,fun _=>⟨a,rfl,hA,hb,hm⟩⟩
 ·have h1:=(few i u e1).1;have h2:=(few j u' e2).1;have h3:=hM i hi;have h4:=hM j hj;exact absurd (show i=j by lia) hne
 ·have h1:=(few i u e).1;have h3:=hM i hi;have:i=zs.length:=by lia
  subst this;exact at' _ _ last
theorem zql {P:Program}{w:World}{K:PySem.W.Frag}{mg:Str->Option Value}{base:Heap}{I:Str}{st:Stmt}{f:Addr}{fd:FuncData}{N ps:List Str}{k m:Nat}{F:Option zm->List W->Mo W}(M:List Nat)(r:Nat)(U:(∀vs H Q E,spG m fr F vs H Q E->vs.length=ps.length)->(∀ (D:Value) (A:Around) (B:List Env) (s:Shared) (H:Hp) (vs:List V) (Q:VK) (E:XK),Room k (A.deeper (PyProof.Rows.envOfC I (zg st) s.heap.objs.size f D))->spG m fr F vs H Q E->
   ∃t,QSs (zdB CX0 P w K mg base N I (zg st) f D A B s H E).nox (ym st) t/\t { nx:=fun _ H'=>Q .non H',rt:=Q } (L2.xg N vs) H)->FnOk P w K mg base CX0 (k+1) f fd ps (spG m fr F)) (hm:m=ps.length) (hg:m - 1∈M) (hM:∀i∈M,m - 1<=i) (hN:N.length=m+r)
  (L:∀ (D:Value) (A:Around) (B:List Env) (s:Shared) (H:Hp) (E:XK) (Pn:Option zm),Room k (A.deeper (PyProof.Rows.envOfC I (zg st) s.heap.objs.size f D))->
   ∃fs,JSs (zdB CX0 P w K mg base N I (zg st) f D A B s H E).nox Pn [] M fr (ym st) fs/\∀ws n R,F Pn ws n R->beg ws r fun ρ=>fs ρ n { nx:=fun _ n'=>False,rt:=R }):FnOk P w K mg base CX0 (k+1) f fd ps (spG m fr F):=by
 refine U (fun vs H Q E h=>?_) (fun D A B s H vs Q E hr h=>?_)
 ·obtain⟨Pn,A,Y,zs,w,a,n,R,rfl,_,_,Z,_,_,hl,_⟩:=h;rw[ai,Z.len,<- hm,<- hl];rfl
 ·obtain⟨Pn,A3,Y,zs,w,a,n,R,rfl,al,hA,Z,O,ad,hl,hp,hF,q⟩:=h;obtain⟨fs,⟨t,qs,rs⟩,an⟩:=L D A B s H E Pn hr;obtain⟨ev,mi⟩:=zhf (N:=N) (M:=M) al hA Z O ad (by rw[show zs.length=m - 1 by lia];exact hg) (fun i hi=>by have:=hM i hi;lia);have J:=an (zs++[w]) n R hF;rw[zhL] at J
  have e:xp N (zs++[w])=(zs++[w]).map some++List.replicate r none:=by unfold xp;rw[hN,show (zs++[w]).length=m by rw[ai];simp;lia,Nat.add_sub_cancel_left]
  rw[<- e] at J;refine⟨t,qs,rs.run { A0:=zfS A3 a,H0:=ziv H a,G0:=z7 A3 H,σ0:=L2.xg N (Y++[.ref a]) } A3 (L2.xg N (Y++[.ref a])) H (xp N (zs++[w])) n _ _ ⟨ev,⟨fun _ z=>z.1,fun b z=>?_,fun b o e np _=>?_,zhI al,fun _ z=>z.elim,fun _ z=>z.elim⟩,hp,zv.refl _,fun i hi=>rfl,fun i u b hi e1 s1=>?_⟩ ⟨?_,?_,?_,fun _ z=>z,?_⟩ J⟩
  ·by_cases O:b=a
   ·subst O;exact .inr (.inl zix)
   ·exact .inl ⟨z,O⟩
  ·by_cases O:b=a
   ·subst O;have e:ziv H b b=some o:=e;rw[ziw] at e;cases e;exact absurd np ziy
   ·have e:ziv H a b=some o:=e;rwa[zb5 O] at e
  ·have:=mi i u hi e1;rw[s1] at this;cases this;exact .inl zix
  ·intro _ _ _ _ _ _ z;exact z.elim
  ·intro _ _ _ _ _ _ z;exact z.elim
  ·intro _ _ _ _ _ _ z;exact z.elim
  ·intro w n' v H' ap st pn as r;exact q w n' v H' r ap st.stay pn as
theorem Fun.okG {P:Program}{w:World}{K:PySem.W.Frag}{mg:Str->Option Value}{base:Heap}{x q:Str}{st:Stmt}{f:Addr}{fd:FuncData}{N ps:List Str}{k m:Nat}{F:Option zm->List W->Mo W}(M:List Nat)(r:Nat)(Fu:Fun K x q st f fd)(S:FnScope N ps (zg st))(L:m=ps.length)(O:m - 1∈M)(U:∀i∈M,m - 1<=i)(Y:N.length=m+r)
  (B:∀ (I:Value) (A:Around) (D:List Env) (s:Shared) (H:Hp) (E:XK) (Pn:Option zm),Room k (A.deeper (PyProof.Rows.envOfC q (zg st) s.heap.objs.size f I))->
   ∃fs,JSs (zdB CX0 P w K mg base N q (zg st) f I A D s H E).nox Pn [] M fr (ym st) fs/\∀J n R,F Pn J n R->beg J r fun ρ=>fs ρ n { nx:=fun _ Z=>False,rt:=R }):FnOk P w K mg base CX0 (k+1) f fd ps (spG m fr F):=zql M r (fun l b=>Fun.okQ Fu S l b) L O U Y B
end
end L3
namespace L2
open PySem PySem.Spec PyProof.Rows PySem.W PySem.SeqAt
section
variable {X:Cx}
end
end L2
namespace L3
open PySem PySem.Spec L2
section
variable {X:Cx}{Pn:Option zm}{M S:List Nat}{fr fr':Bool}{e o:Expr}{f fo:Ev->Mo W}{pos p:Pos}
@[reducible] def dLenK:List W->Mo W:=fun q n Q=>on1 q fun x=>onK x fun kvs=>Q (.d (.int (kvs.length:Nat))) n
@[reducible] def dListK:List W->Mo W:=fun q n Q=>on1 q fun x=>onK x fun kvs=>∃ns:List Int,kvs.map (·.1)=ns.map Sum.inl/\Q (.d (.lst (ns.map .int))) n
@[reducible] def dIndex (fo f:Ev->Mo W):Ev->Mo W:=fun ρ n Q=>fo ρ n fun x q=>onL x fun l=>f ρ q fun y B=>onI y fun k=>∃ns:List Int,l=ns.map .int/\k∈ns/\Q (.d (.int (ns.idxOf k:Nat))) B
@[reducible] def zsD (f:Ev->Mo W):Ev->Mo W:=fun ρ n Q=>f ρ n fun x q=>onL x fun l=>∃ns:List Int,l=ns.map .int/\ns.Nodup/\ns.length<=1000/\Q (.d (.int (ns.length:Nat))) q
end
end L3
namespace L2
theorem us_1 {α:Type}{q:List α}(h:q.length=1):∃a,q=[a]:=match q,h with | [a],_=>⟨a,rfl⟩
theorem us_2 {α:Type}{q:List α}(h:q.length=2):∃a b,q=[a,b]:=match q,h with | [a,b],_=>⟨a,b,rfl⟩
theorem us_3 {α:Type}{q:List α}(h:q.length=3):∃a b c,q=[a,b,c]:=match q,h with | [a,b,c],_=>⟨a,b,c,rfl⟩
theorem us_4 {α:Type}{q:List α}(h:q.length=4):∃a b c d,q=[a,b,c,d]:=match q,h with | [a,b,c,d],_=>⟨a,b,c,d,rfl⟩
open PySem PySem.Spec PyProof.Rows PySem.W PySem.Calls
theorem ze5 {X:Cx}{ke ve tg U:Expr}{ad:List Expr}{scope:Scope}{pos:Pos}{wi:TI}{g:TG}{ti:TT}{tk tv:TE}{N:List Str}{z:Str}{cix:List (Option Nat)}{o0:HO}(b4:o0 = .dK []\/o0 = .dT [])(hu:X.A.units+1<cLine)(hc:X.calm=true)(c:CompOkC X scope N z cix)
  (hi:PI X tg U wi) (hg:∀C D s H ex,PG (zC X scope N z C D s H ex) tg g) (ht:∀C D s H ex,PTs (zC X scope N z C D s H ex) ad ti) (hk:∀C D s H ex,PE (zC X scope N z C D s H ex) ke tk) (hv:∀C D s H ex,PE (zC X scope N z C D s H ex) ve tv)
  (hs:∀x,foldedSetIterable U X.env x=pure x:=by intro _;rfl):PE X (.DictComp ke ve [⟨tg,U,ad,0⟩] scope pos) (zka o0 wi g ti tk tv cix):=by
 intro pins s σ H Q I h;rw[zcU];refine bS (use:=none) rfl hs (xF (c.cells I.ok)) c.kind c.names (thn (hi pins s σ H _ I h) fun xv s1 h1=>thn h1 fun c1 B h2=>?_);obtain⟨it,fp,tn,J,H2,e,I2,T,a3,f2,q2⟩:=h2;subst e;generalize a4:({ cls:=.type "dict",data:=.dict #[] }:Obj)=Y;refine zhn ?_;rw[a4];refine zcm c.parts.2 ?_;dsimp only;obtain⟨h4,al⟩:∃h4,h4=((B.heap.push Y).push { cls:=.type "dict",data:=.dict #[] }).push { cls:=.type "cell",data:=.cell none }:=⟨_,rfl⟩;rw[<- al];obtain⟨D4,as⟩:∃D4,D4=((B.heap.push Y).push { cls:=.type "dict",data:=.dict #[] }).objs.size:=⟨_,rfl⟩;rw[<- as];have a5:(B.heap.push Y).objs.size<=D4:=by rw[as,cI (h:=B.heap.push Y)];exact dB _
 have bb:h4.IsCell D4 none:=by rw[al,as];exact⟨_,aK _ rfl,rfl⟩
 have bd:h4.Ns (B.heap.push Y).objs.size (fun x=>([]:List (Str×Value)).reverse.lookup x):=by rw[al];exact (Heap.Ns.new ..).at' fun o e=>af _ e
 have av:=I2.hok.fresh (ag B.heap.objs.size)
 have bk:∀H',yr X.prog X.w H' (B.heap.push Y) B.heap.objs.size o0:=fun H'=>by
  rw[<- a4];rcases b4 with rfl | rfl
  ·exact zgx B.heap I2.big
  ·exact zgy B.heap I2.big
 have I3:Inv X pins σ (upd H2 B.heap.objs.size o0) { B with heap:=B.heap.push Y,toks:=B.toks }:=I2.laid (t':=B.toks) (fun b u e=>af _ e) (ag _) (bk _);obtain⟨W,⟨m0,w0⟩,bl⟩:=q2 B.heap.objs.size av
 have an:∀b∈fp,b<B.heap.objs.size:=fun b L=>by obtain⟨o,ho,_⟩:=T.obj _ _ a3 b L;exact ay ho
 have f3:∀b∈fp,zbt X pins (upd H2 B.heap.objs.size o0) b:=fun b L=>⟨by rw[ze (aM (an b L))];exact (f2 b L).1,(f2 b L).2⟩
 have kp:∀b o,(B.heap.push Y).get? b=some o->h4.get? b=some o:=fun b o e=>by rw[al];exact af _ (af _ e)
 have a0:B.heap.objs.size<(B.heap.push Y).objs.size:=by rw[cI];exact ck _
 have I4:=zeL (tk:=B.toks) I3 c f3 (fun b L=>bJ (an b L) a0) bd a5 bb kp;have bo:tn 0 h4:=T.keep _ _ _ a3 fun b L o e=>kp b o (af _ e);generalize O:zC X scope N z (B.heap.push Y).objs.size D4 { B with heap:=B.heap.push Y,toks:=B.toks } (upd H2 B.heap.objs.size o0) fp=X' at I4;have pX:X'.prog=X.prog:=by rw[<- O];rfl
 have wX:X'.w=X.w:=by rw[<- O];rfl
 have KX:X'.K=X.K:=by rw[<- O];rfl
 have AX:X'.A=X.A:=by rw[<- O];rfl
 have cX:X'.calm=true:=by rw[<- O];exact hc
 have xX:X'.xe=fun _ _=>False:=by rw[<- O];rfl
 have eX:X'.env={ compEnvC scope (zaB X.env scope.names []) (B.heap.push Y).objs.size X.env with cells:=(z,D4)::zaB X.env scope.names [] }:=by rw[<- O];rfl
 have ca:PG X' tg g:=by rw[<- O];exact hg _ _ _ _ _
 have cc:PTs X' ad ti:=by rw[<- O];exact ht _ _ _ _ _
 have cd:PE X' ke tk:=by rw[<- O];exact hk _ _ _ _ _
 have ch:PE X' ve tv:=by rw[<- O];exact hv _ _ _ _ _
 have f4:∀ {H':Hp},(∀b∈fp,H' b=none)->∀b∈fp,zbt X' [] H' b:=fun {H'} hn b L=>by
  refine⟨hn b L,?_,?_,.inl ?_,?_,?_⟩
  ·rw[eX];exact aM (bJ (an b L) a0)
  ·have e1:X'.fs=frs X.stack:=by rw[<- O];rfl
   rw[e1];intro z;rcases aE.mp (I2.stkSub b z) with e | e
   ·exact (f2 b L).2.1 e
   ·exact (f2 b L).2.2.1 e
  ·rw[<- O];exact L
  ·rw[eX];intro x a e;have e':((z,D4)::zaB X.env scope.names []).lookup x=some a:=e;rw[a6] at e'
   cases q:x==z with
   | true=>
    rw[q] at e';have e2:some D4=some a:=e';cases e2;exact dg (aU (bJ (an b L) a0) a5)
   | false=>
    rw[q] at e';rcases yU (c.cells I.ok) e' with z | z
    ·exact (f2 b L).2.2.2.2.1 x a z
    ·simp at z
  ·intro p hp;have e1:X'.pn++([]:List (Addr×Obj))=[]:=by rw[<- O];rfl
   rw[e1] at hp;simp at hp
 have bs:∀s4:Shared,s4={ B with heap:=h4,toks:=B.toks }->
   codeAny (model X.prog X.w) X.A (.compLoop (.DictComp ke ve [⟨tg,U,ad,0⟩] scope pos) 0 (.ref it) (.ref B.heap.objs.size) X'.env)
    (compPost (model X.prog X.w) X.A X.xe none (EP X pins σ Q) (.ref B.heap.objs.size) (B.heap.push Y).objs.size) s4:=by
  rintro s4 rfl;refine za9 (fun n s'=>∃i F H',Inv X' [] F H' s'/\tn i s'.heap/\(∀b∈fp,H' b=none)/\W i n F H') ?_ m0 ⟨0,uR σ cix,_,I4,bo,fun b L=>(f3 b L).1,w0⟩;rintro n s5 ⟨i,ap,H5,I5,bx,b0,w5⟩;rcases bl i n ap H5 w5 with ⟨stop,qn⟩ | ⟨go,Nx,hN,step⟩
  ·have:=T.done X' pX wX KX cX i [] s5 ap H5 (fun _ _=>False) I5 (f4 b0) bx stop;rw[AX] at this;refine thn this  ?_;rintro r s6 ⟨hr,I6⟩;subst hr;obtain⟨m6,b1,_⟩:=I6.loc;rw[eX] at b1;refine⟨m6,b1,fun h7 cl=>?_⟩;have I6':=I6;rw[<- O] at I6';exact⟨.ref B.heap.objs.size,H5,zcc I3 f3 I6' cl,rfl,qn⟩
  ·have:=T.item X' pX wX KX cX i [] s5 ap H5 (fun _ _=>False) I5 (f4 b0) bx go;rw[AX] at this;refine thn this  ?_;rintro r s6 ⟨u,hr,h6⟩;subst hr;refine thn h6  ?_;rintro _ s7 ⟨x,H7,I7,r7,y7,a1,cn⟩;have I7':=I7.pinned (f4 cn) (T.obj _ _ a1);have a7:=ca _ s7 ap H7 x u _ I7' r7 (step x H7 y7);rw[pX,wX,AX,xX] at a7;refine thn a7  ?_;rintro _ s8 ⟨a2,H8,I8,q8⟩;have t8:=cc _ s8 a2 H8 _ I8 q8;rw[pX,wX,AX,xX] at t8;refine thn t8  ?_;rintro ok s9 ⟨H9,I9,q9⟩
   have Z:∀ {s':Shared} {F:St} {H':Hp},Inv X' ([]++xP fp s7.heap) F H' s'->Nx F H'->∃m,m<n/\∃i F H',Inv X' [] F H' s'/\tn i s'.heap/\(∀b∈fp,H' b=none)/\W i m F H':=fun {s' F H'} J' n'=>by obtain⟨m',hm,w'⟩:=hN F H' n';refine⟨m',hm,i+1,F,H',J'.unpinned,T.keep _ _ _ a1 fun b L o e=>(J'.pin (b,o) (ak _ (ak _ (zG L e)))).1,fun b L=>?_,w'⟩;obtain⟨o,e,d⟩:=T.obj _ _ a1 b L;exact (J'.pin (b,o) (ak _ (ak _ (zG L e)))).2.1
   cases ok with
   | false=>exact Z I9 q9
   | true=>
    have e9:=cd _ s9 a2 H9 _ I9 q9;rw[pX,wX,AX,xX] at e9;refine thn e9  ?_;rintro u2 co ⟨y,H10,I10,cp,cs⟩;have b2:=ch _ co a2 H10 _ I10 cs;rw[pX,wX,AX,xX] at b2;refine thn b2  ?_;rintro u3 c2 ⟨v,H11,I11,c0,H12,dp,nx⟩;have b3:=zez (X:=X') (A:=X.A) (E:=fun _ _=>False) (Q:=fun _ s'=>∃m,m<n/\∃i F H',Inv X' [] F H' s'/\tn i s'.heap/\(∀b∈fp,H' b=none)/\W i m F H') hu I11 dp cp c0 fun s' I'=>Z I' nx;rw[pX,wX] at b3;exact b3
 have l0:=bs _ rfl;rw[eX] at l0;exact uM l0 (T.self X.A 0 _ _ _ bo l0)
theorem ze7 {X:Cx}{pos:Pos}{tk tv:TE}{I J tg q:Expr}{B:List Expr}{scope:Scope}{L:TI}{g:TG}{ti:TT}{N:List Str}{z:Str}{cix:List (Option Nat)}{o0:HO}(F:o0 = .dK []\/o0 = .dT [])(O:X.A.units+1<cLine)(U:X.calm=true)(c:CompOkC X scope N z cix)
  (hi:QI X tg q L) (Y:∀C D s H ex,QG (zC X scope N z C D s H ex) tg g) (Z:∀C D s H ex,QTs (zC X scope N z C D s H ex) B ti) (hk:∀C D s H ex,QE (zC X scope N z C D s H ex) I tk) (hv:∀C D s H ex,QE (zC X scope N z C D s H ex) J tv)
  (hs:∀x,foldedSetIterable q X.env x=pure x:=by intro _;rfl):QE X (.DictComp I J [⟨tg,q,B,0⟩] scope pos) (zka o0 L g ti tk tv cix):=
 ⟨ze5 F O U c hi.run (fun C D s H ex=>(Y C D s H ex).run) (fun C D s H ex=>(Z C D s H ex).run) (fun C D s H ex=>(hk C D s H ex).run) (fun C D s H ex=>(hv C D s H ex).run) hs⟩
end L2
namespace L3
open PySem PySem.Spec L2
section
variable {X:Cx}{Pn:Option zm}{M S:List Nat}{fr fr':Bool}{e a b c:Expr}{es:List Expr}{f fa fb fc:Ev->Mo W}{pos p:Pos}
theorem zmI {scope:Scope}{N:List Str}{z:Str}{fr:Bool}(h:∀C D s H ex,JE (zC X scope N z C D s H ex) Pn M fr e f):∃te,(∀C D s H ex,QE (zC X scope N z C D s H ex) e te)/\RE Pn M fr te f:=
 ⟨fun σ H Q=>∀C D s H0 ex,(h C D s H0 ex).ex.choose σ H Q,fun C D s H0 ex=>⟨fun pins s' σ H Q I q=>(h C D s H0 ex).ex.choose_spec.1.run pins s' σ H Q I (q C D s H0 ex)⟩,
  ⟨fun A σ H ρ n Q R E P B k C D s H0 ex=>(h C D s H0 ex).ex.choose_spec.2.run A σ H ρ n Q R E P B k⟩⟩
theorem zmK {scope:Scope}{N:List Str}{z:Str}{q:Ev->Mo Bool}(h:∀C D s H ex,JTs (zC X scope N z C D s H ex) Pn M es q):∃te,(∀C D s H ex,QTs (zC X scope N z C D s H ex) es te)/\RT Pn M te q:=
 ⟨fun σ H Q=>∀C D s H0 ex,(h C D s H0 ex).ex.choose σ H Q,fun C D s H0 ex=>⟨fun pins s' σ H Q I B=>(h C D s H0 ex).ex.choose_spec.1.run pins s' σ H Q I (B C D s H0 ex)⟩,
  ⟨fun A σ H ρ n Q R E P F k C D s H0 ex=>(h C D s H0 ex).ex.choose_spec.2.run A σ H ρ n Q R E P F k⟩⟩
theorem zmJ {scope:Scope}{N:List Str}{z:Str}{mg:W->Ev->(Ev->Prop)->Prop}(h:∀C D s H ex,JG (zC X scope N z C D s H ex) S M e mg):∃g,(∀C D s H ex,QG (zC X scope N z C D s H ex) e g)/\RG S M g mg:=
 ⟨fun v σ H Q=>∀C D s H0 ex,(h C D s H0 ex).ex.choose v σ H Q,fun C D s H0 ex=>⟨fun pins s' σ H v u Q I q B=>(h C D s H0 ex).ex.choose_spec.1.run pins s' σ H v u Q I q (B C D s H0 ex)⟩,
  ⟨fun A σ H ρ v w Q R E F J k C D s H0 ex=>(h C D s H0 ex).ex.choose_spec.2.run A σ H ρ v w Q R E F J k⟩⟩
theorem zrM {scope:Scope}{N:List Str}{z:Str}(h:∀C D s H ex,JB (zC X scope N z C D s H ex) Pn M e f):∃te,(∀C D s H ex,QE (zC X scope N z C D s H ex) e te)/\RB Pn M te f:=
 ⟨fun σ H Q=>∀C D s H0 ex,(h C D s H0 ex).ex.choose σ H Q,fun C D s H0 ex=>⟨fun pins s' σ H Q I q=>(h C D s H0 ex).ex.choose_spec.1.run pins s' σ H Q I (q C D s H0 ex)⟩,
  ⟨fun A σ H ρ n Q R E P B k C D s H0 ex=>(h C D s H0 ex).ex.choose_spec.2.run A σ H ρ n Q R E P B k⟩⟩
theorem zno {B tg q:Expr}{F:List Expr}{scope:Scope}{N:List Str}{z:Str}{cix:List (Option Nat)}{I:Ev->Mo (List W)}{mg:W->Ev->(Ev->Prop)->Prop}{J:Ev->Mo Bool}{L:Ev->Mo W}{O:Bool}(U:X.calm=true)(Y:CompOkC X scope N z cix)
  (hi:JI X Pn M O tg q I) (Z:∀C D s H ex,JG (zC X scope N z C D s H ex) (yM M cix) (yM M cix) tg mg) (ht:∀C D s H ex,JTs (zC X scope N z C D s H ex) Pn (yM M cix) F J) (he:∀C D s H ex,JE (zC X scope N z C D s H ex) Pn (yM M cix) fr' B L)
  (hn:(cix.filterMap id).Nodup:=by decide) (hs:∀x,foldedSetIterable q X.env x=pure x:=by intro _;rfl):JE X Pn M true (.ListComp B [⟨tg,q,F,0⟩] scope pos) (zld I mg J L cix):=by
 obtain⟨ti,qi,ri⟩:=hi.ex;obtain⟨g,qg,rg⟩:=zmJ Z;obtain⟨tt,qt,rt⟩:=zmK ht;obtain⟨te,qe,re⟩:=zmI he;exact⟨_,zjH U Y qi qg qt qe hs,zf7 hn ri rg rt re⟩
end
open PySem PySem.Spec L2
theorem ziI {G:Hp}:∀ {q:List Bool} {xs:List V},IsL G (q.map .bl) xs->xs=q.map V.bl
 | [],_,h=>h
 | b::q,xs,h=>by obtain⟨x,r,rfl,h1,h2⟩:=h;have e:x = .bl b:=h1;rw[e,ziI h2];rfl
theorem ziA {b:Bool}:∀q:List Bool,inV (.bl b) (q.map V.bl)=q.contains b
 | []=>rfl
 | c::q=>by have:=ziA (b:=b) q;unfold inV at this ⊢;rw[aq,cq,this,List.contains_cons];cases b <;> cases c <;> rfl
theorem zgA:∀q:List Bool,(q.map V.bl).all zcV=true
 | []=>rfl
 | _::q=>by rw[aq,cQ,zgA q];rfl
section
variable {Pn:Option zm}{K:PySem.W.Frag}
@[reducible] def dInB:W->W->Mo W:=fun x y n Q=>onB x fun b=>onL y fun l=>∃q:List Bool,l=q.map .bl/\Q (.d (.bl (q.contains b))) n
theorem ztT:F2 Pn false (rIn K false) dInB:=⟨fun A H x y J L n Q R O B q P h k=>by simp only[dInB,zmo,xN] at h;obtain⟨b,rfl,l,rfl,D,rfl,h⟩:=h;obtain⟨a,xs,rfl,F,I⟩:=y9 q;obtain rfl:=ziI I;have e:x = .bl b:=B;subst e;exact⟨a,_,rfl,.inl (.of F),rfl,zgA D,k _ n _ H h (Val.of (by rw[ziA];rfl)) (Go.refl P) fun z=>by cases z⟩⟩
end
end L3
namespace L2
open PySem PySem.Spec PyProof.Rows PySem.W PySem.Calls
section
variable {prog:Program}{w:World}{A:Around}{E:Value->Shared->Prop}{s:Shared}
theorem zcR {Q₁:Value->Shared->Prop}
  (h:Q₁ (.ref s.heap.objs.size) { s with heap:=s.heap.push { cls:=.type "set",dict:=none,data:=.set #[] 0 (.fresh 0 0 (!w.params.followText "set-order")) } }) :
  codeAny (model prog w) A (.call (.builtin "set.__new__") ⟨[.type "set"],[]⟩) (wants Q₁ E) s:=by
 refine dv ?_;show wpAny _ A.in1 (do checkBuiltinCall "set.__new__" ⟨[.type "set"],[]⟩;again (.builtin "set.__new__" ⟨[.type "set"],[]⟩)) _ _ s;refine aa (wpAny_of_eq PySem.F.newCall_set_0 (ac ⟨plainId_quiet PySem.F.plain_set_new _,eG PySem.F.entry_set_new ?_⟩));rw[ei PySem.F.plain_set_new _];unfold Builtin.«set.__new__» Builtin.Frozenset.newClass;have hsub:=sub_set_self;obtain⟨hp,g,d,tk,os⟩:=s;dsimp only
 wp_walk
 refine bu (ac ?_);dsimp only;simp only[newObj];refine aa (fF (ac ?_));exact ac h
set_option maxHeartbeats 1000000 in
theorem zfx {Q:Value->Shared->Prop}
  (h:Q (.ref s.heap.objs.size) { s with heap:=s.heap.push { cls:=.type "set",dict:=none,data:=.set #[] 0 (.fresh 0 0 (!w.params.followText "set-order")) } }) :
  wpAny (model prog w) A (call (.type "set") []) Q E s:=by
 obtain⟨c,tl,Z⟩:=PySem.F.called_set.mro;have U:=PySem.F.called_set.made;have ad:=PySem.F.called_set.sub;refine wpAny_call (dv ?_);show wpAny _ _ (callAny (.type "set") _) _ _ _;refine ac ⟨Code.quiet_builtin _ (by decide +kernel),eG PySem.F.entry_type_call ?_⟩;rw[Around.under_plain (weight_type_call_type "set" [] []) rfl];have h1:=PySem.F.called_set.notType;have h2:=PySem.F.called_set.canCreate;have al:=PySem.F.typeCall_set_0
 repeat (any_goals (first | assumption | wp_step))
 generalize J:(!w.params.followText "set-order")=led at *;refine dJ (zcR (E:=E) (Q₁:=fun L B=>L = .ref s.heap.objs.size/\B={ s with heap:=s.heap.push { cls:=.type "set",dict:=none,data:=.set #[] 0 (.fresh 0 0 led) } }) ⟨rfl,by rw[J]⟩) fun r B Y=>?_
 cases r with
 | error e=>exact Y
 | ok fl=>
  cases fl with
  | ret L=>
   obtain⟨rfl,rfl⟩:=Y;have hS:(s.heap.push { cls:=.type "set",dict:=none,data:=.set #[] 0 (.fresh 0 0 led) }).get? s.heap.objs.size=some { cls:=.type "set",dict:=none,data:=.set #[] 0 (.fresh 0 0 led) }:=aK _ rfl;have hT:Shared.TypeIs { s with heap:=s.heap.push { cls:=.type "set",dict:=none,data:=.set #[] 0 (.fresh 0 0 led) } } (.ref s.heap.objs.size) "set" := ⟨_,hS,rfl⟩;have an:=PySem.F.called_set.init.lookup;have ap:=PySem.F.called_set.init.bind (.ref s.heap.objs.size)
   repeat (any_goals (first | assumption | wp_step))
   refine dJ (codeAny_call_builtin (R:=wants (fun r D=>r = .none/\Q (.ref s.heap.objs.size) D) E) PySem.F.called_set.init.plain PySem.F.entry_set_init (check_set_init hT ?_)) fun O D q=>?_
   ·unfold Builtin.«set.__init__» noKeywords
    wp_walk
    exact⟨rfl,h⟩
   ·cases O with
    | error e=>exact q
    | ok I=>
     cases I with
     | ret r=>
      obtain⟨rfl,hq⟩:=q
      repeat (any_goals (first | assumption | wp_step))
     | _=>exact q.elim
  | _=>exact Y.elim
end
section
variable {X:Cx}
def zq6 (P:Program)(w:World):List V->Hp->VK->Prop:=fun xs H Q=>xs=[]/\∀ (l:Addr) (H':Hp),H l=none->zel P w H' l []->y4 H H'->Q (.ref l) H'
theorem zmU:CallQ X (.type "set") (zq6 X.prog X.w):=⟨by
 intro pins s σ H xs D Q I r h;obtain⟨rfl,q⟩:=h;cases r;refine zfx ?_;have B:H s.heap.objs.size=none:=I.hok.fresh (ag _);exact⟨.ref s.heap.objs.size,_,I.laid (t':=s.toks) (o:=zfo X.prog X.w s.heap.objs.size []) (fun b o e=>af _ e) (ag _) (zgb (zfc _)),rfl,q _ _ B ⟨[],zj,fun _ h=>by simp at h,rfl,eU⟩ (fun b o e=>by rw[ze (zc e B)];exact e)⟩⟩
def zrA (P:Program)(w:World)(to:TE)(t:TA):TE:=fun σ H Q=>to σ H fun x H1=>∃a,x = .ref a/\(∃ks,zel P w H1 a ks)/\t σ H1 fun xs H2=>∃b ns ks,xs=[.ref b]/\zel P w H2 a ks/\H2 b=some (.tup (ns.map V.int))/\ks.length<300/\
 ∀o q,zel P w (upd H2 a o) a q->(∀x,x∈q↔x=ns\/x∈ks)->q.length<=ks.length+1->Q .non (upd H2 a o)
theorem zou {o e:Expr}{to:TE}{t:TA}{apos cpos:Pos}(hu:X.A.units+1<cLine)(ho:QE X o to)(ha:QA X [e] t)(hbase:attributeBase o "add" X.env (eval o X.env)=eval o X.env:=by rfl)
  (hfew:((backTo cpos (starEach [e] X.env)).all (fun x=>!x.1)&&(backToKw cpos (keywordEach [] X.env)).all (fun x=>x.1.isSome)&&decide (([e]:List Expr).length+([]:List Keyword).length+(if ([]:List Keyword).isEmpty then 0 else 1)<30))=true:=by rfl)
  (hline:(apos.endLine==cpos.line)=true:=by rfl) (hs:starEach [e] X.env=(false,eval e X.env)::starEach [] X.env:=by rfl) (hplain:(backTo cpos (starEach [] X.env)).any (·.1)=false:=by rfl) :
  QE X (.Call (.Attribute o "add" apos) [e] [] cpos) (zrA X.prog X.w to t):=⟨by
 intro pins s σ H Q I h;refine wpAny_Call_method_late hbase hfew hline rfl (thn (ho.run pins s σ H _ I h)  ?_);rintro v s1 ⟨x,H1,I1,r1,q1⟩;obtain⟨a,rfl,⟨ks,S⟩,q1⟩:=q1;cases r1;obtain⟨xs,hH,_⟩:=S;obtain⟨ob,es,ep,tb,ho1,hx,hd,T,hroom⟩:=(show yr X.prog X.w H1 s1.heap a (zfo X.prog X.w a (uN xs)) from I1.hok a _ hH).1;refine⟨"set","set.add",PySem.F.plainAttrs_set,PySem.F.slot_set_add,PySem.F.type_set_add,⟨ob,ho1,hx.1⟩,fun b e=>(by injection e with e;subst e;exact⟨ob,ho1,hx.2.1⟩),?_⟩;have hA:=ha.run cpos pins s1 σ H1 _ I1 q1;rw[hs] at hA ⊢;refine dy (by show (false || (backTo cpos (starEach [] X.env)).any (·.1))=false;rw[hplain] <;> rfl) (ee ?_);refine thn hA  ?_;rintro us s2 ⟨vs,H2,I2,r2,q2⟩;obtain⟨b,ns,ks2,rfl,S2,hb,hn,q2⟩:=q2;obtain⟨u,rfl,ru⟩:=za0 r2;cases ru;exact zdn hu I2 S2 hb hn fun o ks' s' S' m' l' I'=>⟨.non,_,I',rfl,q2 o ks' S' m' l'⟩⟩
end
end L2
namespace L3
open PySem PySem.Spec L2
section
variable {X:Cx}{Pn:Option zm}{M S:List Nat}{fr fr':Bool}{pos p:Pos}{e:Expr}{f:Ev->Mo W}
theorem zge {P:Program}{w:World}{H:Hp}{A:Addr->Prop}{ks:List (List Int)}{v:V}(h:Bor A H (.ss P w ks) v):∃a,v = .ref a/\zel P w H a ks:=by obtain⟨a,xs,e,B,g2,D,F⟩:=h;exact⟨a,e,xs,B,fun q I=>zr _ _ (D q I),g2,F⟩
theorem ztO {P:Program}{w:World}{H:Hp}{A:Addr->Prop}{B:Addr}{o:HO}{ks:List (List Int)}(F:∀a xs,A a->H a≠some (.tup xs))(S:zel P w (L2.upd H B o) B ks):WAt (L2.upd H B o) (z7 A H) (.ss P w ks) (.ref B):=by
 obtain⟨xs,h1,h2,I,J⟩:=S;refine⟨B,xs,rfl,h1,I,fun q L=>?_,J⟩;have z:=h2 q L;have D:q.2≠B:=fun e=>by rw[e,h1] at z;cases z
 rw[ze D] at z;exact zy (fun y=>F _ _ y z) z
theorem zoI {P:Program}{w:World}:RE Pn M true (tCB (zq6 P w) zkb) (mC (.ss P w [])):=⟨fun A σ H ρ n Q R E Pp I k=>⟨rfl,fun l H' D SV Sm=>by obtain⟨xs,h1,h2,J,F⟩:=SV;have L:xs=[]:=eI.mp J.symm;subst L;exact k _ n _ H' I ⟨l,[],rfl,zy (E.new D) h1,rfl,fun q B=>absurd B bP,F⟩ (Go.same Pp Sm) fun _=>⟨l,rfl,.of D,l,[],rfl,h1,rfl,fun q B=>absurd B bP,F⟩⟩⟩
theorem zp3 (q:X.mg "set" = none)(B:Gl X "set" := by rfl):JE X Pn M true (.Call (.Name "set" p) [] [] pos) (mC (.ss X.prog X.w [])):=⟨_,⟨zhr zmU.run B q PyProof.Rows.boot_set⟩,zoI⟩
@[reducible] def zmY (P:Program) (w:World) (i:Nat) (f:Ev->Mo W):Ms:=fun ρ n k=>onV ρ i fun v=>∃ks,v = .ss P w ks/\f ρ n fun x m=>∃st:List Int,x = .d (stD st)/\ks.length<300/\
 ∀q:List (List Int),(∀y,y∈q↔y=st\/y∈ks)->q.length<=ks.length+1->q.Nodup->onP ρ i (.ss P w q) fun B=>k.nx B m
theorem zoP {P:Program}{w:World}{te:TE}{i:Nat}(h:RE Pn M fr' te f)(hi:i∈M):RS Pn S M fr (zlR (zrA P w (zkl i) (zbC te zkb))) (zmY P w i f):=⟨fun B A σ H ρ n k D a kk F=>by simp only[zmY,zar] at F;obtain⟨v0,I,ks,rfl,F⟩:=F;obtain⟨v,J,_,s3⟩:=a.env.val i _ I;obtain⟨ad,rfl,hA,hb,_⟩:=s3 hi;obtain⟨a2,e2,SV⟩:=zge hb;cases e2;refine⟨.ref ad,J,ad,rfl,⟨ks,SV⟩,?_⟩;refine h.run A σ H ρ n _ _ a.env a.pn F  ?_;rintro w m v H' ⟨st,ed,hz,r⟩ hv g _;subst ed;have L:=a.step g;obtain⟨v2,t1,_,t3⟩:=L.env.val i _ I;rw[J] at t1;cases t1;obtain⟨a3,e3,al,O,_⟩:=t3 hi;cases e3;obtain⟨a4,e4,SV'⟩:=zge O;cases e4;obtain⟨b,us,rfl,U,Y⟩:=(hv.is.stay (zv.same zr):Is H' (stD st) v);obtain rfl:=Y.of_ints;refine⟨b,st,ks,rfl,SV',U,hz,fun o Z S' mm ll=>?_⟩;have q:=r Z mm ll S'.choose_spec.2.2.2;rw[uJ] at q;exact kk.nx A σ _ _ m (L.wrX hi I J (ztO L.env.alT S') rfl (zgc S').1 (zgc S').2) q⟩
theorem znu (i:Nat){x:Str}{ap cp sp np:Pos}(hu:X.A.units+1<cLine)(he:JE X Pn M fr' e f)(hi:i∈M:=by decide)(hN:X.N[i]?=some x:=by rfl)(hv:Vis X.env.scope x:=by walk_at "v")(hd:(x==("__debug__" : Str))=false:=by decide)
  (hcd:(x==("__classdict__" : Str))=false:=by decide) (hs1:starEach (e::[]) X.env=(false,eval e X.env)::starEach [] X.env:=by rfl) (hs:swapsWith (.Call (.Attribute (.Name x np) "add" ap) [e] [] cp) none sp.line X.env=pure false:=by rfl) (hbase:attributeBase (.Name x np) "add" X.env (eval (.Name x np) X.env)=eval (.Name x np) X.env:=by rfl) (hline:(ap.endLine==cp.line)=true:=by rfl)
  (hfew:((backTo cp (starEach [e] X.env)).all (fun x=>!x.1)&&(backToKw cp (keywordEach [] X.env)).all (fun x=>x.1.isSome)&&decide (([e]:List Expr).length+([]:List Keyword).length+(if ([]:List Keyword).isEmpty then 0 else 1)<30))=true:=by rfl) (hplain:(backTo cp (starEach [] X.env)).any (·.1)=false:=by rfl) :
  JS X Pn S M fr (.Expr (.Call (.Attribute (.Name x np) "add" ap) [e] [] cp) sp) (zmY X.prog X.w i f):=by
 obtain⟨te,q,r⟩:=he.ex;exact⟨_,zcw (zou hu (qv i hN hv hd hcd) (zJ q yx hs1) hbase hfew hline hs1 hplain) hs,zoP r hi⟩
@[reducible] def zl8 (P:Program) (w:World):List W->Mo W:=fun B n Q=>on1 B fun x=>∃ (ks:List (List Int)) (m:Nat),x = .ss P w ks/\ks.length<64/\1<=m/\(∀st∈ks,st.length=m)/\∀q:List (List Int),q.Perm ks->(q.Pairwise fun a b=>HT.lexLt a b=true)->Q (.d (xD q)) n
theorem zo5 {P:Program}{w:World}:FL Pn true (zjR P w) (zl8 P w):=⟨fun A H xs ws n Q R I b Pp h k=>by simp only[zl8,zaq] at h;obtain⟨x,e,ks,m,rfl,D,h1,L,h⟩:=h;subst e;obtain⟨v,rfl,O⟩:=zbv b;obtain⟨a,rfl,SV⟩:=zge O;refine⟨a,ks,m,rfl,SV,D,h1,L,fun F q U Y Z p H' J g S=>?_⟩;have B:IsL (z7 A H) (q.map stD) F:=x9 I.noT (xW q) U;exact k _ n _ H' (h q Y Z) (xR B (zv.same S) (I.new J) g) (Go.same Pp S) fun z=>x8 B S J g⟩
end
open PySem PySem.Spec L2
theorem zg2 {α:Type}{p:List α->Prop}(q:p [])(B:∀l x,p l->p (l++[x]))(l:List α):p l:=by
 have h:∀l:List α,p l.reverse:=fun l=>by
  induction l with
  | nil=>exact q
  | cons x l D=>rw[c3];exact B _ _ D
 have:=h l.reverse;rwa[List.reverse_reverse] at this
theorem zbE {α:Type}(a b:List α)(i:Nat)(d:α)(h:i<a.length):(a++b).getD i d=a.getD i d:=by rw[aF,aF,a9 h]
theorem zlh:∀ {cs:List (List Int)} {st:List Int},st∈y3 cs↔st.length=cs.length/\∀i,i<cs.length->st.getD i 0∈cs.getD i []:=by
 intro cs;refine zg2 (p:=fun cs=>∀ {st:List Int},st∈y3 cs↔st.length=cs.length/\∀i,i<cs.length->st.getD i 0∈cs.getD i []) ?_ ?_ cs
 ·intro st;simp[y3,List.length_eq_zero_iff]
 ·intro cs c I st;rw[yT];unfold xH;rw[fJ];constructor
  ·rintro⟨r,J,h⟩;obtain⟨w,L,rfl⟩:=aH.mp h;obtain⟨h1,h2⟩:=I.mp J;refine⟨by simp[h1],fun i hi=>?_⟩;simp at hi;by_cases e:i=cs.length
   ·subst e;have:(r++[w]).getD cs.length 0=w:=by simp[<- h1]
    rw[this];simpa using L
   ·have B:i<cs.length:=by omega
    have O:(r++[w]).getD i 0=r.getD i 0:=by rw[zbE _ _ _ _ (by omega)]
    have U:(cs++[c]).getD i []=cs.getD i []:=by rw[zbE _ _ _ _ B]
    rw[O,U];exact h2 i B
  ·rintro⟨h1,h2⟩;simp at h1;have q:st≠[]:=fun z=>by rw[z] at h1;simp at h1
   have F:=bt q;have D:st.dropLast.length=cs.length:=by simp[h1]
   refine⟨st.dropLast,I.mpr ⟨D,fun i hi=>?_⟩,aH.mpr ⟨st.getLast q,?_,F⟩⟩
   ·have:=h2 i (by simp;omega);rw[zbE _ _ _ _ hi] at this;rw[<- F,zbE _ _ _ _ (by omega)] at this;exact this
   ·have:=h2 cs.length (by simp);rw[<- F] at this;have e:(st.dropLast++[st.getLast q]).getD cs.length 0=st.getLast q:=by simp[<- D]
    rw[e] at this;simpa using this
theorem zmM:∀ (cs:List (List Int)),(∀c∈cs,c.Pairwise (· < ·))->Up' (y3 cs):=by
 intro cs;refine zg2 (p:=fun cs=>(∀c∈cs,c.Pairwise (· < ·))->Up' (y3 cs)) ?_ ?_ cs
 ·intro _;simp[y3,Up']
 ·intro cs c D h;have F:=h c (by simp);have D:=D fun d I=>h d (by simp[I]);rw[yT];have q:=zdu cs;generalize y3 cs=rows at D q;unfold xH Up';rw[List.pairwise_flatMap];constructor
  ·intro r Z;rw[bw];refine F.imp fun {a b} B=>?_;exact lex_app r B
  ·refine (List.Pairwise.and_mem.mp D).imp fun {a b} ⟨J,L,B⟩=>?_;intro x O y U;obtain⟨v,_,rfl⟩:=aH.mp O;obtain⟨w,_,rfl⟩:=aH.mp U;exact lex_pre ((q a J).trans (q b L).symm) B
where
 lex_app:∀ (r:List Int) {a b:Int},a<b->HT.lexLt (r++[a]) (r++[b])=true
  | [],a,b,h=>by show (if a=b then HT.lexLt [] [] else decide (a<b))=true;rw[if_neg (by omega)];exact aL h
  | x::r,a,b,h=>by show (if x=x then HT.lexLt (r++[a]) (r++[b]) else decide (x<x))=true;rw[if_pos rfl];exact lex_app r h
 lex_pre:∀ {r t:List Int} {a b:Int},r.length=t.length->HT.lexLt r t=true->HT.lexLt (r++[a]) (t++[b])=true
  | [],[],_,_,_,h=>by rw[xb] at h;cases h
  | [],_::_,_,_,h,_=>by simp at h
  | _::_,[],_,_,h,_=>by simp at h
  | x::r,y::t,a,b,Y,h=>by
   have h:(if x=y then HT.lexLt r t else decide (x<y))=true:=h;show (if x=y then HT.lexLt (r++[a]) (t++[b]) else decide (x<y))=true;by_cases e:x=y
   ·rw[if_pos e] at h ⊢;exact lex_pre (by simpa using Y) h
   ·rw[if_neg e] at h ⊢;exact h
end L3
namespace L3
open PySem PySem.Spec L2
def IsP (Pn:Option zm)(p:Addr):Prop:=∃c ns,Pn=some (p,c,ns)
theorem dc {Pn:Option zm}{p:Addr}{yf:Int}{n:Nat}{Q:W->Nat->Prop}(q:IsP Pn p)(h:∀r,0<=r->r<yf->Q (.d (.int r)) (n+1))(B:n<=1000000:=by lia)(h1:1<=yf:=by lia)(h2:yf<1073741824:=by lia):zhD Pn [.pen p,.d (.int yf)] n Q:=let ⟨c,ns,e⟩:=q;⟨p,c,ns,yf,e,rfl,B,h1,h2,h⟩
theorem tc {Pn:Option zm}{p:Addr}{l:List Dt}{n:Nat}{Q:W->Nat->Prop}(q:IsP Pn p)(h:∀l':List Dt,l'.Perm l->Q (.d (.lst l')) (n+l.length))(B:n+l.length<=1000000:=by lia)(h1:l.length<=100000:=by lia):zhE Pn [.pen p,.d (.lst l)] n Q:=let ⟨c,ns,e⟩:=q;⟨p,c,ns,l,e,rfl,B,h1,h⟩
theorem zjX {B:List Int}{a L q:Int}(D:∀r∈B,2<=r/\r<=4)(O:2<=a/\a<=4)(F:yz B * L<=q)(h:a<=L):yz (B++[a]) * (L / a)<=q/\1<=L / a/\L / a<=L:=by
 have h1:1<=L / a:=(Int.le_ediv_iff_mul_le (by lia)).mpr (by lia);have h2:a * (L / a)<=L:=Int.mul_ediv_self_le (by lia);have I:0<=yz B:=by have:=zaP (ns:=B) (fun r J=>by have:=D r J;lia);lia
 refine⟨?_,h1,?_⟩
 ·rw[uk,Int.mul_assoc];exact Int.le_trans (cS h2 I) F
 ·exact Int.ediv_le_self _ (by lia)
theorem zif {α:Type}(f:α->Dt)(d:α)(l:List α):enW 0 (l.map f)=(List.range l.length).map fun i:Nat=>W.d (.tup [.int (i:Int),f (l.getD i d)]):=by
 apply dC;intro i;rw[zdC,au,au];by_cases h:i<l.length
 ·rw[ah h,b6 h];simp[h]
 ·rw[bA (by lia),bA (by rw[aj];lia)];rfl
theorem zih (sts:List (List Int)):enW 0 (sts.map stD)=(List.range sts.length).map fun k:Nat=>W.d (.tup [.int (k:Int),stD (sts.getD k [])]):=zif stD [] sts
theorem zak {k:Nat}:(zfn k).length=k:=by unfold zfn;rw[ab,aj]
theorem zoN {k:Nat}:zfn k=(zp (k:Int)).map Dt.int:=by unfold zfn zp;rw[aC,bf];rfl
theorem zd0 {α:Type}{f:α->Dt}{l:List Dt}{xs:List α}(h:l.Perm (xs.map f)):∃ys:List α,l=ys.map f/\ys.Perm xs:=by
 generalize B:xs.map f=zs at h
 induction h generalizing xs with
 | nil=>exact⟨[],rfl,by rw[eI.mp B]⟩
 | @cons x Y Z _ I=>
  match xs,B with
  | y::r,B=>
   rw[aq] at B;obtain⟨h1,h2⟩:=List.cons.inj B;obtain⟨ys,e,q⟩:=I h2;exact⟨y::ys,by rw[aq,h1,e],q.cons y⟩
 | swap x y l=>
  match xs,B with
  | a::b::r,B=>
   rw[aq,aq] at B;obtain⟨h1,h2⟩:=List.cons.inj B;obtain⟨J,L⟩:=List.cons.inj h2;exact⟨b::a::r,by rw[aq,aq,h1,J,L],.swap ..⟩
 | trans _ _ D F=>
  obtain⟨ys,e,q⟩:=F B;obtain⟨zs,O,U⟩:=D e.symm;exact⟨zs,O,U.trans q⟩
theorem zgU {l:List Dt}{k:Nat}(h:l.Perm (zfn k)):∃q:List Int,l=q.map Dt.int/\q.Perm (zp (k:Int)):=by rw[zoN] at h;exact zd0 h
theorem zai {m b:Int}:b∈zp m↔0<=b/\b<m:=by
 unfold zp;rw[aH];constructor
 ·rintro⟨k,q,rfl⟩;have:=aP.mp q;lia
 ·rintro⟨B,h1⟩;exact⟨b.toNat,aP.mpr (by lia),by lia⟩
theorem ze8 (m:Int):(zp m).Nodup:=by unfold zp List.Nodup;rw[bw];exact List.pairwise_lt_range.imp fun h=>by lia
theorem zhm {α q:Type}{G:Prop}(C:α->q->Prop)(P:α->q->Prop)(h:(∀a b,C a b->P a b)->G)(r:∀a b,C a b->P a b):G:=h r
theorem zo1 {q:List Int}(h:q.Nodup){i:Nat}(hi:i<q.length):q.getD i 0∉q.take i:=fun z=>by
 obtain⟨j,B,e⟩:=bH.mp z;rw[aN] at B;rw[dD] at e;have:q.getD i 0=q[i]:=by simp[hi]
 rw[this] at e;have:=(cj h).mp e;lia
theorem zb3 {q:List Int}{i:Nat}(hi:i<q.length):q.getD i 0∈q:=by
 have:q.getD i 0=q[i]:=by simp[hi]
 rw[this];exact bg hi
theorem zh3 {α:Type}(l:List α)(lo hi:Option Int):(uq l lo hi).Sublist l:=(dA _ _).trans (List.drop_sublist _ _)
theorem zh2 {α:Type}(l:List α):uq l (some 1) none=l.drop 1:=by
 unfold uq
 have h1:HT.sIx l.length 0 (some 1)=min 1 l.length:=by unfold HT.sIx;simp;try lia
 have h2:HT.sIx l.length l.length none=l.length:=rfl;rw[h1,h2,bY (by rw[bD];lia)]
 cases l with
 | nil=>rfl
 | cons a l=>simp
theorem zkk:∀ (l k:List Dt) (i:Nat),(ziW l k)[i]?=(l[i]?).bind fun x=>(k[i]?).map fun y=>W.d (.tup [x,y])
 | [],k,i=>by simp[ziW]
 | x::r,[],i=>by simp only[ziW,List.getElem?_nil,Option.map_none];cases (x::r)[i]? <;> rfl
 | x::r,y::s,0=>rfl
 | x::r,y::s,i+1=>by rw[ziW,bK,bK,bK];exact zkk r s i
theorem zlX (q:List (List Int)):ziW (q.map stD) (uq (q.map stD) (some 1) none)=(List.range (q.length - 1)).map fun i:Nat=>W.d (.tup [stD (q.getD i []),stD (q.getD (i+1) [])]):=by
 rw[zh2];apply dC;intro i;rw[zkk,du,au,au,au];by_cases h:i<q.length - 1
 ·rw[b6 h,ah (show i<q.length by lia),ah (show 1+i<q.length by lia)];have B:q.getD i []=q[i]:=by simp[show i<q.length by lia]
  have D:q.getD (i+1) []=q[1+i]:=by simp[show i+1<q.length by lia,fL]
  rw[eF,eF,eF,B,D];rfl
 ·rw[show (List.range (q.length - 1))[i]?=none from bA (by rw[aj];lia),show q[1+i]?=none from bA (by lia)];cases q[i]? <;> rfl
theorem zgK {κ:Type}[DecidableEq κ](kvs:List (κ×Dt))(k z:κ)(d:Dt):xx (zgW kvs k d) z=if z=k then some d else xx kvs z:=by
 unfold zgW;by_cases D:(kvs.any fun kv=>decide (kv.1=k))=true
 ·rw[if_pos D];unfold xx
  induction kvs with
  | nil=>simp at D
  | cons q r F=>
   rw[aq,bI,bI];by_cases e:q.1=k
   ·rw[if_pos e];by_cases B:z=k
    ·subst B;simp[e]
    ·have h1:¬ q.1=z:=fun w=>B (w.symm.trans e);rw[if_neg B];simp only[h1,decide_false];by_cases I:(r.any fun kv=>decide (kv.1=k))=true
     ·have:=F I;rw[if_neg B] at this;exact this
     ·congr 2;refine (bR fun p J=>?_).trans (List.map_id _);have:¬ p.1=k:=fun w=>I (cD.mpr ⟨p,J,aL w⟩);rw[if_neg this];rfl
   ·rw[if_neg e]
    have I:(r.any fun kv=>decide (kv.1=k))=true:=by rw[cq,aO e] at D;exact D
    have F:=F I;by_cases h1:q.1=z
    ·have:¬ z=k:=fun w=>e (h1.trans w);rw[if_neg this];simp[h1]
    ·simp only[h1,decide_false];exact F
 ·rw[if_neg D];unfold xx;rw[List.find?_append];by_cases B:z=k
  ·subst B;have:kvs.find? (fun q=>decide (q.1=z))=none:=eS.mpr fun p J w=>D (cD.mpr ⟨p,J,w⟩);rw[this];simp
  ·have:¬ k=z:=fun w=>B w.symm;rw[if_neg B];simp[this]
theorem zed {rm st:List Int}(h:StOk rm st):st∈y3 (rm.map zp):=by
 rw[zlh];have q:=h.len;refine⟨by rw[ab];exact q,fun i hi=>?_⟩;rw[ab] at hi;have e:(rm.map zp).getD i []=zp (rm.getD i 0):=by simp[hi]
 rw[e,zai];have:=h.box (i:Int) (by lia) (by lia);rw[yd,yd] at this;exact this
theorem zfX {l:List (List Int)}{st:List Int}:(Dt.tup (st.map Dt.int)∈l.map stD)↔st∈l:=by
 constructor
 ·intro z;obtain⟨s,q,e⟩:=aH.mp z;have:s=st:=List.map_inj_right (fun a b h=>Dt.int.inj h) |>.mp (Dt.tup.inj e);rw[<- this];exact q
 ·exact fun z=>aH.mpr ⟨_,z,rfl⟩
theorem zbO {rm st:List Int}{b x:Int}(h:StOk rm st)(q:0<=b)(L:b<rm.length)(D:0<=x)(F:x<yf rm b):StOk rm (chg st b x):=by
 have I:=h.len;refine⟨by rw[xt q (by lia)];exact I,fun c B J=>?_⟩;rw[ye q (by lia) B];split
 ·rename_i e;subst e;exact⟨D,F⟩
 ·exact h.box c B J
theorem zps {rm:List Int}{bk:List Wi}(h:yL rm bk):(Dt.lst (bk.map zP)).eqOk:=(zfD (rm:=rm) fun d q=>by obtain⟨x,B,rfl⟩:=aH.mp q;exact⟨x,rfl,h x B⟩).2
theorem zo2 {rm:List Int}{x:Wi}(h:WishOk rm x):WishOk rm (zrC x):=⟨h.giv,h.b0,h.b1,h.apart,h.w0,h.w1,h.r0,h.r1,Ne.symm h.ne⟩
theorem zmV {rm:List Int}{x:Wi}(h:WishOk rm x){lo hi:Option Int}:WishOk rm { x with g:=uq x.g lo hi }:=by have s:=zh3 x.g lo hi;exact⟨⟨fun q B=>h.giv.ok q (s.subset B),h.giv.up.sublist s⟩,h.b0,h.b1,fun q B=>h.apart q (s.subset B),h.r0,h.r1,h.w0,h.w1,h.ne⟩
end L3
namespace L3
theorem zeA {α q:Type}(f:α->q):∀ (l:List α) (i:Nat),(l.eraseIdx i).map f=(l.map f).eraseIdx i
 | [],_=>rfl
 | _::_,0=>rfl
 | x::l,i+1=>by simp[zeA f l i]
open PySem PySem.Spec L2
def lpE (bk:List Wi)(q:Int)(st:List Int):List (Int×Int):=(lpF bk q st).map fun r=>(r.getD 0 0,r.getD 1 0)
theorem znz {bk:List Wi}{q:Int}{st:List Int}:(lpF bk q st).map stD=(lpE bk q st).map xo:=by
 unfold lpE;rw[aC];refine bR fun r B=>?_;have:=zqf r B
 match r,this with
 | [a,b],_=>rfl
theorem zfT {rm:List Int}{bk:List Wi}{q w:Int}{st:List Int}(B:yL rm bk)(D:st.length=rm.length):lpE bk q (chg st q w)=lpE bk q st:=by unfold lpE;rw[zmm B D]
structure IsRd (E:List (Int×Int))(row:List Int):Prop where
 ne:row≠[]
 nd:row.Nodup
 next:∀i,i+1<row.length->(row.getD i 0,row.getD (i+1) 0)∈E
 back:(row.getD (row.length - 1) 0,row.getD 0 0)∈E
theorem zag {l:List Int}{j i:Nat}:(l.drop j).getD i 0=l.getD (j+i) 0:=by rw[aF,aF,du]
theorem zb1 {l:List Int}{h:Int}{i:Nat}(hi:i<l.length):(l++[h]).getD i 0=l.getD i 0:=by rw[aF,aF,a9 hi]
theorem zis {l:List Int}{h:Int}:(l++[h]).getD l.length 0=h:=by simp
theorem zlH {E:List (Int×Int)}{q:List Int}{h:Int}(J:q.Nodup)(L:h∈q)(I:∀i,i<q.length->((q++[h]).getD i 0,(q++[h]).getD (i+1) 0)∈E):IsRd E (q.drop (q.idxOf h)):=by
 have F:q.idxOf h<q.length:=List.idxOf_lt_length_iff.mpr L
 have B:q.getD (q.idxOf h) 0=h:=by have:=List.getElem_idxOf F;simpa [F] using this
 have D:(q.drop (q.idxOf h)).length=q.length - q.idxOf h:=bD;generalize q.idxOf h=j at F B D;refine⟨fun z=>by rw[z] at D;simp at D;lia,J.sublist (List.drop_sublist _ _),fun i hi=>?_,?_⟩
 ·rw[D] at hi;have:=I (j+i) (by lia);rw[zb1 (by lia),zb1 (by lia)] at this;rw[zag,zag];exact this
 ·have:=I (q.length - 1) (by lia);rw[zb1 (by lia),show q.length - 1+1=q.length by lia,zis] at this;rw[D,zag,zag,Nat.add_zero,B,show j+(q.length - j - 1)=q.length - 1 by lia];exact this
theorem zhQ {st:List Int}{b x y:Int}(q:0<=b)(B:b<st.length):chg (chg st b x) b y=chg st b y:=by
 have F:=xt (w:=x) q B;refine zgz (by rw[xt q (by lia),F,xt q B]) fun c D I=>?_;rw[ye q (by lia) D,ye (w:=y) q B D];split
 ·rfl
 ·rename_i h;rw[ye q B D,if_neg h]
theorem zjz {rm:List Int}{bk:List Wi}{q:Int}{st:List Int}{w b:Nat}(F:yL rm bk)(I:st.length=rm.length)(B:0<=q)(O:q<rm.length):chg st q (b:Int)∈zl2 bk (chg st q (w:Int)) []↔zcs bk q st w b=true:=by
 have U:(chg st q (w:Int)).length=rm.length:=by rw[xt B (by lia)];exact I
 have:=zqd (one:=chg st q (w:Int)) (wo:=(b:Int)) F U B O;rw[zhQ B (by lia),ye B (by lia) B,if_pos rfl,zmm F I] at this;rw[<- this,zct F I B O];unfold lpF;rw[xQ,xf];constructor
 ·rintro⟨x,h1,h2,J,e⟩;injection e with L D;injection D with D _;exact⟨x,h1,h2,J,L.symm,D.symm⟩
 ·rintro⟨x,h1,h2,J,L,D⟩;exact⟨x,h1,h2,J,by rw[L,D]⟩
theorem zaX (C:Nat->Nat->Bool)(m:Nat):∀i,(uo C m i).length<=i * m
 | 0=>by simp[uo]
 | i+1=>by
  have h1:=zaX C m i
  have h2:(zK C i m).length<=m:=by unfold zK;rw[ab];have:=cH (C i) (List.range m);rwa[aj] at this
  rw[uo,ai,dP];lia
theorem zaa (C:Nat->Nat->Bool)(w j:Nat):(zK C w j).length<=j:=by unfold zK;rw[ab];have:=cH (C w) (List.range j);rwa[aj] at this
theorem znO {α:Type}{l:List α}:(l.map fun _=>false).contains true=false:=by rw[e7];intro h;obtain⟨_,_,e⟩:=aH.mp (cF.mp h);cases e
end L3
namespace L2
open PySem PySem.Spec PyProof.Rows PySem.W PySem.Calls
section
variable {X:Cx}{pins:List (Addr×Obj)}{σ:St}{H:Hp}{s:Shared}{a:Addr}
theorem Inv.frz {kvs:List (List Int×V)}(I:Inv X pins σ H s)(h:H a=some (dtO kvs)):∃D,Inv X pins σ (upd H a (.frz D (dtO kvs))) s:=by obtain⟨z,lo,xs,r,o,es,F,h1,h2,J,L,O⟩:=(show yr X.prog X.w H s.heap a (.dT (zgG kvs)) from I.hok a _ h);refine⟨o,I.write (x:=a) (e:=a) (h':=s.heap) (t':=s.toks) (by rw[h];trivial) (.inl rfl) (fun _ _ _ e=>e) ⟨o,h1⟩ ⟨h1,z,lo,xs,Paired.imp' (fun p q y=>?_) r,o,es,F,h1,h2,J,L,O⟩⟩;obtain⟨U,B,Y⟩:=y;exact⟨U,by rw[ze (fun y=>by rw[y,h] at B;cases B)];exact B,Y⟩
def tFrz (te:TE):TE:=fun σ H Q=>te σ H fun x H1=>∃a ks,x = .ref a/\H1 a=some (dtO ks)/\∀q,Q x (upd H1 a (.frz q (dtO ks)))
theorem zqZ {e:Expr}{te:TE}(h:QE X e te):QE X e (tFrz te):=⟨by
 intro pins s σ H Q I q;refine thn (h.run pins s σ H _ I q) ?_;rintro v L ⟨x,H1,I1,B,a,ks,rfl,D,F⟩;obtain⟨J,I2⟩:=I1.frz D;exact⟨_,_,I2,B,F J⟩⟩
theorem zkQ {B:Obj}{kvs:List (List Int×V)}(I:Inv X pins σ H s)(h:H a=some (.frz B (dtO kvs))) :
  (a==sysModules)=false/\∃ (es:Array DictEntry) (D:Nat) (ys:List (List Int×Addr)),B.ExactDict/\B.data = .dict es D/\zdq s.heap a es D/\ys.map (·.1)=kvs.map (·.1)/\(∀q∈ys,H q.2=some (.tup (q.1.map V.int)))/\es.toList.map (·.key)=ys.map (fun q=>Value.ref q.2)/\(kvs.map (·.1)).Nodup:=by
 have k:=I.hok a _ h;obtain⟨lo,es,D,ys,⟨o,F,J,L⟩,O,U,Y,_,Z⟩:=zkJ I (.inr ⟨B,h⟩);have:o=B:=by have:=k.1;rw[F] at this;exact be this
 subst this;exact⟨lo,es,D,ys,J,L,⟨o,F,J,L⟩,O,U,Y,Z⟩
end
def Itd (d:Addr)(B:Obj)(ks:List (List Int×V))(ys:List (List Int×Addr)):It:=
 ⟨fun i H=>H d=some (.frz B (dtO ks))/\i<ys.length,fun i H x H'=>H'=H/\∃q,ys[i]?=some q/\x = .ref q.2,fun i H=>H d=some (.frz B (dtO ks))/\i=ys.length⟩
theorem zkf {P:Program}{w:World}{K:PySem.W.Frag}{tg:Expr}{F:Obj}{ks:List (List Int×V)}{ys:List (List Int×Addr)}{es:Array DictEntry}{L:Nat}(d B:Addr)(hx:F.ExactDict)(hd:F.data = .dict es L)(U:es.toList.map (·.key)=ys.map (fun q=>Value.ref q.2)) :
  Turn P w K tg (Itd d F ks ys) [B] B (fun i h=>h.IsKeyIter B d i es.size L) where
 mem:=by simp
 obj:=fun i h st b D=>by
  have e:b=B:=by simpa using D
  subst e;obtain⟨o,e,c,d⟩:=st;exact⟨o,e,fun v z=>by rw[d] at z;cases z⟩
 keep:=fun i h h' ⟨o,e,r⟩ k=>⟨o,k B (by simp) o e,r⟩
 item:=by
  rintro X Y Z hK hc i pins s σ H E I O st ⟨hg,hi⟩;subst Y Z hK;obtain⟨f0,f1,f2,f3,f4,f5⟩:=O B (by simp);have hm:zdq s.heap d es L:=⟨F,(I.hok d _ hg).1,hx,hd⟩;have hl:es.toList.length=ys.length:=by have:=congrArg List.length U;rwa[ab,ab] at this
  have e1:es[i]?=some es.toList[i]:=by rw[zbu,ah]
  have e2:es.toList[i].key=Value.ref ys[i].2:=by
   have:(es.toList.map (·.key))[i]?=(ys.map (fun q=>Value.ref q.2))[i]?:=by rw[U]
   rw[au,au,ah (by lia),ah hi] at this;exact be this
  refine zho st hm e1 fun h' J sb=>?_;have I1:Inv X pins σ H { s with heap:=h' }:=I.turned (t':=s.toks) (fun b o D e=>(sb.2 b D).trans e) f0 f1 f3 f4 f5;obtain⟨o,e,c,d⟩:=id J;exact⟨_,rfl,zkT (s:={ s with heap:=h' }) e c d (by decide) ⟨.ref ys[i].2,H,I1,e2,⟨rfl,_,ah hi,rfl⟩,J,fun b D=>(O b D).1⟩⟩
 done:=by
  rintro X Y Z hK hc i pins s σ H E I O st ⟨hg,hi⟩;subst Y Z hK;obtain⟨f0,f1,f2,f3,f4,f5⟩:=O B (by simp);have hm:zdq s.heap d es L:=⟨F,(I.hok d _ hg).1,hx,hd⟩;have hl:es.size=ys.length:=by have:=congrArg List.length U;rwa[ab,ab,aJ] at this
  subst hi;rw[<- hl] at st;exact zjj (I.ok.hd hc) st hm fun h' eb=>⟨rfl,I.turned (t':=s.toks) (fun b o D e=>eb b o D e) f0 f1 f3 f4 f5⟩
 self:=fun _ _ _ _ _ st h=>wpAny_pyIter_keyiter st h
def zsS (te:TE):TI:=fun σ H R=>te σ H fun x H1=>∃a B ks,x = .ref a/\H1 a=some (.frz B (dtO ks))/\∀ys:List (List Int×Addr),ys.map (·.1)=ks.map (·.1)->(∀q∈ys,H1 q.2=some (.tup (q.1.map V.int)))->(ks.map (·.1)).Nodup->R (Itd a B ks ys) H1
theorem zoy {X:Cx}{tg e:Expr}{te:TE}(h:QE X e te):QI X tg e (zsS te):=⟨by
 intro pins s σ H R I q;refine thn (h.run pins s σ H _ I q) ?_;rintro v B ⟨x,H1,I1,D,a,ob,ks,rfl,F,J⟩;cases D;obtain⟨lo,es,ep,ys,L,O,U,Y,Z,e3,e5⟩:=zkQ I1 F;refine ziK lo U ?_;refine⟨B.heap.objs.size,[B.heap.objs.size],_,_,H1,rfl,I1.kept (t':=B.toks) fun b o e=>af _ e,zkf a _ L O e3,⟨_,aK _ rfl,rfl,rfl⟩,fun b hb=>?_,J ys Y Z e5⟩;have e:b=B.heap.objs.size:=by simpa using hb
 subst e;exact I1.fpOk (ag _) (I1.hok.fresh (ag _))⟩
end L2
namespace L3
open PySem PySem.Spec L2
theorem zlt {Pn:Option zm}{A:Addr->Prop}{n:Nat}{H:Hp}{p:Addr}{o:HO}{ks:List (List Int×V)}(h:y2 Pn A n H)(B:H p=some (dtO ks)):y2 Pn A n (L2.upd H p o):=by
 unfold y2 at h ⊢;split at h
 ·trivial
 ·refine⟨?_,h.2⟩;obtain⟨h1,_⟩:=h;obtain⟨a,l,q,g2⟩:=h1.ob;exact⟨⟨a,l,by rw[ze fun z=>by rw[z,B] at q;cases q];exact q,g2⟩,by rw[ze fun z=>by have:=h1.ls;rw[z,B] at this;cases this];exact h1.ls,h1.len⟩
theorem zgD {G:Hp}:∀st:List Int,IsL G (st.map Dt.int) (st.map V.int)
 | []=>rfl
 | _::st=>⟨_,_,rfl,rfl,zgD st⟩
@[reducible] def onZ (w:W) (P:List (List Int×Dt)->Prop):Prop:=match w with | .df i=>P i | _=>False
theorem zjs {w:W}{P:List (List Int×Dt)->Prop}:onZ w P = ∃i,w = .df i/\P i:=propext ⟨fun h=>by cases w <;> first | exact False.elim h | exact⟨_,rfl,h⟩,by rintro⟨i,e,h⟩;subst e;exact h⟩
section
variable {X:Cx}{Pn:Option zm}{M S:List Nat}{fr fr':Bool}{pos p:Pos}{e a b c:Expr}{f fa fb fc:Ev->Mo W}
@[reducible] def dFrz (f:Ev->Mo W):Ev->Mo W:=fun ρ n Q=>f ρ n fun x m=>onE x fun kvs=>Q (.df kvs) m
theorem zp0 (h:JE X Pn M true e f):JE X Pn M false e (dFrz f):=by
 obtain⟨te,q,r⟩:=h.ex;refine⟨_,zqZ q,⟨fun A σ H ρ n Q R E P O k=>?_⟩⟩;refine r.run A σ H ρ n _ _ E P O fun w m v H' D hv g U=>?_;rw[zjr] at D;obtain⟨kvs,rfl,D⟩:=D;obtain⟨J,Y,B,Z,ks,e2,h1,h2⟩:=U rfl;subst Y;cases e2;have nA:=E.newF B;refine⟨J,ks,rfl,h1,fun ob=>k _ m _ _ D ⟨J,ob,ks,rfl,zy nA zj,h2.stay fun b o F I=>?_⟩ ⟨fun b o F I=>?_,?_⟩ fun z=>by cases z⟩
 ·obtain⟨L,z2⟩:=yt.mp F;exact zy (fun y=>L (.inl y)) (by rw[ze fun y=>L (.inr y)];exact z2)
 ·rw[ze fun y=>by subst y;exact B o F I];exact g.st b o F I
 ·exact zlt g.pn h1
theorem zpY {A:Addr->Prop}{H:Hp}{B:Addr}{D:Obj}{ks:List (List Int×V)}{ys:List (List Int×Addr)}{l:List W}(h:z7 A H B=some (.frz D (dtO ks)))(F:l=ys.map fun q=>W.d (stD q.1))(I:∀q∈ys,z7 A H q.2=some (.tup (q.1.map V.int))):ItV false A H (Itd B D ks ys) l where
 one:=fun i w A2 H2 e s _ _=>by subst F;rw[au] at e;obtain⟨q,h1,rfl⟩:=aI.mp e;refine⟨⟨zr _ _ (s _ _ h fun k z=>by cases z),(ae.mp h1).1⟩,?_⟩;rintro y H3 ⟨rfl,J,h2,rfl⟩;rw[h1] at h2;cases h2;exact⟨fun _ _ z=>z,Val.of ⟨q.2,_,rfl,s.tup (I q (aG h1)),zgD q.1⟩⟩
 stop:=fun A2 H2 s _=>by subst F;exact⟨zr _ _ (s _ _ h fun k z=>by cases z),by rw[ab]⟩
@[reducible] def dItF (fa:Ev->Mo W):Ev->Mo (List W):=fun ρ n Q=>fa ρ n fun x m=>onZ x fun kvs=>(kvs.map (·.1)).Nodup->Q (kvs.map fun q=>W.d (stD q.1)) m
theorem zp4 {tg:Expr}(h:JE X Pn M fr e f):JI X Pn M false tg e (dItF f):=by
 obtain⟨te,q,r⟩:=h.ex;refine⟨_,zoy q,⟨fun A σ H ρ n Q R E P O k=>?_⟩⟩;refine r.run A σ H ρ n _ _ E P O fun w m v H1 D U g _=>?_;rw[zjs] at D;obtain⟨kvs,rfl,D⟩:=D;obtain⟨Y,Z,ks,rfl,B,hl⟩:=U;have I:ks.map (·.1)=kvs.map (·.1):=hl.keys;have F:=(E.stay g.st).alT;refine⟨Y,Z,ks,rfl,zr _ _ B,fun ys e1 J e3=>k _ m _ H1 (D (by rw[<- I];exact e3)) (zpY B ?_ fun q L=>zy (fun y=>F _ _ y (J q L)) (J q L)) g⟩;have:(ys.map (·.1)).map (fun st=>W.d (stD st))=(kvs.map (·.1)).map fun st=>W.d (stD st):=by rw[e1,I]
 rw[aC,aC] at this;exact this.symm
@[reducible] def zsv (fd fk:Ev->Mo W):Ev->Mo W:=fun ρ n Q=>fd ρ n fun x q=>fk ρ q fun y B=>onZ x fun kvs=>∃st,y = .d (stD st)/\onO (xx kvs st) fun d=>Q (.d d) B
theorem zhN {A:Addr->Prop}{H:Hp}{kvs:List (List Int×Dt)}{v:V}(h:Bor A H (.df kvs) v):∃q ks,v = .ref q/\Rd H q (dtO ks)/\uQ (z7 A H) kvs ks:=by obtain⟨q,B,ks,e,h1,h2⟩:=h;exact⟨q,ks,e,.inr ⟨B,h1⟩,h2⟩
theorem zbQ.z {H:Hp}{a b:Addr}{kvs:List (List Int×V)}{st:List Int}(e:Rd H a (dtO kvs))(q:H b=some (.tup (st.map V.int))):zbQ H a (.ref b) (zaZ kvs st):=
 .inr ⟨_,st.map Sum.inl,b,e,rfl,by rw[zca];exact q,(zgH kvs st).symm⟩
theorem zdI (I:X.A.units+1<cLine)(J:JB X Pn M a fa)(L:JB X Pn M b fb)(O:zpn b):JE X Pn M false (.Subscript a b pos) (zsv fa fb):=by obtain⟨ta,U,Y⟩:=J.ex;obtain⟨tb,Z,rb⟩:=L.ex;refine⟨_,ub I U Z O,⟨fun A σ H ρ n Q R E P hf k=>?_⟩⟩;refine Y.run A σ H ρ n _ _ E P hf fun w1 m1 v1 H1 r1 b1 B=>?_;refine rb.run A σ H1 ρ m1 _ _ (E.stay B.st) B.pn r1 fun w2 m2 v2 H2 q b2 g2=>?_;rw[zjs] at q;obtain⟨kvs,rfl,st,rfl,q⟩:=q;rw[zcp] at q;obtain⟨d,e3,r⟩:=q;obtain⟨ad,ks,rfl,D,hk⟩:=zhN (b1.stay g2.st);obtain⟨bd,xs,rfl,F,hx⟩:=xG b2;obtain rfl:=hx.of_ints;obtain⟨v,h1,h2⟩:=(hk.look (k:=st)).2 d e3;refine⟨ad,v,rfl,?_,k _ m2 _ H2 r (Val.of h2) (B.trans g2) fun z=>by cases z⟩;rw[<- h1];exact zbQ.z D F
@[reducible] def zpx (fd fk q:Ev->Mo W):Ev->Mo W:=fun ρ n Q=>fd ρ n fun x B=>onZ x fun kvs=>fk ρ B fun y D=>q ρ D fun z F=>∃st,y = .d (stD st)/\onD z fun i=>Q (.d ((xx kvs st).getD i)) F
theorem zp1 (hu:X.A.units+1<cLine)(ha:JB X Pn M a fa)(hb:JB X Pn M b fb)(hc:JE X Pn M fr c fc){apos cpos:Pos}
  (base:attributeBase a "get" X.env (eval a X.env)=eval a X.env:=by rfl)
  (J:((backTo cpos (starEach [b,c] X.env)).all (fun x=>!x.1)&&(backToKw cpos (keywordEach [] X.env)).all (fun x=>x.1.isSome)
   && decide (([b,c]:List Expr).length+([]:List Keyword).length+(if ([]:List Keyword).isEmpty then 0 else 1)<30))=true:=by rfl)
  (D:(apos.endLine==cpos.line)=true:=by rfl) (q:backTo cpos (starEach [b,c] X.env)=[(false,eval b X.env),(false,eval c X.env)]:=by rfl) :
  JE X Pn M false (.Call (.Attribute a "get" apos) [b,c] [] cpos) (zpx fa fb fc):=by
 obtain⟨ta,qa,ra⟩:=ha.ex;obtain⟨tb,qb,rb⟩:=hb.ex;obtain⟨tc,qc,rc⟩:=hc.ex;refine⟨_,⟨zlp hu qa.run qb.run qc.run ⟨base,J,D,q⟩⟩,⟨fun A σ H ρ n Q R E P hf k=>?_⟩⟩;refine ra.run A σ H ρ n _ _ E P hf fun w1 m1 v1 H1 F Y I=>?_;rw[zjs] at F;obtain⟨kvs,rfl,F⟩:=F;obtain⟨a0,_,e0,h0,_⟩:=zhN Y;subst e0;refine⟨a0,rfl,.inr ⟨_,h0⟩,?_⟩;refine rb.run A σ H1 ρ m1 _ _ (E.stay I.st) I.pn F fun w2 m2 v2 H2 r2 b2 g2=>?_;refine rc.run A σ H2 ρ m2 _ _ ((E.stay I.st).stay g2.st) g2.pn r2 fun w3 m3 v3 H3 B b3 L _=>?_;obtain⟨st,rfl,B⟩:=B;rw[xM] at B;obtain⟨i,rfl,B⟩:=B;obtain⟨ad,ks,ea,O,Z⟩:=zhN ((Y.stay g2.st).stay L.st);cases ea;obtain⟨bd,xs,rfl,U,hx⟩:=xG (b2.stay L.st);obtain rfl:=hx.of_ints;refine⟨zaZ ks st,zbQ.z O U,k _ m3 _ H3 B (Val.of ?_) ((I.trans g2).trans L) fun z=>by cases z⟩
 cases e:xx kvs st with
 | none=>rw[(Z.look (k:=st)).1 e];exact b3.is
 | some d=>obtain⟨v,h1,h2⟩:=(Z.look (k:=st)).2 d e;rw[h1];exact h2
theorem ziO {F I tg q:Expr}{B:List Expr}{scope:Scope}{N:List Str}{z:Str}{cix:List (Option Nat)}{J:Ev->Mo (List W)}{mg:W->Ev->(Ev->Prop)->Prop}{L:Ev->Mo Bool}{fk fv:Ev->Mo W}{O:Bool}(U:X.A.units+1<cLine)(Y:X.calm=true)(Z:CompOkC X scope N z cix)
  (hi:JI X Pn M O tg q J) (hg:∀C D s H ex,JG (zC X scope N z C D s H ex) (yM M cix) (yM M cix) tg mg) (ht:∀C D s H ex,JTs (zC X scope N z C D s H ex) Pn (yM M cix) B L) (hk:∀C D s H ex,JB (zC X scope N z C D s H ex) Pn (yM M cix) F fk) (he:∀C D s H ex,JE (zC X scope N z C D s H ex) Pn (yM M cix) fr' I fv)
  (hn:(cix.filterMap id).Nodup:=by decide) (hs:∀x,foldedSetIterable q X.env x=pure x:=by intro _;rfl):JE X Pn M true (.DictComp F I [⟨tg,q,B,0⟩] scope pos) (zi7 J mg L fk fv cix):=by
 obtain⟨ti,qi,ri⟩:=hi.ex;obtain⟨g,qg,rg⟩:=zmJ hg;obtain⟨tt,qt,rt⟩:=zmK ht;obtain⟨tk,qk,rk⟩:=zrM hk;obtain⟨te,qe,re⟩:=zmI he;exact⟨_,ze7 (o0:=.dT []) (by simp) U Y Z qi qg qt qk qe hs,zjT hn ri rg rt rk re⟩
@[reducible] def zl7:List W->Mo W:=fun B n Q=>on1 B fun x=>∃kvs:List (List Int×Dt),x = .d (.lst (kvs.map fun q=>Dt.tup [stD q.1,q.2]))/\(kvs.map (·.1)).Nodup/\kvs.length<=lim/\Q (.dt kvs) n
theorem ziF {G:Hp}:∀ {kvs:List (List Int×Dt)} {xs:List V},IsL G (kvs.map fun q=>Dt.tup [stD q.1,q.2]) xs->∃ps:List Pr,xs=ps.map (fun q=>V.ref q.1)/\(∀q∈ps,G q.1=some (.tup [.ref q.2.1,q.2.2.2])/\G q.2.1=some (.tup (q.2.2.1.map V.int)))/\ps.map (·.2.2.1)=kvs.map (·.1)/\uQ G kvs (prK ps)
 | [],_,h=>by cases h;exact⟨[],rfl,fun _ z=>by simp at z,rfl,rfl⟩
 | q::r,xs,⟨x,s,e,⟨p,us,I,J,kv,s2,L,⟨kb,zs,O,B,U⟩,F,s3,Y,Z,e6⟩,h2⟩=>by
  obtain⟨ps,h1,h3,h4,h5⟩:=ziF h2;subst e I L O Y e6 h1;obtain rfl:=U.of_ints;refine⟨(p,kb,q.1,F)::ps,rfl,fun y D=>?_,by rw[aq,aq,h4],F,_,rfl,Z,h5⟩;rcases aE.mp D with rfl | D
  ·exact⟨J,B⟩
  ·exact h3 y D
theorem zo3:FL Pn true zmy zl7:=⟨fun A H xs ws n Q R O b Pp h k=>by
 simp only[zl7,zaq] at h;obtain⟨x,e,kvs,rfl,B,U,h⟩:=h;subst e;obtain⟨v,rfl,Y⟩:=zbv b;obtain⟨Z,xs,rfl,D,hl⟩:=Y;obtain⟨ps,rfl,h1,h2,J⟩:=ziF hl;have F:ps.length=kvs.length:=by have:=congrArg List.length h2;simpa using this
 refine⟨Z,ps,rfl,⟨D,fun q L=>⟨zr _ _ (h1 q L).1,zr _ _ (h1 q L).2⟩,by rw[h2];exact B,by rw[F];exact U⟩,fun p H' I g S=>?_⟩;exact k _ n _ H' h ⟨p,_,rfl,zy (O.new I) g,J.stay (zM (zv.same S))⟩ (Go.same Pp S) fun _=>⟨p,rfl,.of I,p,_,rfl,g,J.stay (yB (zv.same S) (.of I))⟩⟩
end
theorem zkI {l:List W}{L:Ev}{n:Nat}{mg:W->Ev->(Ev->Prop)->Prop}{ft:Ev->Mo Bool}{fk fv:Ev->Mo W}{Q:W->Nat->Prop}(xs:List (List Int))(hl:l=xs.map fun i=>W.d (stD i))(J:Ev->Prop)(P:List Int->Bool)(E:List Int->Dt)(hN:xs.Nodup)(O:xs.length<=lim)(j0:J L)
  (h:∀a∈xs,∀ D,J D->∀C:Ev->Nat->Option (List Int×Dt)->Prop,(∀ {B},P a=true->J B->C B n (some (a,E a)))->(∀ {B},P a=false->J B->C B n none)->mg (.d (stD a)) D fun B=>ft B n fun b n2=>onC b (fk B n2 fun y n3=>fv B n3 fun x U=>∃j,y = .d (stD j)/\onD x fun d=>C B U (some (j,d))) (C B n2 none))
  (fin:Q (.dt ((xs.filter P).map fun a=>(a,E a))) n):zma mg ft fk fv L Q l n:=by
 subst hl;refine⟨by rw[ab];exact O,fun i D Y acc=>J D/\Y=n/\acc=((xs.take i).filter P).map fun a=>(a,E a),⟨j0,rfl,rfl⟩,?_,?_⟩
 ·rintro i w D Y acc hw ⟨hj,rfl,rfl⟩;rw[au] at hw;obtain⟨a,Z,rfl⟩:=aI.mp hw
  have:=h a (aG Z) D hj (fun B U o=>match o with
   | some q=>J B/\U=Y/\zgW (((xs.take i).filter P).map fun a=>(a,E a)) q.1 q.2=((xs.take (i+1)).filter P).map fun a=>(a,E a)
   | none=>J B/\U=Y/\(((xs.take i).filter P).map fun a=>(a,E a))=((xs.take (i+1)).filter P).map fun a=>(a,E a)) (fun {B} hp F=>by
    refine⟨F,rfl,?_⟩;have hi:=(ae.mp Z).1
    have hn:((((xs.take i).filter P).map fun a=>(a,E a)).any fun kv=>decide (kv.1=a))=false:=by rw[List.any_eq_false];intro kv ad z;obtain⟨b,hb,rfl⟩:=aH.mp ad;have e:b=a:=bq z;subst e;obtain⟨j,hj,I⟩:=bH.mp (aW.mp hb).1;rw[aN] at hj;rw[dD] at I;have e3:=(ae.mp Z).2;rw[<- e3] at I;have:=(cj hN).mp I;lia
    unfold zgW;rw[hn,if_neg (by decide),zl Z,cg,ax]
    simp[hp]) (fun {B} hp F=>by
    refine⟨F,rfl,?_⟩;rw[zl Z,cg,ax];simp[hp])
  simp only[zbi,xM] at this;refine (congrArg (mg (W.d (stD a)) D) ?_).mp this;funext B;congr 1;funext b n2
  cases b with
  | false=>rfl
  | true=>
   simp only[if_true];congr 1;funext y n3;congr 1;funext x U;exact propext ⟨by rintro⟨j,e1,d,I,h⟩;exact⟨j,d,e1,I,h⟩,by rintro⟨j,d,e1,I,h⟩;exact⟨j,e1,d,I,h⟩⟩
 ·rintro D Y acc ⟨_,rfl,rfl⟩;rw[ab,ba];exact fin
open PySem PySem.Spec L2
def znW (bk:List Wi)(b:Int):List Wi:=bk.filter fun x=>decide (x.b=b)
theorem zqD {rm:List Int}{bk:List Wi}{b:Int}(h:yL rm bk):yL rm (znW bk b):=fun x q=>h x (aW.mp q).1
theorem zi5 {bk:List Wi}{b:Int}{st:List Int}:lpE (znW bk b) b st=lpE bk b st:=by unfold lpE lpF zdg znW;rw[List.filter_filter];congr 4;funext x;cases decide (x.b=b) <;> simp
theorem zdz {st:List Int}{b x:Int}(q:0<=b)(B:b<st.length):chg st b x=st.set b.toNat x:=by unfold chg;rw[List.set_eq_take_append_cons_drop,if_pos (by lia)];simp
theorem zkA {st:List Int}{b o x y:Int}(q:0<=b)(B:b<st.length)(o0:0<=o)(D:o<st.length)(h:b≠o):chg (chg st b x) o y=chg (chg st o y) b x:=by
 have F:chg (chg st b x) o y=(st.set b.toNat x).set o.toNat y:=by rw[zdz o0 (by rw[xt q B];exact D),zdz q B]
 have I:chg (chg st o y) b x=(st.set o.toNat y).set b.toNat x:=by rw[zdz q (by rw[xt o0 D];exact B),zdz o0 D]
 rw[F,I];exact List.set_comm _ _ (by lia)
def zfC (bk:List Wi)(b o:Int)(st:List Int):Bool:=decide (lpE bk b st≠lpE bk b (chg st o 0))
def zhq (rm:List Int)(bk:List Wi)(b o:Int):Bool:=(y3 (rm.map zp)).any fun st=>decide (yf st b=0)&&zfC bk b o st
theorem zgS {rm:List Int}{bk:List Wi}{b o:Int}(U:RoomOk rm)(F:yL rm bk)(q:0<=b)(L:b<rm.length)(o0:0<=o)(Z:o<rm.length):(∃st∈y3 (rm.map zp),zfC bk b o st=true)↔o≠b/\zhq rm bk b o=true:=by
 unfold zhq;constructor
 ·rintro⟨st,I,Y⟩;have O:=za4 _ _ I;have J:st.length=rm.length:=O.len;have B:lpE bk b st≠lpE bk b (chg st o 0):=bq Y;have D:o≠b:=fun e=>B (by subst e;rw[zfT F J]);refine⟨D,cD.mpr ⟨chg st b 0,zed (zbO O q L (by decide) ?_),?_⟩⟩
  ·have:=yg U.box q L;lia
  ·rw[ar];refine⟨aL (by rw[ye q (by lia) q,if_pos rfl]),aL ?_⟩;rw[zkA q (by lia) o0 (by lia) (Ne.symm D),zfT F J,zfT F (by rw[xt o0 (by lia)];exact J)];exact B
 ·rintro⟨_,h⟩;obtain⟨st,I,h⟩:=cD.mp h;rw[ar] at h;exact⟨st,I,h.2⟩
def xT (rm:List Int)(bk:List Wi)(b o:Nat):Bool:=decide (o≠b)&&zhq rm bk b o
def uw (rm:List Int)(bk:List Wi):List (List Int):=uo (xT rm bk) rm.length rm.length
theorem zeI {rm:List Int}{bk:List Wi}{z:List Int}(D:RoomOk rm)(F:yL rm bk):z∈uw rm bk↔∃b o:Nat,b<rm.length/\o<rm.length/\(∃st∈y3 (rm.map zp),zfC bk b o st=true)/\z=[(b:Int),(o:Int)]:=by
 unfold uw;rw[zab];constructor
 ·rintro⟨b,o,h1,h2,q,B⟩;unfold xT at q;rw[ar] at q;exact⟨b,o,h1,h2,(zgS D F (by lia) (by lia) (by lia) (by lia)).mpr ⟨fun e=>bq q.1 (by lia),q.2⟩,B⟩
 ·rintro⟨b,o,h1,h2,q,B⟩;obtain⟨I,J⟩:=(zgS D F (by lia) (by lia) (by lia) (by lia)).mp q;refine⟨b,o,h1,h2,?_,B⟩;unfold xT;rw[J,dr];exact aL fun e=>I (by lia)
theorem zb8 {rm:List Int}{bk:List Wi}{z:List Int}(h:z∈uw rm bk):z.length=2:=by obtain⟨b,o,_,_,_,rfl⟩:=zab.mp h;rfl
theorem zb9 (rm:List Int)(bk:List Wi)(b:Nat):∀j,b<j->(zK (xT rm bk) b j).length+1<=j
 | 0,h=>by lia
 | j+1,h=>by
  rw[y1];have h1:=zaa (xT rm bk) b j;split
  ·rename_i e;have q:j≠b:=fun z=>by unfold xT at e;simp[z] at e
   have:=zb9 rm bk b j (by lia);rw[ai];simp;lia
  ·lia
theorem zeJ (rm:List Int)(bk:List Wi)(n:Nat):∀i,i<=n->(uo (xT rm bk) n i).length+i<=i * n
 | 0,_=>by simp[uo]
 | i+1,h=>by have h1:=zeJ rm bk n i (by lia);have h2:=zb9 rm bk i n (by lia);have e:uo (xT rm bk) n (i+1)=uo (xT rm bk) n i++zK (xT rm bk) i n:=rfl;rw[e,ai,dP];lia
theorem zeH {rm:List Int}{bk:List Wi}(q:RoomOk rm):(uw rm bk).length<=56:=by have h1:=zeJ rm bk rm.length rm.length (ag _);have B:=q.few;unfold uw;have:rm.length * rm.length<=8 * rm.length:=Nat.mul_le_mul_right _ B;lia
theorem znf {rm:List Int}{bk:List Wi}{l:List (List Int)}(q:Up' l)(h:∀z,z∈l↔z∈uw rm bk):l=uw rm bk:=
 zgg (m:=2) (fun y B=>zb8 ((h y).mp B)) q (zeh _ _ _) h
@[reducible] def lpD (bk:List Wi) (b:Int) (st:List Int):Dt:=.lst ((lpE bk b st).map xo)
@[reducible] def zsj (rm:List Int) (bk:List Wi) (st:List Int):Dt:=.lst ((List.range rm.length).map fun b:Nat=>lpD bk (b:Int) st)
def zku (rm:List Int)(bk:List Wi):List (List Int×Dt):=(y3 (rm.map zp)).map fun st=>(st,zsj rm bk st)
theorem uY {f:List Int->Dt}{st:List Int}:∀ {l:List (List Int)},st∈l->xx (l.map fun s=>(s,f s)) st=some (f st)
 | a::l,h=>by
  unfold xx;rw[aq,bI];by_cases e:a=st
  ·subst e;simp
  ·have h':st∈l:=by
    rcases aE.mp h with z | z
    ·exact absurd z.symm e
    ·exact z
   have:=uY (f:=f) h';unfold xx at this;simp only[aO e];exact this
theorem zeq {rm:List Int}{bk:List Wi}{st:List Int}(h:StOk rm st):xx (zku rm bk) st=some (zsj rm bk st):=uY (zed h)
theorem ztU {l:List (List Int)}(h:Up' l):l.Nodup:=h.imp fun h e=>by subst e;rw[xb] at h;cases h
theorem zl0 (rm:List Int):(y3 (rm.map zp)).Nodup:=ztU (zmM _ fun c q=>by obtain⟨m,_,rfl⟩:=aH.mp q;unfold zp;rw[bw];exact List.pairwise_lt_range.imp fun h=>by lia)
theorem zft {rm:List Int}(q:RoomOk rm):(y3 (rm.map zp)).length<=65536:=by have:=zdv q.few q.box rm.length;rwa[ba] at this
theorem zl1 {f:Nat->Dt}{n k:Nat}{P:Dt->Prop}(q:k<n)(h:P (f k)):onO (atI ((List.range n).map f) (k:Int)) P:=
 zbB (zhK (by rw[au,b6 q];rfl)) h
theorem zm0 {f:Nat->Dt}(n:Nat):enW 0 ((List.range n).map f)=(List.range n).map fun k:Nat=>W.d (.tup [.int (k:Int),f k]):=by rw[zif f 0 (List.range n),aj];refine bR fun k q=>?_;rw[aF,b6 (aP.mp q)];rfl
theorem zgL {bk:List Wi}{b:Int}{st:List Int}:(lpD bk b st).eqOk:=by show (Dt.lst ((lpE bk b st).map xo)).eqOk;rw[<- znz];exact uW _
theorem zjF:∀ {l l':List (Int×Int)},l.map xo=l'.map xo->l=l'
 | [],[],_=>rfl
 | [],_::_,h=>by cases h
 | _::_,[],h=>by cases h
 | (a,b)::l,(c,d)::l',h=>by rw[aq,aq,List.cons.injEq] at h;have h1:=h.1;unfold xo at h1;injection h1 with h1;injection h1 with q h1;injection h1 with B;injection q with q;injection B with B;rw[zjF h.2];simp only at q B;rw[q,B]
theorem zi4 {bk:List Wi}{b:Int}{st q:List Int}:lpD bk b st=lpD bk b q↔lpE bk b st=lpE bk b q:=⟨fun h=>zjF (Dt.lst.inj h),fun h=>by unfold lpD;rw[h]⟩
theorem zpI {bk:List Wi}{b o:Int}{st:List Int}{r:Bool}(h:r=true↔lpD bk b st=lpD bk b (chg st o 0)):(!r)=zfC bk b o st:=by
 unfold zfC
 cases r with
 | true=>simp[zi4.mp (h.mp rfl)]
 | false=>simp;exact fun z=>by have:=h.mpr (zi4.mpr z);cases this
def BkD (bk:List Wi)(q:Dt):Prop:=q=x5 bk\/q = .lst (bk.map zP)
theorem zqq {bk:List Wi}{q:Dt}{P:List Dt->Prop}(h:BkD bk q)(k:P (bk.map zP)):onS (.d q) P:=by rcases h with rfl | rfl <;> exact k
theorem zkS {rm:List Int}{g:List (Int×Int)}{o v:Int}(Y:Giv rm g)(Z:∀q∈g,q.1≠o)(o0:0<=o)(o1:o<rm.length)(v0:0<=v)(v1:v<yf rm o){l:List (List Int)}(hp:l.Perm ((g++[(o,v)]).map fun q=>[q.1,q.2]))(hu:Up' l) :
  ∃g',l.map stD=g'.map xo/\Giv rm g'/\∀q∈g',q∈g\/q=(o,v):=by
 have I:∀r∈l,∃q∈g++[(o,v)],r=[q.1,q.2]:=fun r B=>by obtain⟨q,D,rfl⟩:=aH.mp (hp.mem_iff.mp B);exact⟨q,D,rfl⟩
 have J:∀a∈g++[(o,v)],∀b∈g++[(o,v)],a.1=b.1->a=b:=fun a L b O e=>by
  rcases aZ.mp L with z | z <;> rcases aZ.mp O with y | y
  ·exact znc Y z y e
  ·rw[az.mp y] at e;exact absurd e (Z a z)
  ·rw[az.mp z] at e;exact absurd e.symm (Z b y)
  ·rw[az.mp z,az.mp y]
 refine⟨l.map fun r=>(r.getD 0 0,r.getD 1 0),?_,⟨fun q D=>?_,?_⟩,fun q D=>?_⟩
 ·rw[aC];refine bR fun r B=>?_;obtain⟨q,_,rfl⟩:=I r B;rfl
 ·obtain⟨r,B,rfl⟩:=aH.mp D;obtain⟨q,F,rfl⟩:=I r B;rcases aZ.mp F with z | z
  ·exact Y.ok q z
  ·rw[az.mp z];exact⟨o0,o1,v0,v1⟩
 ·rw[bw];refine dj ?_ hu;intro a b L O h;obtain⟨q,D,rfl⟩:=I a L;obtain⟨q',U,rfl⟩:=I b O;rcases zs3.mp h with z | ⟨z,y⟩
  ·exact z
  ·have:=J q D q' U z;subst this;exact absurd y (by lia)
 ·obtain⟨r,B,rfl⟩:=aH.mp D;obtain⟨q,F,rfl⟩:=I r B;rcases aZ.mp F with z | z
  ·exact .inl z
  ·exact .inr (az.mp z)
theorem zdD {rm:List Int}{g:List (Int×Int)}(h:Giv rm g):g.length<=rm.length:=by
 have:=u4 (l:=g.map (·.1)) (l':=zp rm.length) (bw.mpr (h.up.imp fun h e=>by lia)) fun x B=>by obtain⟨q,D,rfl⟩:=aH.mp B;have:=h.ok q D;exact zai.mpr ⟨this.1,this.2.1⟩
 rw[ab,yG] at this;lia
theorem zpT {rm:List Int}{g:List (Int×Int)}{o v:Int}(B:Giv rm g)(D:∀q∈g,q.1≠o):((g++[(o,v)]).map fun q=>[q.1,q.2]).Nodup:=by
 refine bw.mpr (ef.mpr ⟨B.up.imp fun h e=>?_,cu _ _,fun a F b I e=>?_⟩)
 ·injection e with e;lia
 ·rw[az.mp I] at e;injection e with e;exact D a F e
theorem zti {α q B:Type}{G:Prop}(C:α->q->B->Prop)(P:α->q->B->Prop)(h:(∀a b c,C a b c->P a b c)->G)(r:∀a b c,C a b c->P a b c):G:=h r
end L3
local macro_rules | `(tactic| walk_at "st")=>`(tactic| ((try (with_reducible conv=>whnf));repeat (with_reducible refine L3.zpt ?_;try (with_reducible conv=>whnf)));try dsimp only)
local macro_rules | `(tactic| walk_at "ct")=>`(tactic| (with_reducible refine L3.ztm ?_ ?_;(first | decide | assumption | rfl));walk_at "st")
local macro_rules | `(tactic| walk_at "cf")=>`(tactic| (with_reducible refine L3.ztl ?_ ?_;(first | decide | assumption | rfl));walk_at "st")
namespace Law
open PySem L2 L3
abbrev la:List Str:=["_law_pen_here","_law_room_here"]
abbrev lb:List Str:=["given","at","better","worse","box","standing"]
abbrev lc:List Str:=["_law_pen_here","_law_many"]
abbrev ld:List Str:=["_law_k","_law_pen_here","_law_room_here"]
abbrev lf:List Str:=["_law_book_here","_law_box","_law_many","_law_standing"]
abbrev lh:List Str:=["_law_pen_here","_law_room_here","_law_book_here"]
abbrev li:List Str:=["_law_script"]
abbrev lj:List Str:=["_law_one","_law_other"]
abbrev lm:List Str:=["room","book","box","standing"]
abbrev ln:List Str:=["_law_at","_law_worth","_law_standing"]
abbrev lq:List Str:=["_law_pen_here","_law_some"]
abbrev lr:List Str:=["_law_room_here"]
abbrev lu:List Str:=["room","book"]
abbrev lv:List Str:=["_law_room_here","_law_book_here"]
abbrev lw:List Str:=["standing","box","worth"]
abbrev lx:List Str:=["_law_book_here","_law_standing"]
abbrev ly:List Str:=["_law_one","_law_own","_law_box","_law_room_here"]
abbrev lz:List Str:=["_law_worth","_law_one"]
abbrev lA:List Str:=["_law_room_here","_law_boxes"]
abbrev lB:List Str:=["_law_pen_here","_law_most"]
abbrev lC:List Str:=["_law_one","_law_left","_law_pen_here"]
abbrev lD:List Str:=["_law_worth","_law_given","_law_box"]
abbrev lE:List Str:=["_law_found","_law_due"]
abbrev lF:List Str:=["_law_one","_law_worth"]
abbrev lG:List Str:=["_law_one","_law_some","_law_other"]
abbrev lH:List Str:=["row","worth","worths"]
abbrev lI:List Str:=["_law_k","_law_one","_law_other"]
abbrev lJ:List Str:=["_law_k","_law_one","_law_box"]
abbrev lK:List Str:=["box","room","standing","own"]
abbrev lL:List Str:=["standing","given"]
abbrev lM:List Str:=["_law_wish_here","_law_box"]
abbrev lN:List Str:=["room","pairs"]
abbrev lO:List Str:=["choices"]
def top (i:Nat):Stmt:=PySem.Challenge.pw_allelse_k28_what_hangs_on_what.main.body.getD i (.Pass ⟨0,0,0,0⟩)
abbrev zdj:Stmt:=top 13
abbrev zcB:Stmt:=top 14
abbrev zcG:Stmt:=top 15
abbrev zcF:Stmt:=top 16
abbrev uK:Stmt:=top 17
abbrev zdk:Stmt:=top 19
abbrev zcH:Stmt:=top 20
abbrev u7:Stmt:=top 21
abbrev u6:Stmt:=top 22
abbrev zcC:Stmt:=top 23
abbrev zbp:Stmt:=top 24
abbrev zbn:Stmt:=top 25
abbrev zaS:Stmt:=top 26
abbrev zas:Stmt:=top 27
abbrev zcA:Stmt:=top 28
abbrev zdl:Stmt:=top 1
abbrev zcI:Stmt:=top 2
abbrev ze9:Stmt:=top 3
abbrev zj0:Stmt:=top 5
abbrev zaT:Stmt:=top 7
abbrev ul:Stmt:=top 8
abbrev zdm:Stmt:=top 10
abbrev zjZ:Stmt:=top 11
abbrev zbq:Stmt:=top 18
abbrev zbo:Stmt:=top 29
abbrev zcD:Stmt:=top 30
abbrev zcE:Stmt:=top 31
abbrev zbm:Stmt:=top 32
abbrev zrp:Stmt:=top 33
theorem zga:FnScope li li (zg zdj):=by walk_at "f"
theorem yi:FnScope ["_law_pen_here","_law_many","_law_found","_law_at","_law_cell","_law_mixed"] lc (zg zcB):=by walk_at "f"
theorem zbr:FnScope ["_law_pen_here","_law_some","_law_left"] lq (zg zcG):=by walk_at "f"
theorem yk:FnScope ["_law_pen_here","_law_most","_law_way","_law_wanted","_law_room_here","_law_left","_law_many"] lB (zg zcF):=by walk_at "f"
theorem zW:FnScope ["_law_room_here","_law_found","_law_many","_law_longer","_law_one"] lr (zg uK):=by walk_at "f"
theorem zcJ:FnScope ["_law_pen_here","_law_many","_law_one"] lc (zg zdk):=by walk_at "f"
theorem yE:FnScope ["_law_pen_here","_law_room_here","_law_box","_law_share","_law_given","_law_at","_law_better","_law_worse"] la (zg zcH):=by walk_at "f"
theorem z6:FnScope ["_law_room_here","_law_boxes","_law_found","_law_box","_law_longer","_law_given"] lA (zg u7):=by walk_at "f"
theorem zE:FnScope ["_law_pen_here","_law_room_here","_law_boxes","_law_found","_law_place","_law_box","_law_looks","_law_given","_law_ranks","_law_k"] la (zg u6):=by walk_at "f"
theorem u8:FnScope ["_law_one","_law_other","_law_box","_law_given"] lj (zg zcC):=by walk_at "f"
theorem zS:FnScope ["_law_room_here","_law_found","_law_many","_law_longer","_law_k","_law_one","_law_worths"] lr (zg zbp):=by walk_at "f"
theorem uF:FnScope ["_law_pen_here","_law_room_here","_law_way"] la (zg zbn):=by walk_at "f"
theorem zH:FnScope ["_law_pen_here","_law_room_here","_law_every","_law_rank","_law_k","_law_one","_law_found","_law_box","_law_worth","_law_other"] la (zg zaS):=by walk_at "f"
theorem z0:FnScope ["_law_pen_here","_law_room_here","_law_book_here","_law_way","_law_at","_law_given","_law_box","_law_better","_law_worse"] lh (zg zas):=by walk_at "f"
theorem z9:FnScope ["_law_pen_here","_law_room_here","_law_kind","_law_spoil","_law_many","_law_book_here"] la (zg zcA):=by walk_at "f"
theorem uG:FnScope ["choices","rows","worths"] lO (zg zdl):=by walk_at "f"
theorem zfa:FnScope ["room"] ["room"] (zg zcI):=by walk_at "f"
theorem zhx:FnScope lw lw (zg ze9):=by walk_at "f"
theorem zd8:FnScope ["standing","given","box","worth"] lL (zg zj0):=by walk_at "f"
theorem zc2:FnScope lm lm (zg zaT):=by walk_at "f"
theorem x3:FnScope ["room","book","own"] lu (zg ul):=by walk_at "f"
theorem yQ:FnScope ["room","pairs","found","standing","other","there","box","here"] lN (zg zdm):=by walk_at "f"
theorem zlM:FnScope lu lu (zg zjZ):=by walk_at "f"
theorem yq:FnScope ["_law_book_here","_law_standing","_law_found","_law_given","_law_box","_law_better","_law_worse","_law_there"] lx (zg zbq):=by walk_at "f"
theorem yH:FnScope ["_law_book_here","_law_box","_law_many","_law_standing","_law_found","_law_worse","_law_better","_law_here","_law_there"] lf (zg zbo):=by walk_at "f"
theorem yj:FnScope ["_law_room_here","_law_book_here","_law_every","_law_found","_law_box","_law_own","_law_some","_law_other","_law_parts"] lv (zg zcD):=by walk_at "f"
theorem zT:FnScope ["_law_pen_here","_law_room_here","_law_given","_law_box","_law_better","_law_worse","_law_looks","_law_free","_law_other","_law_found","_law_worth"] la (zg zcE):=by walk_at "f"
theorem zaU:FnScope ["_law_found","_law_due","_law_one"] lE (zg zbm):=by walk_at "f"
theorem x4:FnScope ["_law_script","_law_pen_here","_law_turn_here","_law_idle_here","_law_most","_law_room_here","_law_book_here","_law_k","_law_due","_law_found","_law_other"] li (zg zrp):=by walk_at "f"
set_option genInjectivity false in
structure Ad where
 f0:Addr
 d0:FuncData
 f1:Addr
 d1:FuncData
 f2:Addr
 d2:FuncData
 f3:Addr
 d3:FuncData
 f4:Addr
 d4:FuncData
 f5:Addr
 d5:FuncData
 f6:Addr
 d6:FuncData
 f7:Addr
 d7:FuncData
 f8:Addr
 d8:FuncData
 f9:Addr
 d9:FuncData
 f10:Addr
 d10:FuncData
 f11:Addr
 d11:FuncData
 f12:Addr
 d12:FuncData
 f13:Addr
 d13:FuncData
 f14:Addr
 d14:FuncData
 f15:Addr
 d15:FuncData
 f16:Addr
 d16:FuncData
 f17:Addr
 d17:FuncData
 f18:Addr
 d18:FuncData
 f19:Addr
 d19:FuncData
 f20:Addr
 d20:FuncData
 f21:Addr
 d21:FuncData
 f22:Addr
 d22:FuncData
 f23:Addr
 d23:FuncData
 f24:Addr
 d24:FuncData
 f25:Addr
 d25:FuncData
 f26:Addr
 d26:FuncData
 f27:Addr
 d27:FuncData
 f28:Addr
 d28:FuncData
structure Txt (K:PySem.W.Frag)(mg:Str->Option Value)(t:Ad):Prop where
 q0:Dfn K mg "_law_pen" zdj li t.f0 t.d0
 q1:Dfn K mg "_law_draw" zcB lc t.f1 t.d1
 q2:Dfn K mg "_law_turn" zcG lq t.f2 t.d2
 q3:Dfn K mg "_law_room" zcF lB t.f3 t.d3
 q4:Dfn K mg "_law_standings" uK lr t.f4 t.d4
 q5:Dfn K mg "_law_two" zdk lc t.f5 t.d5
 q6:Dfn K mg "_law_wish" zcH la t.f6 t.d6
 q7:Dfn K mg "_law_contexts" u7 lA t.f7 t.d7
 q8:Dfn K mg "_law_by_order" u6 la t.f8 t.d8
 q9:Dfn K mg "_law_full" zcC lj t.f9 t.d9
 q10:Dfn K mg "_law_snake" zbp lr t.f10 t.d10
 q11:Dfn K mg "_law_along" zbn la t.f11 t.d11
 q12:Dfn K mg "_law_rising" zaS la t.f12 t.d12
 q13:Dfn K mg "_law_spoiled" zas lh t.f13 t.d13
 q14:Dfn K mg "_law_book" zcA la t.f14 t.d14
 q15:Dfn K mg "combined" zdl lO t.f15 t.d15
 q16:Dfn K mg "standings" zcI ["room"] t.f16 t.d16
 q17:Dfn K mg "changed" ze9 lw t.f17 t.d17
 q18:Dfn K mg "keeps" zj0 lL t.f18 t.d18
 q19:Dfn K mg "local_pairs" zaT lm t.f19 t.d19
 q20:Dfn K mg "all_local_pairs" ul lu t.f20 t.d20
 q21:Dfn K mg "hangs_by" zdm lN t.f21 t.d21
 q22:Dfn K mg "hangs" zjZ lu t.f22 t.d22
 q23:Dfn K mg "_law_steps" zbq lx t.f23 t.d23
 q24:Dfn K mg "_law_local" zbo lf t.f24 t.d24
 q25:Dfn K mg "_law_hung" zcD lv t.f25 t.d25
 q26:Dfn K mg "_law_idle" zcE la t.f26 t.d26
 q27:Dfn K mg "_law_alike" zbm lE t.f27 t.d27
 q28:Dfn K mg "law" zrp li t.f28 t.d28
 b_sorted:mg "sorted" = none
 b_set:mg "set" = none
 b_list:mg "list" = none
 b_tuple:mg "tuple" = none
 b_range:mg "range" = none
 b_enumerate:mg "enumerate" = none
 b_len:mg "len" = none
 b_dict:mg "dict" = none
 b_abs:mg "abs" = none
 b_all:mg "all" = none
 b_zip:mg "zip" = none
 b_isinstance:mg "isinstance" = none
 b_bool:mg "bool" = none
section
variable {P:Program}{w:World}{K:PySem.W.Frag}{mg:Str->Option Value}{base:Heap}{t:Ad}
theorem zf1 (T:Txt K mg t):FnOk P w K mg base CX0 1 t.f0 t.d0 li (zlP K):=by
 refine T.q0.F.okQ zga (fun vs H Q E h=>?_) (fun Y A I s H vs Q E hr h=>?_)
 ·obtain⟨a,ns,rfl,_⟩:=h;rfl
 ·obtain⟨a,ns,rfl,Z,U,k⟩:=h;refine⟨_,(uE (zbl (zor (zd3 xY (zd1 zj7 (qv 0) zjL (zjM yy)) (zd3 xY yy (zd3 xY yy zoB))) rfl rfl (by simp) (by decide)))),?_⟩;intro p J;refine⟨_,rfl,_,rfl,a,_,rfl,(y4.upd J).seq Z,fun c D=>?_⟩;have q:p≠c:=fun e=>by subst e;rw[zj] at D;cases D
  have L:H c=none:=by rw[ze (Ne.symm q)] at D;exact D
  refine⟨by rw[ze q,zj],za2 c 0 0,rfl,(by show 3<=15;decide),?_⟩;rw[zqJ]
  have B:zcS (ns.map V.int) none (some 63)=ns.map V.int:=by
   unfold zcS;rw[HT.sIx_none]
   have O:HT.sIx (ns.map V.int).length (ns.map V.int).length (some 63)=(ns.map V.int).length:=by have:=HT.sIx_nat (ns.map V.int).length (ns.map V.int).length 63;rw[ab] at this ⊢;rw[fH U] at this;exact this
   rw[O,dF,eO,ba]
  refine k p c _ ⟨⟨0,0,zj,by lia,by lia,by lia⟩,?_,U⟩ ?_
  ·rw[ze (Ne.symm q),zj];exact congrArg (fun z=>some (HO.lst z)) B
  ·intro b o e;rw[ze (zc e J),ze (zc e L),ze (zc e J)];exact e
theorem zbh (T:Txt K mg t):FnOk P w K mg base CX0 1 t.f1 t.d1 lc zj5:=by
 refine T.q1.F.okQ yi (fun vs H Q E h=>?_) (fun a2 A as s H vs Q E hr h=>?_)
 ·obtain⟨p,c,ns,n,yf,rfl,_⟩:=h;rfl
 ·obtain⟨p,c,ns,n,yf,rfl,hP,hn,h1,h2,k⟩:=h;have J:=zbz hr;obtain⟨⟨a,l,O,U,Z,ad⟩,hc,L⟩:=id hP;have Y:c≠p:=zf0 hc O (by intro z;cases z)
  refine⟨_,(z8 (zlE (zcx znU (ub J (qv 0) xY (fun _ _=>rfl)) yy (zD _)) (z8 (xZ (i:=2) yi.nd rfl (Or.inl rfl) (yS zaN (ub J (qv 0) xY (fun _ _=>rfl)) (qv 1)))
   (z8 (zd4 J (qv 0) xY (yS zdY (ub J (qv 0) xY (fun _ _=>rfl)) (qv 1)) rfl)
   (uE (zbl (qv 2))))) zd5)
   (z8 (xZ (i:=3) yi.nd rfl (Or.inl rfl) (ub J (qv 0) xY (fun _ _=>rfl)))
   (z8 (zd4 J (qv 0) xY (yS yJ (qv 3) yy) rfl)
   (z8 (xZ (i:=4) yi.nd rfl (Or.inl rfl) (yS yJ (yS zcq yy (qv 3)) yy))
   (z8 (zlE (zcx znU (xi yI (by rfl) T.b_len bi (zJ (ub J (qv 0) xY (fun _ _=>rfl)) yx)) yy (zD _)) (uE (xZ (i:=4) yi.nd rfl (Or.inl rfl) (zq0 xS (ub J (qv 0) xY (fun _ _=>rfl)) (yS zaN (qv 3) (xi yI (by rfl) T.b_len bi (zJ (ub J (qv 0) xY (fun _ _=>rfl)) yx))) (fun _ _=>rfl)))) zd5)
   (z8 (zlE (QW.pt (zmx (zcx znV (qv 3) (xi yI (by rfl) T.b_len bi (zJ (ub J (qv 0) xY (fun _ _=>rfl)) yx)) (zD _)) (zjN (zcx ztt (xi zhX (by rfl) T.b_abs dU (zJ (qv 4) yx)) (yS zjy yy yy) (zD _))))) (z8 (zd4 J (qv 0) xY (yS zdY (xi zhX (by rfl) T.b_abs dU (zJ (qv 4) yx)) (qv 1)) rfl)
   (uE (zbl (yS zaN (xi zhX (by rfl) T.b_abs dU (zJ (qv 4) yx)) (qv 1))))) zd5)
   (z8 (xZ (i:=5) yi.nd rfl (Or.inl rfl) (yS yJ (yS yJ (yS zcq (yS yJ (yS zaN (qv 4) yy) yy) (yS yJ (yS zcq yy (qv 3)) yy)) (yS zcq (yS zcq yy (qv 3)) (qv 3))) (yS zcq yy (qv 3))))
   (z8 (xZ (i:=5) yi.nd rfl (Or.inl rfl) (yS zaN (yS zjy (qv 5) yy) yy))
   (z8 (xZ (i:=5) yi.nd rfl (Or.inl rfl) (yS zaN (yS zjy (yS yJ (yS yJ (qv 5) (yS zcq yy (qv 3))) yy) yy) yy))
   (uE (zbl (yS zaN (yS zdY (qv 5) yy) (qv 1))))))))))))),?_⟩
  refine⟨_,rfl,p,_,rfl,zjB O,_,_,rfl,rfl,_,rfl,zr3 (fun hl=>?_) (fun hl=>?_)⟩
  ·have a3:0<l:=bq hl;refine⟨_,rfl,p,_,rfl,zjB O,_,rfl,_,_,rfl,rfl,(by show (0:Int)<yf;lia),?_⟩;refine⟨_,rfl,p,_,rfl,zjB O,_,rfl,_,_,rfl,rfl,⟨by show (0:Int)<yf;lia,h2⟩,_,rfl,p,_,rfl,zmu O _,?_⟩;refine⟨_,rfl,k _ _ (cz _ (by lia)) (bW _ (by lia)) ⟨⟨a,_,zj,U,by lia,Int.ediv_nonneg ad (by lia)⟩,by rw[ze Y];exact hc,L⟩ (zee O)⟩
  ·refine⟨_,rfl,p,_,rfl,zqI O,?_⟩;refine⟨_,rfl,_,_,rfl,rfl,_,rfl,p,_,rfl,zqM O _,?_⟩;have D:upd H p (.dK (za2 c (a+1) l)) p=some (.dK (za2 c (a+1) l)):=zj;have I:upd H p (.dK (za2 c (a+1) l)) c=some (.lst (ns.map V.int)):=by rw[ze Y];exact hc
   generalize av:upd H p (.dK (za2 c (a+1) l))=H1 at D I ⊢;have al:zv H H1:=av ▸ zee O;refine⟨_,rfl,_,_,rfl,rfl,.inl ⟨by lia,by lia⟩,_,_,rfl,rfl,?_⟩;refine' meet (α:=Int) _ (fun zV=>?_) ?_;rotate_left
   ·
    refine⟨_,rfl,p,_,rfl,zgT D,_,_,rfl,.inl ⟨_,.of I,rfl⟩,_,_,rfl,rfl,_,rfl,zr3 (fun hz=>?_) (fun hz=>?_)⟩;have an:0<((ns.map V.int).length:Int):=bq hz;obtain⟨B,ap⟩:=zpr ns a an;refine⟨_,rfl,p,_,rfl,zgT D,_,rfl,_,rfl,p,_,rfl,zgT D,_,_,rfl,.inl ⟨_,.of I,rfl⟩,_,_,rfl,rfl,an,c,_,_,_,rfl,rfl,.of I,ap,?_⟩;exact zV B;exact zV (31 * a+7)
   ·intro B;have a4:∀ {q:Addr},H1 q=none->p≠q:=fun hq=>zc D hq;refine' zth _ (fun zV=>?_) ?_;rotate_left
    ·refine⟨_,rfl,_,rfl,p,_,rfl,zgT D,_,_,rfl,.inl ⟨_,.of I,rfl⟩,_,_,rfl,rfl,_,rfl,zr3 (fun h3=>?_) (fun h3=>?_)⟩;rotate_left
     ·refine iteF ?_;exact zV
     refine⟨_,rfl,_,rfl,_,_,rfl,rfl,⟨by decide,by decide,by decide⟩,_,_,rfl,rfl,_,rfl,zr3 (fun h4=>?_) (fun h4=>?_)⟩;rotate_left
     ·exact zV
     have ha:0<=(if B<0 then -B else B):=by split <;> lia
     refine⟨_,rfl,_,rfl,_,rfl,_,_,rfl,rfl,⟨by show (0:Int)<yf;lia,h2⟩,_,rfl,p,_,rfl,zmu D _,?_⟩;refine⟨_,rfl,_,rfl,_,rfl,_,_,rfl,rfl,(by show (0:Int)<yf;lia),k _ _ (cz _ (by lia)) (bW _ (by lia)) ⟨⟨a+1,_,zj,by lia,by lia,Int.ediv_nonneg ha (by lia)⟩,by rw[ze Y];exact I,L⟩ (al.trans (zee D))⟩
    ·obtain⟨a5,a7⟩:=zlQ U Z hn;have a0:=cz B (show (2147483549:Int)≠0 by decide);have a1:=bW B (show (0:Int)<2147483549 by decide);obtain⟨bb,bd⟩:=zje U Z hn a0 a1;refine⟨_,rfl,_,_,rfl,rfl,(by show (0:Int)<2147483549;decide),_,_,rfl,rfl,_,rfl,_,_,rfl,rfl,.inl ⟨by decide,by decide⟩,_,_,rfl,rfl,_,_,rfl,rfl,.inr ⟨by lia,by lia⟩,_,rfl,_,_,rfl,rfl,.inl ⟨by decide,by decide⟩,_,rfl,_,_,rfl,rfl,.inr ⟨by lia,by lia⟩,_,_,rfl,rfl,_,rfl,_,_,rfl,rfl,.inl ⟨by decide,by decide⟩,_,_,rfl,rfl,_,rfl,_,_,rfl,rfl,⟨by decide,by decide,?_⟩,_,_,rfl,rfl,(by show (0:Int)<2147483647;decide),?_⟩
     ·show ((B % 2147483549+70009) * (2 * a+1)+6133 * a * a+577 * a).natAbs<2 ^ 64;lia
     ·generalize bk:(((B % 2147483549+70009) * (2 * a+1)+6133 * a * a+577 * a) ^ (5:Int).toNat:Int)=w1;have w0:=cz w1 (show (2147483647:Int)≠0 by decide);have w2:=bW w1 (show (0:Int)<2147483647 by decide);refine⟨_,rfl,_,rfl,_,_,rfl,rfl,.inl ⟨by decide,by decide⟩,_,_,rfl,rfl,_,_,rfl,rfl,_,_,rfl,rfl,⟨by decide,by decide,?_⟩,_,_,rfl,rfl,(by show (0:Int)<2147483587;decide),?_⟩
      ·show (w1 % 2147483647+5 * a+1).natAbs<2 ^ 64;lia
      ·refine⟨_,rfl,_,_,rfl,rfl,⟨by decide,by decide⟩,_,rfl,_,_,rfl,rfl,(by show (0:Int)<yf;lia),?_⟩;exact k _ _ (cz _ (by lia)) (bW _ (by lia)) ⟨⟨a+1,l,D,by lia,by lia,ad⟩,I,L⟩ al
theorem zL (T:Txt K mg t):FnOk P w K mg base CX0 1 t.f1 t.d1 lc (spV 2 false zhD):=FnOk.lift (FnOk.mono (zbh T) (by decide)) ziZ
theorem zeY (T:Txt K mg t):FnOk P w K mg base CX0 2 t.f2 t.d2 lq zmF:=by
 have G1:FnOk P w K mg base CX0 1 t.f1 t.d1 lc zj5:=zbh T;refine T.q2.F.okQ zbr (fun vs H Q E h=>?_) (fun as A ad s H vs Q E hr h=>?_)
 ·obtain⟨p,c,a,ns,n,xs,rfl,_⟩:=h;rfl
 ·obtain⟨p,c,a,ns,n,xs,rfl,hP,hn,hx,ha,k⟩:=h
  refine⟨_,(z8 (xZ (i:=2) zbr.nd rfl (Or.inr rfl) (zaQ zbV (by rfl) T.b_list cU (zJ (qv 1) yx)))
   (uE (zbl (zgY (N:=lC) (cix:=[none,some 2,some 0]) rfl (by walk_at "c") (zd2 (qv 1)) (fun _ _ _ _=>(zcv (i:=0) (show (lC:List Str).Nodup by decide +kernel) rfl (Or.inl rfl))) (fun _ _ _ _=>zd6) (fun _ _ _ _=>(zos K rfl (qv 1) (zJ (zjI T.q1 G1 hr (zJ (qv 2) (zJ (xi (zmT K rfl) (by rfl) T.b_len bi (zJ (qv 1) yx)) yx))) yx))))))),?_⟩
  refine⟨_,rfl,a,xs,rfl,.inl (.of ha),fun b H1 O U S1=>?_⟩;refine⟨_,rfl,a,rfl,⟨_,.of (S1 _ _ ha)⟩,fun acc q=>?_⟩;have P1:=hP.same S1;have al:c≠acc:=zc P1.ls q;have D:b≠acc:=zc U q;have an:c≠b:=zc hP.ls O
  refine zhU (xs:=xs) q (fun i I H'=>(∃v,I=[v,some (.ref b),some (.ref p)])/\∃ys zs:List V,H' acc=some (.lst ys)/\H' b=some (.lst zs)/\(ys++zs).Perm xs/\ys.length=i/\Pen H' p c ns (n+i)/\zv H H')
   (fun H' z1 z2=>⟨⟨_,rfl⟩,[],xs,z1,z2 _ _ U,.refl _,rfl,P1.same z2,zv.same (S1.trans z2)⟩) (fun _ _ _ _ ⟨_,_,_,_,_,_,_,_,S⟩=>.of (S.lst ha)) ?_ ?_
  ·rintro i y I H' ap ⟨⟨v,rfl⟩,ys,zs,J,Z,L,hi,P',S'⟩;have av:=(ae.mp ap).1;have hz:=L.length_eq;rw[ai,hi] at hz;refine zl4 ⟨_,rfl,.inl ⟨rfl,_,SqL.of Z⟩,_,rfl,_,rfl,_,_,rfl,.inl ⟨_,.of Z,rfl⟩,p,c,ns,n+i,(zs.length:Int),rfl,P',by lia,by lia,by lia,fun r H2 r0 r1 P2 S2=>?_⟩;have hk:r.toNat<zs.length:=by lia
   have Y:=S2.lst Z;have B:=S2.lst J;refine⟨b,zs,r,r.toNat,zs[r.toNat],rfl,rfl,Y,by lia,by lia,L3.zmE r0 r1,ah hk,ys,by rw[ze (Ne.symm D)];exact B,a8 (by lia:ys.length<=100000) (by decide),⟨_,rfl⟩,ys++[zs[r.toNat]],zs.eraseIdx r.toNat,zj,by rw[ze D];exact zj,L3.zhh hk L,by rw[ai,hi];rfl,(P2.app Y an).app (by rw[ze (Ne.symm D)];exact B) al,?_⟩;have Sa:zv H (upd H2 b (.lst (zs.eraseIdx r.toNat))):=zg4 O (S'.trans S2);exact zg4 (S1.free q) Sa
  ·rintro I H' ⟨⟨v,rfl⟩,ys,zs,J,Z,L,hi,P',S'⟩;have hz:=L.length_eq;rw[ai,hi] at hz;have:zs=[]:=bp (by lia);subst this;rw[cy] at L;exact k acc ys H' (S1.free q) J L P' S'
theorem uC (T:Txt K mg t):FnOk P w K mg base CX0 2 t.f2 t.d2 lq (spV 2 true zhE):=FnOk.lift (FnOk.mono (zeY T) (by decide)) zi0
def zkr  : FV:=fun Pn B n R=>∃ (p:Addr) (q:Int),B=[.pen p,.d (.int q)]/\(IsP Pn p)/\(n+30<=1000000)/\(4<=q)/\(q<=256)/\(∀rm m,RoomOk rm->yz rm<=q->m<=n+20->R (.d (stD rm)) m)
theorem zkr.i  {Pn:Option zm} {n:Nat} {R:W->Nat->Prop} {p:Addr} {q:Int} (B:IsP Pn p) (D:4<=q) (F:q<=256) (h:∀rm m,RoomOk rm->yz rm<=q->m<=n+20->R (.d (stD rm)) m) (I:n+30<=1000000:=by lia):zkr Pn [.pen p,.d (.int q)] n R:=⟨p,q,rfl,B,I,D,F,h⟩
theorem zdT (T:Txt K mg t):FnOk P w K mg base CX0 2 t.f3 t.d3 lB (spV 2 false zkr):=by
 have G1:=zL (P:=P) (w:=w) (base:=base) T
 refine Fun.okW (k:=1) (fr:=false) [4] 5 T.q3.F yk rfl (by decide) rfl fun a7 A as s H E Pn J=>⟨_,(zb (wS zo <| zB (i:=2) yk.nd rfl (Or.inl rfl) (wE zq <| yN T.q1 G1 J (za (kv 0) (za zw zd))))
   (zb (wS zo <| zfQ (i:=3) (zbI (ix:=3) yk.nd rfl rfl (N:=["_law_k","_law_pen_here"]) (cix:=[none,some 0]) rfl (by walk_at "c") (wI z5 <| zA rfl T.b_range (zh (JE.bo (ux yJ zaY (JE.bo zw) (JE.bo (wE zq <| yN T.q1 G1 J (za (kv 0) (za zw zd)))))) zk)) (fun _ _ _ _=>(wG zx <| zi (i:=0) (show (["_law_k","_law_pen_here"]:List Str).Nodup by decide +kernel) rfl (Or.inl rfl))) (fun _ _ _ _=>yY) (fun _ _ _ _=>(ux yJ zaY (JE.bo zw) (JE.bo (wE zq <| yN T.q1 G1 J (za (kv 1) (za zw zd))))))))
   (zb (wS zI <| yX (wT zn <| zF xO zcL (kb 2) (JE.bo zw) (zD _)) (zf (wS zo <| zB (i:=3) yk.nd rfl (Or.inl rfl) (za1 xS zc3 (JE.bo (xu (za (xu (za zw zd)) (za (ux zmr zmH (JE.bo (xu (za zw zd))) (JE.bo zw)) (za (ux zmr zmH (JE.bo (xu (za zw zd))) (JE.bo zw)) zd))))) (JE.bo (wE zq <| yN T.q1 G1 J (za (kv 0) (za zw zd)))) (fun _ _=>rfl)))) zN)
   (zb (wS yv <| xl (i:=4) yk.nd rfl (Or.inl rfl) (xu zd))
   (zb (wS zo <| zB (i:=5) yk.nd rfl (Or.inl rfl) (kv 1))
   (zb (yb aR rfl (wI xy <| xw K rfl (kv 3)) (wG zx <| zi (i:=6) yk.nd rfl (Or.inl rfl)) (zf (wS zI <| yX (wT zn <| zF zqC u_le (kb 6) (kb 5) (zD _)) (zb (wS ua <| zao 4 (kv 6))
   (zf (wS zo <| zB (i:=5) yk.nd rfl (Or.inl rfl) (ux zdY zrF (kb 5) (kb 6))))) zN)))
   (zf (yu (xh yh zac (by rfl) T.b_tuple br (zh (kb 4) zk)))))))))),fun O n R hF=>?_⟩
 obtain⟨p,q,rfl,hP,hn,m1,m2,r⟩:=hF;walk_at "st";refine dc hP fun av w0 w1=>?_;walk_at "st";refine dc hP fun t t0 t1=>?_;walk_at "st";refine⟨⟨by lia,by lia⟩,?_⟩;rw[xj];refine zew (List.range (1+t).toNat) (fun k:Nat=>W.d (.int (k:Int))) rfl (by rw[aj];exact aB (by lia:_<=100) (by decide)) (fun i Y n' acc=>n'=n+2+i/\i<=6/\∃ (v:Option W) (O:List Int),Y=[v,some (.pen p)]/\acc=O.map Dt.int/\(∀r∈O,2<=r/\r<=4)/\O.length=i) ⟨by lia,by lia,none,[],rfl,rfl,by simp,rfl⟩ ?_ ?_
 ·rintro i k Y n' acc hk ⟨rfl,hi,v,O,rfl,rfl,hb,hl⟩ C hC;have a0:=(ae.mp hk).1;rw[aj] at a0;walk_at "st";refine dc hP fun x x0 x1=>?_
  exact hC ⟨by lia,by lia,_,O++[2+x],rfl,by rw[ax];rfl,fun r J=>by
   rcases aZ.mp J with z | z
   ·exact hb r z
   ·rw[az.mp z];lia,by rw[ai,hl];rfl⟩
 rintro Y n' acc ⟨rfl,hi,v,O,rfl,rfl,hb,hl⟩;rw[aj] at hi hl;rw[aj];walk_at "st";refine' zhm (fun (zs:List Int) (Z:Nat)=>(∀r∈zs,2<=r/\r<=4)/\zs≠[]/\Z<=n+12) _ (fun zV=>?_) ?_;rotate_left
 ·refine xC (fun _=>?_) (fun _=>?_)
  ·walk_at "st";refine⟨⟨by decide,by decide,by decide⟩,?_⟩;walk_at "st";refine⟨⟨by decide,by decide,by decide⟩,?_⟩;walk_at "st";refine dc hP fun x x0 x1=>?_;walk_at "st";refine znQ x0 x1 fun y hy=>?_
   obtain⟨zs,rfl,hz,a1⟩:∃zs:List Int,y=lsD zs/\(∀r∈zs,2<=r/\r<=4)/\zs≠[]:=by
    simp only[aE,bP,or_false] at hy;rcases hy with rfl | rfl | rfl
    ·exact⟨[4],rfl,by decide,by decide⟩
    ·exact⟨[2,2,2,2,2,2,2,2],rfl,by decide,by decide⟩
    ·exact⟨[4,4,4,4],rfl,by decide,by decide⟩
   walk_at "st";generalize hk:n+2+(1+t).toNat+1=Z;exact zV zs Z ⟨hz,a1,by lia⟩
  ·walk_at "st";generalize hk:n+2+(1+t).toNat=Z;exact zV O Z ⟨hb,fun z=>by rw[z] at hl;simp at hl;lia,by lia⟩
 rintro O Z ⟨hb,a2,bb⟩;refine yc O (fun i=>.d (.int i)) (by rw[aC];rfl) (fun i ρ m=>m=Z/\∃ (D:List Int) (L:Int) (v6:Option W),ρ=[some (.pen p),some (.d (.int q)),some (.d (.int av)),some (.d (lsD O)),some (.d (lsD D)),some (.d (.int L)),v6]/\(∀r∈D,2<=r/\r<=4)/\yz D * L<=q/\1<=L/\L<=q/\(i=0->L=q)/\(1<=i->D≠[])) ⟨rfl,[],q,_,rfl,by simp,by show 1 * q<=q;lia,by lia,by lia,fun _=>rfl,by lia⟩ ?_ ?_
 ·rintro i a ρ m ha ⟨rfl,D,L,v6,rfl,I,hp,U,al,an,ad⟩ C B E hC _ _;have ap:=hb a (aG ha);have a3:=zaP (ns:=D) fun r J=>by have:=I r J;lia
  have h8:D.length<=8:=zbk I (by have:yz D * 1<=yz D * L:=cS U (by lia);lia)
  walk_at "st";refine xC (fun h=>?_) (fun h=>?_)
  ·obtain⟨q1,q2,q3⟩:=zjX I ap hp h;walk_at "st";refine⟨by rw[ab];exact a8 h8 (by decide),?_⟩;walk_at "st";refine⟨⟨by lia,by lia⟩,hC ⟨rfl,D++[a],L / a,some (.d (.int a)),?_,?_,q1,q2,by lia,by lia,fun _=>by simp⟩⟩
   ·rw[show lsD (D++[a])=Dt.lst (D.map Dt.int++[Dt.int a]) by unfold lsD;rw[ax];rfl]
   ·intro r J;rcases aZ.mp J with z | z
    ·exact I r z
    ·rw[az.mp z];exact ap
  ·walk_at "st"
   exact hC ⟨rfl,D,L,_,rfl,I,hp,U,al,fun z=>by lia,fun _=>by
    by_cases h0:i=0
    ·have:=an h0;lia
    ·exact ad (by lia)⟩
 ·rintro ρ m ⟨rfl,D,L,v6,rfl,I,hp,U,al,an,ad⟩;have a3:=zaP (ns:=D) fun r J=>by have:=I r J;lia
  have a4:yz D<=q:=by have:yz D * 1<=yz D * L:=cS U (by lia);lia
  have a5:0<O.length:=eJ.mpr a2;walk_at "st";exact r D _ ⟨ad (by lia),zbk I (by lia),I⟩ a4 (by lia)
def zc5  : FV:=fun Pn q n R=>∃ (rm:List Int),q=[.d (stD rm)]/\(RoomOk rm)/\(R (.d (xD (y3 (rm.map zp)))) n)
theorem zc5.i  {Pn:Option zm} {n:Nat} {R:W->Nat->Prop} {rm:List Int} (q:RoomOk rm) (h:R (.d (xD (y3 (rm.map zp)))) n)  : zc5 Pn [.d (stD rm)] n R:=⟨rm,rfl,q,h⟩
theorem y0 (T:Txt K mg t):FnOk P w K mg base CX0 1 t.f4 t.d4 lr (spV 1 false zc5):=by
 refine Fun.okW (k:=0) (fr:=false) [3] 4 T.q4.F zW rfl (by decide) rfl fun an A U s H E Pn hr=>⟨_,(zb (wS zo <| zB (i:=1) zW.nd rfl (Or.inl rfl) (xu (za (yR zd) zd)))
   (zb (yb aR rfl (wI xK <| uU K rfl (kv 0)) (wG zx <| zi (i:=2) zW.nd rfl (Or.inl rfl)) (zb (wS yv <| xl (i:=3) zW.nd rfl (Or.inl rfl) (xu zd))
   (zb (yb aR rfl (wI xy <| xw K rfl (kv 1)) (wG zx <| zi (i:=4) zW.nd rfl (Or.inr rfl)) (zf (wS zfU <| ziS 3 (xz (N:=lz) (cix:=[none,some 4]) rfl (by walk_at "c") (wI z5 <| zA rfl T.b_range (zh (kb 2) zk)) (fun _ _ _ _=>(wG zx <| zi (i:=0) (show (lz:List Str).Nodup by decide +kernel) rfl (Or.inl rfl))) (fun _ _ _ _=>yY) (fun _ _ _ _=>(ux yD xA (kb 1) (JE.bo (yR (za (kv 0) zd)))))))))
   (zf (wS zdO <| zfP (i:=1) 3 zW.nd rfl (Or.inl rfl))))))
   (zf (yu (kv 1))))),fun ws n R hF=>?_⟩
 obtain⟨rm,rfl,Y,r⟩:=hF;walk_at "st";have h8:=Y.few;refine yc rm (fun i=>.d (.int i)) (by rw[aC];rfl) (fun i ρ m=>m=n/\∃ (Z v3 L:Option W),ρ=[some (.d (stD rm)),some (.d (xD (y3 ((rm.take i).map zp)))),Z,v3,L]) ⟨rfl,_,_,_,rfl⟩ ?_ ?_
 ·rintro i a ρ m ha ⟨rfl,Z,v3,L,rfl⟩ C B E hC _ _;have hm:=Y.box a (aG ha);have O:=zdv h8 Y.box i;have J:∀st∈y3 ((rm.take i).map zp),st.length<=8:=fun st ad=>by rw[zdu _ _ ad,ab,aN];lia
  have q:xH (y3 ((rm.take i).map zp)) (zp a)=y3 ((rm.take (i+1)).map zp):=by rw[zl ha,ax,aq,dM,yT]
  generalize y3 ((rm.take i).map zp)=rows at O J q;walk_at "st";refine yc rows (fun st=>.d (stD st)) (by rw[aC];rfl) (fun j ρ m'=>m'=m/\∃L,ρ=[some (.d (stD rm)),some (.d (xD rows)),some (.d (.int a)),some (.d (xD (xH (rows.take j) (zp a)))),L]) ⟨rfl,_,rfl⟩ ?_ ?_
  ·rintro j I ρ m' hj ⟨rfl,L,rfl⟩ C' B' E' al _ _;have ap:=J I (aG hj);have as:=(ae.mp hj).1;walk_at "st";refine⟨⟨by lia,by lia⟩,?_⟩;rw[xj];refine zaC (List.range a.toNat) (fun k:Nat=>W.d (.int (k:Int))) rfl (fun ρ=>∃v,ρ=[v,some (.d (stD I))]) (fun k:Nat=>stD (I++[(k:Int)])) (by rw[aj];exact aB (by lia:_<=4) (by decide)) ⟨_,rfl⟩ ?_ ?_
   ·rintro k hk av ⟨v,rfl⟩ D hD;walk_at "st";refine⟨len1 (by lia),?_⟩;rw[cat1];exact hD ⟨_,rfl⟩
   ·have e:(List.range a.toNat).map (fun k:Nat=>stD (I++[(k:Int)]))=((zp a).map fun w=>I++[w]).map stD:=by unfold zp;rw[aC,aC];rfl
    rw[e];have hl:(xH (rows.take j) (zp a)).length=(rows.take j).length * a.toNat:=by rw[ue,yG]
    have a0:(rows.take j).length * a.toNat<=65536 * 4:=dG (by rw[aN];lia) (by lia);refine⟨?_,?_⟩
    ·rw[ab,ab,ab,yG,hl];exact aB (by lia:_<=300000) (by decide)
    rw[<- ax,<- zbW,<- zl hj];exact al ⟨rfl,_,rfl⟩
  ·rintro ρ m' ⟨rfl,L,rfl⟩;rw[ba,q];walk_at "st";exact hC ⟨rfl,_,_,_,rfl⟩
 ·rintro ρ m ⟨rfl,Z,v3,L,rfl⟩;rw[ba];walk_at "st";exact r
def zkt  : FV:=fun Pn B n R=>∃ (p:Addr) (q:Int),B=[.pen p,.d (.int q)]/\(IsP Pn p)/\(n+10<=1000000)/\(2<=q)/\(q<=4)/\(∀a b,0<=a->a<q->0<=b->b<q->a≠b->R (.d (.tup [.int a,.int b])) (n+2))
theorem zkt.i  {Pn:Option zm} {n:Nat} {R:W->Nat->Prop} {p:Addr} {q:Int} (B:IsP Pn p) (h2:2<=q) (D:q<=4) (h:∀a b,0<=a->a<q->0<=b->b<q->a≠b->R (.d (.tup [.int a,.int b])) (n+2)) (F:n+10<=1000000:=by lia):zkt Pn [.pen p,.d (.int q)] n R:=⟨p,q,rfl,B,F,h2,D,h⟩
theorem zeZ (T:Txt K mg t):FnOk P w K mg base CX0 2 t.f5 t.d5 lc (spV 2 false zkt):=by
 have G1:=zL (P:=P) (w:=w) (base:=base) T
 refine Fun.okW (k:=1) (fr:=false) [] 1 T.q5.F zcJ rfl (by decide) rfl fun L A B s H E Pn I=>⟨_,(zb (wS zo <| zB (i:=2) zcJ.nd rfl (Or.inl rfl) (wE zq <| yN T.q1 G1 I (za (kv 0) (za (kv 1) zd))))
   (zf (yu (yR (za (kv 2) (za (ux zaN zrI (JE.bo (ux yJ zaY (JE.bo (ux yJ zaY (kb 2) (JE.bo zw))) (JE.bo (wE zq <| yN T.q1 G1 I (za (kv 0) (za (ux zms zrK (kb 1) (JE.bo zw)) zd)))))) (kb 1)) zd)))))),fun ws n R O=>?_⟩
 obtain⟨p,q,rfl,J,hn,h2,h4,r⟩:=O;walk_at "st";refine dc J fun wo U Y=>?_;walk_at "st";refine dc J fun t t0 t1=>?_;walk_at "st";refine⟨by lia,?_⟩;have Z:=cz (wo+1+t) (show q≠0 by lia);have c1:=bW (wo+1+t) (show 0<q by lia)
 have D:(wo+1+t) % q≠wo:=by
  have h3:q=2\/q=3\/q=4:=by lia
  rcases h3 with rfl | rfl | rfl <;> lia
 exact r _ _ U Y Z c1 (Ne.symm D)
def zfq  : FV:=fun Pn q n R=>∃ (p:Addr) (rm:List Int),q=[.pen p,.d (stD rm)]/\(IsP Pn p)/\(n+60<=1000000)/\(RoomOk rm)/\(∀x m,WishOk rm x->m<=n+30->R (.d (zP x)) m)
theorem zfq.i  {Pn:Option zm} {n:Nat} {R:W->Nat->Prop} {p:Addr} {rm:List Int} (q:IsP Pn p) (B:RoomOk rm) (h:∀x m,WishOk rm x->m<=n+30->R (.d (zP x)) m) (D:n+60<=1000000:=by lia):zfq Pn [.pen p,.d (stD rm)] n R:=⟨p,rm,rfl,q,D,B,h⟩
theorem xB (T:Txt K mg t):FnOk P w K mg base CX0 3 t.f6 t.d6 la (spV 2 false zfq):=by
 have G1:=zL (P:=P) (w:=w) (base:=base) T;have G5:=zeZ (P:=P) (w:=w) (base:=base) T
 refine Fun.okW (k:=2) (fr:=false) [4] 6 T.q6.F yE rfl (by decide) rfl fun av A ad s H E Pn O=>⟨_,(zb (wS zo <| zB (i:=2) yE.nd rfl (Or.inl rfl) (wE zq <| yN T.q1 G1 O (za (kv 0) (za (zY yI uP (by rfl) T.b_len bi (zh (kb 1) zk)) zd))))
   (zb (wS zo <| zB (i:=3) yE.nd rfl (Or.inl rfl) (ux yJ zaY (JE.bo zw) (JE.bo (wE zq <| yN T.q1 G1 O (za (kv 0) (za zw zd))))))
   (zb (wS yv <| xl (i:=4) yE.nd rfl (Or.inl rfl) (xu zd))
   (zb (yb aR rfl (wI z5 <| zA rfl T.b_range (zh (JE.bo (zY yI uP (by rfl) T.b_len bi (zh (kb 1) zk))) zk)) (wG zx <| zi (i:=5) yE.nd rfl (Or.inl rfl)) (zf (wS zI <| yX (JW.t (wW zay <| zcf (wT zn <| zF zjw zrJ (kb 5) (kb 2) (zD _)) (uV (.inl rfl) (wT zn <| zF xO zcL (JE.bo (wE zq <| yN T.q1 G1 O (za (kv 0) (za (kv 3) zd)))) (JE.bo zw) (zD _))))) (zf (wS ua <| zao 4 (yR (za (kv 5) (za (wE zq <| yN T.q1 G1 O (za (kv 0) (za (za1 y8 uO (kb 1) (kb 5) (fun _ _=>rfl)) zd))) zd))))) zN)))
   (zb (ziR (wE zq <| yN T.q5 G5 O (za (kv 0) (za (za1 y8 uO (kb 1) (kb 2) (fun _ _=>rfl)) zd))) (wG ug <| uh (n:=2) K rfl rfl (wH zO <| zt (wG zx <| zi (i:=6) yE.nd rfl (Or.inl rfl)) (wH zO <| zt (wG zx <| zi (i:=7) yE.nd rfl (Or.inl rfl)) (wH uf xa)))))
   (zf (yu (yR (za (xh yh zac (by rfl) T.b_tuple br (zh (kb 4) zk)) (za (kv 2) (za (kv 6) (za (kv 7) zd)))))))))))),fun ws n R hF=>?_⟩
 obtain⟨p,rm,rfl,U,hn,hR,r⟩:=hF;walk_at "st";have h8:=hR.few;have as:=hR.pos;rw[ab];refine dc U fun D b0 b1=>?_;have hm:=yg hR.box b0 b1;walk_at "st";refine dc U fun sh s0 s1=>?_;walk_at "st";rw[ab];refine⟨⟨by lia,by lia⟩,uH (fun i ρ m=>m<=n+2+2 * i/\i<=rm.length/\∃g L,ρ=[some (.pen p),some (.d (stD rm)),some (.d (.int D)),some (.d (.int (2+sh))),some (.d (.lst (g.map xo))),L,none,none]/\Giv rm g/\(∀q∈g,q.1≠D)/\(∀q∈g,q.1<(i:Int))/\g.length<=i) ⟨by lia,aT _,[],_,rfl,⟨by simp,.nil⟩,by simp,by simp,aT _⟩ ?_ ?_⟩
 ·rintro i ρ m hi ⟨al,an,g,L,rfl,hG,I,J,ap⟩ C B E hC _ _;have a2:=yg hR.box (b:=(i:Int)) (by lia) (by lia);have Y:∀m',m'<=m+1->∀L,C [some (.pen p),some (.d (stD rm)),some (.d (.int D)),some (.d (.int (2+sh))),some (.d (.lst (g.map xo))),L,none,none] m':=fun m' a3 L=>hC ⟨by lia,by lia,g,_,rfl,hG,I,fun q Z=>by have:=J q Z;lia,by lia⟩;walk_at "st";refine zjq (fun hb=>?_) (fun _=>⟨Y _ (by lia) _⟩);walk_at "st";refine dc U fun t t0 t1=>?_;walk_at "st";refine xC (fun _=>?_) (fun _=>⟨Y _ (by lia) _⟩);walk_at "st";refine onA (by lia) (by lia) ?_;walk_at "st";refine dc U fun u u0 u1=>?_;walk_at "st";refine⟨by rw[ab];exact a8 (by lia:_<=8) (by decide),hC ⟨by lia,by lia,g++[((i:Int),u)],_,by rw[ax];rfl,hG.snoc J (by lia) (by lia) u0 u1,fun q Z=>?_,fun q Z=>?_,by rw[ai];simp;lia⟩⟩
  ·rcases aZ.mp Z with z | z
   ·exact I q z
   ·rw[az.mp z];exact hb
  ·rcases aZ.mp Z with z | z
   ·have:=J q z;lia
   ·rw[az.mp z];show (i:Int)<((i+1:Nat):Int);lia
 ·rintro ρ m ⟨al,an,g,L,rfl,hG,I,J,ap⟩;walk_at "st";refine onA b0 b1 ?_;walk_at "st";refine zkt.i U hm.1 hm.2 fun a b a0 a1 c0 c1 ne=>?_;walk_at "st";exact r ⟨g,D,a,b⟩ _ ⟨hG,b0,b1,I,a0,a1,c0,c1,ne⟩ (by lia)
def zko  : FV:=fun Pn D n R=>∃ (rm B:List Int),D=[.d (stD rm),.d (lsD B)]/\(RoomOk rm)/\(B.Nodup)/\(∀b∈B,0<=b/\b<rm.length)/\(B.length<=2)/\(∀gs:List (List (Int×Int)),(∀g∈gs,Giv rm g/\∀q∈g,q.1∈B)->gs.length<=16->R (.d (.lst (gs.map zem))) n)
theorem zko.i  {Pn:Option zm} {n:Nat} {R:W->Nat->Prop} {rm B:List Int} (D:RoomOk rm) (F:B.Nodup) (I:∀b∈B,0<=b/\b<rm.length) (h2:B.length<=2) (h:∀gs:List (List (Int×Int)),(∀g∈gs,Giv rm g/\∀q∈g,q.1∈B)->gs.length<=16->R (.d (.lst (gs.map zem))) n)  : zko Pn [.d (stD rm),.d (lsD B)] n R:=⟨rm,B,rfl,D,F,I,h2,h⟩
theorem zbc (T:Txt K mg t):FnOk P w K mg base CX0 1 t.f7 t.d7 lA (spV 2 false zko):=by
 refine Fun.okW (k:=0) (fr:=false) [4] 4 T.q7.F z6 rfl (by decide) rfl fun a3 A an s H E Pn hr=>⟨_,(zb (wS zo <| zB (i:=2) z6.nd rfl (Or.inl rfl) (xu (za (yR zd) zd)))
   (zb (yb aR rfl (wI xy <| xw K rfl (zY zkF zo4 (by rfl) T.b_sorted ci (zh (kb 1) zk))) (wG zx <| zi (i:=3) z6.nd rfl (Or.inr rfl)) (zb (wS yv <| xl (i:=4) z6.nd rfl (Or.inl rfl) (xu zd))
   (zb (yb aR rfl (wI xy <| xw K rfl (kv 2)) (wG zx <| zi (i:=5) z6.nd rfl (Or.inr rfl)) (zf (wS zfU <| ziS 4 (xz (N:=lD) (cix:=[none,some 5,some 3]) rfl (by walk_at "c") (wI z5 <| zA rfl T.b_range (zh (JE.bo (za1 y8 uO (kb 0) (kb 3) (fun _ _=>rfl))) zk)) (fun _ _ _ _=>(wG zx <| zi (i:=0) (show (lD:List Str).Nodup by decide +kernel) rfl (Or.inl rfl))) (fun _ _ _ _=>yY) (fun _ _ _ _=>(ux yD xA (kb 1) (JE.bo (yR (za (yR (za (kv 2) (za (kv 0) zd))) zd)))))))))
   (zf (wS zdO <| zfP (i:=2) 4 z6.nd rfl (Or.inl rfl))))))
   (zf (yu (kv 2))))),fun ws n R hF=>?_⟩
 obtain⟨rm,bs,rfl,hR,hN,hb,h2,r⟩:=hF;walk_at "st";have h8:=hR.few;refine⟨bs,rfl,by lia,fun cs hp hs=>?_⟩;have ap:cs.Nodup:=hp.nodup_iff.mpr hN;have as:cs.Pairwise (· < ·):=(hs.and ap).imp fun {a b} ⟨h1,h2⟩=>by lia
 have ad:∀c∈cs,c∈bs:=fun c hc=>hp.mem_iff.mp hc;have a4:=hp.length_eq;walk_at "st";refine yc cs (fun i=>.d (.int i)) (by rw[aC];rfl) (fun i ρ m=>m=n/\∃ (gs:List (List (Int×Int))) (v3 v4 U:Option W),ρ=[some (.d (stD rm)),some (.d (lsD bs)),some (.d (.lst (gs.map zem))),v3,v4,U]/\(∀g∈gs,Giv rm g/\∀q∈g,q.1∈cs.take i)/\gs.length<=4 ^ i) ⟨rfl,[[]],_,_,_,rfl,fun g Y=>?_,by decide⟩ ?_ ?_
 ·rw[az.mp Y];exact⟨⟨by simp,.nil⟩,by simp⟩
 ·rintro i c ρ m hc ⟨rfl,gs,v3,v4,U,rfl,J,av⟩ C B E hC _ _;have I:=hb c (ad c (aG hc));have a5:=yg hR.box I.1 I.2;have hi:=(ae.mp hc).1;have a0:4 ^ i<=4:=cJ (by decide) (by lia:i<=1)
  have al:∀x∈cs.take i,x<c:=fun x hx=>by obtain⟨j,hj,rfl⟩:=bH.mp hx;rw[aN] at hj;have:=b8.mp as j i (by lia) hi (by lia);rw[(ae.mp hc).2] at this;rw[dD];exact this
  walk_at "st";refine yc gs (fun g=>.d (zem g)) (by rw[aC];rfl) (fun j ρ m'=>m'=m/\∃ (lg:List (List (Int×Int))) (U:Option W),ρ=[some (.d (stD rm)),some (.d (lsD bs)),some (.d (.lst (gs.map zem))),some (.d (.int c)),some (.d (.lst (lg.map zem))),U]/\(∀g∈lg,Giv rm g/\∀q∈g,q.1∈cs.take (i+1))/\lg.length<=j * 4) ⟨rfl,[],_,rfl,by simp,by simp⟩ ?_ ?_
  ·rintro j g ρ m' Y ⟨rfl,lg,U,rfl,Z,a1⟩ C' B' E' a2 _ _;have L:=J g (aG Y);have a7:=zit L.1 h8;have hj:=(ae.mp Y).1;walk_at "st";refine onA I.1 I.2 ?_;walk_at "st";refine⟨⟨by lia,by lia⟩,?_⟩;rw[xj];refine zaC (List.range (yf rm c).toNat) (fun k:Nat=>W.d (.int (k:Int))) rfl (fun ρ=>∃v,ρ=[v,some (.d (zem g)),some (.d (.int c))]) (fun k:Nat=>zem (g++[(c,(k:Int))])) (by rw[aj];exact aB (by lia:_<=4) (by decide)) ⟨_,rfl⟩ ?_ ?_
   ·rintro k hk bb ⟨v,rfl⟩ D hD;walk_at "st";refine⟨by rw[ab];exact aB (by simp;lia:_<=101) (by decide),?_⟩;rw[show g.map xo++[Dt.tup [Dt.int c,Dt.int (k:Int)]]=(g++[(c,(k:Int))]).map xo by rw[ax];rfl];exact hD ⟨_,rfl⟩
   ·have e:(List.range (yf rm c).toNat).map (fun k:Nat=>zem (g++[(c,(k:Int))]))=((List.range (yf rm c).toNat).map fun k:Nat=>g++[(c,(k:Int))]).map zem:=by rw[aC];rfl
    rw[e];refine⟨by rw[ab,ab,ab,aj];exact aB (by lia:_<=100) (by decide),?_⟩;rw[<- ax];refine a2 ⟨rfl,_,_,rfl,fun z hz=>?_,by rw[ai,ab,aj];lia⟩;rcases aZ.mp hz with hz | hz
    ·exact Z z hz
    ·obtain⟨k,hk,rfl⟩:=aH.mp hz;have hk:=aP.mp hk;refine⟨L.1.snoc (fun q O=>al _ (L.2 q O)) I.1 I.2 (by lia) (by lia),fun q O=>?_⟩;rw[zl hc];rcases aZ.mp O with O | O
     ·exact bL _ (L.2 q O)
     ·rw[az.mp O];exact ak _ (by simp)
  ·rintro ρ m' ⟨rfl,lg,U,rfl,Z,a1⟩;walk_at "st";exact hC ⟨rfl,lg,_,_,_,rfl,Z,by rw[Nat.pow_succ];lia⟩
 ·rintro ρ m ⟨rfl,gs,v3,v4,U,rfl,J,av⟩;rw[ba] at J;have a0:4 ^ cs.length<=16:=cJ (by decide) (by lia:cs.length<=2);walk_at "st";exact r gs (fun g Y=>⟨(J g Y).1,fun q O=>ad _ ((J g Y).2 q O)⟩) (by lia)
def zhC  : FV:=fun Pn q n R=>∃ (p:Addr) (rm:List Int),q=[.pen p,.d (stD rm)]/\(IsP Pn p)/\(n+2000<=1000000)/\(RoomOk rm)/\(∀bk m,yL rm bk->bk.length<=400->m<=n+1000->R (.d (.lst (bk.map zP))) m)
theorem zhC.i  {Pn:Option zm} {n:Nat} {R:W->Nat->Prop} {p:Addr} {rm:List Int} (q:IsP Pn p) (B:RoomOk rm) (h:∀bk m,yL rm bk->bk.length<=400->m<=n+1000->R (.d (.lst (bk.map zP))) m) (D:n+2000<=1000000:=by lia):zhC Pn [.pen p,.d (stD rm)] n R:=⟨p,rm,rfl,q,D,B,h⟩
theorem zbb (T:Txt K mg t):FnOk P w K mg base CX0 3 t.f8 t.d8 la (spV 2 true zhC):=by
 have G1:=zL (P:=P) (w:=w) (base:=base) T;have G2:=uC (P:=P) (w:=w) (base:=base) T;have G7:=zbc (P:=P) (w:=w) (base:=base) T
 refine Fun.okW (k:=2) (fr:=true) [3] 8 T.q8.F zE rfl (by decide) rfl fun cc A bb s H E Pn hr=>⟨_,(zb (wS zo <| zB (i:=2) zE.nd rfl (Or.inl rfl) (wE zq <| yN T.q2 G2 hr (za (kv 0) (za (wE uA <| zaG T.b_list T.b_range (zh (JE.bo (zY yI uP (by rfl) T.b_len bi (zh (kb 1) zk))) zk)) zd))))
   (zb (wS yv <| xl (i:=3) zE.nd rfl (Or.inl rfl) (xu zd))
   (zb (yb aR rfl (wI zbJ <| zbH rfl T.b_enumerate (za (kv 2) zd)) (wG ug <| uh (n:=2) K rfl rfl (wH zO <| zt (wG zx <| zi (i:=4) zE.nd rfl (Or.inl rfl)) (wH zO <| zt (wG zx <| zi (i:=5) zE.nd rfl (Or.inl rfl)) (wH uf xa)))) (zb (wS zo <| zB (i:=6) zE.nd rfl (Or.inl rfl) (wE zck <| ziQ (JE.bo (xz (N:=["_law_one","_law_pen_here"]) (cix:=[none,some 0]) rfl (by walk_at "c") (wI xy <| xw K rfl (wE zck <| ziQ (kb 2) yo (wO zQ <| yp (kb 4)))) (fun _ _ _ _=>(wG zx <| zi (i:=0) (show (["_law_one","_law_pen_here"]:List Str).Nodup by decide +kernel) rfl (Or.inl rfl))) (fun _ _ _ _=>(uy (wT zn <| zF xO zcL (JE.bo (wE zq <| yN T.q1 G1 hr (za (kv 1) (za zw zd)))) (JE.bo zw) (zD _)))) (fun _ _ _ _=>(kv 0)))) yo (wO zQ <| yp (JE.bo zw))))
   (zf (yb aR rfl (wI xy <| xw K rfl (wE zq <| yN T.q7 G7 hr (za (kv 1) (za (kv 6) zd)))) (wG zx <| zi (i:=7) zE.nd rfl (Or.inl rfl)) (zb (wS zo <| zB (i:=8) zE.nd rfl (Or.inl rfl) (wE zq <| yN T.q2 G2 hr (za (kv 0) (za (wE uA <| zaG T.b_list T.b_range (zh (JE.bo (za1 y8 uO (kb 1) (kb 5) (fun _ _=>rfl))) zk)) zd))))
   (zf (yb aR rfl (wI z5 <| zA rfl T.b_range (zh (JE.bo (ux zms zrK (JE.bo (zY yI uP (by rfl) T.b_len bi (zh (kb 8) zk))) (JE.bo zw))) zk)) (wG zx <| zi (i:=9) zE.nd rfl (Or.inl rfl)) (zf (wS ua <| zao 3 (yR (za (kv 7) (za (kv 5) (za (za1 xS zc3 (kb 8) (kb 9) (fun _ _=>rfl)) (za (za1 xS zc3 (kb 8) (JE.bo (ux yJ zaY (kb 9) (JE.bo zw))) (fun _ _=>rfl)) zd))))))))))))))
   (zf (wS uB <| zax 3))))),fun ws n R hF=>?_⟩
 obtain⟨p,rm,rfl,hP,hn,hR,r⟩:=hF;walk_at "st";have h8:=hR.few;rw[ab];refine⟨⟨by lia,by lia⟩,?_⟩;walk_at "st";refine tc hP (fun l hl=>?_) (by rw[zak];lia) (by rw[zak];lia);rw[zak];obtain⟨J,rfl,al⟩:=zgU hl;have a0:J.Nodup:=al.nodup_iff.mpr (ze8 _)
 have a1:∀b∈J,0<=b/\b<rm.length:=fun b hb=>by have:=zai.mp (al.mem_iff.mp hb);lia
 have bd:=al.length_eq;rw[yG] at bd;walk_at "st";have ca:J.length<=8:=by lia
 generalize cd:n+(rm.length:Int).toNat=n1;refine yc (List.range J.length) (fun i=>W.d (.tup [.int (i:Int),.int (J.getD i 0)])) (zm1 J) (fun i ρ m=>m<=n1+100 * i/\∃ (bk:List Wi) (v4 v5 v6 v7 v8 Y:Option W),ρ=[some (.pen p),some (.d (stD rm)),some (.d (.lst (J.map Dt.int))),some (.d (.lst (bk.map zP))),v4,v5,v6,v7,v8,Y]/\yL rm bk/\bk.length<=48 * i) ⟨by lia,[],_,_,_,_,_,_,rfl,by intro x hx;simp at hx,by simp⟩ ?_ ?_
 ·rintro i k ρ m bl ⟨hm,bk,v4,v5,v6,v7,v8,Y,rfl,Z,L⟩ C B E hC _ _;obtain⟨O,a2⟩:=ae.mp bl;rw[aj] at O;rw[bX] at a2;subst a2;have I:=a1 _ (zb3 O);have ad:=zo1 a0 O;generalize J.getD i 0=box at I ad;have ch:=yg hR.box I.1 I.2;walk_at "st";rw[x6,L3.zbD];have cl:(J.take i).length<=8:=by rw[aN];lia
  refine zew (J.take i) (fun x=>W.d (.int x)) (by rw[aC];rfl) (aB (by lia:_<=100) (by decide)) (fun j an n' acc=>n'=m+j/\∃ (v:Option W) (ls:List Int),an=[v,some (.pen p)]/\acc=ls.map Dt.int/\ls.Sublist ((J.take i).take j)) ⟨by lia,none,[],rfl,rfl,List.nil_sublist _⟩ ?_ ?_
  ·rintro j x an n' acc hx ⟨rfl,v,ls,rfl,rfl,hs⟩ D hD;have cn:=(ae.mp hx).1;walk_at "st";refine dc hP (fun t t0 t1=>?_) (by lia);walk_at "st";refine xC (fun _=>?_) (fun _=>?_)
   ·refine hD ⟨by lia,_,ls++[x],rfl,by rw[ax];rfl,?_⟩;rw[zl hx];exact hs.append (List.Sublist.refl _)
   ·refine hD ⟨by lia,_,ls,rfl,rfl,?_⟩;rw[zl hx];exact hs.trans (List.sublist_append_left _ _)
  rintro an n' acc ⟨rfl,v,ls,rfl,rfl,hs⟩;rw[ba] at hs;walk_at "st";rw[x6,show (2:Int)=((2:Nat):Int) from rfl,L3.zbD];have ap:=(dA 2 ls).trans hs;have as:∀x∈ls.take 2,x∈J/\x≠box:=fun x hx=>⟨bM (ap.subset hx),fun e=>ad (by rw[<- e];exact ap.subset hx)⟩;have a3:(ls.take 2).Nodup:=(a0.sublist (dA _ _)).sublist ap;have a4:(ls.take 2).length<=2:=by rw[aN];lia
  generalize ls.take 2=lk at as a3 a4;generalize co:m+(J.take i).length=n2;walk_at "st";refine zko.i hR a3 (fun b hb=>a1 b (as b hb).1) a4 fun gs bx cp=>?_;walk_at "st";refine yc gs (fun g=>.d (zem g)) (by rw[aC];rfl) (fun j ρ m'=>m'<=n2+4 * j/\∃ (bk:List Wi) (v7 v8 Y:Option W),ρ=[some (.pen p),some (.d (stD rm)),some (.d (.lst (J.map Dt.int))),some (.d (.lst (bk.map zP))),some (.d (.int (i:Int))),some (.d (.int box)),some (.d (.lst (lk.map Dt.int))),v7,v8,Y]/\yL rm bk/\bk.length<=48 * i+3 * j) ⟨by lia,bk,_,_,_,rfl,Z,by lia⟩ ?_ ?_
  ·rintro j g ρ m' hg ⟨b0,bk,v7,v8,Y,rfl,Z,L⟩ C' B' E' b1 _ _;have a5:=bx g (aG hg);have hj:=(ae.mp hg).1;walk_at "st";refine onA I.1 I.2 ?_;walk_at "st";refine⟨⟨by lia,by lia⟩,?_⟩;walk_at "st";refine tc hP (fun l hl=>?_) (by rw[zak];lia) (by rw[zak];lia);rw[zak];obtain⟨U,rfl,av⟩:=zgU hl;have b2:U.Nodup:=av.nodup_iff.mpr (ze8 _);have b3:=av.length_eq;rw[yG] at b3
   have a7:∀x∈U,0<=x/\x<yf rm box:=fun x hx=>by have:=zai.mp (av.mem_iff.mp hx);lia
   walk_at "st";rw[ab];refine⟨⟨by lia,by lia⟩,uH (fun k ρ m2=>m2=m'+(yf rm box).toNat/\∃ (bk:List Wi) (Y:Option W),ρ=[some (.pen p),some (.d (stD rm)),some (.d (.lst (J.map Dt.int))),some (.d (.lst (bk.map zP))),some (.d (.int (i:Int))),some (.d (.int box)),some (.d (.lst (lk.map Dt.int))),some (.d (zem g)),some (.d (.lst (U.map Dt.int))),Y]/\yL rm bk/\bk.length<=48 * i+3 * j+k) ⟨rfl,bk,_,rfl,Z,by lia⟩ ?_ ?_⟩
   ·rintro k ρ m2 hk ⟨rfl,bk,Y,rfl,Z,L⟩ C2 B2 E2 b4 _ _;have O:k+1<U.length:=by lia
    walk_at "st";refine onA (cY k) (by lia) ?_;walk_at "st";refine onA (by lia) (by lia) ?_;rw[show ((k:Int)+1)=((k+1:Nat):Int) from rfl,yd,yd];have q1:=a7 _ (zb3 (i:=k) (by lia));have q2:=a7 _ (zb3 O)
    have q3:U.getD k 0≠U.getD (k+1) 0:=fun e=>by
     have e1:U.getD k 0=U[k]:=by simp[show k<U.length by lia]
     have e2:U.getD (k+1) 0=U[k+1]:=by simp[O]
     rw[e1,e2] at e;have:=(cj b2).mp e;lia
    walk_at "st";refine⟨by rw[ab];exact a8 (by lia:_<=1000) (by decide),?_⟩;refine b4 ⟨rfl,bk++[⟨g,box,U.getD k 0,U.getD (k+1) 0⟩],_,by rw[ax];rfl,Z.app fun y hy=>?_,by rw[ai];simp;lia⟩;rw[az.mp hy];exact⟨a5.1,I.1,I.2,fun q hq=>(as _ (a5.2 q hq)).2,q1.1,q1.2,q2.1,q2.2,q3⟩
   ·rintro ρ m2 ⟨rfl,bk,Y,rfl,Z,L⟩;walk_at "st";exact b1 ⟨by lia,bk,_,_,_,rfl,Z,by lia⟩
  ·rintro ρ m' ⟨b0,bk,v7,v8,Y,rfl,Z,L⟩;walk_at "st";exact hC ⟨by lia,bk,_,_,_,_,_,_,rfl,Z,by lia⟩
 ·rintro ρ m ⟨hm,bk,v4,v5,v6,v7,v8,Y,rfl,Z,L⟩;rw[aj] at hm L;walk_at "st";exact r bk m Z (by lia) (by lia)
def zen  : FV:=fun Pn q n R=>∃ (rm a b:List Int),q=[.d (stD a),.d (stD b)]/\(RoomOk rm)/\(StOk rm a)/\(StOk rm b)/\(a≠b)/\(∀x,WishOk rm x->R (.d (zP x)) n)
theorem zen.i  {Pn:Option zm} {n:Nat} {R:W->Nat->Prop} {rm a b:List Int} (B:RoomOk rm) (D:StOk rm a) (F:StOk rm b) (q:a≠b) (h:∀x,WishOk rm x->R (.d (zP x)) n)  : zen Pn [.d (stD a),.d (stD b)] n R:=⟨rm,a,b,rfl,B,D,F,q,h⟩
theorem zaM (T:Txt K mg t):FnOk P w K mg base CX0 1 t.f9 t.d9 lj (spV 2 false zen):=by
 refine Fun.okW (k:=0) (fr:=false) [] 2 T.q9.F u8 rfl (by decide) rfl fun ad A q s H E Pn hr=>⟨_,(zb (wS zo <| zB (i:=2) u8.nd rfl (Or.inr rfl) (za1 xS zc3 (JE.bo (xz (N:=lI) (cix:=[none,some 0,some 1]) rfl (by walk_at "c") (wI z5 <| zA rfl T.b_range (zh (JE.bo (zY yI uP (by rfl) T.b_len bi (zh (kb 0) zk))) zk)) (fun _ _ _ _=>(wG zx <| zi (i:=0) (show (lI:List Str).Nodup by decide +kernel) rfl (Or.inl rfl))) (fun _ _ _ _=>(uy (wT zn <| zF zjw zrJ (JE.bo (za1 y8 uO (kb 1) (kb 0) (fun _ _=>rfl))) (JE.bo (za1 y8 uO (kb 2) (kb 0) (fun _ _=>rfl))) (zD _)))) (fun _ _ _ _=>(kv 0)))) (JE.bo zw) (fun _ _=>rfl)))
   (zb (wS zo <| zB (i:=3) u8.nd rfl (Or.inl rfl) (xh yh zac (by rfl) T.b_tuple br (zh (JE.bo (xz (N:=lJ) (cix:=[none,some 0,some 2]) rfl (by walk_at "c") (wI z5 <| zA rfl T.b_range (zh (JE.bo (zY yI uP (by rfl) T.b_len bi (zh (kb 0) zk))) zk)) (fun _ _ _ _=>(wG zx <| zi (i:=0) (show (lJ:List Str).Nodup by decide +kernel) rfl (Or.inl rfl))) (fun _ _ _ _=>(uy (wT zn <| zF zjw zrJ (kb 0) (kb 2) (zD _)))) (fun _ _ _ _=>(yR (za (kv 0) (za (za1 y8 uO (kb 1) (kb 0) (fun _ _=>rfl)) zd)))))) zk)))
   (zf (yu (yR (za (kv 3) (za (kv 2) (za (za1 y8 uO (kb 1) (kb 2) (fun _ _=>rfl)) (za (za1 y8 uO (kb 0) (kb 2) (fun _ _=>rfl)) zd))))))))),fun ws n R hF=>?_⟩
 obtain⟨rm,a,b,rfl,hR,ha,hb,B,r⟩:=hF;walk_at "st";have D:=ha.len;have I:=hb.len;have h8:=hR.few;rw[ab];refine⟨⟨by lia,by lia⟩,?_⟩;rw[bf,xj];refine zat (List.range a.length) (fun k:Nat=>W.d (.int (k:Int))) rfl (fun ρ=>∃v,ρ=[v,some (.d (stD a)),some (.d (stD b))]) (fun k=>!decide (a.getD k 0=b.getD k 0)) (fun k=>.int (k:Int)) (by rw[aj];exact aB (by lia:a.length<=8) (by decide)) ⟨_,rfl⟩ ?_ ?_
 ·rintro k J L ⟨v,rfl⟩ C O U;have al:=aP.mp J;walk_at "st";refine onA (by lia) (by lia) ?_;walk_at "st";refine onA (by lia) (by lia) ?_;walk_at "st";rw[yd,yd];refine zjq (fun h=>?_) (fun h=>?_)
  ·exact O (by rw[aO h];rfl) ⟨_,rfl⟩
  ·exact U (by rw[aL h];rfl) ⟨_,rfl⟩
 ·obtain⟨k,zV,J,Y,Z⟩:=zib (D.trans I.symm) B;rw[J];walk_at "st";refine zbB (zgq (i:=0) rfl) ?_;walk_at "st";rw[ab];refine⟨⟨by lia,by lia⟩,?_⟩;rw[bf,xj];refine zat (List.range a.length) (fun k:Nat=>W.d (.int (k:Int))) rfl (fun ρ=>∃v,ρ=[v,some (.d (stD a)),some (.d (.int (k:Int)))]) (fun i=>!decide (i=k)) (fun i=>xo ((i:Int),a.getD i 0)) (by rw[aj];exact aB (by lia:a.length<=8) (by decide)) ⟨_,rfl⟩ ?_ ?_
  ·rintro i hi L ⟨v,rfl⟩ C O U;have an:=aP.mp hi;walk_at "st";refine zjq (fun h=>?_) (fun h=>?_)
   ·walk_at "st";refine onA (by lia) (by lia) ?_;walk_at "st";rw[yd];exact O (by rw[aO (by lia)];rfl) ⟨_,rfl⟩
   ·exact U (by rw[aL (by lia)];rfl) ⟨_,rfl⟩
  ·walk_at "st";refine onA (by lia) (by lia) ?_;walk_at "st";refine onA (by lia) (by lia) ?_;walk_at "st";have:=r _ (zkR ha hb Y Z);unfold zpR zP at this;rw[aC] at this;rw[yd,yd];exact this
def zgk  : FV:=fun Pn q n R=>∃ (rm:List Int),q=[.d (stD rm)]/\(RoomOk rm)/\(∀sts:List (List Int),sts.Nodup->(∀st∈sts,StOk rm st)->(sts.length:Int)=yz rm->R (.d (xD sts)) n)
theorem zgk.i  {Pn:Option zm} {n:Nat} {R:W->Nat->Prop} {rm:List Int} (q:RoomOk rm) (h:∀sts:List (List Int),sts.Nodup->(∀st∈sts,StOk rm st)->(sts.length:Int)=yz rm->R (.d (xD sts)) n)  : zgk Pn [.d (stD rm)] n R:=⟨rm,rfl,q,h⟩
theorem zc0 (T:Txt K mg t):FnOk P w K mg base CX0 1 t.f10 t.d10 lr (spV 1 false zgk):=by
 refine Fun.okW (k:=0) (fr:=false) [3] 6 T.q10.F zS rfl (by decide) rfl fun a5 A a1 s H E Pn hr=>⟨_,(zb (wS zo <| zB (i:=1) zS.nd rfl (Or.inl rfl) (xu (za (yR zd) zd)))
   (zb (yb aR rfl (wI xK <| uU K rfl (kv 0)) (wG zx <| zi (i:=2) zS.nd rfl (Or.inl rfl)) (zb (wS yv <| xl (i:=3) zS.nd rfl (Or.inl rfl) (xu zd))
   (zb (yb aR rfl (wI zbJ <| zbH rfl T.b_enumerate (za (kv 1) zd)) (wG ug <| uh (n:=2) K rfl rfl (wH zO <| zt (wG zx <| zi (i:=4) zS.nd rfl (Or.inl rfl)) (wH zO <| zt (wG zx <| zi (i:=5) zS.nd rfl (Or.inr rfl)) (wH uf xa)))) (zb (wS zo <| zB (i:=6) zS.nd rfl (Or.inl rfl) (wE uA <| zaG T.b_list T.b_range (zh (kb 2) zk)))
   (zb (wS zI <| yX (wT zn <| zF xO zcL (JE.bo (ux zaN zrI (kb 4) (JE.bo zw))) (JE.bo zw) (zD _)) (zf (wS zo <| zB (i:=6) zS.nd rfl (Or.inl rfl) (wE zlg <| zp2 (kb 6)))) zN)
   (zf (wS zfU <| ziS 3 (xz (N:=lz) (cix:=[none,some 5]) rfl (by walk_at "c") (wI xy <| xw K rfl (kv 6)) (fun _ _ _ _=>(wG zx <| zi (i:=0) (show (lz:List Str).Nodup by decide +kernel) rfl (Or.inl rfl))) (fun _ _ _ _=>yY) (fun _ _ _ _=>(ux yD xA (kb 1) (JE.bo (yR (za (kv 0) zd)))))))))))
   (zf (wS zdO <| zfP (i:=1) 3 zS.nd rfl (Or.inl rfl))))))
   (zf (yu (kv 1))))),fun J n R hF=>?_⟩
 obtain⟨rm,rfl,hR,r⟩:=hF;walk_at "st";have h8:=hR.few
 have ad:∀i,yz (rm.take i)<=65536:=fun i=>by rw[<- ur _ fun n hn=>by have:=hR.box n (bM hn);lia];have:=zdv h8 hR.box i;lia
 refine yc rm (fun i=>.d (.int i)) (by rw[aC];rfl) (fun i ρ m=>m=n/\∃ (sts:List (List Int)) (v2 v3 L O v6:Option W),ρ=[some (.d (stD rm)),some (.d (xD sts)),v2,v3,L,O,v6]/\sts.Nodup/\(∀st∈sts,StOk (rm.take i) st)/\(sts.length:Int)=yz (rm.take i)) ⟨rfl,[[]],_,_,_,_,_,rfl,by decide,fun st al=>?_,rfl⟩ ?_ ?_
 ·rw[az.mp al];exact⟨rfl,fun b b0 b1=>absurd b1 (by simp;lia)⟩
 ·rintro i a ρ m ha ⟨rfl,sts,v2,v3,L,O,v6,rfl,hN,I,q⟩ C B E hC _ _;have hm:=hR.box a (aG ha);have hf:=ad i;have a7:=ad (i+1);have ap:yz (rm.take (i+1))=yz (rm.take i) * a:=by rw[zl ha,uk]
  obtain⟨w,rfl⟩:∃w:Nat,a=(w:Int):=⟨a.toNat,by lia⟩
  have bb:sts.length * w<=65536:=by
   have:((sts.length * w:Nat):Int)=yz (rm.take (i+1)):=by rw[ap,<- q,Int.natCast_mul]
   lia
  walk_at "st";refine yc (List.range sts.length) (fun k:Nat=>W.d (.tup [.int (k:Int),stD (sts.getD k [])])) (zih sts) (fun k ρ m'=>m'=m/\∃ (U:List (List Int)) (L O v6:Option W),ρ=[some (.d (stD rm)),some (.d (xD sts)),some (.d (.int (w:Int))),some (.d (.lst (U.map stD))),L,O,v6]/\U.Nodup/\(∀x∈U,∃b∈sts.take k,∃v:Int,0<=v/\v<w/\x=b++[v])/\U.length=k * w) ⟨rfl,[],_,_,_,rfl,.nil,by simp,by simp⟩ ?_ ?_
  ·rintro j k ρ m' a2 ⟨rfl,U,L,O,v6,rfl,an,Y,Z⟩ C' B' E' a3 _ _;obtain⟨as,av⟩:=ae.mp a2;rw[aj] at as;rw[bX] at av;subst av;have hk:=as;have a4:=(I _ (zb2 hk)).len;rw[aN] at a4;have bd:(j+1) * w<=sts.length * w:=Nat.mul_le_mul_right _ hk;walk_at "st";refine⟨⟨by lia,by lia⟩,?_⟩;rw[bf];have a0:zfn w=(zp (w:Int)).map Dt.int:=by unfold zfn zp;rw[aC,bf];rfl
   rw[a0]
   have fin:∀J:List Int,J.Perm (zp (w:Int))->∀L O,zex (eN 0) zsa (zpi zkH (zph 1) (zqi (znB (zph 0) ztc))) [none,some (.d (stD (sts.getD j [])))] (fun x n2=>onL x fun l2=>(U.map stD).length+l2.length<=lim/\C' [some (.d (stD rm)),some (.d (xD sts)),some (.d (.int (w:Int))),some (.d (.lst (U.map stD++l2))),L,O,some (.d (lsD J))] n2) ((J.map Dt.int).map W.d) m':=fun J hp L O=>by
    refine zaC J (fun v=>W.d (.int v)) (by rw[aC];rfl) (fun ρ=>∃v,ρ=[v,some (.d (stD (sts.getD j [])))]) (fun v=>stD (sts.getD j []++[v])) (by rw[hp.length_eq,yG];exact aB (by lia:_<=4) (by decide)) ⟨_,rfl⟩ ?_ ?_
    ·rintro v hv bk ⟨u,rfl⟩ D hD;walk_at "st";refine⟨len1 (by lia),?_⟩;rw[cat1];exact hD ⟨_,rfl⟩
    ·have hB:(J.map fun v=>sts.getD j []++[v]).Perm ((List.range w).map fun v:Nat=>sts.getD j []++[(v:Int)]):=by
      have:=hp.map fun v=>sts.getD j []++[v];unfold zp at this;rw[aC,bf] at this;exact this
     obtain⟨q1,q2,q3⟩:=zhy hk hN an Y Z hB;rw[show J.map (fun v=>stD (sts.getD j []++[v]))=(J.map fun v=>sts.getD j []++[v]).map stD by rw[aC];rfl];refine⟨?_,a3 ⟨rfl,U++J.map (fun v=>sts.getD j []++[v]),_,_,_,by rw[ax],q1,q2,q3⟩⟩;rw[ab,ab,<- ai,q3];exact aB (by lia:_<=65536) (by decide)
   refine⟨by lia,?_⟩;walk_at "st";refine xC (fun _=>?_) (fun _=>?_)
   ·walk_at "st";rw[<- List.map_reverse];exact fin _ (List.reverse_perm _) _ _
   ·walk_at "st";exact fin _ (.refl _) _ _
  ·rintro ρ m' ⟨rfl,U,L,O,v6,rfl,an,Y,Z⟩;rw[aj] at Y Z;walk_at "st";refine hC ⟨rfl,U,_,_,_,_,_,rfl,an,fun st al=>?_,?_⟩
   ·obtain⟨b,hb,v,v0,v1,rfl⟩:=Y st al;rw[ba] at hb;rw[zl ha];exact (I b hb).snoc v0 v1
   ·rw[Z,ap,<- q,Int.natCast_mul]
 ·rintro ρ m ⟨rfl,sts,v2,v3,L,O,v6,rfl,hN,I,q⟩;rw[ba] at q I;walk_at "st";exact r sts hN I q
def zdr  : FV:=fun Pn q n R=>∃ (p:Addr) (rm:List Int),q=[.pen p,.d (stD rm)]/\(IsP Pn p)/\(n+10<=1000000)/\(RoomOk rm)/\(yz rm<=256)/\(∀bk m,yL rm bk->bk.length<=400->m<=n+5->R (.d (.lst (bk.map zP))) m)
theorem zdr.i  {Pn:Option zm} {n:Nat} {R:W->Nat->Prop} {p:Addr} {rm:List Int} (q:IsP Pn p) (B:RoomOk rm) (D:yz rm<=256) (h:∀bk m,yL rm bk->bk.length<=400->m<=n+5->R (.d (.lst (bk.map zP))) m) (F:n+10<=1000000:=by lia):zdr Pn [.pen p,.d (stD rm)] n R:=⟨p,rm,rfl,q,F,B,D,h⟩
theorem zcY (T:Txt K mg t):FnOk P w K mg base CX0 2 t.f11 t.d11 la (spV 2 true zdr):=by
 have G1:=zL (P:=P) (w:=w) (base:=base) T;have G9:=zaM (P:=P) (w:=w) (base:=base) T;have G10:=zc0 (P:=P) (w:=w) (base:=base) T
 refine Fun.okW (k:=1) (fr:=true) [] 1 T.q11.F uF rfl (by decide) rfl fun ap A ad s H E Pn Y=>⟨_,(zb (wS zo <| zB (i:=2) uF.nd rfl (Or.inl rfl) (wE zq <| yN T.q10 G10 Y (za (kv 1) zd)))
   (zb (wS zI <| yX (wT zn <| zF xO zcL (JE.bo (wE zq <| yN T.q1 G1 Y (za (kv 0) (za zw zd)))) (JE.bo zw) (zD _)) (zf (wS zo <| zB (i:=2) uF.nd rfl (Or.inl rfl) (wE zck <| ziQ (kb 2) (wO zQ <| yp (JE.bo (wE zq <| yN T.q1 G1 Y (za (kv 0) (za (zY yI uP (by rfl) T.b_len bi (zh (kb 2) zk)) zd))))) yo))) zN)
   (zf (yu (xz (N:=lj) (cix:=[none,none]) rfl (by walk_at "c") (wI zle <| znr rfl T.b_zip (za (kv 2) (za (wE zck <| ziQ (kb 2) (wO zQ <| yp (JE.bo zw)) yo) zd))) (fun _ _ _ _=>(wG ug <| uh (n:=2) K rfl rfl (wH zO <| zt (wG zx <| zi (i:=0) (show (lj:List Str).Nodup by decide +kernel) rfl (Or.inl rfl)) (wH zO <| zt (wG zx <| zi (i:=1) (show (lj:List Str).Nodup by decide +kernel) rfl (Or.inl rfl)) (wH uf xa))))) (fun _ _ _ _=>yY) (fun _ _ _ _=>(wE zq <| yN T.q9 G9 Y (za (kv 0) (za (kv 1) zd))))))))),fun ws n R hF=>?_⟩
 obtain⟨p,rm,rfl,hP,hn,Z,hp,r⟩:=hF;walk_at "st";refine zgk.i Z fun sts hN B an=>?_;have h2:=zjE Z.ne fun n hn=>(Z.box n hn).1;walk_at "st";refine dc hP fun a a0 a1=>?_;walk_at "st";refine' zhm (fun (D:List (List Int)) (I:Nat)=>D.Nodup/\(∀st∈D,StOk rm st)/\D.length<=256/\I<=n+2) _ (fun zV=>?_) ?_;rotate_left
 ·refine xC (fun _=>?_) (fun _=>?_)
  ·walk_at "st";rw[ab];refine dc hP fun b b0 b1=>?_;walk_at "st";rw[x6];have q:=zh3 sts (some b) none;generalize uq sts (some b) none=D at q;generalize hk:n+1+1=I;exact zV D I ⟨hN.sublist q,fun st al=>B st (q.subset al),by have:=q.length_le;lia,by lia⟩
  ·walk_at "st";generalize hk:n+1=I;exact zV sts I ⟨hN,B,by lia,by lia⟩
 rintro D I ⟨hN,B,hl,as⟩;rw[zlX];refine zew (List.range (D.length - 1)) (fun i:Nat=>W.d (.tup [stD (D.getD i []),stD (D.getD (i+1) [])])) rfl (by rw[aj];exact aB (by lia:_<=256) (by decide)) (fun i J n' acc=>n'=I/\i<=D.length - 1/\∃ (v0 v1:Option W) (bk:List Wi),J=[v0,v1]/\acc=bk.map zP/\yL rm bk/\bk.length=i) ⟨rfl,aT _,none,none,[],rfl,rfl,by intro x hx;simp at hx,rfl⟩ ?_ ?_
 ·rintro i k J n' acc hk ⟨rfl,hi,v0,v1,bk,rfl,rfl,hB,L⟩ C hC;obtain⟨O,U⟩:=ae.mp hk;rw[aj] at O;rw[bX] at U;subst U;walk_at "st";refine zen.i Z (B _ (zb2 (by lia))) (B _ (zb2 (by lia))) (zhp hN (by lia)) fun x hx=>?_;exact hC ⟨rfl,O,_,_,bk++[x],rfl,by rw[ax];rfl,hB.app (fun y hy=>by rw[az.mp hy];exact hx),by rw[ai,L];rfl⟩
 ·rintro J n' acc ⟨rfl,hi,v0,v1,bk,rfl,rfl,hB,L⟩;rw[aj] at L;exact r bk _ hB (by lia) (by lia)
def zgj  : FV:=fun Pn q n R=>∃ (p:Addr) (rm:List Int),q=[.pen p,.d (stD rm)]/\(IsP Pn p)/\(n+3000<=1000000)/\(RoomOk rm)/\(yz rm<=16)/\(∀bk m,yL rm bk->bk.length<=1000->m<=n+1000->R (.d (.lst (bk.map zP))) m)
theorem zgj.i  {Pn:Option zm} {n:Nat} {R:W->Nat->Prop} {p:Addr} {rm:List Int} (q:IsP Pn p) (B:RoomOk rm) (D:yz rm<=16) (h:∀bk m,yL rm bk->bk.length<=1000->m<=n+1000->R (.d (.lst (bk.map zP))) m) (F:n+3000<=1000000:=by lia):zgj Pn [.pen p,.d (stD rm)] n R:=⟨p,rm,rfl,q,F,B,D,h⟩
theorem zcn (T:Txt K mg t):FnOk P w K mg base CX0 3 t.f12 t.d12 la (spV 2 true zgj):=by
 have G1:=zL (P:=P) (w:=w) (base:=base) T;have G2:=uC (P:=P) (w:=w) (base:=base) T;have G4:=y0 (P:=P) (w:=w) (base:=base) T;have G9:=zaM (P:=P) (w:=w) (base:=base) T
 refine Fun.okW (k:=2) (fr:=true) [3,6] 8 T.q12.F zH rfl (by decide) rfl fun b0 A a3 s H E Pn Y=>⟨_,(zb (wS zo <| zB (i:=2) zH.nd rfl (Or.inl rfl) (wE zq <| yN T.q4 G4 Y (za (kv 1) zd)))
   (zb (wS yv <| xl (i:=3) zH.nd rfl (Or.inl rfl) znp)
   (zb (yb aR rfl (wI zbJ <| zbH rfl T.b_enumerate (za (wE zq <| yN T.q2 G2 Y (za (kv 0) (za (kv 2) zd))) zd)) (wG ug <| uh (n:=2) K rfl rfl (wH zO <| zt (wG zx <| zi (i:=4) zH.nd rfl (Or.inl rfl)) (wH zO <| zt (wG zx <| zi (i:=5) zH.nd rfl (Or.inl rfl)) (wH uf xa)))) (zf (wS zja <| zk4 3 (zbz Y) (kb 5) (kv 4))))
   (zb (wS yv <| xl (i:=6) zH.nd rfl (Or.inl rfl) (xu zd))
   (zb (yb aR rfl (wI xy <| xw K rfl (kv 2)) (wG zx <| zi (i:=5) zH.nd rfl (Or.inl rfl)) (zf (yb aR rfl (wI z5 <| zA rfl T.b_range (zh (JE.bo (zY yI uP (by rfl) T.b_len bi (zh (kb 1) zk))) zk)) (wG zx <| zi (i:=7) zH.nd rfl (Or.inl rfl)) (zf (yb aR rfl (wI z5 <| zA rfl T.b_range (zh (JE.bo (za1 y8 uO (kb 1) (kb 7) (fun _ _=>rfl))) zk)) (wG zx <| zi (i:=8) zH.nd rfl (Or.inl rfl)) (zb (wS zo <| zB (i:=9) zH.nd rfl (Or.inl rfl) (ux yD xA (JE.bo (ux yD xA (JE.bo (wE yZ <| zaH (kb 5) yo (wO zQ <| yp (kb 7)))) (JE.bo (yR (za (kv 8) zd))))) (JE.bo (wE yZ <| zaH (kb 5) (wO zQ <| yp (JE.bo (ux yJ zaY (kb 7) (JE.bo zw)))) yo))))
   (zf (wS zI <| yX (JW.t (wW zay <| zcf (wT zn <| zF znV u_lt (JE.bo (wE zeW <| ziP (zbz Y) (kb 3) (kb 5) (fun _ _=>rfl))) (JE.bo (wE zeW <| ziP (zbz Y) (kb 3) (kb 9) (fun _ _=>rfl))) (zD _)) (uV (.inl rfl) (wT zn <| zF znU u_gt (JE.bo (wE zq <| yN T.q1 G1 Y (za (kv 0) (za zw zd)))) (JE.bo zw) (zD _))))) (zf (wS ua <| zao 6 (wE zq <| yN T.q9 G9 Y (za (kv 5) (za (kv 9) zd))))) zN))))))))
   (zf (wS uB <| zax 6))))))),fun ws n R hF=>?_⟩
 obtain⟨p,rm,rfl,hP,hn,hR,hp,r⟩:=hF;walk_at "st";have h8:=hR.few
 have hsz:(y3 (rm.map zp)).length<=16:=by
  have:=ur rm fun n hn=>by have:=hR.box n hn;lia
  lia
 have an:∀st∈y3 (rm.map zp),StOk rm st:=fun st D=>za4 rm st D;have ap:∀st,StOk rm st->st∈y3 (rm.map zp):=fun st D=>zed D;refine zc5.i hR ?_;walk_at "st";generalize y3 (rm.map zp)=ev at hsz an ap;refine tc hP (fun l hl=>?_) (by rw[ab];lia) (by rw[ab];lia);rw[ab];obtain⟨ys,rfl,as⟩:=zd0 hl;have b1:=as.length_eq;walk_at "st";generalize b2:n+ev.length=n1;refine yc (List.range ys.length) (fun k:Nat=>W.d (.tup [.int (k:Int),stD (ys.getD k [])])) (zih ys) (fun i ρ m=>m=n1/\i<=ys.length/\∃ (kvs:List (List Int×Dt)) (v4 Z:Option W),ρ=[some (.pen p),some (.d (stD rm)),some (.d (xD ev)),some (.dt kvs),v4,Z,none,none,none,none]/\(∀j,j<i->∃r:Int,xx kvs (ys.getD j [])=some (.int r))/\kvs.length<=i) ⟨rfl,aT _,[],_,_,rfl,fun j hj=>by lia,ag _⟩ ?_ ?_
 ·rintro i k ρ m a4 ⟨rfl,av,kvs,v4,Z,rfl,U,a5⟩ C B E hC _ _;obtain⟨a0,a1⟩:=ae.mp a4;rw[aj] at a0;rw[bX] at a1;subst a1;walk_at "st";refine⟨ys.getD i [],rfl,a8 (by lia:_<=100) (by decide),hC ⟨rfl,a0,_,_,_,rfl,fun j hj=>?_,by have:=zjG kvs (ys.getD i []) (.int (i:Int));lia⟩⟩;by_cases e:ys.getD j []=ys.getD i []
  ·exact⟨i,by rw[zgK,if_pos e]⟩
  ·obtain⟨r',a7⟩:=U j (by
    rcases Nat.lt_succ_iff_lt_or_eq.mp hj with h | h
    ·exact h
    ·subst h;exact absurd rfl e)
   exact⟨r',by rw[zgK,if_neg e];exact a7⟩
 rintro ρ n2 ⟨rfl,av,kvs,v4,Z,rfl,U,a5⟩;rw[aj] at U
 have I:∀st,StOk rm st->∃r:Int,xx kvs st=some (.int r):=fun st D=>by have:=as.mem_iff.mpr (ap st D);obtain⟨j,hj,rfl⟩:=bH.mp this;have:=U j hj;rwa[show ys.getD j []=ys[j] by simp[hj]] at this
 walk_at "st";refine yc ev (fun st=>.d (stD st)) (by rw[aC];rfl) (fun i ρ m=>m<=n2+32 * i/\∃ (bk:List Wi) (Z v7 J L:Option W),ρ=[some (.pen p),some (.d (stD rm)),some (.d (xD ev)),some (.dt kvs),v4,Z,some (.d (.lst (bk.map zP))),v7,J,L]/\yL rm bk/\bk.length<=32 * i) ⟨by lia,[],_,_,_,_,rfl,by intro x hx;simp at hx,by simp⟩ ?_ ?_
 ·rintro i one ρ m ho ⟨hm,bk,Z,v7,J,L,rfl,q,O⟩ C B E hC _ _;have av:=(ae.mp ho).1;have hO:=an one (aG ho);have b3:=hO.len;obtain⟨ra,a2⟩:=I one hO;walk_at "st";rw[ab];refine⟨⟨by lia,by lia⟩,uH (fun j ρ m'=>m'<=m+4 * j/\∃ (bk:List Wi) (v7 J L:Option W),ρ=[some (.pen p),some (.d (stD rm)),some (.d (xD ev)),some (.dt kvs),v4,some (.d (stD one)),some (.d (.lst (bk.map zP))),v7,J,L]/\yL rm bk/\bk.length<=32 * i+4 * j) ⟨by lia,bk,_,_,_,rfl,q,by lia⟩ ?_ ?_⟩
  ·rintro j ρ m' hj ⟨bb,bk,v7,J,L,rfl,q,O⟩ C' B' E' bd _ _;have hj:j<rm.length:=by lia
   have b4:=yg hR.box (cY j) (by lia);walk_at "st";refine onA (cY j) (by lia) ?_;walk_at "st";refine⟨⟨by lia,by lia⟩,uH (fun k ρ m2=>m2<=m'+k/\k<=4/\∃ (bk:List Wi) (J L:Option W),ρ=[some (.pen p),some (.d (stD rm)),some (.d (xD ev)),some (.dt kvs),v4,some (.d (stD one)),some (.d (.lst (bk.map zP))),some (.d (.int (j:Int))),J,L]/\yL rm bk/\bk.length<=32 * i+4 * j+k) ⟨by lia,by lia,bk,_,_,rfl,q,by lia⟩ ?_ ?_⟩
   ·rintro k ρ m2 hk ⟨bl,bs,bk,J,L,rfl,q,O⟩ C2 B2 E2 ad _ _;walk_at "st";refine⟨zae (by lia),?_⟩;walk_at "st";refine⟨zaf (by lia),?_⟩;rw[za7 (cY j) (by lia)];have hT:StOk rm (chg one (j:Int) (k:Int)):=zbO hO (cY j) (by lia) (by lia) (by lia);obtain⟨rb,al⟩:=I _ hT;walk_at "st";refine⟨one,rfl,zbB a2 ?_⟩;walk_at "st";refine⟨chg one (j:Int) (k:Int),rfl,zbB al ?_⟩;walk_at "st";refine xC (fun ca=>?_) (fun _=>⟨ad ⟨by lia,by lia,bk,_,_,rfl,q,by lia⟩⟩)
    have bx:one≠chg one (j:Int) (k:Int):=fun e=>by rw[<- e,a2] at al;cases al;lia
    walk_at "st";refine dc hP (fun d d0 d1=>?_) (by lia);walk_at "st";refine xC (fun _=>?_) (fun _=>⟨ad ⟨by lia,by lia,bk,_,_,rfl,q,by lia⟩⟩);walk_at "st";refine zen.i hR hO hT bx fun x hx=>?_;walk_at "st";refine⟨by rw[ab];exact a8 (by lia:_<=1000) (by decide),ad ⟨by lia,by lia,bk++[x],_,_,by rw[ax];rfl,q.app (fun y hy=>by rw[az.mp hy];exact hx),by rw[ai];simp;lia⟩⟩
   ·rintro ρ m2 ⟨bl,bs,bk,J,L,rfl,q,O⟩;walk_at "st";exact bd ⟨by lia,bk,_,_,_,rfl,q,by lia⟩
  ·rintro ρ m' ⟨bb,bk,v7,J,L,rfl,q,O⟩;walk_at "st";exact hC ⟨by lia,bk,_,_,_,_,rfl,q,by lia⟩
 ·rintro ρ m ⟨hm,bk,Z,v7,J,L,rfl,q,O⟩;walk_at "st";exact r bk m q (by lia) (by lia)
def zds  : FV:=fun Pn B n R=>∃ (p:Addr) (rm:List Int) (bk:List Wi),B=[.pen p,.d (stD rm),.d (.lst (bk.map zP))]/\(IsP Pn p)/\(n+100<=1000000)/\(RoomOk rm)/\(yL rm bk)/\(bk.length<=2000)/\(∀q m,yL rm q->q.length<=2001->m<=n+50->R (.d (.lst (q.map zP))) m)
theorem zds.i  {Pn:Option zm} {n:Nat} {R:W->Nat->Prop} {p:Addr} {rm:List Int} {bk:List Wi} (B:IsP Pn p) (D:RoomOk rm) (F:yL rm bk) (I:bk.length<=2000) (h:∀q m,yL rm q->q.length<=2001->m<=n+50->R (.d (.lst (q.map zP))) m) (J:n+100<=1000000:=by lia):zds Pn [.pen p,.d (stD rm),.d (.lst (bk.map zP))] n R:=⟨p,rm,bk,rfl,B,J,D,F,I,h⟩
theorem zbA (T:Txt K mg t):FnOk P w K mg base CX0 4 t.f13 t.d13 lh (spG 3 true zds):=by
 have G1:=zL (P:=P) (w:=w) (base:=base) T;have G6:=xB (P:=P) (w:=w) (base:=base) T
 refine Fun.okG (k:=3) (fr:=true) [2] 6 T.q13.F z0 rfl (by decide) (by decide) rfl fun ap A ad s H E Pn L=>⟨_,(zb (wS zo <| zB (i:=3) z0.nd rfl (Or.inl rfl) (wE zq <| yN T.q1 G1 L (za (kv 0) (za zw zd))))
   (zb (wS zI <| yX (JW.t (wW zgM <| zk5 (wT zn <| zF xO zcL (kb 3) (JE.bo zw) (zD _)) (uV (.inr rfl) (wT zn <| zF (zmq L.units) zrE (kb 2) (JE.bo (xu zd)) (zD _))))) (zb (wS znD <| zp7 2 (wE zq <| yN T.q1 G1 L (za (kv 0) (za (ux yJ zaY (JE.bo (zY yI uP (by rfl) T.b_len bi (zh (kb 2) zk))) (JE.bo zw)) zd))) (wE zq <| yN T.q6 G6 L (za (kv 0) (za (kv 1) zd))))
   (zf (wS uB <| zax 2))) zN)
   (zb (wS zo <| zB (i:=4) z0.nd rfl (Or.inl rfl) (wE zq <| yN T.q1 G1 L (za (kv 0) (za (zY yI uP (by rfl) T.b_len bi (zh (kb 2) zk)) zd))))
   (zb (ziR (za1 xS zc3 (kb 2) (kb 4) (fun _ _=>rfl)) (wG ug <| uh (n:=4) K rfl rfl (wH zO <| zt (wG zx <| zi (i:=5) z0.nd rfl (Or.inl rfl)) (wH zO <| zt (wG zx <| zi (i:=6) z0.nd rfl (Or.inl rfl)) (wH zO <| zt (wG zx <| zi (i:=7) z0.nd rfl (Or.inl rfl)) (wH zO <| zt (wG zx <| zi (i:=8) z0.nd rfl (Or.inl rfl)) (wH uf xa)))))))
   (zb (wS zI <| yX (wT zn <| zF xO zcL (kb 3) (JE.bo zw) (zD _)) (zf (wS zjb <| zmk 2 (kb 4) (yR (za (kv 5) (za (kv 6) (za (kv 8) (za (kv 7) zd))))))) zN)
   (zb (wS zI <| yX (wT zn <| zF xO zcL (kb 3) (JE.bo zw) (zD _)) (zf (wS zlf <| znt 2 (kb 4))) zN)
   (zb (wS zI <| yX (wT zn <| zF xO zcL (kb 3) (JE.bo zw) (zD _)) (zf (wS ua <| zao 2 (za1 xS zc3 (kb 2) (kb 4) (fun _ _=>rfl)))) zN)
   (zb (wS zI <| yX (wT zn <| zF xO zcL (kb 3) (JE.bo zw) (zD _)) (zf (wS zjb <| zmk 2 (kb 4) (yR (za (wE yZ <| zaH (kb 5) (wO zQ <| yp (JE.bo zw)) yo) (za (kv 6) (za (kv 7) (za (kv 8) zd))))))) zN)
   (zf (wS uB <| zax 2)))))))))),fun ws n R hF=>?_⟩
 obtain⟨p,rm,bk,rfl,Z,hn,hR,B,hl,r⟩:=hF;walk_at "st";have h8:=hR.few;refine dc Z fun q w0 w1=>?_;walk_at "st";refine' ztj _ (fun key=>?_) ?_;rotate_left
 ·refine xC (fun h4=>?_) (fun h4=>?_)
  ·walk_at "st";rw[ab];generalize W.d (Dt.int q)=x;exact key x
  ·walk_at "st";refine⟨zps B,zps (rm:=rm) (bk:=[]) (by intro x J;simp at J),fun b hb=>?_⟩;walk_at "st";refine zdV (fun D=>?_) (fun D=>?_)
   ·walk_at "st";rw[ab];exact key (.d (.int q))
   ·walk_at "st"
    have al:bk≠[]:=fun z=>by have:=hb.mpr (by rw[z];rfl);rw[this] at D;cases D
    have an:0<bk.length:=eJ.mpr al;rw[ab];refine dc Z fun O a0 a1=>?_;obtain⟨j,rfl⟩:∃j:Nat,O=(j:Int):=⟨O.toNat,by lia⟩;have hj:j<bk.length:=by lia
    have J:=B _ (bg hj);have I:atI (bk.map zP) (j:Int)=some (zP bk[j]):=zgq (by rw[au,ah hj];rfl);generalize bk[j]=x at J I;walk_at "st";refine zbB I ?_;walk_at "st";have U:q=0\/q=1\/q=2\/q=3:=by lia
    rcases U with rfl | rfl | rfl | rfl
    ·walk_at "ct";refine⟨⟨by lia,by rw[ab];lia⟩,?_⟩;rw[bf,show (bk.map zP).set j (Dt.tup [Dt.tup (x.g.map xo),.int x.b,.int x.w,.int x.r])=(bk.set j (zrC x)).map zP by rw[List.map_set];rfl];walk_at "st";walk_at "cf";walk_at "cf";walk_at "cf";exact r _ _ (B.set (zo2 J) j) (by rw[aY];lia) (by lia)
    ·walk_at "cf";walk_at "ct";refine⟨⟨by lia,by rw[ab];lia,by rw[ab];exact aB hl (by decide)⟩,?_⟩;rw[bf,<- zeA];walk_at "st";walk_at "cf";walk_at "cf";exact r _ _ (fun y Y=>B y (List.mem_of_mem_eraseIdx Y)) (by have:=List.length_eraseIdx_le bk j;lia) (by lia)
    ·walk_at "cf";walk_at "cf";walk_at "ct";refine zbB I ?_;walk_at "st";refine⟨by rw[ab];exact a8 hl (by decide),?_⟩;rw[show bk.map zP++[zP x]=(bk++[x]).map zP by rw[ax];rfl];walk_at "st";walk_at "cf";exact r _ _ (B.app fun y Y=>by rw[az.mp Y];exact J) (by rw[ai];simp;lia) (by lia)
    ·walk_at "cf";walk_at "cf";walk_at "cf";walk_at "ct";refine⟨⟨by lia,by rw[ab];lia⟩,?_⟩;rw[bf,x6,show (bk.map zP).set j (Dt.tup [Dt.tup ((uq x.g (some 1) none).map xo),.int x.b,.int x.r,.int x.w])=(bk.set j { x with g:=uq x.g (some 1) none }).map zP by rw[List.map_set] <;> rfl];walk_at "st";exact r _ _ (B.set (zmV J) j) (by rw[aY];lia) (by lia)
 intro x;refine dc Z fun k k0 k1=>?_;obtain⟨j,rfl⟩:∃j:Nat,k=(j:Int):=⟨k.toNat,by lia⟩;walk_at "st";refine zfq.i Z hR fun y m Y hm=>?_;walk_at "st";refine⟨⟨by lia,by lia,a8 hl (by decide)⟩,?_⟩;rw[bf,znk];walk_at "st";exact r _ _ (B.ins Y j) (by rw[znj];lia) (by lia)
def zgh  : FV:=fun Pn q n R=>∃ (p:Addr) (rm:List Int),q=[.pen p,.d (stD rm)]/\(IsP Pn p)/\(n+4000<=1000000)/\(RoomOk rm)/\(yz rm<=256)/\(∀bk m,yL rm bk->bk.length<=80->m<=n+2000->R (.d (x5 bk)) m)
theorem zgh.i  {Pn:Option zm} {n:Nat} {R:W->Nat->Prop} {p:Addr} {rm:List Int} (q:IsP Pn p) (B:RoomOk rm) (D:yz rm<=256) (h:∀bk m,yL rm bk->bk.length<=80->m<=n+2000->R (.d (x5 bk)) m) (F:n+4000<=1000000:=by lia):zgh Pn [.pen p,.d (stD rm)] n R:=⟨p,rm,rfl,q,F,B,D,h⟩
theorem zdQ (T:Txt K mg t):FnOk P w K mg base CX0 5 t.f14 t.d14 la (spV 2 false zgh):=by
 have G1:=zL (P:=P) (w:=w) (base:=base) T;have G2:=uC (P:=P) (w:=w) (base:=base) T;have G4:=y0 (P:=P) (w:=w) (base:=base) T;have G6:=xB (P:=P) (w:=w) (base:=base) T;have G8:=zbb (P:=P) (w:=w) (base:=base) T;have G11:=zcY (P:=P) (w:=w) (base:=base) T;have G12:=zcn (P:=P) (w:=w) (base:=base) T;have G13:=zbA (P:=P) (w:=w) (base:=base) T
 refine Fun.okW (k:=4) (fr:=false) [5] 4 T.q14.F z9 rfl (by decide) rfl fun a7 A av s H E Pn B=>⟨_,(zb (wS zo <| zB (i:=2) z9.nd rfl (Or.inl rfl) (wE zq <| yN T.q1 G1 B (za (kv 0) (za zw zd))))
   (zb (wS zo <| zB (i:=3) z9.nd rfl (Or.inl rfl) (wE zq <| yN T.q1 G1 B (za (kv 0) (za zw zd))))
   (zb (wS zo <| zB (i:=4) z9.nd rfl (Or.inl rfl) (zY yI uP (by rfl) T.b_len bi (zh (JE.bo (wE zq <| yN T.q4 G4 B (za (kv 1) zd))) zk)))
   (zb (wS zI <| yX (wT zn <| zF xO zcL (kb 2) (JE.bo zw) (zD _)) (zf (wS yv <| xl (i:=5) z9.nd rfl (Or.inl rfl) (wE zq <| yN T.q11 G11 B (za (kv 0) (za (kv 1) zd))))) (zf (wS zI <| yX (JW.t (wW zay <| zcf (wT zn <| zF xO zcL (kb 2) (JE.bo zw) (zD _)) (uV (.inl rfl) (wT zn <| zF zqC u_le (kb 4) (JE.bo zw) (zD _))))) (zf (wS yv <| xl (i:=5) z9.nd rfl (Or.inl rfl) (wE zq <| yN T.q12 G12 B (za (kv 0) (za (kv 1) zd))))) (zf (wS zI <| yX (wT zn <| zF znV u_lt (kb 2) (JE.bo zw) (zD _)) (zf (wS yv <| xl (i:=5) z9.nd rfl (Or.inl rfl) (wE zq <| yN T.q8 G8 B (za (kv 0) (za (kv 1) zd))))) (zf (wS yv <| zns (i:=5) (zbI (ix:=5) z9.nd rfl rfl (N:=ld) (cix:=[none,some 0,some 1]) rfl (by walk_at "c") (wI z5 <| zA rfl T.b_range (zh (JE.bo (wE zq <| yN T.q1 G1 B (za (kv 0) (za zw zd)))) zk)) (fun _ _ _ _=>(wG zx <| zi (i:=0) (show (ld:List Str).Nodup by decide +kernel) rfl (Or.inl rfl))) (fun _ _ _ _=>yY) (fun _ _ _ _=>(wE zq <| yN T.q6 G6 B (za (kv 1) (za (kv 2) zd))))))))))))
   (zb (wS zI <| yX (wT zn <| zF xO zcL (kb 3) (JE.bo zw) (zD _)) (zf (zp6 (i:=5) T.q13 G13 B (kv 0) (kv 1) z9.nd rfl (Or.inl rfl))) zN)
   (zf (yu (xh yh zac (by rfl) T.b_tuple br (zh (JE.bo (wE zq <| yN T.q2 G2 B (za (kv 0) (za (wE zck <| ziQ (kb 5) yo (wO zQ <| yp (JE.bo zw))) zd)))) zk))))))))),fun ws n R hF=>?_⟩
 obtain⟨p,rm,rfl,D,hn,I,hp,r⟩:=hF;walk_at "st";refine dc D fun kind k0 k1=>?_;walk_at "st";refine dc D fun sp s0 s1=>?_;walk_at "st";refine zc5.i I ?_;walk_at "st";have hsz:=ur rm fun n hn=>by have:=I.box n hn;lia
 rw[ab,hsz];refine' zhm (fun (bk:List Wi) (U:Nat)=>yL rm bk/\bk.length<=1000/\U<=n+1100) _ (fun zV=>?_) ?_;rotate_left
 ·refine xC (fun h0=>?_) (fun h0=>?_)
  ·walk_at "st";refine zdr.i D I hp fun bk m q Y Z=>?_;walk_at "st";exact zV bk m ⟨q,by lia,by lia⟩
  walk_at "st";refine xC (fun h1=>?_) (fun h1=>?_)
  ·walk_at "st";refine xC (fun ad=>?_) (fun ad=>?_)
   ·walk_at "st";refine zgj.i D I ad fun bk m q Y Z=>?_;walk_at "st";exact zV bk m ⟨q,by lia,by lia⟩
   ·walk_at "st";refine xC (fun h4=>?_) (fun h4=>absurd (by lia) h4);walk_at "st";refine zhC.i D I fun bk m q Y Z=>?_;walk_at "st";exact zV bk m ⟨q,by lia,by lia⟩
  walk_at "st";refine xC (fun h4=>?_) (fun h4=>?_)
  ·walk_at "st";refine zhC.i D I fun bk m q Y Z=>?_;walk_at "st";exact zV bk m ⟨q,by lia,by lia⟩
  ·walk_at "st";refine dc D fun t t0 t1=>?_;walk_at "st";refine⟨⟨by lia,by lia⟩,?_⟩;rw[xj];refine zew (List.range t.toNat) (fun k:Nat=>W.d (.int (k:Int))) rfl (by rw[aj];exact aB (by lia:_<=14) (by decide)) (fun i J n' acc=>n'<=n+3+30 * i/\i<=t.toNat/\∃ (v:Option W) (bk:List Wi),J=[v,some (.pen p),some (.d (stD rm))]/\acc=bk.map zP/\yL rm bk/\bk.length=i) ⟨by lia,aT _,none,[],rfl,rfl,by intro x L;simp at L,rfl⟩ ?_ ?_
   ·rintro i k J n' acc hk ⟨al,hi,v,bk,rfl,rfl,q,O⟩ C hC;have an:=(ae.mp hk).1;rw[aj] at an;walk_at "st";refine zfq.i D I fun x m L Z=>?_;exact hC ⟨by lia,an,_,bk++[x],rfl,by rw[ax];rfl,q.app (fun y hy=>by rw[az.mp hy];exact L),by rw[ai,O];rfl⟩
   ·rintro J n' acc ⟨al,hi,v,bk,rfl,rfl,q,O⟩;rw[aj] at O al;walk_at "st";exact zV bk n' ⟨q,by lia,by lia⟩
 rintro bk U ⟨q,Y,a0⟩;refine' zhm (fun (bk:List Wi) (U:Nat)=>yL rm bk/\bk.length<=2001/\U<=n+1150) _ (fun zV=>?_) ?_;rotate_left
 ·walk_at "st";refine xC (fun h0=>?_) (fun h0=>?_)
  ·walk_at "st";refine zds.i D I q (by lia) fun a1 m a2 a3 Z=>?_;walk_at "st";exact zV a1 m ⟨a2,a3,by lia⟩
  ·walk_at "st";exact zV bk U ⟨q,by lia,by lia⟩
 rintro bk U ⟨q,Y,a0⟩;walk_at "st";rw[x6,show (80:Int)=((80:Nat):Int) from rfl,L3.zbD];have ap:yL rm (bk.take 80):=fun x L=>q x (bM L);have a4:(bk.take 80).length<=80:=by rw[aN];lia
 generalize bk.take 80=b2 at ap a4;walk_at "st";refine tc D (fun l a5=>?_) (by rw[ab];lia) (by rw[ab];lia);rw[ab];obtain⟨b3,rfl,as⟩:=zd0 a5;have bb:=as.length_eq;walk_at "st";exact r b3 _ (fun x L=>ap x (as.mem_iff.mp L)) (by lia) (by lia)
theorem zf2 (T:Txt K mg t):FnOk P w K mg base CX0 1 t.f15 t.d15 lO (zdp K):=by
 refine T.q15.F.okQ uG (fun vs H Q E h=>?_) (fun b4 A bk s H vs Q E hr h=>?_)
 ·obtain⟨ca,xs,cs,rfl,_⟩:=h;rfl
 ·obtain⟨ca,xs,cs,rfl,a2,hL,bl,a3,k⟩:=h;have Z:=zgo bl a3
  refine⟨_,(z8 (xZ (i:=1) uG.nd rfl (Or.inl rfl) (zjJ (zJ (zf4 yx) yx)))
   (z8 (zmw aR rfl (zd2 (qv 0)) (zcv (i:=2) uG.nd rfl (Or.inr rfl)) (uE (zlF (ix:=1) uG.nd rfl rfl (N:=lH) (cix:=[none,none,some 2]) rfl (by walk_at "c") (zd2 (qv 1)) (fun _ _ _ _=>(zcv (i:=0) (show (lH:List Str).Nodup by decide +kernel) rfl (Or.inl rfl))) (fun _ _ _ _=>zd6) (fun _ _ _ _=>(zgZ K rfl (qv 2))) (fun _ _ _ _=>(zcv (i:=1) (show (lH:List Str).Nodup by decide +kernel) rfl (Or.inl rfl))) (fun _ _ _ _=>zd6) (fun _ _ _ _=>(yS (zlj K rfl) (qv 0) (zf4 (zJ (qv 1) yx)))))))
   (uE (zbl (qv 1))))),?_⟩
  refine⟨(by show 0<=sizeLine;decide),fun e0 H1 _ g1 S1=>⟨(by show 1<=sizeLine;decide),fun r0 H2 n2 g2 S2=>?_⟩⟩;have S02:y4 H H2:=fun b o e=>S2 _ _ (S1 _ _ e)
  have bo:H r0=none:=by
   cases e:H r0 with
   | none=>rfl
   | some o=>rw[S1 _ _ e] at n2;cases n2
  refine⟨_,rfl,ca,rfl,⟨xs,.of (S02 _ _ a2)⟩,zkP (K:=K) (xs:=xs) (fun i σ H3=>∃ (ra:Addr) (ys:List V) (v2:Option V),σ=[some (.ref ca),some (.ref ra),v2]/\H ra=none/\H3 ra=some (.lst ys)/\IsL H3 ((y3 (cs.take i)).map stD) ys/\y4 H H3)
   ⟨r0,_,none,rfl,bo,g2,⟨_,_,rfl,⟨e0,_,rfl,S2 _ _ g1,rfl⟩,rfl⟩,S02⟩ (fun i σ H3 _ ⟨_,_,_,_,_,_,_,S⟩=>.of (S _ _ a2)) ?_ ?_⟩
  ·rintro i x σ H3 hi ⟨ra,ys,v2,rfl,a4,Y,O,S3⟩;have bs:=(ae.mp hi).1;have U:i<cs.length:=by rw[<- hL.1];exact bs
   obtain⟨wa,a5,a7⟩:=hL.2 i cs[i] (ah U);rw[hi] at a5;cases a5;have ad:=a3 cs[i] (bg U);have ap:cs.take (i+1)=cs.take i++[cs[i]]:=zl (ah U);have bx:=Z i;have as:=Z (i+1);rw[ap,yT] at as;have av:=O.length;rw[ab] at av
   have al:∀D∈y3 (cs.take i),D.length<=8:=fun D hr=>by rw[zdu _ _ hr,aN];lia
   generalize cs[i]=ws at a7 ad ap as;generalize a0:y3 (cs.take i)=rows at O bx as av al;have an:=S3 _ _ a7;refine⟨_,rfl,ra,rfl,⟨_,.of Y⟩,fun acc J=>?_⟩;refine zhc (xs:=ys) J (fun j I H'=>(∃v0 v1,I=[v0,v1,some (.ref wa)])/\(∃zs,H' acc=some (.lst zs)/\IsL H' ((xH (rows.take j) ws).map stD) zs)/\y4 H3 H') (fun H' z1 z2=>⟨⟨_,_,rfl⟩,⟨[],z1,rfl⟩,z2⟩) (fun _ _ _ _ ⟨_,_,S⟩=>.of (S _ _ Y)) ?_ ?_
   ·rintro j y I H4 hy ⟨⟨v0,v1,rfl⟩,⟨zs,B,q⟩,S4⟩;obtain⟨d,hd,b0⟩:=(O.stay (zv.same S4)).get hy;rw[au] at hd;obtain⟨D,a1,rfl⟩:=aI.mp hd;obtain⟨rwa,rv,rfl,bb,b1⟩:=b0;obtain rfl:=b1.of_ints;have cc:=(ae.mp a1).1;have cd:=al D (aG a1);show zhS _ zbe _ _ _ _ _ _ _ _ _;refine zmn ?_;refine⟨_,rfl,wa,rfl,⟨_,.of (S4 _ _ an)⟩,?_⟩;refine zhj (xs:=ws.map V.int) (fun m I H'=>(∃v1,I=[some (.ref rwa),v1,some (.ref wa)])/\(∃zs,H' acc=some (.lst zs)/\IsL H' ((xH (rows.take j) ws++(ws.take m).map fun w=>D++[w]).map stD) zs)/\y4 H3 H'/\H' rwa=some (.tup (D.map V.int))) ⟨⟨_,rfl⟩,⟨zs,B,by simpa using q⟩,S4,bb⟩ (fun _ _ _ _ ⟨_,_,S,_⟩=>.of (S _ _ an)) ?_ ?_
    ·rintro m u I H5 hu ⟨⟨v1,rfl⟩,⟨zs,B,q⟩,S5,L⟩;rw[au] at hu;obtain⟨wv,bd,rfl⟩:=aI.mp hu;have ch:=(ae.mp bd).1;refine zl4 ⟨_,rfl,_,rfl,(by show 1<=sizeLine;decide),fun t1 H6 _ g6 S6=>?_⟩;refine⟨rwa,t1,_,_,rfl,rfl,S6 _ _ L,g6,cv (zaW (by rw[ab];show D.length+1<=1000;lia)),fun t2 H7 g7 S7=>?_⟩;have S57:y4 H5 H7:=fun b o e=>S7 _ _ (S6 _ _ e);have b2:=q.length;rw[ab,ai,ue,ab,aN,aN] at b2;have cl:=ue rows ws;have b3:(min j rows.length) * ws.length<=65536 * 4:=dG (by lia) ad;refine⟨zs,S57 _ _ B,a8 (show zs.length<=500000 by lia) (by decide),⟨_,rfl⟩,⟨_,zj,?_⟩,zlL J fun b o e=>S57 _ _ (S5 _ _ e),?_⟩
     ·refine IsL.stayT (zhG.app (S57 _ _ B)) (xW _) ?_;rw[zl bd,ax (l₁:=ws.take m),<- bF,ax];refine (q.stay (zv.same S57)).append (IsL.one ⟨t2,_,rfl,g7,?_⟩);rw[ax];exact IsL.ints.append (IsL.ints (ns:=[wv]))
     ·rw[ze (zf0 (S57 _ _ L) (S57 _ _ B) (by intro z;cases z))];exact S57 _ _ L
    ·rintro I H5 ⟨⟨v1,rfl⟩,⟨zs,B,q⟩,S5,L⟩;rw[ab,ba] at q;refine⟨⟨_,_,rfl⟩,⟨zs,B,?_⟩,S5⟩;rw[zl a1,zbW];exact q
   ·rintro I H4 ⟨⟨v0,v1,rfl⟩,⟨zs,B,q⟩,S4⟩;rw[av,ba] at q;refine⟨acc,zs,_,rfl,?_,B,?_,fun b o e=>S4 _ _ (S3 _ _ e)⟩
    ·cases e:H acc with
     | none=>rfl
     | some o=>rw[S3 _ _ e] at J;cases J
    ·rw[ap,yT,a0];exact q
  ·rintro σ H3 ⟨ra,ys,v2,rfl,a4,Y,O,S3⟩;rw[hL.1,ba] at O;exact⟨_,rfl,k ra ys H3 a4 Y O S3⟩
theorem ze0 (T:Txt K mg t):FnOk P w K mg base CX0 1 t.f15 t.d15 lO (spV 1 true zc4):=FnOk.lift (FnOk.mono (zf2 T) (by decide)) zdM
def zks  : FV:=fun Pn q n R=>∃ (rm:List Int),q=[.d (stD rm)]/\(RoomOk rm)/\(R (.d (xD (y3 (rm.map zp)))) n)
theorem zks.i  {Pn:Option zm} {n:Nat} {R:W->Nat->Prop} {rm:List Int} (q:RoomOk rm) (h:R (.d (xD (y3 (rm.map zp)))) n)  : zks Pn [.d (stD rm)] n R:=⟨rm,rfl,q,h⟩
theorem zdU (T:Txt K mg t):FnOk P w K mg base CX0 2 t.f16 t.d16 ["room"] (spV 1 true zks):=by
 have G15:=ze0 (P:=P) (w:=w) (base:=base) T;refine Fun.okW (k:=1) (fr:=true) [] 0 T.q16.F zfa rfl (by decide) rfl fun I A B s H E Pn J=>⟨_,(zf (yu (wE zq <| yN T.q15 G15 J (za (xz (N:=["worths"]) (cix:=[none]) rfl (by walk_at "c") (wI xK <| uU K rfl (kv 0)) (fun _ _ _ _=>(wG zx <| zi (i:=0) (show (["worths"]:List Str).Nodup by decide +kernel) rfl (Or.inl rfl))) (fun _ _ _ _=>yY) (fun _ _ _ _=>(wE uA <| zaG T.b_list T.b_range (zh (kb 0) zk)))) zd)))),fun ws n R L=>?_⟩;obtain⟨rm,rfl,q,r⟩:=L;walk_at "st";refine zaC rm (fun i=>W.d (.int i)) (by rw[aC];rfl) (fun ρ=>∃a,ρ=[a]) (fun m=>lsD (zp m)) (aB q.few (by decide)) ⟨_,rfl⟩ ?_ ?_
 ·rintro m D O ⟨a,rfl⟩ C U;have hb:=q.box m D;walk_at "st";refine⟨⟨by lia,by lia⟩,?_⟩;have Y:lsD (zp m)=Dt.lst (zfn m.toNat):=by unfold lsD zp zfn;rw[aC];rfl
  rw[<- Y];exact U ⟨_,rfl⟩
 ·walk_at "st";refine⟨rm.map zp,by rw[aC];rfl,by rw[ab];exact q.few,fun c Z=>?_,r⟩;obtain⟨m,D,rfl⟩:=aH.mp Z;have:=q.box m D;rw[yG];lia
def zkn  : FV:=fun Pn q n R=>∃ (st:List Int) (b x:Int),q=[.d (stD st),.d (.int b),.d (.int x)]/\(0<=b)/\(st.length<=1000)/\(R (.d (stD (chg st b x))) n)
theorem zkn.i  {Pn:Option zm} {n:Nat} {R:W->Nat->Prop} {st:List Int} {b x:Int} (q:0<=b) (B:st.length<=1000) (h:R (.d (stD (chg st b x))) n)  : zkn Pn [.d (stD st),.d (.int b),.d (.int x)] n R:=⟨st,b,x,rfl,q,B,h⟩
theorem zf3 (T:Txt K mg t):FnOk P w K mg base CX0 1 t.f17 t.d17 lw (spV 3 false zkn):=by refine Fun.okW (k:=0) (fr:=false) [] 0 T.q17.F zhx rfl (by decide) rfl fun D A q s H E Pn L=>⟨_,(zf (yu (ux yD xA (JE.bo (ux yD xA (JE.bo (wE yZ <| zaH (kb 0) yo (wO zQ <| yp (kb 1)))) (JE.bo (yR (za (kv 2) zd))))) (JE.bo (wE yZ <| zaH (kb 0) (wO zQ <| yp (JE.bo (ux yJ zaY (kb 1) (JE.bo zw)))) yo))))),fun O n R I=>?_⟩;obtain⟨st,b,x,rfl,J,B,r⟩:=I;walk_at "st";refine⟨zae B,?_⟩;walk_at "st";refine⟨zaf B,?_⟩;rw[za7 J B];exact r
def zkp  : FV:=fun Pn B n R=>∃ (st:List Int) (g:List (Int×Int)),B=[.d (stD st),.d (zem g)]/\(∀q∈g,0<=q.1/\q.1<st.length)/\(R (.d (.bl (xm st g))) n)
theorem zkp.i  {Pn:Option zm} {n:Nat} {R:W->Nat->Prop} {st:List Int} {g:List (Int×Int)} (B:∀q∈g,0<=q.1/\q.1<st.length) (h:R (.d (.bl (xm st g))) n)  : zkp Pn [.d (stD st),.d (zem g)] n R:=⟨st,g,rfl,B,h⟩
theorem zjp (T:Txt K mg t):FnOk P w K mg base CX0 1 t.f18 t.d18 lL (spV 2 false zkp):=by
 refine Fun.okW (k:=0) (fr:=false) [] 2 T.q18.F zd8 rfl (by decide) rfl fun Y A I s H E Pn hr=>⟨_,(zb (yb aR rfl (wI xK <| uU K rfl (kv 1)) (wG ug <| uh (n:=2) K rfl rfl (wH zO <| zt (wG zx <| zi (i:=2) zd8.nd rfl (Or.inl rfl)) (wH zO <| zt (wG zx <| zi (i:=3) zd8.nd rfl (Or.inl rfl)) (wH uf xa)))) (zf (wS zI <| yX (wT zn <| zF zjw zrJ (JE.bo (za1 y8 uO (kb 0) (kb 2) (fun _ _=>rfl))) (kb 3) (zD _)) (zf (yu zk2)) zN)))
   (zf (yu zk2))),fun ws n R Z=>?_⟩
 obtain⟨st,g,rfl,hg,r⟩:=Z;walk_at "st";refine yc g (fun q=>.d (xo q)) (by rw[aC];rfl) (fun i ρ m=>m=n/\(∃J L,ρ=[some (.d (stD st)),some (.d (zem g)),J,L])/\xm st (g.take i)=true) ⟨rfl,⟨_,_,rfl⟩,rfl⟩ ?_ ?_
 ·rintro i q ρ m O ⟨rfl,⟨J,L,rfl⟩,D⟩ C B E hC _ hE;have U:=hg q (aG O);walk_at "st";refine onA U.1 U.2 ?_;walk_at "st";refine zjq (fun h=>?_) (fun h=>?_)
  ·walk_at "st";refine hE ?_
   have e:xm st g=false:=by unfold xm;exact List.all_eq_false.mpr ⟨q,aG O,fun z=>h (bq z)⟩
   rw[e] at r;exact r
  ·walk_at "st";refine hC ⟨rfl,⟨_,_,rfl⟩,?_⟩;unfold xm at D ⊢;rw[zl O,List.all_append,D];simp[h]
 ·rintro ρ m ⟨rfl,⟨J,L,rfl⟩,D⟩;rw[ba] at D;rw[D] at r;walk_at "st";exact r
def zrZ  : FV:=fun Pn B n R=>∃ (rm:List Int) (bk:List Wi) (q:Int) (st:List Int),B=[.d (stD rm),.d (x5 bk),.d (.int q),.d (stD st)]/\(RoomOk rm)/\(yL rm bk)/\(st.length=rm.length)/\(R (.d (.lst ((lpE bk q st).map xo))) n)
theorem zrZ.i  {Pn:Option zm} {n:Nat} {R:W->Nat->Prop} {rm:List Int} {bk:List Wi} {q:Int} {st:List Int} (D:RoomOk rm) (F:yL rm bk) (B:st.length=rm.length) (h:R (.d (.lst ((lpE bk q st).map xo))) n)  : zrZ Pn [.d (stD rm),.d (x5 bk),.d (.int q),.d (stD st)] n R:=⟨rm,bk,q,st,rfl,D,F,B,h⟩
theorem zco (T:Txt K mg t):FnOk P w K mg base CX0 2 t.f19 t.d19 lm (spV 4 true zrZ):=by
 have G18:=zjp (P:=P) (w:=w) (base:=base) T;refine Fun.okW (k:=1) (fr:=true) [] 0 T.q19.F zc2 rfl (by decide) rfl fun ad A D s H E Pn Y=>⟨_,(zf (yu (zk3 T.b_sorted (zbz Y) (N:=lb) (cix:=[none,none,none,none,some 2,some 3]) rfl (by walk_at "c") (wI xK <| uU K rfl (kv 1)) (fun _ _ _ _=>(wG ug <| uh (n:=4) K rfl rfl (wH zO <| zt (wG zx <| zi (i:=0) (show (lb:List Str).Nodup by decide +kernel) rfl (Or.inl rfl)) (wH zO <| zt (wG zx <| zi (i:=1) (show (lb:List Str).Nodup by decide +kernel) rfl (Or.inl rfl)) (wH zO <| zt (wG zx <| zi (i:=2) (show (lb:List Str).Nodup by decide +kernel) rfl (Or.inl rfl)) (wH zO <| zt (wG zx <| zi (i:=3) (show (lb:List Str).Nodup by decide +kernel) rfl (Or.inl rfl)) (wH uf xa))))))) (fun _ _ _ _=>(uy (JW.t (wW zay <| zcf (wT zn <| zF xO zcL (kb 1) (kb 4) (zD _)) (uV (.inl rfl) (wT zn <| zce (JE.bo (wE zq <| yN T.q18 G18 Y (za (kv 5) (za (kv 0) zd)))))))))) (fun _ _ _ _=>(yR (za (kv 3) (za (kv 2) zd))))))),fun ws n R hF=>?_⟩;obtain⟨rm,bk,B,st,rfl,Z,I,J,r⟩:=hF;walk_at "st";refine zoU bk (fun x=>W.d (zP x)) (by rw[aC];rfl) (fun ρ=>∃a b c d,ρ=[a,b,c,d,some (.d (.int B)),some (.d (stD st))]) (fun x=>decide (x.b=B)&&xm st x.g) (fun x=>[x.w,x.r]) ⟨_,_,_,_,rfl⟩ ?_ (fun ks h1 h2=>by have:=zdh I Z.box h1 h2;lia) ?_
 ·rintro x hx al ⟨a,b,c,d,rfl⟩ C hY hN;have hW:=I x hx;walk_at "st";refine xC (fun L=>?_) (fun L=>hN (by rw[aO L];rfl) ⟨_,_,_,_,rfl⟩);walk_at "st";refine zkp.i (fun q hq=>?_) ?_
  ·have:=hW.giv.ok q hq;rw[J];exact⟨this.1,this.2.1⟩
  walk_at "st";refine zdV (fun O=>?_) (fun O=>hN (by rw[O,dE]) ⟨_,_,_,_,rfl⟩);exact⟨[x.w,x.r],rfl,hY (by rw[aL L,O];rfl) ⟨_,_,_,_,rfl⟩⟩
 ·intro ks h1 h2;refine⟨2,by have:=zdh I Z.box h1 fun z U=>(h2 z).mp U;lia,by decide,fun z U=>ui z ((h2 z).mp U),fun l' hp hu=>?_⟩;rw[show l'=lpF bk B st from zbN ui hu fun z=>(hp.mem_iff).trans (h2 z)];have:=r;rw[<- znz] at this;exact this
def zkm  : FV:=fun Pn q n R=>∃ (rm:List Int) (bk:List Wi),q=[.d (stD rm),.d (x5 bk)]/\(RoomOk rm)/\(yL rm bk)/\(bk.length<=1000)/\(R (.df (zku rm bk)) n)
theorem zkm.i  {Pn:Option zm} {n:Nat} {R:W->Nat->Prop} {rm:List Int} {bk:List Wi} (q:RoomOk rm) (B:yL rm bk) (D:bk.length<=1000) (h:R (.df (zku rm bk)) n)  : zkm Pn [.d (stD rm),.d (x5 bk)] n R:=⟨rm,bk,rfl,q,B,D,h⟩
theorem zaz (T:Txt K mg t):FnOk P w K mg base CX0 3 t.f20 t.d20 lu (spV 2 false zkm):=by
 have G16:=zdU (P:=P) (w:=w) (base:=base) T;have G19:=zco (P:=P) (w:=w) (base:=base) T
 refine Fun.okW (k:=2) (fr:=false) [] 1 T.q20.F x3 rfl (by decide) rfl fun Z A B s H E Pn I=>⟨_,(zb (wS zo <| zB (i:=2) x3.nd rfl (Or.inr rfl) (zno (z := "box") (N:=["box","book"]) (cix:=[none,some 1]) rfl (by walk_at "c") (wI z5 <| zA rfl T.b_range (zh (JE.bo (zY yI uP (by rfl) T.b_len bi (zh (kb 0) zk))) zk)) (fun _ _ _ _ _=>(wG zx <| zi (i:=0) (show (["box","book"]:List Str).Nodup by decide +kernel) rfl (Or.inr rfl))) (fun _ _ _ _ _=>yY) (fun _ _ _ _ _=>(xh yh zac (by rfl) T.b_tuple br (zh (JE.bo (xz (N:=["wish","box"]) (cix:=[none,some 0]) rfl (by walk_at "c") (wI xK <| uU K rfl (kv 1)) (fun _ _ _ _=>(wG zx <| zi (i:=0) (show (["wish","box"]:List Str).Nodup by decide +kernel) rfl (Or.inl rfl))) (fun _ _ _ _=>(uy (wT zn <| zF xO zcL (JE.bo (za1 y8 uO (kb 0) (JE.bo zw) (fun _ _=>rfl))) (kb 1) (zD _)))) (fun _ _ _ _=>(kv 0)))) zk)))))
   (zf (yu (zp0 (ziO (zbz I) (z := "standing") (N:=["standing","room","own"]) (cix:=[none,some 0,some 2]) rfl (by walk_at "c") (wI xy <| xw K rfl (wE zq <| yN T.q16 G16 I (za (kv 0) zd))) (fun _ _ _ _ _=>(wG zx <| zi (i:=0) (show (["standing","room","own"]:List Str).Nodup by decide +kernel) rfl (Or.inr rfl))) (fun _ _ _ _ _=>yY) (fun _ _ _ _ _=>(kb 0)) (fun _ _ _ _ _=>(xz (N:=lK) (cix:=[none,some 1,some 0,some 2]) rfl (by walk_at "c") (wI z5 <| zA rfl T.b_range (zh (JE.bo (zY yI uP (by rfl) T.b_len bi (zh (kb 1) zk))) zk)) (fun _ _ _ _=>(wG zx <| zi (i:=0) (show (lK:List Str).Nodup by decide +kernel) rfl (Or.inl rfl))) (fun _ _ _ _=>yY) (fun _ _ _ _=>(wE zq <| yN T.q19 G19 I (za (kv 1) (za (za1 xS zc3 (kb 3) (kb 0) (fun _ _=>rfl)) (za (kv 0) (za (kv 2) zd))))))))))))),fun ws n R hF=>?_⟩
 obtain⟨rm,bk,rfl,q,hB,hl,r⟩:=hF;walk_at "st";have U:=q.few;rw[ab];refine⟨⟨by lia,by lia⟩,?_⟩;rw[xj];refine zaC (List.range rm.length) (fun k:Nat=>W.d (.int (k:Int))) rfl (fun ρ=>∃a,ρ=[a,some (.d (x5 bk))]) (fun k:Nat=>x5 (znW bk (k:Int))) (aB (by rw[aj];exact U) (by decide)) ⟨_,rfl⟩ ?_ ?_
 ·rintro k Y J ⟨a,rfl⟩ C hC;walk_at "st";refine zat bk (fun x=>W.d (zP x)) (by rw[aC];rfl) (fun ρ=>∃v,ρ=[v,some (.d (.int (k:Int)))]) (fun x=>decide (x.b=(k:Int))) (fun x=>zP x) (aB hl (by decide)) ⟨_,rfl⟩ ?_ ?_
  ·rintro x hx L ⟨v,rfl⟩ D dY dN;walk_at "st";exact xC (fun z=>dY (aL z) ⟨_,rfl⟩) (fun z=>dN (aO z) ⟨_,rfl⟩)
  walk_at "st";exact hC ⟨_,rfl⟩
 walk_at "st";refine zks.i q ?_;walk_at "st";refine zkI (y3 (rm.map zp)) (by rw[aC];rfl) (fun ρ=>∃a,ρ=[a,some (.d (stD rm)),some (.d (.lst ((List.range rm.length).map fun k:Nat=>x5 (znW bk (k:Int)))))]) (fun _=>true) (fun st=>zsj rm bk st) ?_ ?_ ⟨_,rfl⟩ ?_ ?_
 ·exact zl0 rm
 ·exact aB (zft q) (by decide)
 ·rintro st O J ⟨a,rfl⟩ C hY ad;have hS:=za4 _ _ O;walk_at "st";rw[ab];refine⟨⟨by lia,by lia⟩,?_⟩;rw[xj];refine zaC (List.range rm.length) (fun k:Nat=>W.d (.int (k:Int))) rfl (fun ρ=>∃a,ρ=[a,some (.d (stD rm)),some (.d (stD st)),some (.d (.lst ((List.range rm.length).map fun k:Nat=>x5 (znW bk (k:Int)))))]) (fun k:Nat=>lpD bk (k:Int) st) (aB (by rw[aj];exact U) (by decide)) ⟨_,rfl⟩ ?_ ?_
  ·rintro k Y L ⟨v,rfl⟩ D hD;walk_at "st";refine zl1 (aP.mp Y) ?_;walk_at "st";refine zrZ.i q (zqD hB) hS.len ?_;rw[zi5];exact hD ⟨_,rfl⟩
  ·exact⟨_,rfl,hY rfl ⟨_,rfl⟩⟩
 ·rw[List.filter_eq_self.mpr fun _ _=>rfl];exact r
def zrY  : FV:=fun Pn q n R=>∃ (rm:List Int) (bk:List Wi),q=[.d (stD rm),.df (zku rm bk)]/\(RoomOk rm)/\(yL rm bk)/\(R (.d (xD (uw rm bk))) n)
theorem zrY.i  {Pn:Option zm} {n:Nat} {R:W->Nat->Prop} {rm:List Int} {bk:List Wi} (q:RoomOk rm) (B:yL rm bk) (h:R (.d (xD (uw rm bk))) n)  : zrY Pn [.d (stD rm),.df (zku rm bk)] n R:=⟨rm,bk,rfl,q,B,h⟩
theorem ze1 (T:Txt K mg t):FnOk P w K mg base CX0 2 t.f21 t.d21 lN (spV 2 true zrY):=by
 have G17:=zf3 (P:=P) (w:=w) (base:=base) T
 refine Fun.okW (k:=1) (fr:=true) [2] 6 T.q21.F yQ rfl (by decide) rfl fun a7 A a2 s H E Pn hr=>⟨_,(zb (wS yv <| xl (i:=2) yQ.nd rfl (Or.inl rfl) (zp3 T.b_set))
   (zb (yb aR rfl (zp4 (kv 1)) (wG zx <| zi (i:=3) yQ.nd rfl (Or.inl rfl)) (zf (yb aR rfl (wI z5 <| zA rfl T.b_range (zh (JE.bo (zY yI uP (by rfl) T.b_len bi (zh (kb 0) zk))) zk)) (wG zx <| zi (i:=4) yQ.nd rfl (Or.inl rfl)) (zb (wS zo <| zB (i:=5) yQ.nd rfl (Or.inl rfl) (zdI (zbz hr) (kb 1) (JE.bo (wE zq <| yN T.q17 G17 hr (za (kv 3) (za (kv 4) (za zw zd))))) (fun _ _=>rfl)))
   (zf (yb aR rfl (wI zbJ <| zbH rfl T.b_enumerate (za (zdI (zbz hr) (kb 1) (kb 3) (fun _ _=>rfl)) zd)) (wG ug <| uh (n:=2) K rfl rfl (wH zO <| zt (wG zx <| zi (i:=6) yQ.nd rfl (Or.inl rfl)) (wH zO <| zt (wG zx <| zi (i:=7) yQ.nd rfl (Or.inl rfl)) (wH uf xa)))) (zf (wS zI <| yX (wT zn <| zF (zgR hr.units) zlT (kb 7) (JE.bo (za1 xS zc3 (kb 5) (kb 6) (fun _ _=>rfl))) (zD _)) (zf (znu 2 (zbz hr) (yR (za (kv 6) (za (kv 4) zd))))) zN))))))))
   (zf (yu (zY (zgu rfl) zo5 (by rfl) T.b_sorted ci (zh (kb 2) zk)))))),fun ws n R hF=>?_⟩
 obtain⟨rm,bk,rfl,hR,hB,r⟩:=hF;walk_at "st";have h8:=hR.few;have av:∀ {ks:List (List Int)},ks.Nodup->(∀z∈ks,z∈uw rm bk)->ks.length<=56:=fun h1 h2=>aB (u4 h1 h2) (zeH hR);intro _;refine yc (y3 (rm.map zp)) (fun st=>.d (stD st)) (by unfold zku;rw[aC];rfl) (fun i ρ m=>m=n/\∃ (ks:List (List Int)) (v3 v4 v5 U Y:Option W),ρ=[some (.d (stD rm)),some (.df (zku rm bk)),some (.ss P w ks),v3,v4,v5,U,Y]/\ks.Nodup/\(∀z∈ks,z∈uw rm bk)/\∀st∈(y3 (rm.map zp)).take i,∀o b:Nat,o<rm.length->b<rm.length->zfC bk b o st=true->[(b:Int),(o:Int)]∈ks) ⟨rfl,[],_,_,_,_,_,rfl,.nil,by simp,by simp⟩ ?_ ?_
 ·rintro i st ρ m al ⟨rfl,ks,v3,v4,v5,U,Y,rfl,L,I,q⟩ C B X hC _ _;have ap:=aG al;have as:=za4 _ _ ap;have a5:=as.len;walk_at "st";rw[ab];refine⟨⟨by lia,by lia⟩,uH (fun j ρ m'=>m'=m/\j<=rm.length/\∃ (ks:List (List Int)) (v4 v5 U Y:Option W),ρ=[some (.d (stD rm)),some (.df (zku rm bk)),some (.ss P w ks),some (.d (stD st)),v4,v5,U,Y]/\ks.Nodup/\(∀z∈ks,z∈uw rm bk)/\(∀st∈(y3 (rm.map zp)).take i,∀o b:Nat,o<rm.length->b<rm.length->zfC bk b o st=true->[(b:Int),(o:Int)]∈ks)/\∀o b:Nat,o<j->b<rm.length->zfC bk b o st=true->[(b:Int),(o:Int)]∈ks) ⟨rfl,aT _,ks,_,_,_,_,rfl,L,I,q,by lia⟩ ?_ ?_⟩
  ·rintro j ρ m' hj ⟨rfl,a3,ks,v4,v5,U,Y,rfl,L,I,q,D⟩ C' B' X' a4 _ _;have hj:j<rm.length:=by lia
   have bb:=yg hR.box (b:=(j:Int)) (by lia) (by lia);have a0:StOk rm (chg st (j:Int) 0):=zbO as (by lia) (by lia) (by decide) (by lia);walk_at "st";refine zkn.i (by lia) (by lia) ?_;walk_at "st";refine⟨_,rfl,zbB (zeq a0) ?_⟩;walk_at "st";refine⟨_,rfl,zbB (zeq as) ?_⟩;walk_at "st";refine yc (List.range rm.length) (fun k:Nat=>W.d (.tup [.int (k:Int),lpD bk (k:Int) st])) (zm0 _) (fun k ρ m2=>m2=m'/\∃ (ks:List (List Int)) (U Y:Option W),ρ=[some (.d (stD rm)),some (.df (zku rm bk)),some (.ss P w ks),some (.d (stD st)),some (.d (.int (j:Int))),some (.d (zsj rm bk (chg st (j:Int) 0))),U,Y]/\ks.Nodup/\(∀z∈ks,z∈uw rm bk)/\(∀st∈(y3 (rm.map zp)).take i,∀o b:Nat,o<rm.length->b<rm.length->zfC bk b o st=true->[(b:Int),(o:Int)]∈ks)/\(∀o b:Nat,o<j->b<rm.length->zfC bk b o st=true->[(b:Int),(o:Int)]∈ks)/\∀b:Nat,b<k->zfC bk b j st=true->[(b:Int),(j:Int)]∈ks) ⟨rfl,ks,_,_,rfl,L,I,q,D,by lia⟩ ?_ ?_
   ·rintro k k' ρ m2 hk ⟨rfl,ks,U,Y,rfl,L,I,q,D,Z⟩ C2 B2 X2 hD _ _;have an:=(ae.mp hk).1;rw[b6 (by rwa[aj] at an)] at hk;cases hk;rw[aj] at an;have hz:=av L I;walk_at "st";refine zl1 an ?_;walk_at "st";refine⟨zgL,zgL,fun r hr=>?_⟩;rw[zpI hr];walk_at "st";refine zdV (fun O=>?_) (fun O=>?_)
    ·walk_at "st";refine⟨ks,rfl,?_⟩;walk_at "st";refine⟨[(k:Int),(j:Int)],rfl,by lia,fun a1 hm hl hn=>?_⟩;walk_at "st";have ad:∀z∈ks,z∈a1:=fun z hz=>(hm z).mpr (.inr hz);refine hD ⟨rfl,a1,_,_,rfl,hn,fun z hz=>?_,fun s hs o b ho J h=>ad _ (q s hs o b ho J h),fun o b ho J h=>ad _ (D o b ho J h),fun b J h=>?_⟩
     ·rcases (hm z).mp hz with rfl | z1
      ·exact (zeI hR hB).mpr ⟨k,j,an,hj,⟨st,ap,O⟩,rfl⟩
      ·exact I z z1
     ·by_cases e:b=k
      ·subst e;exact (hm _).mpr (.inl rfl)
      ·exact ad _ (Z b (by lia) h)
    ·walk_at "st";refine hD ⟨rfl,ks,_,_,rfl,L,I,q,D,fun b J h=>?_⟩;by_cases e:b=k
     ·subst e;rw[O] at h;cases h
     ·exact Z b (by lia) h
   ·rintro ρ m2 ⟨rfl,ks,U,Y,rfl,L,I,q,D,Z⟩;rw[aj] at Z;walk_at "st";refine a4 ⟨rfl,hj,ks,_,_,_,_,rfl,L,I,q,fun o b ho J O=>?_⟩;by_cases e:o=j
    ·subst e;exact Z b J O
    ·exact D o b (by lia) J O
  ·rintro ρ m' ⟨rfl,a3,ks,v4,v5,U,Y,rfl,L,I,q,D⟩;walk_at "st";refine hC ⟨rfl,ks,_,_,_,_,_,rfl,L,I,fun s hs o b ho J O=>?_⟩;rw[zl al] at hs;rcases aZ.mp hs with z | z
   ·exact q s z o b ho J O
   ·rw[az.mp z] at O;exact D o b ho J O
 ·rintro ρ m ⟨rfl,ks,v3,v4,v5,U,Y,rfl,L,I,q⟩;have hz:=av L I;walk_at "st";refine⟨ks,2,rfl,by lia,by decide,fun z hz=>zb8 (I z hz),fun l hp hu=>?_⟩;rw[znf hu fun z=>⟨fun h=>I z (hp.mem_iff.mp h),fun h=>hp.mem_iff.mpr ?_⟩]
  ·exact r
  ·obtain⟨b,o,J,ho,⟨st,al,O⟩,rfl⟩:=(zeI hR hB).mp h;exact q st (by rw[ba];exact al) o b ho J O
def zpg  : FV:=fun Pn q n R=>∃ (rm:List Int) (bk:List Wi),q=[.d (stD rm),.d (x5 bk)]/\(RoomOk rm)/\(yL rm bk)/\(bk.length<=1000)/\(R (.d (xD (uw rm bk))) n)
theorem zpg.i  {Pn:Option zm} {n:Nat} {R:W->Nat->Prop} {rm:List Int} {bk:List Wi} (q:RoomOk rm) (B:yL rm bk) (D:bk.length<=1000) (h:R (.d (xD (uw rm bk))) n)  : zpg Pn [.d (stD rm),.d (x5 bk)] n R:=⟨rm,bk,rfl,q,B,D,h⟩
theorem zjo (T:Txt K mg t):FnOk P w K mg base CX0 4 t.f22 t.d22 lu (spV 2 true zpg):=by have G20:=zaz (P:=P) (w:=w) (base:=base) T;have G21:=ze1 (P:=P) (w:=w) (base:=base) T;refine Fun.okW (k:=3) (fr:=true) [] 0 T.q22.F zlM rfl (by decide) rfl fun J A q s H E Pn B=>⟨_,(zf (yu (wE zq <| yN T.q21 G21 B (za (kv 0) (za (wE zq <| yN T.q20 G20 B (za (kv 0) (za (kv 1) zd))) zd))))),fun U n R L=>?_⟩;obtain⟨rm,bk,rfl,D,I,O,r⟩:=L;walk_at "st";refine zkm.i D I O ?_;walk_at "st";exact zrY.i D I r
def zgl  : FV:=fun Pn B n R=>∃ (rm:List Int) (bk:List Wi) (q:Dt) (st:List Int),B=[.d q,.d (stD st)]/\(BkD bk q)/\(RoomOk rm)/\(yL rm bk)/\(st.length=rm.length)/\(R (.d (xD (zl2 bk st []))) n)
theorem zgl.i  {Pn:Option zm} {n:Nat} {R:W->Nat->Prop} {rm:List Int} {bk:List Wi} {q:Dt} {st:List Int} (B:BkD bk q) (F:RoomOk rm) (I:yL rm bk) (D:st.length=rm.length) (h:R (.d (xD (zl2 bk st []))) n)  : zgl Pn [.d q,.d (stD st)] n R:=⟨rm,bk,q,st,rfl,B,F,I,D,h⟩
theorem zc1 (T:Txt K mg t):FnOk P w K mg base CX0 1 t.f23 t.d23 lx (spV 2 true zgl):=by
 refine Fun.okW (k:=0) (fr:=true) [2] 6 T.q23.F yq rfl (by decide) rfl fun a2 A as s H E Pn hr=>⟨_,(zb (wS yv <| xl (i:=2) yq.nd rfl (Or.inl rfl) (xu zd))
   (zb (yb aR rfl (wI znG <| zp5 K rfl (kv 0)) (wG ug <| uh (n:=4) K rfl rfl (wH zO <| zt (wG zx <| zi (i:=3) yq.nd rfl (Or.inl rfl)) (wH zO <| zt (wG zx <| zi (i:=4) yq.nd rfl (Or.inl rfl)) (wH zO <| zt (wG zx <| zi (i:=5) yq.nd rfl (Or.inl rfl)) (wH zO <| zt (wG zx <| zi (i:=6) yq.nd rfl (Or.inl rfl)) (wH uf xa)))))) (zf (wS zI <| yX (JW.t (wW zay <| zcf (wT zn <| zF xO zcL (JE.bo (za1 y8 uO (kb 1) (kb 4) (fun _ _=>rfl))) (kb 6) (zD _)) (uV (.inl rfl) (wT zn <| zce (JE.bo (zY (zpv rfl) ztS (by rfl) T.b_all PyProof.Rows.boot_all (zh (JE.bo (xz (N:=ln) (cix:=[none,none,some 1]) rfl (by walk_at "c") (wI xK <| uU K rfl (kv 3)) (fun _ _ _ _=>(wG ug <| uh (n:=2) K rfl rfl (wH zO <| zt (wG zx <| zi (i:=0) (show (ln:List Str).Nodup by decide +kernel) rfl (Or.inl rfl)) (wH zO <| zt (wG zx <| zi (i:=1) (show (ln:List Str).Nodup by decide +kernel) rfl (Or.inl rfl)) (wH uf xa))))) (fun _ _ _ _=>yY) (fun _ _ _ _=>(zsV xO zcL (JE.bo (za1 y8 uO (kb 2) (kb 0) (fun _ _=>rfl))) (kb 1) (zD _))))) zk))))))) (zb (wS zo <| zB (i:=7) yq.nd rfl (Or.inl rfl) (ux yD xA (JE.bo (ux yD xA (JE.bo (wE yZ <| zaH (kb 1) yo (wO zQ <| yp (kb 4)))) (JE.bo (yR (za (kv 5) zd))))) (JE.bo (wE yZ <| zaH (kb 1) (wO zQ <| yp (JE.bo (ux yJ zaY (kb 4) (JE.bo zw)))) yo))))
   (zf (wS zI <| yX (wT zn <| zF (zjx hr.units) zrG (kb 7) (kb 2) (by with_unfolding_all rfl)) (zf (wS ua <| zao 2 (kv 7))) zN))) zN)))
   (zf (yu (zY zhZ zki (by rfl) T.b_sorted ci (zh (kb 2) zk)))))),fun ws n R hF=>?_⟩
 obtain⟨rm,bk,bd,st,rfl,av,hR,hB,J,r⟩:=hF;walk_at "st";have h8:=hR.few;refine zqq av ?_;refine yc bk (fun x=>W.d (zP x)) (by rw[aC];rfl) (fun i ρ m=>m=n/\∃ (l:List (List Int)) (O U Y Z v7:Option W),ρ=[some (.d bd),some (.d (stD st)),some (.d (.lst (l.map stD))),O,U,Y,Z,v7]/\l.Nodup/\(∀z,z∈l↔z∈zba (bk.take i) st [])) ⟨rfl,[],_,_,_,_,_,rfl,.nil,by simp[zba]⟩ ?_ ?_
 ·rintro i x ρ m hx ⟨rfl,l,O,U,Y,Z,v7,rfl,L,I⟩ C B E hC _ _;have hW:=hB x (aG hx);have b0:=hW.b0;have b1:=hW.b1
  have a0:∀q∈x.g,0<=q.1/\q.1<st.length:=fun q hq=>by have:=hW.giv.ok q hq;rw[J];exact⟨this.1,this.2.1⟩
  have ad:zal st x=false->∀O U Y Z v7,C [some (.d bd),some (.d (stD st)),some (.d (.lst (l.map stD))),O,U,Y,Z,v7] m:=fun hg O U Y Z v7=>by refine hC ⟨rfl,l,_,_,_,_,_,rfl,L,fun z=>?_⟩;rw[I z,zl hx,zc8,hg];simp
  walk_at "st";refine onA b0 (by lia) ?_;walk_at "st";refine xC (fun hw=>?_) (fun hw=>⟨ad (by unfold zal;rw[aO hw];rfl) _ _ _ _ _⟩);walk_at "st";refine zaC x.g (fun q=>.d (xo q)) (by rw[aC];rfl) (fun ρ=>∃a b,ρ=[a,b,some (.d (stD st))]) (fun q=>.bl (decide (yf st q.1=q.2))) (aB (zit hW.giv h8) (by decide)) ⟨_,_,rfl⟩ ?_ ?_
  ·rintro q hq a3 ⟨a,b,rfl⟩ D hD;have hb:=a0 q hq;walk_at "st";refine onA hb.1 hb.2 ?_;walk_at "st";exact hD ⟨_,_,rfl⟩
  walk_at "st";refine⟨x.g.map fun q=>decide (yf st q.1=q.2),by rw[aC];rfl,?_⟩;rw[show (x.g.map fun q=>decide (yf st q.1=q.2)).all id=xm st x.g by unfold xm;rw[List.all_map];rfl];walk_at "st";refine zdV (fun hk=>?_) (fun hk=>⟨ad (by unfold zal;rw[hk,dE]) _ _ _ _ _⟩);have hg:zal st x=true:=by unfold zal;rw[aL hw,hk];rfl
  walk_at "st";refine⟨zae (by lia),?_⟩;walk_at "st";refine⟨zaf (by lia),?_⟩;rw[za7 b0 (by lia)];walk_at "st";refine⟨zb0,uW l,fun b hb=>?_⟩;walk_at "st"
  have al:∀z,z∈zba (bk.take (i+1)) st []↔z∈zba (bk.take i) st []\/z=chg st x.b x.r:=fun z=>by rw[zl hx,zc8,hg];simp
  have an:l.length<=32:=zeF (fun y hy=>hB y (bM hy)) h8 hR.box L fun z hz=>(I z).mp hz
  cases b with
  | true=>
   have a1:=zfX.mp (hb.mp rfl);walk_at "cf";refine hC ⟨rfl,l,_,_,_,_,_,rfl,L,fun z=>?_⟩;rw[al z,I z];constructor
   ·exact .inl
   ·rintro (z1 | rfl)
    ·exact z1
    ·exact (I _).mp a1
  | false=>
   have ap:chg st x.b x.r∉l:=fun z=>by have:=hb.mpr (zfX.mpr z);cases this
   walk_at "ct";refine⟨by rw[ab];exact a8 an (by decide),hC ⟨rfl,l++[chg st x.b x.r],_,_,_,_,_,by rw[ax];rfl,?_,fun z=>?_⟩⟩
   ·rw[fq];exact⟨L,by simp,fun a ha c hc e=>ap (by rw[<- az.mp hc,<- e];exact ha)⟩
   ·rw[aZ,az,al z,I z]
 ·rintro ρ m ⟨rfl,l,O,U,Y,Z,v7,rfl,L,I⟩;rw[ba] at I;walk_at "st";refine⟨l,rm.length,rfl,?_,hR.pos,fun z hz=>zeG hB J z ((I z).mp hz),L,fun l' hp hu=>?_⟩
  ·have:=zeF hB h8 hR.box L fun z hz=>(I z).mp hz;lia
  ·rw[show l'=zl2 bk st [] from zbN (zeG hB J) hu fun z=>hp.mem_iff.trans (I z)];exact r
def zkq  : FV:=fun Pn D n R=>∃ (rm:List Int) (bk:List Wi) (B:Dt) (q:Int) (st:List Int) (m:Nat),D=[.d B,.d (.int q),.d (.int (m:Int)),.d (stD st)]/\(BkD bk B)/\(RoomOk rm)/\(yL rm bk)/\(st.length=rm.length)/\(0<=q)/\(q<rm.length)/\((m:Int)=yf rm q)/\(R (.d (.lst ((lpE bk q st).map xo))) n)
theorem zkq.i  {Pn:Option zm} {n:Nat} {R:W->Nat->Prop} {rm:List Int} {bk:List Wi} {B:Dt} {q:Int} {st:List Int} {m:Nat} (D:BkD bk B) (I:RoomOk rm) (J:yL rm bk) (F:st.length=rm.length) (L:0<=q) (O:q<rm.length) (U:(m:Int)=yf rm q) (h:R (.d (.lst ((lpE bk q st).map xo))) n)  : zkq Pn [.d B,.d (.int q),.d (.int (m:Int)),.d (stD st)] n R:=⟨rm,bk,B,q,st,m,rfl,D,I,J,F,L,O,U,h⟩
theorem zcZ (T:Txt K mg t):FnOk P w K mg base CX0 2 t.f24 t.d24 lf (spV 4 true zkq):=by
 have G23:=zc1 (P:=P) (w:=w) (base:=base) T
 refine Fun.okW (k:=1) (fr:=true) [4] 5 T.q24.F yH rfl (by decide) rfl fun as A Z s H E Pn hr=>⟨_,(zb (wS yv <| xl (i:=4) yH.nd rfl (Or.inl rfl) (xu zd))
   (zb (yb aR rfl (wI z5 <| zA rfl T.b_range (zh (kb 2) zk)) (wG zx <| zi (i:=5) yH.nd rfl (Or.inl rfl)) (zf (yb aR rfl (wI z5 <| zA rfl T.b_range (zh (kb 2) zk)) (wG zx <| zi (i:=6) yH.nd rfl (Or.inl rfl)) (zb (wS zo <| zB (i:=7) yH.nd rfl (Or.inl rfl) (ux yD xA (JE.bo (ux yD xA (JE.bo (wE yZ <| zaH (kb 3) yo (wO zQ <| yp (kb 1)))) (JE.bo (yR (za (kv 5) zd))))) (JE.bo (wE yZ <| zaH (kb 3) (wO zQ <| yp (JE.bo (ux yJ zaY (kb 1) (JE.bo zw)))) yo))))
   (zb (wS zo <| zB (i:=8) yH.nd rfl (Or.inl rfl) (ux yD xA (JE.bo (ux yD xA (JE.bo (wE yZ <| zaH (kb 3) yo (wO zQ <| yp (kb 1)))) (JE.bo (yR (za (kv 6) zd))))) (JE.bo (wE yZ <| zaH (kb 3) (wO zQ <| yp (JE.bo (ux yJ zaY (kb 1) (JE.bo zw)))) yo))))
   (zf (wS zI <| yX (wT zn <| zF (zqB hr.units) zrG (kb 8) (JE.bo (wE zq <| yN T.q23 G23 hr (za (kv 0) (za (kv 7) zd)))) (by with_unfolding_all rfl)) (zf (wS ua <| zao 4 (yR (za (kv 5) (za (kv 6) zd))))) zN)))))))
   (zf (wS uB <| zax 4)))),fun ws n R hF=>?_⟩
 obtain⟨rm,bk,bd,q,st,m,rfl,ad,hR,hB,L,O,b1,hm,r⟩:=hF;walk_at "st";have h8:=hR.few;have av:=yg hR.box O b1;have al:=zlS (n:=m) hB L O b1 hm;have an:∀w:Int,(chg st q w).length=rm.length:=fun w=>by rw[xt O (by lia)];exact L
 refine⟨⟨by lia,by lia⟩,uH (fun i ρ Y=>Y=n/\∃v5 D I J,ρ=[some (.d bd),some (.d (.int q)),some (.d (.int (m:Int))),some (.d (stD st)),some (.d (.lst ((uo (zcs bk q st) m i).map stD))),v5,D,I,J]) ⟨rfl,_,_,_,_,rfl⟩ ?_ ?_⟩
 ·rintro i ρ Y hi ⟨rfl,v5,D,I,J,rfl⟩ C B X hC _ _;walk_at "st";refine⟨⟨by lia,by lia⟩,uH (fun j ρ m2=>m2=Y/\j<=m/\∃D I J,ρ=[some (.d bd),some (.d (.int q)),some (.d (.int (m:Int))),some (.d (stD st)),some (.d (.lst ((uo (zcs bk q st) m i++zK (zcs bk q st) i j).map stD))),some (.d (.int (i:Int))),D,I,J]) ⟨rfl,aT _,D,I,J,by simp[zK]⟩ ?_ ?_⟩
  ·rintro j ρ m2 hj ⟨rfl,ap,D,I,J,rfl⟩ C' B' X' U _ _;have hj:j<m:=by lia
   walk_at "st";refine⟨zae (by lia),?_⟩;walk_at "st";refine⟨zaf (by lia),?_⟩;rw[za7 O (by lia)];walk_at "st";refine⟨zae (by lia),?_⟩;walk_at "st";refine⟨zaf (by lia),?_⟩;rw[za7 O (by lia)];walk_at "st";refine zgl.i ad hR hB (an _) ?_;walk_at "st";refine⟨zb0,uW _,fun b hb=>?_⟩
   have eb:b=zcs bk q st i j:=by rw[b9,hb,zfX];exact zjz hB L O b1
   rw[show xr false b=zcs bk q st i j from eb];walk_at "st";refine zdV (fun hp=>?_) (fun hp=>?_)
   ·walk_at "st";refine⟨?_,U ⟨rfl,hj,some (.d (.int (j:Int))),some (.d (stD (chg st q (i:Int)))),some (.d (stD (chg st q (j:Int)))),?_⟩⟩
    ·have q1:=zaX (zcs bk q st) m i;have q2:=zaa (zcs bk q st) i j;have q3:i * m<=4 * 4:=dG (by lia) (by lia);rw[ab,ai];exact a8 (by lia:_<=100) (by decide)
    ·rw[y1,if_pos hp,<- bF,ax (l₂:=[[(i:Int),(j:Int)]])];rfl
   ·walk_at "st";refine U ⟨rfl,hj,some (.d (.int (j:Int))),some (.d (stD (chg st q (i:Int)))),some (.d (stD (chg st q (j:Int)))),?_⟩;rw[y1,if_neg (by rw[hp];decide)]
  ·rintro ρ m2 ⟨rfl,ap,D,I,J,rfl⟩;walk_at "st";exact hC ⟨rfl,_,_,_,_,rfl⟩
 ·rintro ρ Y ⟨rfl,v5,D,I,J,rfl⟩;walk_at "st";have:=r;rw[<- znz,<- al] at this;exact this
def zeo  : FV:=fun Pn q n R=>∃ (rm:List Int) (bk:List Wi),q=[.d (stD rm),.d (x5 bk)]/\(RoomOk rm)/\(yL rm bk)/\(bk.length<=1000)/\(R (.d (xD (uw rm bk))) n)
theorem zeo.i  {Pn:Option zm} {n:Nat} {R:W->Nat->Prop} {rm:List Int} {bk:List Wi} (q:RoomOk rm) (B:yL rm bk) (D:bk.length<=1000) (h:R (.d (xD (uw rm bk))) n)  : zeo Pn [.d (stD rm),.d (x5 bk)] n R:=⟨rm,bk,rfl,q,B,D,h⟩
theorem zdR (T:Txt K mg t):FnOk P w K mg base CX0 3 t.f25 t.d25 lv (spV 2 true zeo):=by
 have G4:=y0 (P:=P) (w:=w) (base:=base) T;have G24:=zcZ (P:=P) (w:=w) (base:=base) T
 refine Fun.okW (k:=2) (fr:=true) [3] 7 T.q25.F yj rfl (by decide) rfl fun a5 A a0 s H E Pn q=>⟨_,(zb (wS zo <| zB (i:=2) yj.nd rfl (Or.inl rfl) (wE zq <| yN T.q4 G4 q (za (kv 0) zd)))
   (zb (wS yv <| xl (i:=3) yj.nd rfl (Or.inl rfl) (xu zd))
   (zb (yb aR rfl (wI z5 <| zA rfl T.b_range (zh (JE.bo (zY yI uP (by rfl) T.b_len bi (zh (kb 0) zk))) zk)) (wG zx <| zi (i:=4) yj.nd rfl (Or.inr rfl)) (zb (wS zo <| zB (i:=5) yj.nd rfl (Or.inr rfl) (xz (N:=lM) (cix:=[none,some 4]) rfl (by walk_at "c") (wI xK <| uU K rfl (kv 1)) (fun _ _ _ _=>(wG zx <| zi (i:=0) (show (lM:List Str).Nodup by decide +kernel) rfl (Or.inl rfl))) (fun _ _ _ _=>(uy (wT zn <| zF xO zcL (JE.bo (za1 y8 uO (kb 0) (JE.bo zw) (fun _ _=>rfl))) (kb 1) (zD _)))) (fun _ _ _ _=>(kv 0))))
   (zb (wS zo <| zB (i:=6) yj.nd rfl (Or.inr rfl) (zp0 (xh (zkD rfl q.units) zo3 (by rfl) T.b_dict PyProof.Rows.boot_dict (zh (JE.bo (xz (N:=ly) (cix:=[none,some 5,some 4,some 0]) rfl (by walk_at "c") (wI xy <| xw K rfl (kv 2)) (fun _ _ _ _=>(wG zx <| zi (i:=0) (show (ly:List Str).Nodup by decide +kernel) rfl (Or.inl rfl))) (fun _ _ _ _=>(uy (wT zn <| zF xO zcL (JE.bo (za1 y8 uO (kb 0) (kb 2) (fun _ _=>rfl))) (JE.bo zw) (zD _)))) (fun _ _ _ _=>(yR (za (kv 0) (za (wE zq <| yN T.q24 G24 q (za (kv 1) (za (kv 2) (za (za1 y8 uO (kb 3) (kb 2) (fun _ _=>rfl)) (za (kv 0) zd))))) zd)))))) zk))))
   (zf (yb aR rfl (wI z5 <| zA rfl T.b_range (zh (JE.bo (zY yI uP (by rfl) T.b_len bi (zh (kb 0) zk))) zk)) (wG zx <| zi (i:=7) yj.nd rfl (Or.inr rfl)) (zb (wS zo <| zfQ (i:=8) (zbI (ix:=8) yj.nd rfl rfl (N:=lG) (cix:=[none,some 6,some 7]) rfl (by walk_at "c") (zp4 (kv 6)) (fun _ _ _ _=>(wG zx <| zi (i:=0) (show (lG:List Str).Nodup by decide +kernel) rfl (Or.inl rfl))) (fun _ _ _ _=>(uy (wT zn <| zF (zgR q.units) zlT (JE.bo (zdI (zbz q) (kb 1) (kb 0) (fun _ _=>rfl))) (JE.bo (zp1 (zbz q) (kb 1) (JE.bo (ux yD xA (JE.bo (ux yD xA (JE.bo (wE yZ <| zaH (kb 0) yo (wO zQ <| yp (kb 2)))) (JE.bo (yR (za zw zd))))) (JE.bo (wE yZ <| zaH (kb 0) (wO zQ <| yp (JE.bo (ux yJ zaY (kb 2) (JE.bo zw)))) yo)))) (zdI (zbz q) (kb 1) (kb 0) (fun _ _=>rfl)))) (zD _)))) (fun _ _ _ _=>(kv 0))))
   (zf (wS zI <| yX (JW.t (wW zay <| zcf (wT zn <| zF zjw zrJ (kb 7) (kb 4) (zD _)) (uV (.inl rfl) (wT zn <| zF (zgR q.units) zlT (kb 8) (JE.bo (xu zd)) (zD _))))) (zf (wS ua <| zao 3 (yR (za (kv 4) (za (kv 7) zd))))) zN))))))))
   (zf (wS uB <| zax 3))))),fun ws n R hF=>?_⟩
 obtain⟨rm,bk,rfl,hR,hB,hl,r⟩:=hF;walk_at "st";have h8:=hR.few;have a1:(Dt.lst []).eqOk:=uW [];refine zc5.i hR ?_;walk_at "st";rw[ab];refine⟨⟨by lia,by lia⟩,uH (fun i ρ m=>m=n/\i<=rm.length/\∃ (v4 v5 v6 I J:Option W),ρ=[some (.d (stD rm)),some (.d (x5 bk)),some (.d (xD (y3 (rm.map zp)))),some (.d (xD (uo (xT rm bk) rm.length i))),v4,v5,v6,I,J]) ⟨rfl,aT _,_,_,_,_,_,rfl⟩ ?_ ?_⟩
 ·rintro i ρ m hi ⟨rfl,a2,v4,v5,v6,I,J,rfl⟩ C B X hC _ _;have hi:i<rm.length:=by lia
  have a7:=yg hR.box (b:=(i:Int)) (by lia) (by lia);walk_at "st";refine zat bk (fun x=>W.d (zP x)) (by rw[aC];rfl) (fun ρ=>∃v,ρ=[v,some (.d (.int (i:Int)))]) (fun x=>decide (x.b=(i:Int))) (fun x=>zP x) (aB hl (by decide)) ⟨_,rfl⟩ ?_ ?_
  ·rintro x hx ap ⟨v,rfl⟩ D dY dN;walk_at "st";exact xC (fun z=>dY (aL z) ⟨_,rfl⟩) (fun z=>dN (aO z) ⟨_,rfl⟩)
  walk_at "st";have Y:BkD (znW bk (i:Int)) (.lst ((bk.filter fun x=>decide (x.b=(i:Int))).map fun x=>zP x)):=.inr rfl;generalize (Dt.lst ((bk.filter fun x=>decide (x.b=(i:Int))).map fun x=>zP x))=od at Y;refine zat (y3 (rm.map zp)) (fun st=>W.d (stD st)) (by rw[aC];rfl) (fun ρ=>∃v,ρ=[v,some (.d od),some (.d (.int (i:Int))),some (.d (stD rm))]) (fun st=>decide (yf st (i:Int)=0)) (fun st=>Dt.tup [stD st,lpD bk (i:Int) st]) (aB (zft hR) (by decide)) ⟨_,rfl⟩ ?_ ?_
  ·rintro st L ap ⟨v,rfl⟩ D dY dN;have U:=za4 _ _ L;have Z:=U.len;walk_at "st";refine onA (by lia) (by lia) ?_;walk_at "st";refine xC (fun z=>?_) (fun z=>dN (aO z) ⟨_,rfl⟩);walk_at "st";refine onA (by lia) (by lia) ?_;walk_at "st";rw[show yf rm (i:Int)=(((yf rm (i:Int)).toNat:Nat):Int) by lia];refine zkq.i Y hR (zqD hB) Z (by lia) (by lia) (by lia) ?_;rw[zi5];exact dY (aL z) ⟨_,rfl⟩
  generalize O:(y3 (rm.map zp)).filter (fun st=>decide (yf st (i:Int)=0))=fl
  have ad:∀st,st∈fl↔StOk rm st/\yf st (i:Int)=0:=fun st=>by rw[<- O,aW,bz];exact⟨fun h=>⟨za4 _ _ h.1,h.2⟩,fun h=>⟨zed h.1,h.2⟩⟩
  have al:fl.length<=lim:=by rw[<- O];exact aB (cH _ _) (aB (zft hR) (by decide))
  walk_at "st";refine⟨fl.map fun st=>(st,lpD bk (i:Int) st),by rw[aC];rfl,?_,by rw[ab];exact al,?_⟩
  ·rw[aC,show ((fun x:List Int×Dt=>x.1) ∘ fun st=>(st,lpD bk (i:Int) st))=id from rfl,List.map_id,<- O];exact (zl0 rm).filter _
  walk_at "st";rw[ab]
  have an:∀o:Int,fl.filter (zfC bk (i:Int) o)≠[]↔zhq rm bk (i:Int) o=true:=fun o=>by
   unfold zhq;rw[cD];constructor
   ·intro h;obtain⟨st,hs⟩:=List.exists_mem_of_ne_nil _ h;rw[aW,<- O,aW] at hs;exact⟨st,hs.1.1,by rw[hs.1.2,hs.2];rfl⟩
   ·rintro⟨st,h1,h2⟩ e;rw[ar] at h2;have:st∈fl.filter (zfC bk (i:Int) o):=aW.mpr ⟨by rw[<- O];exact aW.mpr ⟨h1,h2.1⟩,h2.2⟩;rw[e] at this;cases this
  refine⟨⟨by lia,by lia⟩,uH (fun j ρ m'=>m'=m/\j<=rm.length/\∃ (I J:Option W),ρ=[some (.d (stD rm)),some (.d (x5 bk)),some (.d (xD (y3 (rm.map zp)))),some (.d (xD (uo (xT rm bk) rm.length i++zK (xT rm bk) i j))),some (.d (.int (i:Int))),some (.d od),some (.df (fl.map fun st=>(st,lpD bk (i:Int) st))),I,J]) ⟨rfl,aT _,I,J,by simp[zK]⟩ ?_ ?_⟩
  ·rintro j ρ m' hj ⟨rfl,a3,I,J,rfl⟩ C' B' X' as _ _;have hj:j<rm.length:=by lia
   walk_at "st";intro _;refine zat fl (fun st=>W.d (stD st)) (by rw[aC];rfl) (fun ρ=>∃v,ρ=[v,some (.df (fl.map fun st=>(st,lpD bk (i:Int) st))),some (.d (.int (j:Int)))]) (fun st=>zfC bk (i:Int) (j:Int) st) (fun st=>stD st) al ⟨_,rfl⟩ ?_ ?_
   ·rintro st L ap ⟨v,rfl⟩ D dY dN;obtain⟨U,h0⟩:=(ad st).mp L;have Z:=U.len
    have a4:chg st (j:Int) 0∈fl:=(ad _).mpr ⟨zbO U (by lia) (by lia) (by decide) (by have:=yg hR.box (b:=(j:Int)) (by lia) (by lia);lia),by
     rw[ye (by lia) (by lia) (by lia)];split
     ·rfl
     ·exact h0⟩
    walk_at "st";refine⟨_,rfl,zbB (uY L) ?_⟩;walk_at "st";refine⟨zae (by lia),?_⟩;walk_at "st";refine⟨zaf (by lia),?_⟩;rw[za7 (by lia) (by lia)];walk_at "st";refine⟨_,rfl,zbB (uY L) ?_⟩;walk_at "st";refine⟨_,rfl,?_⟩;rw[uY a4];walk_at "st";refine⟨zgL,zgL,fun r q=>?_⟩;rw[zpI q];walk_at "st";exact zdV (fun z=>dY z ⟨_,rfl⟩) (fun z=>dN z ⟨_,rfl⟩)
   walk_at "st"
   have av:xT rm bk i j=false->∀I J,C' [some (.d (stD rm)),some (.d (x5 bk)),some (.d (xD (y3 (rm.map zp)))),some (.d (xD (uo (xT rm bk) rm.length i++zK (xT rm bk) i j))),some (.d (.int (i:Int))),some (.d od),some (.df (fl.map fun st=>(st,lpD bk (i:Int) st))),I,J] m':=fun h I J=>by refine as ⟨rfl,hj,I,J,?_⟩;rw[y1,if_neg (by rw[h];decide)]
   refine zjq (fun hb=>?_) (fun hb=>⟨av (by unfold xT;rw[aO (fun z=>z (by lia))];rfl) _ _⟩);have hd:decide (j≠i)=true:=aL fun z=>hb (by lia);walk_at "st";refine⟨uW _,a1,fun r q=>?_⟩
   have er:(!r)=zhq rm bk (i:Int) (j:Int):=by
    rw[b9,<- an (j:Int),Bool.not_eq_true'];constructor
    ·rintro e z;have:r=true:=q.mpr (by rw[z];rfl);rw[e] at this;cases this
    ·intro z
     cases r with
     | false=>rfl
     | true=>exact absurd (eI.mp (Dt.lst.inj (q.mp rfl))) z
   rw[er];walk_at "st";refine zdV (fun hp=>?_) (fun hp=>⟨av (by unfold xT;rw[hp,dE]) _ _⟩);walk_at "st";have hq:xT rm bk i j=true:=by unfold xT;rw[hd,hp];rfl
   refine⟨?_,as ⟨rfl,hj,some (.d (.int (j:Int))),some (.d (xD (fl.filter fun st=>zfC bk (i:Int) (j:Int) st))),?_⟩⟩
   ·have q1:=zaX (C:=xT rm bk) (n:=rm.length) (i:=i);have q2:=zaa (xT rm bk) i j;have q3:i * rm.length<=8 * 8:=dG (by lia) (by lia);rw[ab,ai];exact a8 (by lia:_<=100) (by decide)
   ·rw[y1,if_pos hq,<- bF,xD,xD,ax (l₂:=[[(i:Int),(j:Int)]])];rfl
  ·rintro ρ m' ⟨rfl,a3,I,J,rfl⟩;walk_at "st";exact hC ⟨rfl,hi,_,_,_,_,_,rfl⟩
 ·rintro ρ m ⟨rfl,a2,v4,v5,v6,I,J,rfl⟩;walk_at "st";exact r
def zgi  : FV:=fun Pn q n R=>∃ (p:Addr) (rm:List Int),q=[.pen p,.d (stD rm)]/\(IsP Pn p)/\(n+100<=1000000)/\(RoomOk rm)/\(∀bk m,yL rm bk->bk.length<=4->m<=n+40->R (.d (.lst (bk.map zP))) m)
theorem zgi.i  {Pn:Option zm} {n:Nat} {R:W->Nat->Prop} {p:Addr} {rm:List Int} (q:IsP Pn p) (B:RoomOk rm) (h:∀bk m,yL rm bk->bk.length<=4->m<=n+40->R (.d (.lst (bk.map zP))) m) (D:n+100<=1000000:=by lia):zgi Pn [.pen p,.d (stD rm)] n R:=⟨p,rm,rfl,q,D,B,h⟩
theorem zdS (T:Txt K mg t):FnOk P w K mg base CX0 4 t.f26 t.d26 la (spV 2 true zgi):=by
 have G1:=zL (P:=P) (w:=w) (base:=base) T;have G6:=xB (P:=P) (w:=w) (base:=base) T
 refine Fun.okW (k:=3) (fr:=true) [9] 9 T.q26.F zT rfl (by decide) rfl fun cdv A outer s H E Pn hr=>⟨_,(zb (ziR (wE zq <| yN T.q6 G6 hr (za (kv 0) (za (kv 1) zd))) (wG ug <| uh (n:=4) K rfl rfl (wH zO <| zt (wG zx <| zi (i:=2) zT.nd rfl (Or.inl rfl)) (wH zO <| zt (wG zx <| zi (i:=3) zT.nd rfl (Or.inl rfl)) (wH zO <| zt (wG zx <| zi (i:=4) zT.nd rfl (Or.inl rfl)) (wH zO <| zt (wG zx <| zi (i:=5) zT.nd rfl (Or.inl rfl)) (wH uf xa)))))))
   (zb (wS zo <| zB (i:=6) zT.nd rfl (Or.inr rfl) (ux zju zmG (JE.bo (xz (N:=lF) (cix:=[none,none]) rfl (by walk_at "c") (wI xK <| uU K rfl (kv 2)) (fun _ _ _ _=>(wG ug <| uh (n:=2) K rfl rfl (wH zO <| zt (wG zx <| zi (i:=0) (show (lF:List Str).Nodup by decide +kernel) rfl (Or.inl rfl)) (wH zO <| zt (wG zx <| zi (i:=1) (show (lF:List Str).Nodup by decide +kernel) rfl (Or.inl rfl)) (wH uf xa))))) (fun _ _ _ _=>yY) (fun _ _ _ _=>(kv 0)))) (JE.bo (xu (za (kv 3) zd)))))
   (zb (wS zo <| zfQ (i:=7) (zbI (ix:=7) zT.nd rfl rfl (N:=["_law_one","_law_looks"]) (cix:=[none,some 6]) rfl (by walk_at "c") (wI z5 <| zA rfl T.b_range (zh (JE.bo (zY yI uP (by rfl) T.b_len bi (zh (kb 1) zk))) zk)) (fun _ _ _ _=>(wG zx <| zi (i:=0) (show (["_law_one","_law_looks"]:List Str).Nodup by decide +kernel) rfl (Or.inl rfl))) (fun _ _ _ _=>(uy (wT zn <| zF ze3 zlU (kb 0) (kb 1) (by with_unfolding_all rfl)))) (fun _ _ _ _=>(kv 0))))
   (zb (wS zI <| yX (wT zn <| zF (zmq hr.units) zrE (kb 7) (JE.bo (xu zd)) (zD _)) (zf (yu (xu (za (yR (za (kv 2) (za (kv 3) (za (kv 4) (za (kv 5) zd))))) zd)))) zN)
   (zb (wS zo <| zB (i:=8) zT.nd rfl (Or.inl rfl) (za1 xS zc3 (kb 7) (JE.bo (wE zq <| yN T.q1 G1 hr (za (kv 0) (za (zY yI uP (by rfl) T.b_len bi (zh (kb 7) zk)) zd)))) (fun _ _=>rfl)))
   (zb (wS yv <| xl (i:=9) zT.nd rfl (Or.inl rfl) (xu zd))
   (zb (yb aR rfl (wI z5 <| zA rfl T.b_range (zh (JE.bo (za1 y8 uO (kb 1) (kb 8) (fun _ _=>rfl))) zk)) (wG zx <| zi (i:=10) zT.nd rfl (Or.inl rfl)) (zf (wS ua <| zao 9 (yR (za (xh yh zac (by rfl) T.b_tuple br (zh (JE.bo (zY zhZ zki (by rfl) T.b_sorted ci (zh (JE.bo (ux zju zmG (JE.bo (xh zbV zrH (by rfl) T.b_list cU (zh (kb 2) zk))) (JE.bo (xu (za (yR (za (kv 8) (za (kv 10) zd))) zd))))) zk))) zk)) (za (kv 3) (za (kv 4) (za (kv 5) zd))))))))
   (zf (wS uB <| zax 9))))))))),fun ws n R hF=>?_⟩
 obtain⟨p,rm,rfl,hP,hn,hR,r⟩:=hF;walk_at "st";have h8:=hR.few;refine zfq.i hP hR fun x m hW hm=>?_;walk_at "st";have hgl:=zdD hW.giv;refine zaC x.g (fun q=>.d (xo q)) (by rw[aC];rfl) (fun ρ=>∃a b,ρ=[a,b]) (fun q=>.int q.1) (aB (by lia:_<=8) (by decide)) ⟨_,_,rfl⟩ ?_ ?_
 ·rintro q hq ρ' ⟨a,b,rfl⟩ D hD;walk_at "st";exact hD ⟨_,_,rfl⟩
 walk_at "st";refine⟨by rw[ab];exact aB (by simp;lia:_<=100) (by decide),?_⟩;have elk:(x.g.map fun q=>Dt.int q.1)++[Dt.int x.b]=(x.g.map (·.1)++[x.b]).map Dt.int:=by rw[ax,aC];rfl
 rw[elk];generalize hlk:x.g.map (·.1)++[x.b]=lk;walk_at "st";rw[ab];refine⟨⟨by lia,by lia⟩,?_⟩;rw[xj];refine zat (List.range rm.length) (fun k:Nat=>W.d (.int (k:Int))) rfl (fun ρ=>∃v,ρ=[v,some (.d (lsD lk))]) (fun k:Nat=>!lk.contains (k:Int)) (fun k:Nat=>.int (k:Int)) (aB (by rw[aj];exact h8) (by decide)) ⟨_,rfl⟩ ?_ ?_
 ·rintro k hk ρ' ⟨v,rfl⟩ D dY dN;walk_at "st";refine⟨lk,rfl,?_⟩;walk_at "st";exact zdV (fun z=>dY z ⟨_,rfl⟩) (fun z=>dN z ⟨_,rfl⟩)
 generalize hfr:(List.range rm.length).filter (fun k:Nat=>!lk.contains (k:Int))=fr
 have hfm:∀k∈fr,k<rm.length/\(k:Int)∉lk:=fun k hk=>by rw[<- hfr,aW,aP] at hk;refine⟨hk.1,fun z=>?_⟩;have:=hk.2;rw[cF.mpr z] at this;cases this
 have hfl:fr.length<=8:=by rw[<- hfr];have:=cH (fun k:Nat=>!lk.contains (k:Int)) (List.range rm.length);rw[aj] at this;lia
 walk_at "st"
 have hfe:(Dt.lst (fr.map fun k:Nat=>Dt.int (k:Int))).eqOk:=by have:=zhg (ns:=fr.map fun k:Nat=>(k:Int));rwa[aC] at this
 refine⟨hfe,uW [],fun e he=>?_⟩;walk_at "st";refine zdV (fun h0=>?_) (fun h0=>?_)
 ·walk_at "st";exact r [x] _ (fun y hy=>by rw[az.mp hy];exact hW) (by simp) (by lia)
 ·have hne:fr≠[]:=fun z=>by
   have:=he.mpr (by rw[z];rfl);rw[h0] at this;cases this
  have hpos:=eJ.mpr hne;walk_at "st";rw[ab];refine dc hP fun k k0 k1=>?_;walk_at "st";refine znQ k0 (by rw[ab];exact k1) fun y hy=>?_;obtain⟨o,ho,rfl⟩:=aH.mp hy;obtain⟨ho1,ho2⟩:=hfm o ho;have hmo:=yg hR.box (b:=(o:Int)) (by lia) (by lia);have hap:∀q∈x.g,q.1≠(o:Int):=fun q hq e=>ho2 (by rw[<- hlk,<- e];exact bL _ (aH.mpr ⟨q,hq,rfl⟩));have hob:(o:Int)≠x.b:=fun e=>ho2 (by rw[<- hlk,e];simp);walk_at "st";refine onA (by lia) (by lia) ?_;walk_at "st";refine⟨⟨by lia,by lia⟩,uH (fun i ρ m'=>m'=m+1/\i<=(yf rm (o:Int)).toNat/\∃ (bk:List Wi) (v10:Option W),ρ=[some (.pen p),some (.d (stD rm)),some (.d (.tup (x.g.map xo))),some (.d (.int x.b)),some (.d (.int x.r)),some (.d (.int x.w)),some (.d (.lst (lk.map Dt.int))),some (.d (.lst (fr.map fun k:Nat=>Dt.int (k:Int)))),some (.d (.int (o:Int))),some (.d (.lst (bk.map zP))),v10]/\yL rm bk/\bk.length=i) ⟨rfl,aT _,[],none,rfl,fun _ z=>absurd z bP,rfl⟩ ?_ ?_⟩
  ·rintro i ρ m' hi ⟨rfl,hil,bk,v10,rfl,hB,hbl⟩ C B X hC _ _;walk_at "st";refine⟨by rw[ab];exact aB (by simp;lia:_<=100) (by decide),?_⟩;walk_at "st";refine⟨(x.g++[((o:Int),(i:Int))]).map (fun q=>[q.1,q.2]),2,?_,?_,by decide,?_,?_,fun l hp hu=>?_⟩
   ·rw[aC,ax];rfl
   ·rw[ab,ai];simp;lia
   ·rintro z hz;obtain⟨q,_,rfl⟩:=aH.mp hz;rfl
   ·exact zpT hW.giv hap
   walk_at "st";obtain⟨g',eg,hG',hm'⟩:=zkS hW.giv hap (by lia) (by lia) (by lia) (by lia) hp hu;rw[eg];refine⟨by rw[ab,hbl];exact a8 (by lia:_<=4) (by decide),hC ⟨rfl,by lia,bk++[⟨g',x.b,x.r,x.w⟩],some (.d (.int (i:Int))),by rw[ax];rfl,fun y hy=>?_,by rw[ai,hbl];rfl⟩⟩;rcases aZ.mp hy with z | z
   ·exact hB y z
   ·rw[az.mp z];refine⟨hG',hW.b0,hW.b1,fun q hq=>?_,hW.r0,hW.r1,hW.w0,hW.w1,hW.ne⟩;rcases hm' q hq with z | rfl
    ·exact hW.apart q z
    ·exact hob
  ·rintro ρ m' ⟨rfl,hil,bk,v10,rfl,hB,hbl⟩;walk_at "st";exact r bk _ hB (by lia) (by lia)
def za3  : FV:=fun Pn q n R=>∃ (l:List (List Int)),q=[.d (xD l),.d (xD l)]/\(l.length<=1000)/\(∀z∈l,z.length<=100)/\(R (.d (.bl true)) n)
theorem za3.i  {Pn:Option zm} {n:Nat} {R:W->Nat->Prop} {l:List (List Int)} (q:l.length<=1000) (h2:∀z∈l,z.length<=100) (h:R (.d (.bl true)) n)  : za3 Pn [.d (xD l),.d (xD l)] n R:=⟨l,rfl,q,h2,h⟩
theorem zcX (T:Txt K mg t):FnOk P w K mg base CX0 1 t.f27 t.d27 lE (spV 2 false za3):=by
 refine Fun.okW (k:=0) (fr:=false) [] 1 T.q27.F zaU rfl (by decide) rfl fun L A q s H E Pn O=>⟨_,(zb (wS zI <| yX (JW.t (wW zgM <| zk5 (wT zcj <| zeO (wT zn <| zce (JE.bo (wE zfV <| zdK (by rfl) T.b_isinstance T.b_list (kb 0))))) (uV (.inr rfl) (wT zn <| zF (zgR O.units) zlT (kb 0) (kb 1) (zD _))))) (zf (yu zk2)) zN)
   (zb (yb aR rfl (wI xy <| xw K rfl (kv 0)) (wG zx <| zi (i:=2) zaU.nd rfl (Or.inl rfl)) (zf (wS zI <| yX (JW.t (wW zgM <| zk5 (wT zcj <| zeO (wT zn <| zce (JE.bo (wE zfV <| zcW (by rfl) T.b_isinstance T.b_tuple (kb 2))))) (uV (.inr rfl) (wT zn <| zF zjv ztT (JE.bo zk2) (JE.bo (xz (N:=["_law_part"]) (cix:=[none]) rfl (by walk_at "c") (wI xK <| uU K rfl (kv 2)) (fun _ _ _ _=>(wG zx <| zi (i:=0) (show (["_law_part"]:List Str).Nodup by decide +kernel) rfl (Or.inl rfl))) (fun _ _ _ _=>yY) (fun _ _ _ _=>(wE zfV <| zdJ (by rfl) T.b_isinstance T.b_bool (kb 0))))) (by with_unfolding_all rfl))))) (zf (yu zk2)) zN)))
   (zf (yu zk2)))),fun ws n R U=>?_⟩
 obtain⟨l,rfl,hl,h2,r⟩:=U;walk_at "st";refine⟨uW l,uW l,fun e Y=>?_⟩;rw[Y.mpr rfl];walk_at "st";walk_at "cf";refine yc l (fun st=>W.d (stD st)) (by rw[aC];rfl) (fun i ρ m=>m=n/\∃I,ρ=[some (.d (xD l)),some (.d (xD l)),I]) ⟨rfl,_,rfl⟩ ?_ ?_
 ·rintro i st ρ m J ⟨rfl,I,rfl⟩ C B X Z _ _;have hz:=h2 st (aG J);walk_at "st";refine zaC st (fun k=>W.d (.int k)) (by rw[aC];rfl) (fun ρ=>∃a,ρ=[a]) (fun _=>.bl false) (aB hz (by decide)) ⟨_,rfl⟩ ?_ ?_
  ·rintro k hk ad ⟨a,rfl⟩ D hD;walk_at "st";exact hD ⟨_,rfl⟩
  walk_at "st";refine⟨st.map fun _=>false,by rw[aC];rfl,?_⟩;rw[znO];walk_at "st";exact Z ⟨rfl,_,rfl⟩
 ·rintro ρ m ⟨rfl,I,rfl⟩;walk_at "st";exact r
theorem zqo (T:Txt K mg t):FnOk P w K mg base CX0 6 t.f28 t.d28 li (zj6 K):=by
 have G22:=zjo (P:=P) (w:=w) (base:=base) T;have G0:FnOk P w K mg base CX0 1 t.f0 t.d0 li (zlP K):=zf1 T;have G1:=zL (P:=P) (w:=w) (base:=base) T;have G3:=zdT (P:=P) (w:=w) (base:=base) T;have G6:=xB (P:=P) (w:=w) (base:=base) T;have G14:=zdQ (P:=P) (w:=w) (base:=base) T;have G25:=zdR (P:=P) (w:=w) (base:=base) T;have G26:=zdS (P:=P) (w:=w) (base:=base) T;have G27:=zcX (P:=P) (w:=w) (base:=base) T
 refine ztk (k:=5) (r:=9) [9] T.q28.F x4 rfl rfl (by decide) fun bl A a0 s H E Pn I=>⟨_,_,_,rfl,(xZ (i:=1) x4.nd rfl (Or.inr rfl) (zjI T.q0 G0 I (zJ (qv 0) yx))),(zb (yb aR rfl (wI z5 <| zA rfl T.b_range (zh (JE.bo zw) zk)) (wG zx <| zi (i:=2) x4.nd rfl (Or.inl rfl)) (zb (wS zo <| zB (i:=3) x4.nd rfl (Or.inl rfl) (wE zq <| yN T.q1 G1 I (za (kv 1) (za zw zd))))
   (zb (wS zo <| zB (i:=4) x4.nd rfl (Or.inl rfl) (za1 xS zc3 (JE.bo (xu (za zw (za zw (za zw (za zw zd)))))) (JE.bo (wE zq <| yN T.q1 G1 I (za (kv 1) (za zw zd)))) (fun _ _=>rfl)))
   (zb (wS zI <| yX (JW.t (wW zay <| zcf (wT zn <| zF xO zcL (kb 2) (JE.bo zw) (zD _)) (uV (.inl rfl) (wT zn <| zF xO zcL (JE.bo (wE zq <| yN T.q1 G1 I (za (kv 1) (za zw zd)))) (JE.bo zw) (zD _))))) (zf (wS zo <| zB (i:=4) x4.nd rfl (Or.inl rfl) zw)) zN)
   (zb (wS zo <| zB (i:=5) x4.nd rfl (Or.inr rfl) (wE zq <| yN T.q3 G3 I (za (kv 1) (za (kv 4) zd))))
   (zb (wS zo <| zB (i:=6) x4.nd rfl (Or.inl rfl) (wE zq <| yN T.q14 G14 I (za (kv 1) (za (kv 5) zd))))
   (zb (wS zI <| yX (wT zn <| zF xO zcL (kb 4) (JE.bo zw) (zD _)) (zf (wS zo <| zB (i:=6) x4.nd rfl (Or.inl rfl) (wE yZ <| zaH (kb 6) yo (wO zQ <| yp (JE.bo zw))))) zN)
   (zb (wS zI <| yX (wT zn <| zF xO zcL (kb 3) (JE.bo zw) (zD _)) (zf (yb aR rfl (wI z5 <| zA rfl T.b_range (zh (JE.bo (ux yJ zaY (JE.bo zw) (JE.bo (wE zq <| yN T.q1 G1 I (za (kv 1) (za zw zd)))))) zk)) (wG zx <| zi (i:=7) x4.nd rfl (Or.inl rfl)) (zf (wS zo <| zB (i:=6) x4.nd rfl (Or.inl rfl) (ux yD xA (kb 6) (JE.bo (xh yh zac (by rfl) T.b_tuple br (zh (JE.bo (wE zq <| yN T.q26 G26 I (za (kv 1) (za (kv 5) zd)))) zk)))))))) zN)
   (zb (wS zo <| zB (i:=8) x4.nd rfl (Or.inl rfl) (wE zq <| yN T.q25 G25 I (za (kv 5) (za (kv 6) zd))))
   (zb (wS yv <| xl (i:=9) x4.nd rfl (Or.inl rfl) (wE zq <| yN T.q22 G22 I (za (kv 5) (za (kv 6) zd))))
   (zb (wS zI <| yX (wT zcj <| zeO (wT zn <| zce (JE.bo (wE znC <| zsW T.q27 G27 I (zh (kb 9) (zh (kb 8) zk)))))) (zf (yu zk2)) zN)
   (zb (wS ua <| zao 9 (yR (za zw (za zw zd))))
   (zb (wS zo <| zB (i:=10) x4.nd rfl (Or.inl rfl) (xh yh zac (by rfl) T.b_tuple br (zh (JE.bo (xz (N:=ld) (cix:=[none,some 1,some 5]) rfl (by walk_at "c") (wI z5 <| zA rfl T.b_range (zh (JE.bo zw) zk)) (fun _ _ _ _=>(wG zx <| zi (i:=0) (show (ld:List Str).Nodup by decide +kernel) rfl (Or.inl rfl))) (fun _ _ _ _=>yY) (fun _ _ _ _=>(wE zq <| yN T.q6 G6 I (za (kv 1) (za (kv 2) zd)))))) zk)))
   (zf (wS zI <| yX (JW.t (wW zgM <| zk5 (wT zcj <| zeO (wT zn <| zce (JE.bo (wE zq <| yN T.q27 G27 I (za (wE zq <| yN T.q22 G22 I (za (kv 5) (za (kv 10) zd))) (za (wE zq <| yN T.q25 G25 I (za (kv 5) (za (kv 10) zd))) zd)))))) (uV (.inr rfl) (wT zcj <| zeO (wT zn <| zce (JE.bo (wE zq <| yN T.q27 G27 I (za (wE zq <| yN T.q22 G22 I (za (kv 5) (za (kv 6) zd))) (za (kv 8) zd))))))))) (zf (yu zk2)) zN)))))))))))))))
   (zf (yu zk2))),fun p c ns a1=>?_⟩
 subst a1;have hP:IsP (some (p,c,ns)) p:=⟨c,ns,rfl⟩;refine zrc ?_;walk_at "st";refine⟨⟨by decide,by decide⟩,uH (fun i ρ n=>n<=10000 * i/\∃v2 v3 v4 v5 v6 v7 v8 v9 ad,ρ=[none,some (.pen p),v2,v3,v4,v5,v6,v7,v8,v9,ad]) ⟨ag _,none,none,none,none,none,none,none,none,none,rfl⟩ ?_ ?_⟩
 ·rintro i ρ n hi ⟨hn,v2,v3,v4,v5,v6,v7,v8,v9,ad,rfl⟩ C B E hC _ _;have hi:i<2:=hi;walk_at "st";refine dc hP fun a2 r0 r1=>?_;walk_at "st";refine dc hP fun mo m0 m1=>?_;walk_at "st";refine znQ m0 m1 fun x hx=>?_
  obtain⟨q,rfl,q1,q2⟩:∃q,x = .int q/\4<=q/\q<=256:=by
   simp at hx;rcases hx with rfl | rfl | rfl | rfl
   all_goals exact⟨_,rfl,by lia,by lia⟩
  walk_at "st";refine' zhm (fun (q:Int) (Z:Nat)=>4<=q/\q<=256/\Z<=n+3) _ (fun zV=>?_) ?_;rotate_left
  ·refine xC (fun h0=>?_) (fun h0=>?_);rotate_left
   ·walk_at "st";generalize hk:n+1+1=Z;generalize bs:q=m9;exact zV m9 Z ⟨by lia,by lia,by lia⟩
   ·walk_at "st";refine dc hP fun d d0 d1=>?_;walk_at "st";refine xC (fun h5=>?_) (fun h5=>?_)
    ·walk_at "st";exact zV 256 (n+1+1+1) ⟨by decide,by decide,by lia⟩
    ·walk_at "st";exact zV q (n+1+1+1) ⟨q1,q2,by lia⟩
  rintro q Z ⟨q1,q2,bx⟩;refine zkr.i hP q1 q2 fun rm m L hp hm=>?_;have h8:=L.few;have bd:=L.pos;walk_at "st";refine zgh.i hP L (by lia) fun bk m2 O hl b0=>?_;walk_at "st";refine' zhm (fun (bk:List Wi) (Z:Nat)=>yL rm bk/\bk.length<=80/\Z=m2) _ (fun zV=>?_) ?_;rotate_left
  ·refine xC (fun h0=>?_) (fun h0=>?_)
   ·walk_at "st";rw[x6,show (12:Int)=((12:Nat):Int) from rfl,L3.zbD];have U:yL rm (bk.take 12):=fun x hx=>O x (bM hx);have an:(bk.take 12).length<=80:=by rw[aN];lia
    generalize bk.take 12=al at U an;generalize hk:m2=Z;exact zV al Z ⟨U,an,hk.symm⟩
   ·walk_at "st";exact zV bk m2 ⟨O,hl,rfl⟩
  rintro al n2 ⟨U,an,rfl⟩;refine' zti (fun (bk:List Wi) (Z:Nat) (_:Option W)=>yL rm bk/\bk.length<=100/\Z<=n2+200) _ (fun zV=>?_) ?_;rotate_left
  ·refine xC (fun h0=>?_) (fun h0=>?_)
   ·walk_at "st";refine dc hP fun d d0 d1=>?_;walk_at "st";refine⟨⟨by lia,by lia⟩,uH (fun j ρ m'=>m'<=n2+1+40 * j/\j<=3/\∃ (bk:List Wi) (v7:Option W),ρ=[none,some (.pen p),some (.d (.int (i:Int))),some (.d (.int a2)),some (.d (.int q)),some (.d (stD rm)),some (.d (x5 bk)),v7,v8,v9,ad]/\yL rm bk/\bk.length<=80+4 * j) ⟨by lia,by lia,al,v7,rfl,U,by lia⟩ ?_ ?_⟩
    ·rintro j ρ m' hj ⟨a3,a4,bk,v7,rfl,O,J⟩ C' B' E' a5 _ _;walk_at "st";refine zgi.i hP L fun b3 m3 Y a7 b1=>?_;walk_at "st";refine⟨by rw[ab,ab];exact aB (by lia:_<=200) (by decide),?_⟩;rw[<- ax];exact a5 ⟨by lia,by lia,bk++b3,_,rfl,O.app Y,by rw[ai];lia⟩
    ·rintro ρ m' ⟨a3,a4,bk,av,rfl,O,J⟩;walk_at "st";exact zV bk m' av ⟨O,by lia,by lia⟩
   ·walk_at "st";exact zV al n2 v7 ⟨U,by lia,by lia⟩
  rintro b2 n3 av ⟨Y,a7,b4⟩;have D:∀ {bk:List Wi},(uw rm bk).length<=1000/\∀z∈uw rm bk,z.length<=100:=fun {bk}=>⟨by have:=zeH (bk:=bk) L;lia,fun z hz=>by rw[zb8 hz];decide⟩;refine zeo.i L Y (by lia) ?_;walk_at "st";refine zpg.i L Y (by lia) ?_;walk_at "st";refine za3.i D.1 D.2 ⟨rfl,?_⟩;walk_at "st";refine⟨by rw[ab];exact a8 D.1 (by decide),?_⟩;walk_at "st";refine⟨⟨by lia,by lia⟩,?_⟩;rw[xj];refine zew (List.range (3:Int).toNat) (fun k:Nat=>W.d (.int (k:Int))) rfl (by decide) (fun i ap n' acc=>n'<=n3+30 * i/\i<=3/\∃ (v:Option W) (bk:List Wi),ap=[v,some (.pen p),some (.d (stD rm))]/\acc=bk.map zP/\yL rm bk/\bk.length=i) ⟨by lia,aT _,none,[],rfl,rfl,by intro x hx;simp at hx,rfl⟩ ?_ ?_
  ·rintro i k ap n' acc hk ⟨as,hi,v,bk,rfl,rfl,O,J⟩ C hC;have bb:i<3:=(ae.mp hk).1;walk_at "st";refine zfq.i hP L fun x m hx hm=>?_;exact hC ⟨by lia,bb,_,bk++[x],rfl,by rw[ax];rfl,O.app (fun y hy=>by rw[az.mp hy];exact hx),by rw[ai,J];rfl⟩
  ·rintro ap n' acc ⟨as,hi,v,bk,rfl,rfl,O,J⟩;have J:bk.length=3:=J;have as:n'<=n3+90:=as;walk_at "st";refine zpg.i L O (by lia) ?_;walk_at "st";refine zeo.i L O (by lia) ?_;walk_at "st";refine za3.i D.1 D.2 ?_;walk_at "st";refine zpg.i L Y (by lia) ?_;walk_at "st";refine za3.i D.1 D.2 ?_;walk_at "st";exact hC ⟨by lia,_,_,_,_,_,_,_,_,_,rfl⟩
 ·rintro ρ n ⟨hn,v2,v3,v4,v5,v6,v7,v8,v9,ad,rfl⟩;walk_at "st"
end
theorem Dm {K:PySem.W.Frag}{h:Heap}{mg:Str->Option Value}{x:Str}{st:Stmt}{ps:List Str}{f:Addr}{I kV dc B q ct:Value}{J D:Option Addr}{L:Array (Option Value)}(X:K.In h)(G:h.Ns mainGlobals mg)(a:PySem.W.nsIn K mainGlobals x=some (some (.ref f)))(l:K.lookup f=some ⟨I,J,.func (PySem.W.fnOf x x (zav st) (ym st) (zg st) .none kV dc B D q ct),L⟩)(c:PySem.W.codeIn K q x=true)(k:PySem.W.keepIn K (.ref f)=true)(b:∀ (kV dc B:Value) (D:Option Addr) (q ct:Value) (F:List Value),F.length=ps.length->bindArgs (PySem.W.fnOf x x (zav st) (ym st) (zg st) .none kV dc B D q ct) ⟨F,[]⟩=pure (ps.zip F)):Dfn K mg x st ps f (PySem.W.fnOf x x (zav st) (ym st) (zg st) .none kV dc B D q ct):=⟨zme l c k,(zme l c k).binds b,PySem.W.mg_of X G a⟩
theorem fin {l:PySem.W.OpenLaw}{w:World}{K:PySem.W.Frag}{mg:Str->Option Value}{fa:Addr}{t:Ad}(q:mg "law" = some (.ref fa))(T:Txt K mg t)(b:∀ (s:Shared) (v:Value),BindsTo s t.d28 ⟨[v],[]⟩ [("_law_script",v)]):∃fd:FuncData,(∀ (s:Shared) (v:Value),BindsTo s fd ⟨[v],[]⟩ [("_law_script",v)])/\∀base:Heap,K.In base->base.Ns mainGlobals mg->FnOk l.prog w K mg base CX0 6 fa fd li (zj6 K):=by have e:=q.symm.trans T.q28.m;cases e;exact⟨_,b,fun base _ _=>zqo T⟩
theorem walk {l:PySem.W.OpenLaw}{q:Program}{B:List Str}{XP:(Str->Option Value)->Heap->Prop}{YP:World->Heap->Prop}{d:DefRec}{K:Params->PySem.W.Frag}(I:l.most=some 63)(D:d.params.defaults=[])
  (J:∀ (w:World) (h:Heap),YP w h->(K w.params).In h)
  (F:∀ (w:World) (mg:Str->Option Value) (fa:Addr) (h:Heap),(K w.params).In h->h.Ns mainGlobals mg->mg d.name=some (.ref fa)->
   ∃fd:FuncData,(∀ (s:Shared) (u:Value),BindsTo s fd ⟨[u],[]⟩ [("_law_script",u)])/\∀base:Heap,(K w.params).In base->base.Ns mainGlobals mg->FnOk l.prog w (K w.params) mg base CX0 6 fa fd li (zj6 (K w.params))) :
  PySem.W.WalkO q B XP YP l.row.toRowW d [] (fun f vs=>PySem.call f vs):=
 L2.zpd (n:=63) (k:=6) (x := "_law_script") (CX:=fun _=>CX0) (sp:=fun w=>zj6 (K w.params)) I (by decide) D ⟨rfl,by decide,by decide⟩ J F (fun _ _ a ns L _ O=>⟨a,ns,rfl,O,L,fun _=>rfl⟩) fun _ _ _ _ _ z=>z
end Law
open PySem PySem.W PyProof.Rows
local macro_rules | `(tactic| walk_at "D")=>`(tactic| (dsimp only;refine' Law.Dm (by assumption) (by assumption) ?a ?l ?c ?k ?b;(case a=>k_is);(case l=>k_is);(case c=>k_is);(case k=>k_is);(case b=>(intro _ _ _ _ _ _ us hl;first | (obtain⟨_,e⟩:=L2.us_1 hl;subst e;rfl) | (obtain⟨_,_,e⟩:=L2.us_2 hl;subst e;rfl) | (obtain⟨_,_,_,e⟩:=L2.us_3 hl;subst e;rfl) | (obtain⟨_,_,_,_,e⟩:=L2.us_4 hl;subst e;rfl)))))
local macro_rules | `(tactic| walk_at "Z")=>`(tactic| (refine' PySem.W.mg_none_of (by assumption) (by assumption) ?z;(case z=>k_is)))
theorem PySem.W.Fast.te12950722880478901602:True:=.intro
set_option maxRecDepth 100000 in
set_option maxHeartbeats 0 in
theorem PySem.Challenge.cw_allelse_k28_what_hangs_on_what_holds : PySem.Challenge.rw_allelse_k28_what_hangs_on_what.Holds := by
 w_on;refine holds_law (by decide +kernel) fun _=>?_;k_head;(case hw=>w_witness2)
 k_fill
 refine Law.walk (l:=PySem.Challenge.rw_allelse_k28_what_hangs_on_what) rfl rfl (fun w h Y=>PySem.W.kIn_of Y) ?F
 case F=>
  intro w mg fa h KX G B;refine' Law.fin (t:=⟨_,_,_,_,_,_,_,_,_,_,_,_,_,_,_,_,_,_,_,_,_,_,_,_,_,_,_,_,_,_,_,_,_,_,_,_,_,_,_,_,_,_,_,_,_,_,_,_,_,_,_,_,_,_,_,_,_,_⟩) B ⟨?D0,?D1,?D2,?D3,?D4,?D5,?D6,?D7,?D8,?D9,?D10,?D11,?D12,?D13,?D14,?D15,?D16,?D17,?D18,?D19,?D20,?D21,?D22,?D23,?D24,?D25,?D26,?D27,?D28,?z_sorted,?z_set,?z_list,?z_tuple,?z_range,?z_enumerate,?z_len,?z_dict,?z_abs,?z_all,?z_zip,?z_isinstance,?q⟩ fun s v=>?b
  (case D0 | D1 | D2 | D3 | D4 | D5 | D6 | D7 | D8 | D9 | D10 | D11 | D12 | D13 | D14 | D15 | D16 | D17 | D18 | D19 | D20 | D21 | D22 | D23 | D24 | D25 | D26 | D27 | D28=>walk_at "D")
  (case z_sorted | z_set | z_list | z_tuple | z_range | z_enumerate | z_len | z_dict | z_abs | z_all | z_zip | z_isinstance | q=>walk_at "Z")
  (case b=>exact .of_eq rfl)

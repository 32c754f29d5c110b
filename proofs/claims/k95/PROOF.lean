import PyProof.Rows.All
import Wide.All
import OpenK.AllK
import Wide.FinOn
import Lean
import PyProof.EqAt
import PyProof.EqKinds
import PyProof.TupleCall
import PySem.Challenge.RW_allelse_k95_best_in_wide_rooms
local macro_rules|`(#[$xs,*])=>`(⟨$xs,*⟩)
local macro_rules|`(#v[$xs,*])=>`(List.toArray [$xs,*])
set_option Elab.async false
set_option linter.all false
set_option maxRecDepth 100000
set_option maxHeartbeats 4000000
section
local macro_rules | `(tactic| show $e)=>`(tactic|refine $e)
local macro_rules | `(tactic| ext)=>`(tactic|decide)
local macro_rules | `(tactic| right)=>`(tactic|simp_all)
local macro_rules | `(tactic| fail"v") => `(tactic| (first | show Or.inl rfl | show Or.inr (Or.inl rfl) | show Or.inr (Or.inr rfl)))
local macro_rules | `(tactic| fail"l") => `(tactic| (first | show Or.inl rfl | show Or.inr rfl | assumption))
local macro_rules | `(tactic| fail"f") => `(tactic| (show ⟨rfl, rfl, rfl, by decide +kernel, rfl, by decide +kernel, by decide +kernel⟩))
local macro_rules | `(tactic| fail"c") => `(tactic| (show ⟨rfl, by decide +kernel, rfl⟩))
open PySem PySem.Spec
abbrev AA:=Value->Shared->Prop
abbrev AB:=List (Addr×Obj)
abbrev AF:=List (List Int×Addr)
abbrev AG:=List (List Int)
abbrev AH:=List Int
abbrev AI:=PySem.W.Frag
abbrev AJ:=Str->Option Value
abbrev AK:=Option Value
abbrev AL:=Array Value
abbrev AM:=Addr->Prop
abbrev AN:=List Str
abbrev AO:=List Value
abbrev AQ:=List Expr
abbrev AR:=Option Int
abbrev AS:=List Nat
abbrev AZ:=List Addr
abbrev Aa:=Shared
abbrev Ab:=Program
abbrev Ac:=World
abbrev Ae:=FuncData
abbrev Af:=Around
abbrev Ah(p:Program)(w:World)(A:Around){α:Type}:=@wpAny α (model p w) A
abbrev Ai(x:Str):Prop:=(x==("__debug__":Str))=false
abbrev Aj:Str:="given"
abbrev Ak:Str:="better"
abbrev Am:Str:="worse"
abbrev An:Str:="worth"
abbrev Ao:Str:="box"
abbrev Ap:Str:="room"
abbrev Aq:Str:="book"
abbrev Ar:Str:="standing"
abbrev As:Str:="_law_pen_here"
abbrev At:Str:="_law_room"
abbrev Au:Str:="_law_book"
abbrev Av:Str:="_law_given_here"
abbrev Aw:Str:="_law_most"
abbrev Ax:Str:="_law_standing_here"
abbrev Ay:Str:="_law_box"
abbrev Az:Str:="_law_worth"
abbrev A1:Str:="_law_many"
abbrev A5:Str:="_law_found"
abbrev A6:Str:="_law_share"
abbrev A7:Str:="_law_boxes"
abbrev A8:Str:="here"
abbrev A9:Str:="leads"
abbrev BA:Str:="left"
abbrev BB:Str:="_law_k"
theorem BC{α:Sort u}{a:α}:a=a:=rfl
namespace L2
open PyProof.Rows
abbrev aa:=@wpAny_bind
abbrev ab:=@List.length_map
abbrev ae:=@List.getElem?_eq_some_iff
abbrev af:=@Heap.get?_push_of_some
abbrev ai:=@wpAny_pure
abbrev aj:=@List.getElem?_eq_getElem
abbrev ak:=@Nat.le_refl
abbrev am:=@List.mem_cons_self
abbrev ao:=@List.mem_cons_of_mem
abbrev aq:=@List.mem_map
abbrev ar:=@List.map_map
abbrev au:=@List.mem_singleton
abbrev av:=@Nat.le_trans
abbrev aw:=@Heap.get?_push_size
abbrev ax:=@Heap.lt_size
abbrev ay:=@List.length_append
abbrev az:=@List.mem_of_getElem?
abbrev aA:=@List.getElem?_map
abbrev aB:=@Option.map_eq_some_iff
abbrev aC:=@List.map_cons
abbrev aD:=@List.getD_eq_getElem?_getD
abbrev aE:=@List.mem_append
abbrev aF:=@List.getElem?_set_ne
abbrev aG:=@List.mem_cons
abbrev aH:=@List.map_append
abbrev aI:=@List.length_range
abbrev aJ:=@Nat.ne_of_lt
abbrev aK:=@List.mem_filter
abbrev aL:=@Nat.lt_of_lt_of_le
abbrev aM:=@Bool.false_ne_true
abbrev aN:=@decide_eq_true
abbrev aO:=@PassesOwn.never
abbrev aP:=@Int.toNat_natCast
abbrev aQ:=@Bool.false_eq_true
abbrev aR:=@List.length_take
abbrev aS:=@Nat.zero_le
abbrev aT:=@decide_eq_false
abbrev aU:=@Bool.and_eq_true
abbrev aV:=@List.take_length
abbrev aW:=@List.getElem?_set_self
abbrev aX:=@Array.length_toList
abbrev aY:=@Nat.lt_of_le_of_lt
abbrev aZ:=@List.mem_range
abbrev a6:=@wpAny_call_entry
abbrev a8:=@List.all_eq_true
abbrev a9:=@List.size_toArray
abbrev ba:=@List.mem_append_right
abbrev bc:=@List.length_cons
abbrev be:=@PySem.boot_len
abbrev bf:=@List.contains_iff_mem
abbrev bg:=@wpAny_newObj_type
abbrev bh:=@Heap.SameBut.update
abbrev bi:=@List.mem_append_left
abbrev bj:=@List.mem_of_mem_take
abbrev bm:=@List.getElem?_append_right
abbrev bn:=@List.dropLast_concat_getLast
abbrev bp:=@sizeLine_eq
abbrev bq:=@wpAny_setState_of
abbrev br:=@Heap.get?_update_self
abbrev bt:=@List.find?_cons
abbrev bu:=@List.getElem_mem
abbrev bv:=@List.getElem?_append_left
abbrev bw:=@wpAny_holding
abbrev bz:=@decide_eq_true_iff
abbrev bA:=@wpAny_mono
abbrev bB:=@wpAny_setField
abbrev bC:=@List.getElem?_cons_succ
abbrev bD:=@of_decide_eq_true
abbrev bE:=@wpAny_field
abbrev bF:=@List.getElem_range
abbrev bG:=@Heap.get?_update_other
abbrev bH:=@Option.some.inj
abbrev bI:=@PySem.W.kia_one
abbrev bJ:=@List.nodup_cons
abbrev bK:=@Array.getElem?_eq_getElem
abbrev bL:=@Nat.lt_irrefl
abbrev bM:=@List.getElem_inj
abbrev bN:=@wpAny_askSetting
abbrev bO:=@List.getElem_of_mem
abbrev bP:=@AutoSeq1.wpAny_loadPart'
abbrev bQ:=@PySem.F.slot_dict_keyiterator_next
abbrev bR:=@PyProof.Rows.callWith_type1
abbrev bS:=@Obj.data_mapFields
abbrev bT:=@List.pairwise_cons
abbrev bU:=@Array.getD_eq_getD_getElem?
abbrev bV:=@PyProof.Rows.boot_tuple
abbrev bW:=@wpAny_truthy_bool
abbrev bY:=@List.append_assoc
abbrev bZ:=@Nat.le_of_lt_succ
abbrev b5:=@Bool.eq_iff_iff
abbrev b6:=@List.length_singleton
abbrev b7:=@List.length_set
abbrev b8:=@wpAny_pyIter_tuple
abbrev b9:=@wpAny_typeNameOfWhole_keyiter
abbrev cb:=@List.mem_iff_getElem
abbrev ce:=@wpAny_seqItems
abbrev cg:=@Heap.size_push
abbrev ci:=@Nat.lt_trichotomy
abbrev cj:=@List.getElem_take
abbrev ck:=@Nat.not_lt_zero
abbrev cm:=@List.flatMap_append
abbrev cq:=@F.slot_tuple_iterator_next
abbrev cr:=@Array.getElem?_eq_some_iff
abbrev cw:=@wpAny_isInstance
abbrev cy:=@List.getElem_map
abbrev cz:=@List.mem_flatMap
abbrev cA:=@Nat.ne_of_gt
abbrev cB:=@Int.emod_lt_of_pos
abbrev cC:=@List.getElem?_eq_none
abbrev cD:=@List.pairwise_iff_getElem
abbrev cE:=@Classical.byContradiction
abbrev cF:=@Nat.pow_le_pow_right
abbrev cG:=@wpAny_passesOwn
abbrev cH:=@List.pairwise_map
abbrev cI:=@PyProof.Rows.boot_sorted
abbrev cJ:=@wpAny_typeOf
abbrev cK:=@List.filterMap_cons
abbrev cL:=@PySem.mem_of_lookup
abbrev cN:=@List.any_cons
abbrev cO:=@List.all_cons
abbrev cP:=@List.replicate_succ
abbrev cQ:=@Nat.le_succ
abbrev cR:=@wpAny_attempt
abbrev cS:=@PySem.F.plainAttrs_list
abbrev cT:=@Bool.and_true
abbrev cU:=@List.lookup_cons
abbrev cV:=@Int.mul_le_mul_of_nonneg_left
abbrev cW:=@PyProof.Rows.boot_list
abbrev cY:=@List.flatMap_singleton
abbrev cZ:=@List.mem_filterMap
abbrev c7:=@List.find?_eq_none
abbrev c8:=@List.filter_append
abbrev c9:=@List.forIn_cons
abbrev dg:=@Int.emod_nonneg
abbrev dh:=@Obj.isFreed_of_fields
abbrev di:=@F.slot_enumerate_next
abbrev dj:=@call_meets
abbrev dq:=@wpAny_standAt
abbrev du:=@Array.getElem_toList
abbrev dv:=@Bool.and_false
abbrev dw:=@isSubtype_stop
abbrev dy:=@PySem.F.args_dict_keyiterator_next_1
abbrev dB:=@List.ext_getElem
abbrev dC:=@List.not_mem_nil
abbrev dD:=@PySem.F.entry_dict_keyiterator_next
abbrev dE:=@List.map_congr_left
abbrev dF:=@List.map_eq_flatMap
abbrev dG:=@Nat.le_of_lt
abbrev dH:=@List.getElem?_take_of_lt
abbrev dJ:=@Nat.lt_trans
abbrev dM:=@PySem.F.args_tuple_add_2
abbrev dO:=@Nat.succ_pos
abbrev dP:=@PySem.F.entry_tuple_add
abbrev dQ:=@Array.append_empty
abbrev dR:=@List.pairwise_singleton
abbrev dU:=@Nat.add_sub_cancel
abbrev dW:=@List.take_succ_eq_append_getElem
abbrev dX:=@PySem.F.slot_tuple_add
abbrev dZ:=@List.take_of_length_le
abbrev ee:=@List.flatten_cons
abbrev eh:=@List.foldl_append
abbrev ei:=@Obj.cls_mapFields
abbrev ek:=@wpAny_pyIter_enum
abbrev el:=@Nat.mod_lt
abbrev en:=@wpAny_storeSet_of
abbrev er:=@List.nodup_nil
abbrev ez:=@List.drop_zero
abbrev eA:=@builtinLookup_eq_fast
abbrev eB:=@PyProof.Rows.boot_abs
abbrev eC:=@PyProof.Rows.boot_all
abbrev eD:=@List.length_drop
abbrev eE:=@List.eq_nil_of_length_eq_zero
abbrev eF:=@List.take_append_of_le_length
abbrev eG:=@Array.mem_toList_iff
abbrev eI:=@Paired.length
abbrev eJ:=@F.args_tuple_iterator_next_1
abbrev eK:=@List.Sublist.eq_of_length_le
abbrev eL:=@typeIs_int
abbrev eM:=@wpAny_rule
abbrev eO:=@wpAny_execs_nil
abbrev eP:=@List.append_nil
abbrev eQ:=@beq_eq_false_iff_ne
abbrev eR:=@F.slot_int_rmul
abbrev eS:=@eq_of_beq
abbrev eU:=@F.entry_tuple_iterator_next
abbrev eV:=@Heap.get?_update_ne
abbrev eW:=@List.nil_append
abbrev eX:=@wpAny_setEntries_of
abbrev eY:=@Sum.inl.inj
abbrev eZ:=@F.slot_zip_next
abbrev e8:=@List.filter_sublist
abbrev fg:=@List.filter_eq_self
abbrev fj:=@List.range_succ
abbrev fq:=@wpAny_Call_Name_kw
abbrev fw:=@List.map_nil
abbrev fB:=@tupleKind_room_in1
abbrev fD:=@F.args_tuple_mul_2
abbrev fE:=@Int.mul_nonneg
abbrev fF:=@wpAny_fieldsOf
abbrev fG:=@wpAny_pyIter_list
abbrev fH:=@List.take_sublist
abbrev fJ:=@F.entry_tuple_mul
abbrev fK:=@Nat.lt_succ_of_le
abbrev fL:=@wpAny_pyIter_slot
abbrev fM:=@wpAny_dictEntries
abbrev fN:=@List.nodup_append
abbrev fO:=@List.filter_congr
abbrev fP:=@tupleItemsOf_
abbrev fQ:=@wpAny_handled
abbrev fR:=@Int.lt_irrefl
abbrev fS:=@Bool.not_true
abbrev fT:=@Bool.true_and
abbrev fU:=@List.cons.inj
abbrev fV:=@forall_congr'
abbrev fW:=@noFill_tuple_add
abbrev fX:=@AutoSeq1.idx_int
abbrev fY:=@F.slot_tuple_mul
abbrev fZ:=@List.nodup_range
abbrev ga:=@wpAny_forIn_list
abbrev gb:=@List.map_flatMap
abbrev gc:=@codeAny_mono
abbrev ge:=@Nat.sub_zero
abbrev gf:=@Nat.sub_self
abbrev gg:=@Nat.lt_or_ge
abbrev gh:=@Nat.zero_add
abbrev Key:=Sum Int Str
def zeK:Key->Value->Bool
 | .inl k,v=>Value.isInt k v
 | .inr x,v=>Value.isStrOf x v
def keyH (w:Ac):Key->Int
 | .inl k=>hashInt k
 | .inr x=>hashStr w x
theorem zU:∀ {k:Key} {v:Value},zeK k v=true->(∃i t,k=Sum.inl i/\v=Value.int i t)\/(∃x t,k=Sum.inr x/\v=Value.str x t)
 | .inl i,v,h=>by obtain⟨t,e⟩:=Value.isInt_shape (k:=i) (v:=v) h;show .inl #[i,t,BC,e]
 | .inr x,v,h=>by obtain⟨t,e⟩:=Value.isStrOf_shape (x:=x) (v:=v) h;show .inr #[x,t,BC,e]
def uN (i:Int)(t:Tok):zeK (.inl i) (.int i t)=true:=by simp[zeK,Value.isInt]
def zjr (x:Str)(t:Tok):zeK (.inr x) (.str x t)=true:=by simp[zeK,Value.isStrOf]
def zrg (a b:Int):decide ((Sum.inl a:Key)=Sum.inl b)=(a==b):=by grind
def zrj (a b:Str):decide ((Sum.inr a:Key)=Sum.inr b)=decide (a=b):=by grind
def zrh (a:Int)(b:Str):decide ((Sum.inl a:Key)=Sum.inr b)=false:=rfl
def zri (a:Str)(b:Int):decide ((Sum.inr a:Key)=Sum.inl b)=false:=rfl
def zy (prog:Ab)(w:Ac):PySem.KeyKind prog w Key where
 is:=zeK
 hash:=keyH w
 inj:=λv a b ha hb=>by
  rcases zU ha with ⟨i,t,rfl,rfl⟩ | ⟨x,t,rfl,rfl⟩;rcases zU hb with ⟨j,u,rfl,e⟩ | ⟨y,u,rfl,e⟩;injection e with e1 _;rw[e1];show nomatch e;rcases zU hb with ⟨j,u,rfl,e⟩ | ⟨y,u,rfl,e⟩;show nomatch e;injection e with e1 _;rw[e1]
 byValue:=λk v h=>by rcases zU h with ⟨i,t,rfl,rfl⟩ | ⟨x,t,rfl,rfl⟩ <;> rfl
 pyHash:=λhv h=>by
  rcases zU hv with ⟨i,t,rfl,rfl⟩ | ⟨x,t,rfl,rfl⟩;show wpAny_pyHash_int h;show wpAny_pyHash_str h
 eqBool:=λhu hv h=>by
  rcases zU hu with ⟨i,t,rfl,rfl⟩ | ⟨x,t,rfl,rfl⟩;rcases zU hv with ⟨j,u,rfl,rfl⟩ | ⟨y,u,rfl,rfl⟩;rw[zrg] at h;show wpAny_eqBool_int h;rw[zrh] at h;show SeqAt.EqAt.int_str i t y u _ _ _ _ h;rcases zU hv with ⟨j,u,rfl,rfl⟩ | ⟨y,u,rfl,rfl⟩;rw[zri] at h;show SeqAt.EqAt.str_int x t j u _ _ _ _ h;rw[zrj] at h;show wpAny_eqBool_str h
 «strs»:=λk x t v h=>by
  rcases zU h with ⟨i,u,rfl,e⟩ | ⟨y,u,rfl,e⟩;show nomatch e
  ·injection e with e1 _;subst e1;cases v <;> rfl
def zhL (prog:Ab)(w:Ac)(k:Key)(v:Value):(zy prog w).is k v=zeK k v:=rfl
def zco (prog:Ab)(w:Ac)(i:Int)(t:Tok):(zy prog w).is (.inl i) (.int i t)=true:=uN i t
def zf7 (prog:Ab)(w:Ac)(x:Str)(t:Tok):(zy prog w).is (.inr x) (.str x t)=true:=zjr x t
inductive V where
 | non | bl (b:Bool) | int (i:Int) | str (x:Str) | byt (b:Array UInt8) | flt (b:UInt64) | ref (a:Addr) | ty (n:String)
 deriving DecidableEq
abbrev AU:=List V
def yv:V->Value->Prop
 | .non,u=>u=Value.none
 | .bl b,u=>u=Value.bool b
 | .int i,u=>∃t,u=Value.int i t
 | .str x,u=>∃t,u=Value.str x t
 | .byt b,u=>∃t,u=Value.bytes b t
 | .flt b,u=>∃t,u=Value.float b t
 | .ref a,u=>u=Value.ref a
 | .ty n,u=>u=Value.type n
abbrev z9:AU->AO->Prop:=Paired yv
def z9.length {xs:AU}{us:AO}(r:z9 xs us):xs.length=us.length:=eI r
theorem z9.get:∀ {xs:AU} {us:AO} {i:Nat} {x:V},z9 xs us->xs[i]?=some x->∃u,us[i]?=some u/\yv x u
 | _,_,_,_,.nil,e=>by simp at e
 | _,_,0,_,.cons r _,e=>by right
 | _,_,i+1,x,.cons _ t,e=>by
  obtain⟨u,h1,h2⟩:=z9.get (i:=i) (x:=x) t (by simpa using e);right
theorem z9.append:∀ {xs ys:AU} {us ws:AO},z9 xs us->z9 ys ws->z9 (xs++ys) (us++ws)
 | _,_,_,_,.nil,s=>s
 | _,_,_,_,.cons r t,s=>.cons r (z9.append t s)
theorem z9.take:∀ {xs:AU} {us:AO} (n:Nat),z9 xs us->z9 (xs.take n) (us.take n)
 | _,_,0,_=>.nil
 | _,_,_+1,.nil=>.nil
 | _,_,n+1,.cons r t=>.cons r (z9.take n t)
theorem z9.drop:∀ {xs:AU} {us:AO} (n:Nat),z9 xs us->z9 (xs.drop n) (us.drop n)
 | _,_,0,r=>r
 | _,_,_+1,.nil=>.nil
 | _,_,n+1,.cons _ t=>z9.drop n t
def zig:Option V->AK->Prop
 | some v,some u=>yv v u
 | none,none=>True
 | _,_=>False
def KV {κ:Type}:List (κ×V)->List (κ×Value)->Prop:=Paired λ(p:κ×V) (q:κ×Value)=>p.1=q.1/\yv p.2 q.2
def kV:Key->V
 | .inl i=>.int i
 | .inr x=>.str x
inductive HO where
  | lst (xs:AU)
  | tup (xs:AU)
  | dK (BE:List (Key×V)) | dT (BE:List (List Key×V))
  | set (S:Int->Bool) (n:Nat)
  | ins (C dx:Addr) (fs:List (Str×V))
  | own (x:Addr)
  | xd (fs:List (Str×V))
  | met (f x:Addr)
  | rng (lo hi:Int)
  | frz (o:Obj) (u:HO)
  | tbl (ps:AL)
  | ext (φ:Heap->Prop)
abbrev Hp:=Addr->Option HO
def upd (H:Hp)(a:Addr)(o:HO):Hp:=λb=>if b=a then some o else H b
def zj {H:Hp}{a:Addr}{o:HO}:upd H a o a=some o:=by unfold upd;rw[if_pos rfl]
def ze {H:Hp}{a b:Addr}{o:HO}(h:b≠a):upd H a o b=H b:=by unfold upd;rw[if_neg h]
def zlZ {H:Hp}{a b:Addr}{o u:HO}(h:H a=some o)(h':H b=some u)(d:o≠u):a≠b:=by grind
def zb {H:Hp}{a b:Addr}{o:HO}(h:H a=some o)(h':H b=none):a≠b:=by grind
def uD (h:Heap)(a:Addr)(items:AL):Prop:=∃o,h.get? a=some o/\o.cls = .type "tuple" /\ (∃n,o.data = .seq items n)/\o.dict=none
def uD.tup {h:Heap}{a:Addr}{items:AL}(x:uD h a items):IsTup h a items:=let ⟨o,h1,h2,h3,_⟩:=x;#[o,h1,h2,h3]
def uD.lt {h:Heap}{a:Addr}{items:AL}(x:uD h a items):a<h.objs.size:=x.tup.lt
def uD.new (h:Heap)(items:AL):uD (h.push { cls:=.type "tuple",data:=.seq items }) h.objs.size items:=#[_,aw _ BC,BC,#[_,BC],BC]
section
variable (P:Ab)(w:Ac)
def z8 (H:Hp)(h:Heap)(a:Addr):HO->Prop
 | .lst xs=>xs.length<=sizeLine/\∃ (its:AO) (n:Nat),z9 xs its/\h.get? a=some { cls:=.type "list",data:=.seq its.toArray n }
 | .tup xs=>xs.length<=sizeLine/\∃its:AO,z9 xs its/\uD h a its.toArray
 | .dK BE=>BE.length<=sizeLine/\(a==sysModules)=false/\∃vs,KV BE vs/\h.DictOf (zy P w) a vs
 | .dT BE=>BE.length<=sizeLine/\(a==sysModules)=false/\∃xs:List (List Key×Addr×Value),
   Paired (λ(p:List Key×V) (q:List Key×Addr×Value)=>p.1=q.1/\H q.2.1=some (.tup (p.1.map kV))/\yv p.2 q.2.2) BE xs/\
   ∃o es ep,h.get? a=some o/\o.ExactDict/\o.data = .dict es ep/\es.toList=xs.map (entryOfKey (tupleKind (zy P w)))/\(xs.map (·.1)).Nodup
 | .set S n=>h.SetOf (intKind P w) a S n
 | .ins C dx fs=>H dx=some (.own a)/\fs.length<=1000/\dx≠a/\h.get? a=some (PySem.W.instObj C dx)/\
   ∃mA,h.Ns1 dx mA/\(∀f,zig (fs.lookup f) (mA f))/\PySem.Within mA (fs.map (·.1))
 | .own _=>∃o,h.get? a=some o
 | .xd fs=>∃mA,h.Ns1 a mA/\∀f,zig (fs.lookup f) (mA f)
 | .rng lo hi=>∃t u v,h.get? a=some { cls:=.type "range",data:=.fields #v[.int lo t,.int hi u,.int 1 v] }
 | .frz o u=>h.get? a=some o/\z8 H h a u
 | .tbl ps=>h.get? a=some { cls:=.none,data:=.fields ps }
 | .met f x=>h.get? a=some (PySem.W.methodObj (.ref f) (.ref x))
 | .ext φ=>φ h/\(∃o,h.get? a=some o)/\∀h1 h2:Heap,φ h1->(∀o,h1.get? a=some o->h2.get? a=some o)->φ h2
def HOk (H:Hp)(h:Heap):Prop:=∀a o,H a=some o->z8 P w H h a o
end
section
variable {P:Ab}{w:Ac}{H H':Hp}{h h':Heap}{a:Addr}{o:HO}
def z8.lt (x:z8 P w H h a o):a<h.objs.size:=by
 cases o with
 | lst xs=>obtain⟨_,_,_,_,e⟩:=x;show ax e
 | tup xs=>obtain⟨_,_,_,p⟩:=x;show p.lt
 | dK BE=>obtain⟨_,_,_,_,o,_,_,e,_⟩:=x;show ax e
 | dT BE=>obtain⟨_,_,_,_,o,_,_,e,_⟩:=x;show ax e
 | set S n=>obtain⟨o,_,_,_,e,_⟩:=x;show ax e
 | ins C dx fs=>obtain⟨_,_,_,e,_⟩:=x;show ax e
 | own y=>obtain⟨_,e⟩:=x;show ax e
 | xd fs=>obtain⟨_,⟨_,_,_,e,_⟩,_⟩:=x;show ax e
 | rng lo hi=>obtain⟨_,_,_,e⟩:=x;show ax e
 | frz ob u=>obtain⟨e,_⟩:=x;show ax e
 | tbl ps=>show ax (show h.get? a=some _ from x)
 | met f y=>show ax (show h.get? a=some _ from x)
 | ext φ=>obtain⟨_,⟨_,e⟩,_⟩:=x;show ax e
theorem Paired.mapP {α β:Type}{F BH:α->β->Prop}:∀ {l₁:List α} {l₂:List β},Paired F l₁ l₂->(∀a b,F a b->BH a b)->Paired BH l₁ l₂
 | _,_,.nil,_=>.nil
 | _,_,.cons r t,f=>.cons (f _ _ r) (Paired.mapP t f)
def z8.stay (x:z8 P w H h a o)(k:∀b u,(b=a\/H b=some (.own a))->h.get? b=some u->h'.get? b=some u)
  (ho:∀b,H b=some (.own a)->H' b=some (.own a)) (ht:∀b xs,H b=some (.tup xs)->H' b=some (.tup xs)):z8 P w H' h' a o:=by
 induction o with
 | lst xs=>obtain⟨z,its,n,r,e⟩:=x;show#[z,its,n,r,k _ _ (.inl BC) e]
 | tup xs=>obtain⟨z,its,r,ob,e,c⟩:=x;show#[z,its,r,ob,k _ _ (.inl BC) e,c]
 | dK BE=>obtain⟨z,y,vs,r,ob,es,ep,e,c⟩:=x;show#[z,y,vs,r,ob,es,ep,k _ _ (.inl BC) e,c]
 | dT BE=>
  obtain⟨z,y,xs,r,ob,es,ep,e,c⟩:=x;show#[z,y,xs,Paired.mapP r λp q z=>#[z.1,ht _ _ z.2.1,z.2.2],ob,es,ep,k _ _ (.inl BC) e,c]
 | set S n=>obtain⟨ob,es,ep,t,e,c⟩:=x;show#[ob,es,ep,t,k _ _ (.inl BC) e,c]
 | ins C dx fs=>
  obtain⟨d,z,ne,e,mA,⟨od,es,ep,e2,c⟩,r⟩:=x;show#[ho _ d,z,ne,k _ _ (.inl BC) e,mA,#[od,es,ep,k _ _ (.inr d) e2,c],r]
 | own y=>obtain⟨ob,e⟩:=x;show#[ob,k _ _ (.inl BC) e]
 | xd fs=>obtain⟨mA,⟨od,es,ep,e,c⟩,r⟩:=x;show#[mA,#[od,es,ep,k _ _ (.inl BC) e,c],r]
 | rng lo hi=>obtain⟨t,u,v,e⟩:=x;show#[t,u,v,k _ _ (.inl BC) e]
 | frz ob u ih=>obtain⟨e,q⟩:=x;show#[k _ _ (.inl BC) e,ih q]
 | tbl ps=>
  have e:h.get? a=some { cls:=.none,data:=.fields ps }:=x;change h'.get? a=some { cls:=.none,data:=.fields ps };show k a _ (.inl BC) e
 | met f y=>
  have e:h.get? a=some (PySem.W.methodObj (.ref f) (.ref y)):=x;change h'.get? a=some (PySem.W.methodObj (.ref f) (.ref y));show k a _ (.inl BC) e
 | ext φ=>obtain⟨p,⟨o,e⟩,st⟩:=x;show#[st _ _ p λo q=>k _ _ (.inl BC) q,#[o,k _ _ (.inl BC) e],st]
def HOk.lt (x:HOk P w H h)(e:H a=some o):a<h.objs.size:=(x a o e).lt
def HOk.fresh (x:HOk P w H h)(e:h.objs.size<=a):H a=none:=by
 cases q:H a with
 | none=>rfl
 | some u=>show absurd (aL (x.lt q) e) (bL _)
def HOk.kept (x:HOk P w H h)(k:∀b u,h.get? b=some u->h'.get? b=some u):HOk P w H h':=λa o e=>
 (x a o e).stay (λb u _ q=>k b u q) (λ_ q=>q) λ_ _ q=>q
def HOk.laid (x:HOk P w H h)(k:∀b u,h.get? b=some u->h'.get? b=some u)(hp:h.objs.size<=a)(new:z8 P w (upd H a o) h' a o):HOk P w (upd H a o) h':=λb u e=>by
 have hn:=x.fresh hp;by_cases hb:b=a;subst hb;rw[zj] at e;cases e;show new;rw[ze hb] at e;show (x b u e).stay (λc v _ q=>k c v q) (λc q=>by rw[ze (zb q hn)];show q) λc xs q=>by rw[ze (zb q hn)];show q
end
def Rd (H:Hp)(a:Addr)(u:HO):Prop:=H a=some u\/∃o,H a=some (.frz o u)
def Rd.ok {P:Ab}{w:Ac}{H:Hp}{h:Heap}{a:Addr}{u:HO}(r:Rd H a u)(x:HOk P w H h):z8 P w H h a u:=by
 rcases r with r | ⟨o,r⟩;show x a u r;obtain⟨_,q⟩:=x a _ r;show q
def Mut:Option HO->Prop
 | some (.lst _)=>True
 | some (.dK _)=>True
 | some (.dT _)=>True
 | some (.set _ _)=>True
 | some (.ins _ _ _)=>True
 | some (.ext _)=>True
 | _=>False
section
variable {P:Ab}{w:Ac}{H:Hp}{h h':Heap}{x e:Addr}{o':HO}
def HOk.write (ok:HOk P w H h)(mu:Mut (H x))(he:e=x\/H e=some (.own x))(k:∀b u,b≠e->h.get? b=some u->h'.get? b=some u)(heo:∃u,h'.get? e=some u)
  (new:z8 P w (upd H x o') h' x o'):HOk P w (upd H x o') h':=λb u q=>by
 have nown:∀c y,H c=some (.own y)->c≠x:=λc y r z=>by subst z;rw[r] at mu;show mu
 have ntup:∀c xs,H c=some (.tup xs)->c≠x:=λc xs r z=>by subst z;rw[r] at mu;show mu
 by_cases hb:b=x;subst hb;rw[zj] at q;cases q;show new;rw[ze hb] at q;by_cases hbe:b=e
 have q':H b=some (.own x):=by
  grind
 rw[q] at q';cases q';obtain⟨v,hv⟩:=heo;show#[v,by rw[hbe];show hv];show (ok b u q).stay (λc v hc r=>k c v ?_ r) (λc r=>by rw[ze (nown c b r)];show r) λc xs r=>by rw[ze (ntup c xs r)];show r
 grind
end
structure Un (fs ex:AZ)(H H':Hp)(h h':Heap):Prop where
 keep:∀b o,h.get? b=some o->H b=none->b∉fs->b∉ex->h'.get? b=some o
 slot:∀b o,h.get? b=some o->H b=none->b∈fs->b∉ex->∃sl,h'.get? b=some { o with slots:=sl }
 free:∀b o,h.get? b=some o->H b=none->b∉ex->H' b=none
 there:∀b o,h.get? b=some o->b∉ex->∃o',h'.get? b=some o'
 tups:∀b xs,H b=some (.tup xs)->H' b=some (.tup xs)
 frzs:∀b o u,H b=some (.frz o u)->H' b=some (.frz o u)
 tbls:∀b ps,H b=some (.tbl ps)->∃more,H' b=some (.tbl (ps++more))
section
variable {fs fs' ex ex':AZ}{H H1 H2:Hp}{h h1 h2 h':Heap}{a x e:Addr}{o:HO}
def Un.any (u:Un fs ex H H1 h h1){b:Addr}{ob:Obj}(q:h.get? b=some ob)(n:H b=none)(hx:b∉ex):∃sl,h1.get? b=some { ob with slots:=sl }:=by
 by_cases hb:b∈fs;show u.slot b ob q n hb hx;show#[ob.slots,u.keep b ob q n hb hx]
def Un.kept (k:∀b u,h.get? b=some u->h'.get? b=some u):Un fs ex H H h h':=
 #[λb ob q _ _ _=>k b ob q,λb ob q _ _ _=>#[ob.slots,k b ob q],λ_ _ _ n _=>n,λb ob q _=>#[ob,k b ob q],λ_ _ q=>q,λ_ _ _ q=>q,λ_ ps q=>#[#v[],by rw[q];simp]]
def Un.refl:Un fs ex H H h h:=Un.kept λ_ _ q=>q
def Un.laid (k:∀b u,h.get? b=some u->h'.get? b=some u)(hp:h.objs.size<=a)(hn:H a=none):Un fs ex H (upd H a o) h h' where
 keep:=λb u q _ _ _=>k b u q
 slot:=λb u q _ _ _=>#[u.slots,k b u q]
 free:=λb u q n _=>by rw[ze (aJ (aL (ax q) hp))];show n
 there:=λb u q _=>#[u,k b u q]
 tups:=λb xs q=>by rw[ze (zb q hn)];show q
 frzs:=λb u xs q=>by rw[ze (zb q hn)];show q
 tbls:=λb ps q=>#[#v[],by rw[ze (zb q hn),q];simp]
def Un.write (mu:Mut (H x))(he:e=x\/H e=some (.own x))(k:∀b u,b≠e->h.get? b=some u->h'.get? b=some u)(heo:∃u,h'.get? e=some u):Un fs ex H (upd H x o) h h':=by
 have hx:∀b,H b=none->b≠x:=λb n z=>by subst z;rw[n] at mu;show mu
 have hb:∀b,H b=none->b≠e:=λb n z=>by grind
 have hm:∀b u,H b=some u->¬ Mut (some u)->b≠x:=λb u q nm z=>by subst z;rw[q] at mu;show nm mu
 show#[λb u q n _ _=>k b u (hb b n) q,λb u q n _ _=>#[u.slots,k b u (hb b n) q],λb u q n _=>by rw[ze (hx b n)];show n,λb u q _=>?_,
  λb xs q=>by rw[ze (hm b _ q λz=>z)];show q,λb u xs q=>by rw[ze (hm b _ q λz=>z)];show q,λb ps q=>#[#v[],by rw[ze (hm b _ q λz=>z),q];simp]]
 grind
end
def trk (h:Heap)(H:Hp):AZ:=(List.range h.objs.size).filter λa=>(H a).isSome
def zly (h:Heap)(H:Hp):Heap:=PySem.W.hideAll h (trk h H)
def zja (h:Heap)(H:Hp):(zly h H).objs.size=h.objs.size:=PySem.W.hideAll_size _ _
def zlz {h:Heap}{H:Hp}{b:Addr}{o:Obj}(e:h.get? b=some o)(n:H b=none):(zly h H).get? b=some o:=
 PySem.W.hideAll_get _ e λhm=>by
  have q:(H b).isSome=true:=(aK.mp hm).2;right
def zoM {h:Heap}{H:Hp}{b:Addr}{o:Obj}(e:(zly h H).get? b=some o):h.get? b=some o/\H b=none:=by
 have e':h.get? b=some o:=PySem.W.of_hideAll (trk h H) e;show#[e',?_]
 cases q:H b with
 | none=>rfl
 | some x=>
  have hm:b∈trk h H:=aK.mpr #[aZ.mpr (ax e'),by simp[q]];have z:(zly h H).get? b=none:=PySem.W.hideAll_none (trk h H) hm;grind
def znC (g h:Heap)(L:Addr):AB:=(List.range h.objs.size).filterMap λa=>if a=L\/(g.get? a).isSome=true then none else (h.get? a).map λo=>(a,o)
def yD (g h:Heap)(L d:Addr):AB:=(znC g h L).filter λp=>decide (p.1≠d)
structure Mod (K:AI)(mg:AJ)(base:Heap):Prop where
 kin:K.In base
 glob:base.Ns mainGlobals mg
 blt:∃mb,base.Ns builtinsNs mb/\∀x:Str,x ≠ "__name__" -> mb x=bootBuiltins x
 nolimit:base.NoLimit
structure Cx where
 prog:Ab
 w:Ac
 K:AI
 mg:AJ
 base:Heap
 A:Af
 N:AN
 s₀:Aa
 H₀:Hp
 env:Env
 outer:List Env
 stack:List Env
 ex:AZ
 fn:Str->Bool
 calm:Bool
 pn:AB
 xe:AA
abbrev Ag (X:Cx){α:Type}:=@wpAny α (model X.prog X.w) X.A
def frs (l:List Env):AZ:=l.filterMap (·.frame)
abbrev Cx.fs (X:Cx):AZ:=frs X.outer
def Vis (sc:Scope)(x:Str):Prop:=sc.names.lookup x=some .local\/sc.names.lookup x=some .cell\/sc.names.lookup x=some .free
def Loc (sc:Scope)(x:Str):Prop:=sc.names.lookup x=some .local\/sc.names.lookup x=some .cell
def Look (env:Env)(h:Heap)(m:AJ)(x:Str)(u:Value):Prop:=
 (env.kindOf x=some .local/\m x=some u)\/((env.kindOf x=some .cell\/env.kindOf x=some .free)/\∃c,env.cells.lookup x=some c/\h.IsCell c (some u))
structure Cx.Ok (X:Cx):Prop where
 mod:Mod X.K X.mg X.base
 kind:X.env.scope.kind = .function
 glob:X.env.globals=mainGlobals
 blt:X.env.builtins=builtinsNs
 above:X.s₀.heap.objs.size<=X.env.locals
 inj:∀x y c,X.env.cells.lookup x=some c->X.env.cells.lookup y=some c->x=y
 has:∀x,(X.env.kindOf x=some .cell\/X.env.kindOf x=some .free)->∃c,X.env.cells.lookup x=some c
 cab:∀x c,X.fn x=true->X.env.cells.lookup x=some c->X.s₀.heap.objs.size<=c
 hd:X.calm=true->X.A.handled=none
 frames:X.A.frames=some X.stack
 stk:X.stack=X.outer\/(X.stack=X.env::X.outer/\X.env.frame=some X.env.locals)
 exf:∀b∈X.ex,b≠X.env.locals/\∀x c,X.env.cells.lookup x=some c->c≠b
 bs:∀b o,X.base.get? b=some o->X.s₀.heap.get? b=some o/\X.H₀ b=none
 bsz:X.base.objs.size<=X.s₀.heap.objs.size
 noex:∀b o,X.base.get? b=some o->b∉X.ex
 exfs:∀b∈X.ex,b∉X.fs
 funs:X.s₀.heap.FunFrames X.base X.outer
 frf:∀b∈X.fs,X.H₀ b=none
structure Inv (X:Cx)(BD:AB)(G:List (Option V))(H:Hp)(s:Aa):Prop where
 ok:X.Ok
 os:s.os=X.s₀.os
 bare:AllBare s.gens
 base:Un X.fs X.ex X.H₀ H X.s₀.heap s.heap
 loc:∃m,s.heap.Ns X.env.locals m/\∀ (i:Nat) (x:Str) (v:V),X.N[i]?=some x->G[i]?=some (some v)->Vis X.env.scope x->∃u,yv v u/\Look X.env s.heap m x u
 cell:∀x c,X.env.cells.lookup x=some c->∃v,s.heap.IsCell c v
 free:H X.env.locals=none
 freeC:∀x c,X.env.cells.lookup x=some c->H c=none
 pin:∀p∈X.pn++BD,s.heap.get? p.1=some p.2/\H p.1=none/\p.1≠X.env.locals/\p.1∉X.fs/\∀v,p.2.data≠.cell v
 hok:HOk X.prog X.w H s.heap
 len:G.length=X.N.length
section
variable {X:Cx}{BD:AB}{G:List (Option V)}{H H':Hp}{s:Aa}{h':Heap}
def Cx.Ok.nofr (ok:X.Ok){b:Addr}{o:Obj}(e:X.base.get? b=some o):b∉X.fs:=λhb=>by
 have:=(ok.funs.mem hb).1;grind
def Inv.bs (I:Inv X BD G H s):∀b o,X.base.get? b=some o->s.heap.get? b=some o/\H b=none:=λb o e=>
 #[I.base.keep b o (I.ok.bs b o e).1 (I.ok.bs b o e).2 (I.ok.nofr e) (I.ok.noex b o e),I.base.free b o (I.ok.bs b o e).1 (I.ok.bs b o e).2 (I.ok.noex b o e)]
def Inv.bk (I:Inv X BD G H s):∀b o,X.base.get? b=some o->s.heap.get? b=some o:=λb o e=>(I.bs b o e).1
def Inv.mod (I:Inv X BD G H s):Mod X.K X.mg X.base:=I.ok.mod
def Inv.kIn (I:Inv X BD G H s):X.K.In s.heap:=I.ok.mod.kin.keeps I.bk
def Inv.lt (I:Inv X BD G H s):X.env.locals<s.heap.objs.size:=let ⟨_,hn,_⟩:=I.loc;hn.lt
def Inv.sz (I:Inv X BD G H s):X.s₀.heap.objs.size<=s.heap.objs.size:=av I.ok.above (dG I.lt)
def Inv.nofs (I:Inv X BD G H s){a:Addr}(h:s.heap.objs.size<=a):a∉X.fs:=λhb=>by obtain⟨_,o,ho,_⟩:=I.ok.funs.mem hb;show absurd (aL (ax ho) (av I.sz h)) (bL _)
def Inv.cne (I:Inv X BD G H s):∀x c,X.env.cells.lookup x=some c->c≠X.env.locals:=λx c e z=>by
 obtain⟨v,o,ho,hd⟩:=I.cell x c e;obtain⟨m,⟨o',es,ep,ho',hd',_⟩,_⟩:=I.loc;grind
def Inv.funs (I:Inv X BD G H s):s.heap.FunFrames X.base X.outer:=by
 have all:∀ (l:List Env),(∀b∈frs l,b∈X.fs)->X.s₀.heap.FunFrames X.base l->s.heap.FunFrames X.base l:=by
  intro l
  induction l with
  | nil=>intro _ _;trivial
  | cons env r ih=>
   intro hs hl;obtain⟨hk,⟨L,o,hf,hn,ho,hd⟩,hr⟩:=hl;have hL:L∈X.fs:=hs L (by unfold frs;rw[cK,hf];show am);obtain⟨sl,e⟩:=I.base.slot L o ho (I.ok.frf L hL) hL λz=>I.ok.exfs L z hL;show#[hk,#[L,_,hf,hn,e,hd],ih (λb hb=>hs b (by unfold frs;rw[cK,hf];show ao _ hb)) hr]
 show all X.outer (λ_ hb=>hb) I.ok.funs
def Inv.stack (I:Inv X BD G H s):s.heap.FunFrames X.base X.stack:=by
 rcases I.ok.stk with e | ⟨e,hf⟩;rw[e];show I.funs;rw[e];obtain⟨m,hn,_⟩:=I.loc;show .cons (by rw[I.ok.kind];decide) hf hn ?_ I.funs;show Heap.get?_none_of_le (av I.ok.bsz I.ok.above)
def Inv.stkSub (I:Inv X BD G H s):∀b∈frs X.stack,b∈X.env.locals::X.fs:=λb hb=>by
 rcases I.ok.stk with e | ⟨e,hf⟩;grind;rw[e] at hb;unfold frs at hb;rw[cK,hf] at hb;show hb
def Inv.stkFree (I:Inv X BD G H s):∀b∈frs X.stack,H b=none:=λb hb=>by
 rcases aG.mp (I.stkSub b hb) with e | hb;rw[e];show I.free;obtain⟨_,o,ho,_⟩:=I.ok.funs.mem hb;show I.base.free b o ho (I.ok.frf b hb) λz=>I.ok.exfs b z hb
def Inv.step {g':Array GenState}{t':Nat}{d':Drawn}{ch:AZ}(I:Inv X BD G H s)
  (hch:∀b∈ch,(b∈X.ex\/X.s₀.heap.objs.size<=b)/\b≠X.env.locals/\(∀x c,X.env.cells.lookup x=some c->c≠b)/\∀p∈X.pn++BD,p.1≠b)
  (keep:∀b o,b≠X.env.locals->b∉X.fs->b∉ch->s.heap.get? b=some o->H b=none->h'.get? b=some o)
  (slot:∀b o,b≠X.env.locals->b∈X.fs->b∉ch->s.heap.get? b=some o->H b=none->∃sl,h'.get? b=some { o with slots:=sl }) (free:∀b o,b∉ch->s.heap.get? b=some o->H b=none->H' b=none)
  (there:∀b o,b∉ch->s.heap.get? b=some o->∃o',h'.get? b=some o')
  (tups:∀b xs,H b=some (.tup xs)->H' b=some (.tup xs)) (frzs:∀b o u,H b=some (.frz o u)->H' b=some (.frz o u)) (tbls:∀b ps,H b=some (.tbl ps)->∃more,H' b=some (.tbl (ps++more)))
  (ns:∀m,s.heap.Ns X.env.locals m->h'.Ns X.env.locals m) (hok:HOk X.prog X.w H' h') (hg:AllBare g') :
  Inv X BD G H' { s with heap:=h',gens:=g',drawn:=d',toks:=t' }:=by
 have neL:∀b o,X.s₀.heap.get? b=some o->b≠X.env.locals:=λb o e=>aJ (aL (ax e) I.ok.above)
 have neC:∀b o,X.s₀.heap.get? b=some o->b∉X.ex->b∉ch:=λb o e hx hb=>by
  rcases (hch b hb).1 with z | z;show hx z;show absurd (aL (ax e) z) (bL _)
 have cellK:∀x c,X.env.cells.lookup x=some c->∀v,s.heap.IsCell c v->h'.IsCell c v:=by
  rintro x c e v ⟨o,ho,hd⟩;have nch:c∉ch:=λz=>(hch c z).2.2.1 x c e BC;by_cases hc:c∈X.fs;obtain⟨sl,q⟩:=slot c o (I.cne x c e) hc nch ho (I.freeC x c e);show#[_,q,hd];show#[o,keep c o (I.cne x c e) hc nch ho (I.freeC x c e),hd]
 show#[I.ok,I.os,hg,#[λb o e n hb hx=>?_,λb o e n hb hx=>?_,λb o e n hx=>?_,λb o e hx=>?_,λb xs e=>tups b xs (I.base.tups b xs e),λb o xs e=>frzs b o xs (I.base.frzs b o xs e),λb ps e=>?_],?_,λx c e=>?_,?_,λx c e=>?_,λp hp=>?_,hok,I.len];show keep b o (neL b o e) hb (neC b o e hx) (I.base.keep b o e n hb hx) (I.base.free b o e n hx);obtain⟨sl,e1⟩:=I.base.slot b o e n hb hx;obtain⟨sl',e2⟩:=slot b _ (neL b o e) hb (neC b o e hx) e1 (I.base.free b o e n hx);show#[sl',e2];obtain⟨o',e1⟩:=I.base.there b o e hx;show free b o' (neC b o e hx) e1 (I.base.free b o e n hx);obtain⟨o',e1⟩:=I.base.there b o e hx;right;obtain⟨m1,e1⟩:=I.base.tbls b ps e;grind;obtain⟨m,hn,hl⟩:=I.loc;show#[m,ns m hn,λi x v e1 e2 e3=>?_];obtain⟨u,r,l⟩:=hl i x v e1 e2 e3;show#[u,r,?_];rcases l with l | ⟨k,c,e,z⟩;show .inl l;show .inr #[k,c,e,cellK x c e _ z];obtain⟨v,z⟩:=I.cell x c e;show#[v,cellK x c e v z];obtain⟨m,⟨o,_,_,ho,_⟩,_⟩:=I.loc;show free _ o (λz=>(hch _ z).2.1 BC) ho I.free;obtain⟨v,o,ho,hd⟩:=I.cell x c e;show free c o (λz=>(hch c z).2.2.1 x c e BC) ho (I.freeC x c e);obtain⟨e,n,ne,nf,d⟩:=I.pin p hp;have nch:p.1∉ch:=λz=>(hch p.1 z).2.2.2 p hp BC;right
def Inv.un {t':Nat}(I:Inv X BD G H s)(u:Un X.fs [] H H' s.heap h')(hok:HOk X.prog X.w H' h'):Inv X BD G H' { s with heap:=h',toks:=t' }:=by
 obtain⟨m,⟨o,es,ep,ho,r⟩,_⟩:=id I.loc;obtain⟨sl,hL⟩:=u.any ho I.free (by simp);show I.step (g':=s.gens) (d':=s.drawn) (ch:=[]) (λ_ z=>nomatch z) (λb o _ hb _ e n=>u.keep b o e n hb (by simp)) (λb o _ hb _ e n=>u.slot b o e n hb (by simp)) (λb o _ e n=>u.free b o e n (by simp)) (λb o _ e=>u.there b o e (by simp)) u.tups u.frzs u.tbls (λm' hm=>by obtain⟨o',es',ep',ho',r'⟩:=hm;rw[ho] at ho';cases ho';show#[_,es',ep',hL,r']) hok I.bare
def Inv.call {g':Array GenState}{t':Nat}{d':Drawn}{ch:AZ}(I:Inv X BD G H s)(u:Un (frs X.stack) ch H H' s.heap h')(hok:HOk X.prog X.w H' h')(hg:AllBare g')
  (hch:∀b∈ch,(b∈X.ex\/X.s₀.heap.objs.size<=b)/\b≠X.env.locals/\(∀x c,X.env.cells.lookup x=some c->c≠b)/\∀p∈X.pn++BD,p.1≠b) :
  Inv X BD G H' { s with heap:=h',gens:=g',drawn:=d',toks:=t' }:=by
 obtain⟨m,⟨o,es,ep,ho,r⟩,_⟩:=id I.loc;obtain⟨sl,hL⟩:=u.any ho I.free λz=>(hch _ z).2.1 BC;show I.step (ch:=ch) hch (λb o hL hb hc e n=>u.keep b o e n (λz=>(aG.mp (I.stkSub b z)).elim hL hb) hc) (λb o _ _ hc e n=>u.any e n hc) (λb o hc e n=>u.free b o e n hc) (λb o hc e=>u.there b o e hc) u.tups u.frzs u.tbls (λm' hm=>by obtain⟨o',es',ep',ho',r'⟩:=hm;rw[ho] at ho';cases ho';show#[_,es',ep',hL,r']) hok hg
def Inv.turned {t':Nat}{it:Addr}(I:Inv X BD G H s)(k:∀b o,b≠it->s.heap.get? b=some o->h'.get? b=some o)(hn:H it=none)(hL:it≠X.env.locals)
  (h1:it∈X.ex\/X.s₀.heap.objs.size<=it) (h2:∀x c,X.env.cells.lookup x=some c->c≠it) (h3:∀p∈X.pn++BD,p.1≠it):Inv X BD G H { s with heap:=h',toks:=t' }:=by
 have nit:∀b u,H b=some u->b≠it:=λb u e z=>by rw[z,hn] at e;cases e
 show I.step (g':=s.gens) (d':=s.drawn) (ch:=[it]) (λb hb=>?_) (λb o _ _ hc e _=>k b o (λz=>hc (by simp[z])) e) (λb o _ _ hc e _=>#[o.slots,k b o (λz=>hc (by simp[z])) e]) (λ_ _ _ _ n=>n)
  (λb o hc e=>#[o,k b o (λz=>hc (by simp[z])) e]) (λ_ _ e=>e) (λ_ _ _ e=>e) (λb ps e=>#[#v[],by rw[e];simp]) (λm hm=>?_) (λb u e=>?_) I.bare
 have e:b=it:=by simpa using hb
 subst e;show#[h1,hL,h2,h3];obtain⟨o,es,ep,ho,r⟩:=hm;show#[o,es,ep,k _ o (Ne.symm hL) ho,r];show (I.hok b u e).stay (λc v hc q=>k c v ?_ q) (λ_ q=>q) λ_ _ q=>q;grind
def Inv.tok (I:Inv X BD G H s)(t:Nat):Inv X BD G H { s with toks:=t }:=I.un (h':=s.heap) (t':=t) Un.refl I.hok
def Inv.kept {t':Nat}(I:Inv X BD G H s)(k:∀b u,s.heap.get? b=some u->h'.get? b=some u):Inv X BD G H { s with heap:=h',toks:=t' }:=I.un (Un.kept k) (I.hok.kept k)
def Inv.laid {a:Addr}{o:HO}{t':Nat}(I:Inv X BD G H s)(k:∀b u,s.heap.get? b=some u->h'.get? b=some u)(hp:s.heap.objs.size<=a)(new:z8 X.prog X.w (upd H a o) h' a o) :
  Inv X BD G (upd H a o) { s with heap:=h',toks:=t' }:=I.un (Un.laid k hp (I.hok.fresh hp)) (I.hok.laid k hp new)
def Inv.write {x e:Addr}{o:HO}{t':Nat}(I:Inv X BD G H s)(mu:Mut (H x))(he:e=x\/H e=some (.own x))(k:∀b u,b≠e->s.heap.get? b=some u->h'.get? b=some u)(heo:∃u,h'.get? e=some u)
  (new:z8 X.prog X.w (upd H x o) h' x o):Inv X BD G (upd H x o) { s with heap:=h',toks:=t' }:=I.un (Un.write mu he k heo) (I.hok.write mu he k heo new)
def Inv.pins_of {pins':AB}(I:Inv X BD G H s)(h:∀p∈pins',s.heap.get? p.1=some p.2/\H p.1=none/\p.1≠X.env.locals/\p.1∉X.fs/\∀v,p.2.data≠.cell v):Inv X pins' G H s:=
 #[I.ok,I.os,I.bare,I.base,I.loc,I.cell,I.free,I.freeC,λp hp=>(aE.mp hp).elim (λz=>I.pin p (bi _ z)) (h p),I.hok,I.len]
def zg2 {N:AN}(hN:N.Nodup){i j:Nat}{x:Str}(a:N[i]?=some x)(b:N[j]?=some x):i=j:=by obtain⟨h1,e1⟩:=ae.mp a;obtain⟨h2,e2⟩:=ae.mp b;show (bM hN).mp (e1.trans e2.symm)
def zfq {M:Model}{A:Af}{E:AA}{i:Nat}{x:Str}{v:V}{u:Value}{Q:Unit->Aa->Prop}(I:Inv X BD G H s)(hN:X.N.Nodup)(hi:X.N[i]?=some x)(hx:Loc X.env.scope x)(r:yv v u)
  (h:∀s',Inv X BD (G.set i (some v)) H s'->(∃a,Heap.SameBut a s.heap s'.heap/\(a=X.env.locals\/X.env.cells.lookup x=some a))->Q () s') (hf:X.fn x=true\/X.env.scope.names.lookup x=some .local:=by fail"l"):wpAny M A (storeName X.env x u) Q E s:=by
 obtain⟨m,hn,hl⟩:=id I.loc;have hcls:(X.env.scope.kind==.class || (X.env.scope.kind==.module&&X.env.locals != X.env.globals))=false:=by rw[I.ok.kind];rfl
 have hiσ:i<G.length:=by rw[I.len];show (ae.mp hi).1
 have cne:=I.cne
 have tracked:∀ {a:Addr} {h':Heap},(∃o,s.heap.get? a=some o/\H a=none)->Heap.SameBut a s.heap h'->HOk X.prog X.w H h':=λ{a h'} ha hs b ob e=>by
  obtain⟨_,_,hfree⟩:=ha;show (I.hok b ob e).stay (λc w' hc q=>(hs.2 c ?_).trans q) (λ_ q=>q) λ_ _ q=>q;grind
 rcases hx with hk | hk;show wpAny_storeName_local hk hn (λh' hn' hs=>?_) hcls;obtain⟨oL,_,_,hoL,_⟩:=id hn;show h _ #[I.ok,I.os,I.bare,#[λb o e n hb hx=>?_,λb o e n hb hx=>?_,I.base.free,λb o e hx=>?_,I.base.tups,I.base.frzs,I.base.tbls],#[_,hn',λj y v' e1 e2 e3=>?_],λy c e=>?_,I.free,I.freeC,λp hp=>?_,tracked #[oL,hoL,I.free] hs,by simpa using I.len] #[_,hs,.inl BC];show (hs.2 b (aJ (aL (ax e) I.ok.above))).trans (I.base.keep b o e n hb hx);obtain⟨sl,e1⟩:=I.base.slot b o e n hb hx;show#[sl,(hs.2 b (aJ (aL (ax e) I.ok.above))).trans e1];obtain⟨o',e1⟩:=I.base.there b o e hx;show#[o',(hs.2 b (aJ (aL (ax e) I.ok.above))).trans e1];by_cases hj:j=i;subst hj;rw[hi] at e1;cases e1;rw[aW hiσ] at e2;cases e2;show#[u,r,.inl #[hk,by simp]];rw[aF (Ne.symm hj)] at e2;obtain⟨u',r',q⟩:=hl j y v' e1 e2 e3;show#[u',r',?_];rcases q with ⟨k,e⟩ | ⟨k,c,e,z⟩;show .inl #[k,?_];have:y≠x:=λe=>hj (zg2 hN e1 (e ▸ hi));simp[this,e];show .inr #[k,c,e,z.sameBut hs (cne y c e)];obtain⟨w',z⟩:=I.cell y c e;show#[w',z.sameBut hs (cne y c e)];obtain⟨e,n,ne,nf,d⟩:=I.pin p hp;show#[(hs.2 p.1 ne).trans e,n,ne,nf,d]
 have hfn:X.fn x=true:=by
  grind
 obtain⟨c,hc⟩:=I.ok.has x (.inl hk);obtain⟨w',z⟩:=I.cell x c hc;show wpAny_storeName_cell I.ok.kind hk hc z (λh' hc' hs=>?_);obtain⟨oc,hoc,hocd⟩:=id z;show h { s with heap:=h' } #[I.ok,I.os,I.bare,#[λb o e n hb hx=>?_,λb o e n hb hx=>?_,I.base.free,λb o e hx=>?_,I.base.tups,I.base.frzs,I.base.tbls],#[m,hn.sameBut hs (Ne.symm (cne x c hc)),λj y v' e1 e2 e3=>?_],λy c' e=>?_,I.free,I.freeC,λp hp=>?_,tracked #[oc,hoc,I.freeC x c hc] hs,by simpa using I.len] #[c,hs,.inr hc];show (hs.2 b (aJ (aL (ax e) (I.ok.cab x c hfn hc)))).trans (I.base.keep b o e n hb hx);obtain⟨sl,e1⟩:=I.base.slot b o e n hb hx;show#[sl,(hs.2 b (aJ (aL (ax e) (I.ok.cab x c hfn hc)))).trans e1];obtain⟨o',e1⟩:=I.base.there b o e hx;show#[o',(hs.2 b (aJ (aL (ax e) (I.ok.cab x c hfn hc)))).trans e1];by_cases hj:j=i;subst hj;rw[hi] at e1;cases e1;rw[aW hiσ] at e2;cases e2;show#[u,r,.inr #[.inl hk,c,hc,hc']];rw[aF (Ne.symm hj)] at e2;obtain⟨u',r',q⟩:=hl j y v' e1 e2 e3;show#[u',r',?_];rcases q with q | ⟨k,c',e,z'⟩;show .inl q;show .inr #[k,c',e,z'.sameBut hs ?_];rintro rfl;show hj (zg2 hN e1 (I.ok.inj _ _ _ e hc ▸ hi));by_cases hcc:c'=c;subst hcc;show#[_,hc'];obtain⟨w2,z2⟩:=I.cell y c' e;show#[w2,z2.sameBut hs hcc];obtain⟨e,n,ne,nf,d⟩:=I.pin p hp;show#[(hs.2 p.1 ?_).trans e,n,ne,nf,d];intro q;right
def zhj {M:Model}{A:Af}{E:AA}{i:Nat}{x:Str}{v:V}{u:Value}{Q:Unit->Aa->Prop}(I:Inv X BD G H s)(hN:X.N.Nodup)(hi:X.N[i]?=some x)(hx:Loc X.env.scope x)(r:yv v u)
  (h:∀s',Inv X BD (G.set i (some v)) H s'->Q () s') (hf:X.fn x=true\/X.env.scope.names.lookup x=some .local:=by fail"l"):wpAny M A (storeName X.env x u) Q E s:=
 zfq I hN hi hx r (λs' I' _=>h s' I') hf
def Inv.call' {s':Aa}{ch:AZ}(I:Inv X BD G H s)(ho:s'.os=s.os)(u:Un (frs X.stack) ch H H' s.heap s'.heap)(hok:HOk X.prog X.w H' s'.heap)(hg:AllBare s'.gens)
  (hch:∀b∈ch,(b∈X.ex\/X.s₀.heap.objs.size<=b)/\b≠X.env.locals/\(∀x c,X.env.cells.lookup x=some c->c≠b)/\∀p∈X.pn++BD,p.1≠b):Inv X BD G H' s':=by
 obtain⟨h',g',d',t',o'⟩:=s';have e:o'=s.os:=ho;subst e;show I.call (g':=g') (t':=t') (d':=d') u hok hg hch
end
abbrev XK:=Value->Option Addr->Hp->Prop
abbrev St:=List (Option V)
abbrev VK:=V->Hp->Prop
abbrev TE:=St->Hp->VK->Prop
abbrev TT:=St->Hp->(Bool->Hp->Prop)->Prop
abbrev TA:=St->Hp->(AU->Hp->Prop)->Prop
structure Ends where
 nx:St->Hp->Prop
 rt:VK
 bk:St->Hp->Prop:=λ_ _=>False
 ct:St->Hp->Prop:=λ_ _=>False
abbrev TS:=Ends->St->Hp->Prop
def EP (X:Cx)(BD:AB)(G:St)(Q:VK)(u:Value)(s':Aa):Prop:=∃v H',Inv X BD G H' s'/\yv v u/\Q v H'
def TP (X:Cx)(BD:AB)(G:St)(Q:Bool->Hp->Prop)(b:Bool)(s':Aa):Prop:=∃H',Inv X BD G H' s'/\Q b H'
def AP (X:Cx)(BD:AB)(G:St)(Q:AU->Hp->Prop)(us:AO)(s':Aa):Prop:=∃vs H',Inv X BD G H' s'/\z9 vs us/\Q vs H'
def SP (X:Cx)(BD:AB)(BI:Ends)(f:Flow)(s':Aa):Prop:=
 match f with
 | .next=>∃ σ' H',Inv X BD σ' H' s'/\BI.nx σ' H'
 | .brk=>∃ σ' H',Inv X BD σ' H' s'/\BI.bk σ' H'
 | .cont=>∃ σ' H',Inv X BD σ' H' s'/\BI.ct σ' H'
 | .ret u=>∃v σ' H',Inv X BD σ' H' s'/\yv v u/\BI.rt v H'
def PE (X:Cx)(e:Expr)(t:TE):Prop:=
 ∀ (BD:AB) (s:Aa) (G:St) (H:Hp) (Q:VK),Inv X BD G H s->t G H Q->Ag X (eval e X.env) (EP X BD G Q) X.xe s
def PT (X:Cx)(e:Expr)(t:TT):Prop:=
 ∀ (BD:AB) (s:Aa) (G:St) (H:Hp) (Q:Bool->Hp->Prop),Inv X BD G H s->t G H Q->Ag X (isTrue e X.env (eval e X.env)) (TP X BD G Q) X.xe s
def PW (X:Cx)(e:Expr)(t:TT):Prop:=
 ∀ (whole:Sem Value) (BD:AB) (s:Aa) (G:St) (H:Hp) (Q:Bool->Hp->Prop),Inv X BD G H s->t G H Q->Ag X (isTrue e X.env whole) (TP X BD G Q) X.xe s
def PW.pt {X:Cx}{e:Expr}{t:TT}(h:PW X e t):PT X e t:=h _
def PA (X:Cx)(es:AQ)(t:TA):Prop:=
 ∀ (pos:Pos) (BD:AB) (s:Aa) (G:St) (H:Hp) (Q:AU->Hp->Prop),Inv X BD G H s->t G H Q->Ag X (spliced (backTo pos (starEach es X.env))) (AP X BD G Q) X.xe s
def PS (X:Cx)(st:Stmt)(t:TS):Prop:=
 ∀ (BD:AB) (s:Aa) (G:St) (H:Hp) (BI:Ends),Inv X BD G H s->t BI G H->Ag X (exec st X.env) (SP X BD BI) X.xe s
def PSs (X:Cx)(st:List Stmt)(t:TS):Prop:=
 ∀ (BD:AB) (s:Aa) (G:St) (H:Hp) (BI:Ends),Inv X BD G H s->t BI G H->Ag X (execs st X.env) (SP X BD BI) X.xe s
def thn {α:Type}{t:Sem α}{Q Q':α->Aa->Prop}{M:Model}{A:Af}{E:AA}{s:Aa}(h:wpAny M A t Q E s)(hQ:∀a s,Q a s->Q' a s):wpAny M A t Q' E s:=bA h hQ λ_ _ x=>x
section
variable {X:Cx}
def znw (i:Nat):TE:=λG H Q=>∃v,G[i]?=some (some v)/\Q v H
def tC (v:V):TE:=λ_ H Q=>Q v H
def zr1 {i:Nat}{x:Str}{pos:Pos}(hN:X.N[i]?=some x)(hv:Vis X.env.scope x)(hd:Ai x:=by ext)(hcd:(x==("__classdict__" : Str))=false:=by ext):PE X (.Name x pos) (znw i):=by
 intro BD s G H Q I h;obtain⟨v,e,h⟩:=h;obtain⟨m,hn,hl⟩:=I.loc;obtain⟨u,r,l⟩:=hl i x v hN e hv;have fin:EP X BD G Q u s:=#[v,H,I,r,h];rcases l with ⟨hk,hm⟩ | ⟨hk,c,hc,hcell⟩;show wpAny_Name (wpAny_loadName_local I.ok.kind hk hn hm fin) hd;rcases hk with hk | hk;show wpAny_Name (wpAny_loadName_cell I.ok.kind hk hc hcell fin) hd;show wpAny_Name (wpAny_loadName_free I.ok.kind hk hc hcell fin hcd) hd
def zrX {i j pos}:PE X (.Constant (.int i) j pos) (tC (.int i)):=λ_ _ _ H _ I h=>wpAny_Constant_int #[.int i,H,I.tok _,#[_,BC],h]
def zvh {b j pos}:PE X (.Constant (.bool b) j pos) (tC (.bl b)):=λ_ _ _ H _ I h=>Constant_bool #[.bl b,H,I,BC,h]
def zrY {j pos}:PE X (.Constant .none j pos) (tC .non):=λ_ _ _ H _ I h=>Constant_none #[.non,H,I,BC,h]
def zr0 {x j pos}:PE X (.Constant (.str x) j pos) (tC (.str x)):=λ_ _ _ H _ I h=>Calls.Constant_str #[.str x,H,I.tok _,#[_,BC],h]
def Gl (X:Cx)(x:Str):Prop:=X.env.kindOf x=some .globalImplicit
def zjt {E:AA}{BD:AB}{s:Aa}{G:St}{H:Hp}{x:Str}{u:Value}{pos:Pos}{Q:AA}(I:Inv X BD G H s)(hg:Gl X x)(hm:X.mg x=some u)(h:Q u s)
  (hd:Ai x:=by ext):Ag X (eval (.Name x pos) X.env) Q E s:=
 Calls.Name_function_global I.ok.kind hg (Calls.loadGlobal_global (by rw[I.ok.glob];show I.mod.glob.keeps I.bk) hm h) hd
def zcg {E:AA}{BD:AB}{s:Aa}{G:St}{H:Hp}{x:Str}{u:Value}{pos:Pos}{Q:AA}(I:Inv X BD G H s)(hg:Gl X x)(hm:X.mg x=none)(hv:bootBuiltins x=some u)(h:Q u s)
  (hn:x ≠ "__name__" := by ext) (hd:Ai x:=by ext):Ag X (eval (.Name x pos) X.env) Q E s:=by
 obtain⟨mb,h1,h2⟩:=I.mod.blt;show Calls.Name_function_global I.ok.kind hg (Calls.loadGlobal_builtin (by rw[I.ok.glob];show I.mod.glob.keeps I.bk) hm (by rw[I.ok.blt];show h1.keeps I.bk) ((h2 x hn).trans hv) h) hd
def zo6 {x:Str}{v:V}{u:Value}{pos:Pos}(hg:Gl X x)(hm:X.mg x=some u)(r:yv v u)(hd:Ai x:=by ext):PE X (.Name x pos) (tC v):=
 λ_ _ _ H _ I h=>zjt I hg hm #[v,H,I,r,h] hd
def zo0 {x:Str}{v:V}{u:Value}{pos:Pos}(hg:Gl X x)(hm:X.mg x=none)(hv:bootBuiltins x=some u)(r:yv v u)(hn:x ≠ "__name__" := by ext)(hd:Ai x:=by ext):PE X (.Name x pos) (tC v):=
 λ_ _ _ H _ I h=>zcg I hg hm hv #[v,H,I,r,h] hn hd
variable {a b:Expr}{ta tb:TE}{pos:Pos}
def PC (X:Cx)(op:CmpOp)(a b:Expr)(t:TE):Prop:=
 ∀ (BD:AB) (s:Aa) (G:St) (H:Hp) (Q:VK),Inv X BD G H s->t G H Q->
  Ag X (eval a X.env) (λv s₁=>Ag X (eval b X.env) (λu s₂=>Ag X (compareOp op v u) (EP X BD G Q) X.xe s₂) X.xe s₁) X.xe s
def zdV (b:Expr){op:CmpOp}(h:op≠.In)(h2:op≠.NotIn):behindInMarks op b=false:=by
 have e1:(op==CmpOp.In)=false:=by cases op <;> first | rfl | show absurd BC h
 have e2:(op==CmpOp.NotIn)=false:=by cases op <;> first | rfl | show absurd BC h2
 cases b <;> simp[behindInMarks,e1,e2]
def zp3 (ta:TE):TE:=λG H Q=>ta G H λx H1=>Q (.bl (!decide (x = .non))) H1
def yv.none_iff {x:V}{v:Value}(r:yv x v):(v==Value.none)=decide (x = .non):=by
 cases x with
 | non=>cases r;rfl
 | bl _=>cases r;rfl
 | int _=>obtain⟨t,rfl⟩:=r;rfl
 | str _=>obtain⟨t,rfl⟩:=r;rfl
 | byt _=>obtain⟨t,rfl⟩:=r;rfl
 | flt _=>obtain⟨t,rfl⟩:=r;rfl
 | ref _=>cases r;rfl
 | ty _=>cases r;rfl
def zoZ {j pos'}(ha:PE X a ta):PC X .IsNot a (.Constant .none j pos') (zp3 ta):=by intro BD s G H Q I h;show thn (ha BD s G H _ I h)  ?_;rintro v s1 ⟨x,H1,I1,r1,q1⟩;show Constant_none (isnot_none_gen #[.bl _,H1,I1,by rw[r1.none_iff];rfl,q1])
def tB (t:TE):TT:=λG H Q=>t G H λx H1=>∃c,x = .bl c/\Q c H1
def zsd {op:CmpOp}{t:TE}(h:PC X op a b t)(h1:behindInMarks op b=false:=by first | show zdV _ (by ext) (by ext) | rfl):PT X (.Compare a [op] [b] pos) (tB t):=by intro BD s G H Q I hw;show wpAny_isTrue_Compare1 (thn (h BD s G H _ I hw) λv s1 h1=>thn h1 λu s2 h2=>thn h2 λc s3 ⟨x,H1,I1,r1,q1⟩=>?_) h1;obtain⟨d,rfl,q⟩:=q1;cases r1;show bW #[H1,I1,q]
def zsf {e:Expr}{t:TE}(h:PE X e t)(he:∀whole,isTrue e X.env whole=(do let v <- whole;standAt e.pos;holding [v] (truthy v)):=by intro _;rfl):PT X e (tB t):=by intro BD s G H Q I hw;show isTrue_plain (thn (h BD s G H _ I hw) λv s1 ⟨x,H1,I1,r1,q1⟩=>?_) (he _);obtain⟨d,rfl,q⟩:=q1;cases r1;show bW #[H1,I1,q]
variable {tA tB':TT}{yD:AQ}
def zvz (t u:TT):TT:=λG H Q=>t G H λc H1=>if c=true then u G H1 Q else Q false H1
def tOr (t u:TT):TT:=λG H Q=>t G H λc H1=>if c=true then Q true H1 else u G H1 Q
def tNot (t:TT):TT:=λG H Q=>t G H λc H1=>Q (!c) H1
def zpp (ha:PT X a tA):PW X (.BoolOp .And [a] pos) tA:=by
 intro wh BD s G H Q I h;show isTrue_and (thn (ha BD s G H Q I h) λc s1 e=>?_)
 cases c with
 | true=>show isTrue_and_nil e
 | false=>show e
def zsh (ha:PT X a tA):PW X (.BoolOp .Or [a] pos) tA:=by
 intro wh BD s G H Q I h;show isTrue_or (thn (ha BD s G H Q I h) λc s1 e=>?_)
 cases c with
 | false=>show isTrue_or_nil e
 | true=>show e
def zsg (ha:PT X a tA)(hb:PW X (.BoolOp .And (b::yD) pos) tB'):PW X (.BoolOp .And (a::b::yD) pos) (zvz tA tB'):=by
 intro wh BD s G H Q I h;show isTrue_and (thn (ha BD s G H _ I h)  ?_);rintro c s1 ⟨H1,I1,q1⟩
 cases c with
 | true=>show hb wh BD s1 G H1 Q I1 q1
 | false=>show#[H1,I1,q1]
def zvo (ha:PT X a tA)(hb:PW X (.BoolOp .Or (b::yD) pos) tB'):PW X (.BoolOp .Or (a::b::yD) pos) (tOr tA tB'):=by
 intro wh BD s G H Q I h;show isTrue_or (thn (ha BD s G H _ I h)  ?_);rintro c s1 ⟨H1,I1,q1⟩
 cases c with
 | true=>show#[H1,I1,q1]
 | false=>show hb wh BD s1 G H1 Q I1 q1
def zse (ha:PT X a tA):PT X (.UnaryOp .Not a pos) (tNot tA):=by intro BD s G H Q I h;show isTrue_not (ha BD s G H (λc H1=>Q (!c) H1) I h)
def zsX (ta tb:TE):TE:=λG H Q=>ta G H λx H1=>∃c,x = .bl c/\if c=true then tb G H1 Q else Q (.bl false) H1
def zrZ {op}{t:TE}(h:PE X a t):PE X (.BoolOp op [a] pos) t:=λBD s G H Q I hw=>BoolOp_one (h BD s G H Q I hw)
def zrV (ha:PE X a ta)(hb:PE X (.BoolOp .And (b::yD) pos) tb):PE X (.BoolOp .And (a::b::yD) pos) (zsX ta tb):=by
 intro BD s G H Q I h;show BoolOp_and (thn (ha BD s G H _ I h)  ?_);rintro v s1 ⟨x,H1,I1,r1,q1⟩;obtain⟨c,rfl,q1⟩:=q1;cases r1;show bW ?_
 cases c with
 | true=>show hb BD s1 G H1 Q I1 q1
 | false=>show#[.bl false,H1,I1,BC,q1]
def tIf (t:TT)(ta tb:TE):TE:=λG H Q=>t G H λc H1=>if c=true then ta G H1 Q else tb G H1 Q
def zma {c:Expr}(hc:PT X c tA)(ha:PE X a ta)(hb:PE X b tb):PE X (.IfExp c a b pos) (tIf tA ta tb):=by
 intro BD s G H Q I h;show wpAny_IfExp (thn (hc BD s G H _ I h)  ?_);rintro d s1 ⟨H1,I1,q1⟩
 cases d with
 | true=>show ha BD s1 G H1 Q I1 q1
 | false=>show hb BD s1 G H1 Q I1 q1
end
def SqL (K:AI)(H:Hp)(a:Addr)(xs:AU):Prop:=
 Rd H a (.lst xs)\/
  ∃ (o:Obj) (its:AL) (n:Nat),K.lookup a=some o/\o.cls = .type "list" /\ o.dict=none/\o.data = .seq its n/\its.size<=sizeLine/\z9 xs its.toList
def SqT (K:AI)(H:Hp)(a:Addr)(xs:AU):Prop:=
 Rd H a (.tup xs)\/
  ∃ (o:Obj) (its:AL) (n:Nat),K.lookup a=some o/\o.cls = .type "tuple" /\ o.data = .seq its n/\its.size<=sizeLine/\z9 xs its.toList
def absV:Value->Option V
 | .none=>some .non
 | .bool b=>some (.bl b)
 | .int i _=>some (.int i)
 | .str x _=>some (.str x)
 | .bytes b _=>some (.byt b)
 | .float b _=>some (.flt b)
 | .ref a=>some (.ref a)
 | .type n=>some (.ty n)
 | _=>none
def yv.abs {x:V}{u:Value}(r:yv x u):absV u=some x:=by
 cases x with
 | non=>cases r;rfl
 | bl _=>cases r;rfl
 | int _=>obtain⟨t,rfl⟩:=r;rfl
 | str _=>obtain⟨t,rfl⟩:=r;rfl
 | byt _=>obtain⟨t,rfl⟩:=r;rfl
 | flt _=>obtain⟨t,rfl⟩:=r;rfl
 | ref _=>cases r;rfl
 | ty _=>cases r;rfl
def yv.inj {x y:V}{u:Value}(r:yv x u)(q:yv y u):x=y:=bH (r.abs.symm.trans q.abs)
theorem z9.inj:∀ {xs ys:AU} {us:AO},z9 xs us->z9 ys us->xs=ys
 | _,_,_,.nil,.nil=>rfl
 | _,_,_,.cons r t,.cons r' t'=>by rw[r.inj r',z9.inj t t']
section
variable {X:Cx}{BD:AB}{G:St}{H:Hp}{s:Aa}{a:Addr}{xs ys:AU}
def SqL.of {K:AI}(h:H a=some (.lst xs)):SqL K H a xs:=.inl (.inl h)
def SqT.of {K:AI}(h:H a=some (.tup xs)):SqT K H a xs:=.inl (.inl h)
def Inv.list (I:Inv X BD G H s)(h:SqL X.K H a xs):∃its:AO,z9 xs its/\PlainL s.heap a its.toArray/\xs.length<=sizeLine:=by
 rcases h with h | ⟨o,its,n,hk,hc,hd,hs,hz,r⟩;obtain⟨z,its,n,r,e⟩:=h.ok I.hok;show#[its,r,#[_,n,e,BC,BC,BC],z];show#[its.toList,r,#[o,n,I.kIn a o hk,hc,hd,by simpa using hs],?_];have e:=r.length;grind
def Inv.tuple (I:Inv X BD G H s)(h:SqT X.K H a xs):∃its:AO,z9 xs its/\IsTup s.heap a its.toArray/\xs.length<=sizeLine:=by
 rcases h with h | ⟨o,its,n,hk,hc,hs,hz,r⟩;obtain⟨z,its,r,p⟩:=h.ok I.hok;show#[its,r,p.tup,z];show#[its.toList,r,#[o,I.kIn a o hk,hc,n,by simpa using hs],?_];have e:=r.length;grind
def Inv.list_inj (I:Inv X BD G H s)(h:SqL X.K H a xs)(h':SqL X.K H a ys):xs=ys:=by
 obtain⟨its,r,⟨o,n,e,_,_,d⟩,_⟩:=I.list h;obtain⟨its',r',⟨o',n',e',_,_,d'⟩,_⟩:=I.list h';rw[e] at e';cases e';rw[d] at d';injection d' with d1 _;have:its=its':=by simpa using congrArg Array.toList d1
 subst this;show r.inj r'
def Inv.tuple_inj (I:Inv X BD G H s)(h:SqT X.K H a xs)(h':SqT X.K H a ys):xs=ys:=by
 obtain⟨its,r,⟨o,e,_,n,d⟩,_⟩:=I.tuple h;obtain⟨its',r',⟨o',e',_,n',d'⟩,_⟩:=I.tuple h';rw[e] at e';cases e';rw[d] at d';injection d' with d1 _;have:its=its':=by simpa using congrArg Array.toList d1
 subst this;show r.inj r'
end
abbrev Cx.wish (X:Cx)(E:AA):Cx:={ X with xe:=E }
abbrev Cx.nox (X:Cx):Cx:=X.wish λ_ _=>False
def Cx.Ok.wish {X:Cx}(ok:X.Ok)(E:AA):(X.wish E).Ok:=
 #[ok.mod,ok.kind,ok.glob,ok.blt,ok.above,ok.inj,ok.has,ok.cab,ok.hd,ok.frames,ok.stk,ok.exf,ok.bs,ok.bsz,ok.noex,ok.exfs,ok.funs,ok.frf]
def Cx.Ok.unwish {X:Cx}{E:AA}(ok:(X.wish E).Ok):X.Ok:=
 #[ok.mod,ok.kind,ok.glob,ok.blt,ok.above,ok.inj,ok.has,ok.cab,ok.hd,ok.frames,ok.stk,ok.exf,ok.bs,ok.bsz,ok.noex,ok.exfs,ok.funs,ok.frf]
section
variable {X:Cx}{BD:AB}{G:St}{H:Hp}{s:Aa}{E:AA}
def Inv.wish (I:Inv X BD G H s)(E:AA):Inv (X.wish E) BD G H s:=#[I.ok.wish E,I.os,I.bare,I.base,I.loc,I.cell,I.free,I.freeC,I.pin,I.hok,I.len]
def Inv.unwish (I:Inv (X.wish E) BD G H s):Inv X BD G H s:=#[I.ok.unwish,I.os,I.bare,I.base,I.loc,I.cell,I.free,I.freeC,I.pin,I.hok,I.len]
def SP.unwish {BI:Ends}{f:Flow}{s':Aa}(h:SP (X.wish E) BD BI f s'):SP X BD BI f s':=by
 cases f with
 | next=>obtain⟨σ',H',I,q⟩:=h;show#[σ',H',I.unwish,q]
 | brk=>obtain⟨σ',H',I,q⟩:=h;show#[σ',H',I.unwish,q]
 | cont=>obtain⟨σ',H',I,q⟩:=h;show#[σ',H',I.unwish,q]
 | ret u=>obtain⟨v,σ',H',I,r,q⟩:=h;show#[v,σ',H',I.unwish,r,q]
def PSs.nox {st:List Stmt}{t:TS}(h:PSs X.nox st t):PSs X st t:=λBD s G H BI I hw=>
 bA (h BD s G H BI (I.wish _) hw) (λ_ _ q=>q.unwish) λ_ _ z=>False.elim z
variable {st:Stmt}{yD:List Stmt}{t u:TS}{e:Expr}{te:TE}{pos:Pos}
def zs2:TS:=λBI G H=>BI.nx G H
def zvF (t u:TS):TS:=λBI G H=>t { BI with nx:=u BI } G H
def zpj:PSs X [] zs2:=λ_ _ G H _ I h=>eO #[G,H,I,h]
def zml (h1:PS X st t)(h2:PSs X yD u):PSs X (st::yD) (zvF t u):=by
 intro BD s G H BI I h;show wpAny_execs_cons (thn (h1 BD s G H { BI with nx:=u BI } I h) λf s1 q=>?_)
 cases f with
 | next=>
  obtain⟨σ',H',I',q⟩:=q;show h2 BD s1 σ' H' BI I' q
 | ret v=>show q
 | brk=>show q
 | cont=>show q
def zpk (h1:PS X st t):PSs X [st] t:=by
 intro BD s G H BI I h;show wpAny_execs_cons (thn (h1 BD s G H BI I h) λf s1 q=>?_)
 cases f with
 | next=>show eO q
 | ret v=>show q
 | brk=>show q
 | cont=>show q
def Inv.quiet {BD:AB}{G:St}{H:Hp}{s:Aa}(I:Inv X BD G H s):interactive X.env=false:=by simp[interactive,I.ok.kind]
def zp2 (te:TE):TS:=λBI G H=>te G H λ_ H1=>BI.nx G H1
def zpi (he:PE X e te)(hs:swapsWith e none pos.line X.env=pure false:=by rfl):PS X (.Expr e pos) (zp2 te):=by intro BD s G H BI I h;show wpAny_Expr_any (thn (he BD s G H _ I h) <| by rintro v s1 ⟨x,H1,I1,r1,q1⟩;show#[G,H1,I1,q1]) I.quiet hs
def ztK (te:TE):TS:=λBI G H=>te G H BI.rt
def zsb (he:PE X e te):PS X (.Return (some e) pos) (ztK te):=by intro BD s G H BI I h;show wpAny_Return_some (thn (he BD s G H _ I h) <| by rintro v s1 ⟨x,H1,I1,r1,q1⟩;show#[x,G,H1,I1,r1,q1])
def tIfS (c:TT)(t u:TS):TS:=λBI G H=>c G H λb H1=>if b=true then t BI G H1 else u BI G H1
def zvn {c:Expr}{a b:List Stmt}{tc:TT}(hc:PT X c tc)(ha:PSs X a t)(hb:PSs X b u):PS X (.If c a b pos) (tIfS tc t u):=by
 intro BD s G H BI I h;show wpAny_If (thn (hc BD s G H _ I h)  ?_);rintro d s1 ⟨H1,I1,q1⟩
 cases d with
 | true=>show ha BD s1 G H1 BI I1 q1
 | false=>show hb BD s1 G H1 BI I1 q1
end
abbrev TG:=V->St->Hp->(St->Hp->Prop)->Prop
abbrev TGs:=AU->St->Hp->(St->Hp->Prop)->Prop
def PG (X:Cx)(target:Expr)(t:TG):Prop:=
 ∀ (BD:AB) (s:Aa) (G:St) (H:Hp) (v:V) (u:Value) (Q:St->Hp->Prop),Inv X BD G H s->yv v u->t v G H Q->
  Ag X (assign target X.env u) (λ_ s'=>∃ σ' H',Inv X BD σ' H' s'/\Q σ' H') X.xe s
def PGs (X:Cx)(ts:AQ)(t:TGs):Prop:=
 ∀ (BD:AB) (s:Aa) (G:St) (H:Hp) (vs:AU) (us:AO) (Q:St->Hp->Prop),Inv X BD G H s->z9 vs us->t vs G H Q->
  Ag X (assignInOrder ((assignEach ts X.env).map (·.2)) us) (λ_ s'=>∃ σ' H',Inv X BD σ' H' s'/\Q σ' H') X.xe s
section
variable {X:Cx}{pos:Pos}
def zaL (i:Nat):TG:=λv G H Q=>Q (G.set i (some v)) H
def zo9 {i:Nat}{x:Str}(hN:X.N.Nodup)(hi:X.N[i]?=some x)(hx:Loc X.env.scope x)(hf:X.fn x=true\/X.env.scope.names.lookup x=some .local:=by fail"l"):PG X (.Name x pos) (zaL i):=by intro BD s G H v u Q I r h;show wpAny_assign_Name (zhj I hN hi hx r (λs' I'=>#[_,H,I',h]) hf)
def gNil:TGs:=λvs G H Q=>vs=[]/\Q G H
def zq1 (t:TG)(u:TGs):TGs:=λvs G H Q=>∃v r,vs=v::r/\t v G H λσ' H'=>u r σ' H' Q
def zpa:PGs X [] gNil:=by intro BD s G H vs us Q I r h;obtain⟨e,h⟩:=h;subst e;cases r;show assignInOrder_nil #[G,H,I,h]
def zme {e:Expr}{es:AQ}{t:TG}{u:TGs}(h1:PG X e t)(h2:PGs X es u)
  (hs:(assignEach (e::es) X.env).map (·.2)=assign e X.env::(assignEach es X.env).map (·.2):=by rfl):PGs X (e::es) (zq1 t u):=by
 intro BD s G H vs us Q I r h;obtain⟨v,vr,e1,h⟩:=h;subst e1
 cases r with
 | cons r rr=>
  rw[hs];show assignInOrder_cons (thn (h1 BD s G H _ _ _ I r h)  ?_);rintro _ s1 ⟨σ1,H1,I1,q1⟩;show h2 BD s1 σ1 H1 _ _ Q I1 rr q1
def zuy (K:AI)(n:Nat)(t:TGs):TG:=λv G H Q=>∃a xs,v = .ref a/\SqT K H a xs/\xs.length=n/\t xs G H Q
def zr7 {es:AQ}{k:Nat}{t:TGs}{n:Nat}(hc:X.calm=true)(h:PGs X es t)
  (hn:(assignEach es X.env).length=n:=by rfl) (hst:(assignEach es X.env).findIdx? (·.1)=none:=by rfl):PG X (.Tuple es k pos) (zuy X.K n t):=by
 intro BD s G H v u Q I r hw;obtain⟨a,xs,e1,hq,hl,hw⟩:=hw;subst e1;cases r;obtain⟨its,rv,ht,hz⟩:=I.tuple hq;show assign_Tuple_tuple (I.ok.hd hc) ht (by simp[hn,<- hl,rv.length]) hst λh' hx=>?_;have I1:Inv X BD G H { s with heap:=h' }:=I.kept (t':=s.toks) λb o e=>hx b o (aJ (ax e)) e;show h BD _ G H xs _ Q I1 (by simpa using rv) hw
def zhm (te:TE)(g:TG):TS:=λBI G H=>te G H λx H1=>g x G H1 BI.nx
def zr9 {tg e:Expr}{te:TE}{g:TG}(he:PE X e te)(hg:PG X tg g)(hs:swapsWithSole [tg] e pos.line X.env=pure false:=by rfl)(hw:swappedStores [tg] e X.env=pure none:=by rfl)
  (h1:(assignEach [tg] X.env).map (·.2)=[assign tg X.env]:=by rfl):PS X (.Assign [tg] e pos) (zhm te g):=by
 intro BD s G H BI I h;show wpAny_Assign_stores (thn (he BD s G H _ I h) λv s1 ⟨x,H1,I1,r1,q1⟩=>?_) hs hw;rw[h1];show thn (hg BD s1 G H1 x v _ I1 r1 q1) λ_ s2 q=>q
def zsc {i:Nat}{x:Str}{e:Expr}{te:TE}{pos':Pos}(hN:X.N.Nodup)(hi:X.N[i]?=some x)(hx:Loc X.env.scope x)(he:PE X e te)(hs:swapsWith e (some (.Name x pos')) pos.line X.env=pure false:=by rfl)(hf:X.fn x=true\/X.env.scope.names.lookup x=some .local:=by fail"l") :
  PS X (.Assign [.Name x pos'] e pos) (zhm te (zaL i)):=by
 intro BD s G H BI I h;show wpAny_Assign_Name (thn (he BD s G H _ I h) λv s1 ⟨y,H1,I1,r1,q1⟩=>?_) hs;show zhj I1 hN hi hx r1 (λs2 I2=>#[_,H1,I2,q1]) hf
def zs6 (c:TT)(tb:TS):TS:=λBI G H=>∃W:Nat->St->Hp->Prop,(∃m,W m G H)/\∀m G H,W m G H->
 c G H λb H1=>if b=true then ∃N:St->Hp->Prop,(∀ σ' H',N σ' H'->∃m',m'<m/\W m' σ' H')/\tb { BI with nx:=N,ct:=N,bk:=BI.nx } G H1 else BI.nx G H1
def zmk {c:Expr}{body:List Stmt}{tc:TT}{tb:TS}(hp:PassesOwn (model X.prog X.w) X.A X.env X.xe)(hc:PT X c tc)(hb:PSs X body tb):PS X (.While c body [] pos) (zs6 tc tb):=by
 intro BD s G H BI I h;obtain⟨W,⟨m0,w0⟩,turn⟩:=h;show wpAny_While (codeAny_whileLoop (λn s'=>∃ σ' H',Inv X BD σ' H' s'/\W n σ' H') ?_ m0 #[G,H,I,w0]);rintro n s1 ⟨σ1,H1,I1,w1⟩;show cG hp (thn (hc BD s1 σ1 H1 _ I1 (turn n σ1 H1 w1))  ?_);rintro b s2 ⟨H2,I2,q2⟩
 cases b with
 | true=>
  obtain⟨N,hN,q2⟩:=q2;rw[if_pos rfl];show cG hp (thn (hb BD s2 σ1 H2 _ I2 q2) λf s3 q3=>?_)
  cases f with
  | next=>
   obtain⟨σ3,H3,I3,n3⟩:=q3;obtain⟨m',hm,w3⟩:=hN σ3 H3 n3;show#[m',hm,σ3,H3,I3,w3]
  | cont=>
   obtain⟨σ3,H3,I3,n3⟩:=q3;obtain⟨m',hm,w3⟩:=hN σ3 H3 n3;show#[m',hm,σ3,H3,I3,w3]
  | brk=>show q3
  | ret v=>show q3
 | false=>
  rw[if_neg aM];show eO #[σ1,H2,I2,q2]
end
structure It where
 go:Nat->Hp->Prop
 yld:Nat->Hp->V->Hp->Prop
 stop:Nat->Hp->Prop
def zen (X:Cx)(BD:AB)(H:Hp)(b:Addr):Prop:=
 H b=none/\b≠X.env.locals/\b∉X.fs/\(b∈X.ex\/X.s₀.heap.objs.size<=b)/\(∀x c,X.env.cells.lookup x=some c->c≠b)/\∀p∈X.pn++BD,p.1≠b
def Inv.fpOk {X:Cx}{BD:AB}{G:St}{H H':Hp}{s:Aa}{b:Addr}(I:Inv X BD G H s)(hb:s.heap.objs.size<=b)(hn:H' b=none):zen X BD H' b:=by
 show#[hn,cA (aL I.lt hb),I.nofs hb,.inr (av I.sz hb),λx c e z=>?_,λp hp z=>?_];obtain⟨v,q⟩:=I.cell x c e;show absurd (aL q.lt (by rw[z];show hb)) (bL _);show absurd (aL (ax (I.pin p hp).1) (by rw[z];show hb)) (bL _)
structure Turn (P:Ab)(w:Ac)(K:AI)(tg:Expr)(J:It)(fp:AZ)(it:Addr)(tn:Nat->Heap->Prop):Prop where
 mem:it∈fp
 obj:∀i h,tn i h->∀b∈fp,∃o,h.get? b=some o/\∀v,o.data≠.cell v
 keep:∀i h h',tn i h->(∀b∈fp,∀o,h.get? b=some o->h'.get? b=some o)->tn i h'
 item:∀ (X:Cx),X.prog=P->X.w=w->X.K=K->X.calm=true->∀ (i:Nat) (BD:AB) (s:Aa) (G:St) (H:Hp) (E:AA),Inv X BD G H s->(∀b∈fp,zen X BD H b)->tn i s.heap->J.go i H->
  wpAny (model P w) X.A (pyNext (.ref it)) (λr s1=>∃u,r=some u/\
   wpAny (model P w) X.A (letOwnedTupleGo tg (.ref it) u) (λ_ s2=>∃x H',Inv X BD G H' s2/\yv x u/\J.yld i H x H'/\tn (i+1) s2.heap/\∀b∈fp,H' b=none) E s1) E s
 done:∀ (X:Cx),X.prog=P->X.w=w->X.K=K->X.calm=true->∀ (i:Nat) (BD:AB) (s:Aa) (G:St) (H:Hp) (E:AA),Inv X BD G H s->(∀b∈fp,zen X BD H b)->tn i s.heap->J.stop i H->
  wpAny (model P w) X.A (pyNext (.ref it)) (λr s1=>r=none/\Inv X BD G H s1) E s
 self:∀ (A:Af) (i:Nat) (s:Aa) (Q:AA) (E:AA),tn i s.heap->Q (.ref it) s->wpAny (model P w) A (pyIter (.ref it)) Q E s
abbrev TI:=St->Hp->(It->Hp->Prop)->Prop
def PIE (X:Cx)(BD:AB)(G:St)(tg:Expr)(R:It->Hp->Prop)(itv:Value)(s2:Aa):Prop:=
 ∃ (it:Addr) (fp:AZ) (tn:Nat->Heap->Prop) (J:It) (H':Hp),itv = .ref it/\Inv X BD G H' s2/\Turn X.prog X.w X.K tg J fp it tn/\tn 0 s2.heap/\(∀b∈fp,zen X BD H' b)/\R J H'
def PI (X:Cx)(tg iter:Expr)(wi:TI):Prop:=
 ∀ (BD:AB) (s:Aa) (G:St) (H:Hp) (R:It->Hp->Prop),Inv X BD G H s->wi G H R->
  Ag X (eval iter X.env) (λv s1=>Ag X (pyIter v) (PIE X BD G tg R) X.xe s1) X.xe s
def zlx {M:Model}{A:Af}{E:AA}{s:Aa}{tg:Expr}{it:Addr}{u:Value}{o:Obj}{n:String}{vs:AL}{Q:Unit->Aa->Prop}(ho:s.heap.get? it=some o)(hc:o.cls = .type n)(hd:o.data = .fields vs)
  (hn:["enumerate","zip","dict_itemiterator","dict_reverseitemiterator","odict_iterator","itertools.zip_longest","itertools.pairwise"].contains n=false) (hQ:Q () s):wpAny M A (letOwnedTupleGo tg (.ref it) u) Q E s:=by
 unfold letOwnedTupleGo
 cases tg <;> first
  | show ai hQ
  | (cases u <;> first
    | show ai hQ
    | (show aa (wpAny_load ho ?_)
       rw[hc,hd];change wpAny M A (if (["enumerate","zip","dict_itemiterator","dict_reverseitemiterator","odict_iterator","itertools.zip_longest","itertools.pairwise"].contains n&&vs[0]?==some (rawInt _))=true then _ else _) Q E s;rw[if_neg (by lia)];show ai hQ))
def Itl (K:AI)(a:Addr):It:=
 #[λi H=>∃xs x,SqL K H a xs/\xs[i]?=some x,λi H x H'=>H'=H/\∀xs,SqL K H a xs->xs[i]?=some x,λi H=>∃xs,SqL K H a xs/\xs.length<=i]
def Itt (K:AI)(a:Addr):It:=
 #[λi H=>∃xs x,SqT K H a xs/\xs[i]?=some x,λi H x H'=>H'=H/\∀xs,SqT K H a xs->xs[i]?=some x,λi H=>∃xs,SqT K H a xs/\xs.length<=i]
def Itr (lo:Int)(n:Nat):It:=#[λi _=>i<n,λi H x H'=>H'=H/\x = .int (lo+i),λi _=>n<=i]
def zkV {P:Ab}{w:Ac}{K:AI}{tg:Expr}(a it:Addr):Turn P w K tg (Itl K a) [it] it (λi h=>h.IsListIter it a i) where
 mem:=by simp
 obj:=λi h st b hb=>by
  have e:b=it:=by simpa using hb
  subst e;obtain⟨o,e,c,d⟩:=st;right
 keep:=λi h h' st k=>st.at λo e=>k it (by simp) o e
 item:=by intro X hP hw hK hc i BD s G H E I hf st hg;subst hP hw hK;obtain⟨xs,x,hq,hx⟩:=hg;obtain⟨its,rv,p,hz⟩:=I.list hq;obtain⟨u,hu,ru⟩:=rv.get hx;obtain⟨f0,f1,f2,f3,f4,f5⟩:=hf it (by simp);show wpAny_pyNext_list_item st p.isList (x:=u) (by simpa using hu) λh' st' sb=>?_;have I1:Inv X BD G H { s with heap:=h' }:=I.turned (t':=s.toks) (λb o hb e=>(sb.2 b hb).trans e) f0 f1 f3 f4 f5;obtain⟨o,e,c,d⟩:=id st';show#[u,BC,zlx (s:={ s with heap:=h' }) e c d (by ext) #[x,H,I1,ru,#[BC,λys hy=>by rw[I.list_inj hy hq];show hx],st',λb hb=>(hf b hb).1]]
 done:=by intro X hP hw hK hc i BD s G H E I hf st hg;subst hP hw hK;obtain⟨xs,hq,hx⟩:=hg;obtain⟨its,rv,p,hz⟩:=I.list hq;obtain⟨f0,f1,f2,f3,f4,f5⟩:=hf it (by simp);have hl:=rv.length;show wpAny_pyNext_list_end (I.ok.hd hc) st p.isList (by simp;lia) λh' eb=>#[BC,I.turned (t':=s.toks) (λb o hb e=>eb b o hb e) f0 f1 f3 f4 f5]
 self:=λ_ _ _ _ _ st h=>wpAny_pyIter_listiter st h
def zh7 {P:Ab}{w:Ac}{K:AI}{tg:Expr}(a it:Addr):Turn P w K tg (Itt K a) [it] it (λi h=>h.IsTupleIter it a i) where
 mem:=by simp
 obj:=λi h st b hb=>by
  have e:b=it:=by simpa using hb
  subst e;obtain⟨o,e,c,d⟩:=st;right
 keep:=λi h h' st k=>st.at λo e=>k it (by simp) o e
 item:=by intro X hP hw hK hc i BD s G H E I hf st hg;subst hP hw hK;obtain⟨xs,x,hq,hx⟩:=hg;obtain⟨its,rv,p,hz⟩:=I.tuple hq;obtain⟨u,hu,ru⟩:=rv.get hx;obtain⟨f0,f1,f2,f3,f4,f5⟩:=hf it (by simp);show wpAny_pyNext_tuple_item st (show s.heap.IsTuple a its.toArray from p) (x:=u) (by simpa using hu) λh' st' sb=>?_;have I1:Inv X BD G H { s with heap:=h' }:=I.turned (t':=s.toks) (λb o hb e=>(sb.2 b hb).trans e) f0 f1 f3 f4 f5;obtain⟨o,e,c,d⟩:=id st';show#[u,BC,zlx (s:={ s with heap:=h' }) e c d (by ext) #[x,H,I1,ru,#[BC,λys hy=>by rw[I.tuple_inj hy hq];show hx],st',λb hb=>(hf b hb).1]]
 done:=by intro X hP hw hK hc i BD s G H E I hf st hg;subst hP hw hK;obtain⟨xs,hq,hx⟩:=hg;obtain⟨its,rv,p,hz⟩:=I.tuple hq;obtain⟨f0,f1,f2,f3,f4,f5⟩:=hf it (by simp);have hl:=rv.length;show wpAny_pyNext_tuple_end (I.ok.hd hc) st (show s.heap.IsTuple a its.toArray from p) (by simp;lia) λh' eb=>#[BC,I.turned (t':=s.toks) (λb o hb e=>eb b o hb e) f0 f1 f3 f4 f5]
 self:=λ_ _ _ _ _ st h=>wpAny_pyIter_tupleiter st h
def zh6 {P:Ab}{w:Ac}{K:AI}{tg:Expr}(it:Addr)(lo:Int)(n:Nat):Turn P w K tg (Itr lo n) [it] it (λi h=>IsRangeIter h it (lo+(i:Nat) * 1) ((n:Int) - (i:Nat)) 1) where
 mem:=by simp
 obj:=λi h st b hb=>by right
 keep:=λi h h' st k=>k it (by simp) _ st
 item:=by intro X hP hw hK hc i BD s G H E I hf st hg;subst hP hw hK;obtain⟨f0,f1,f2,f3,f4,f5⟩:=hf it (by simp);have W:=Walks.range (prog:=X.prog) (w:=X.w) (I.ok.hd hc) it lo 1 n;show W.item i s _ _ hg st λv h' tk hv st' kk=>?_;obtain⟨t,rfl⟩:=hv;have I1:Inv X BD G H { s with heap:=h',toks:=tk }:=I.turned (λb o hb e=>kk b o (by simpa using hb) e) f0 f1 f3 f4 f5;show#[_,BC,zlx (s:={ s with heap:=h',toks:=tk }) (n := "range_iterator") st' BC BC (by ext) #[.int (lo+i),H,I1,#[t,?_],#[BC,BC],st',λb hb=>(hf b hb).1]];rw[Int.mul_one]
 done:=by intro X hP hw hK hc i BD s G H E I hf st hg;subst hP hw hK;obtain⟨f0,f1,f2,f3,f4,f5⟩:=hf it (by simp);show wpAny_pyNext_range_end (I.ok.hd hc) st (by have:n<=i:=hg;lia) λh' eb=>#[BC,I.turned (t':=s.toks) (λb o hb e=>eb b o hb e) f0 f1 f3 f4 f5]
 self:=λ_ _ _ _ _ st h=>wpAny_pyIter_rangeiter st h
section
variable {X:Cx}{tg:Expr}
def zn9 (K:AI)(tl:TE):TI:=λG H R=>tl G H λx H1=>∃a,x = .ref a/\(∃xs,SqL K H1 a xs)/\R (Itl K a) H1
def zuA (K:AI)(tl:TE):TI:=λG H R=>tl G H λx H1=>∃a,x = .ref a/\(∃xs,SqT K H1 a xs)/\R (Itt K a) H1
def zpc {l:Expr}{tl:TE}(hl:PE X l tl):PI X tg l (zn9 X.K tl):=by
 intro BD s G H R I h;show thn (hl BD s G H _ I h)  ?_;rintro v s1 ⟨x,H1,I1,r1,q1⟩;obtain⟨a,e,⟨xs,hq⟩,q⟩:=q1;subst e;cases r1;obtain⟨its,rv,p,hz⟩:=I1.list hq;show fG p.isList ?_;show#[s1.heap.objs.size,[s1.heap.objs.size],_,_,H1,BC,I1.kept (t':=s1.toks) λb o e=>af _ e,zkV a _,#[_,aw _ BC,BC,BC],λb hb=>?_,q];have e:b=s1.heap.objs.size:=by simpa using hb
 subst e;show I1.fpOk (ak _) (I1.hok.fresh (ak _))
def zr8 {l:Expr}{tl:TE}(hl:PE X l tl):PI X tg l (zuA X.K tl):=by
 intro BD s G H R I h;show thn (hl BD s G H _ I h)  ?_;rintro v s1 ⟨x,H1,I1,r1,q1⟩;obtain⟨a,e,⟨xs,hq⟩,q⟩:=q1;subst e;cases r1;obtain⟨its,rv,p,hz⟩:=I1.tuple hq;show b8 (show s1.heap.IsTuple a its.toArray from p) ?_;show#[s1.heap.objs.size,[s1.heap.objs.size],_,_,H1,BC,I1.kept (t':=s1.toks) λb o e=>af _ e,zh7 a _,#[_,aw _ BC,BC,BC],λb hb=>?_,q];have e:b=s1.heap.objs.size:=by simpa using hb
 subst e;show I1.fpOk (ak _) (I1.hok.fresh (ak _))
def zmy {BD:AB}{G:St}{H:Hp}{s:Aa}{R:It->Hp->Prop}{E:AA}{lo hi:Int}{t u v:Tok}{tk:Nat}(I:Inv X BD G H s)(h1:-(2 ^ 62)<=lo)(h2:lo<2 ^ 62)(h3:-(2 ^ 62)<=hi)(h4:hi<2 ^ 62)
  (q:R (Itr lo (hi - lo).toNat) H):Ag X (pyIter (.ref s.heap.objs.size)) (PIE X BD G tg R) E { s with heap:=s.heap.push { cls:=.type "range",data:=.fields #v[.int lo t,.int hi u,.int 1 v] },toks:=tk }:=by
 show wpAny_pyIter_range (IsRange.new ..) (small_one h1 h2 h3 h4) ?_;have I1:Inv X BD G H { s with heap:=s.heap.push { cls:=.type "range",data:=.fields #v[.int lo t,.int hi u,.int 1 v] },toks:=tk }:=I.kept λb o e=>af _ e
 show#[(s.heap.push { cls:=.type "range",data:=.fields #v[.int lo t,.int hi u,.int 1 v] }).objs.size,[(s.heap.push { cls:=.type "range",data:=.fields #v[.int lo t,.int hi u,.int 1 v] }).objs.size],_,_,H,BC,
  I1.kept (t':=tk) λb o e=>af _ e,zh6 _ lo (hi - lo).toNat,?_,λb hb=>?_,q]
 ·have e1:lo+((0:Nat):Int) * 1=lo:=by simp
  have e2:(((hi - lo).toNat:Nat):Int) - ((0:Nat):Int)=Builtin.Range.rangeSize lo hi 1:=by rw[rangeSize_one];split <;> lia
  change IsRangeIter _ _ (lo+((0:Nat):Int) * 1) ((((hi - lo).toNat:Nat):Int) - ((0:Nat):Int)) 1;rw[e1,e2];show aw _ BC
 have e:b=(s.heap.push { cls:=.type "range",data:=.fields #v[.int lo t,.int hi u,.int 1 v] }).objs.size:=by simpa using hb
 subst e;show I1.fpOk (ak _) (I1.hok.fresh (ak _))
def zq5 (ta:TA):TI:=λG H R=>ta G H λvs H1=>∃j:Int,vs=[.int j]/\-(2 ^ 62)<=j/\j<2 ^ 62/\R (Itr 0 j.toNat) H1
def zkb {a:Expr}{ta:TA}{p pos:Pos}(hg:Gl X "range")(hm:X.mg "range" = none)(ha:PA X [a] ta)(hs:starEach [a] X.env=[(false,eval a X.env)]:=by rfl):PI X tg (.Call (.Name "range" p) [a] [] pos) (zq5 ta):=by
 intro BD s G H R I h;show Call_ (zcg I hg hm boot_range (bR (thn (ha pos BD s G H _ I h) λus s1 ⟨vs,H1,I1,r1,q1⟩=>?_) hs BC));obtain⟨j,e,q1,q2,q⟩:=q1;subst e
 cases r1 with
 | cons r rr=>
  cases rr;obtain⟨t,rfl⟩:=r;show call_range_1 (zmy I1 (by lia) (by lia) q1 q2 (by simpa using q))
def zvC (wi:TI)(g:TG)(tb:TS):TS:=λBI G H=>wi G H λJ H1=>∃W:Nat->Nat->St->Hp->Prop,(∃m,W 0 m G H1)/\∀i m G H,W i m G H->
 (J.stop i H/\BI.nx G H)\/(J.go i H/\∃N:St->Hp->Prop,(∀ σ' H',N σ' H'->∃m',m'<m/\W (i+1) m' σ' H')/\∀x H',J.yld i H x H'->g x G H' λσ2 H2=>tb { BI with nx:=N,ct:=N,bk:=BI.nx } σ2 H2)
def zfa (fp:AZ)(h:Heap):AB:=fp.filterMap λb=>(h.get? b).map λo=>(b,o)
def zbg {fp:AZ}{h:Heap}{b:Addr}{o:Obj}(hb:b∈fp)(e:h.get? b=some o):(b,o)∈zfa fp h:=cZ.mpr #[b,hb,by rw[e];rfl]
def zjV {fp:AZ}{h:Heap}{p:Addr×Obj}(hp:p∈zfa fp h):p.1∈fp/\h.get? p.1=some p.2:=by
 obtain⟨b,hb,e⟩:=cZ.mp hp
 cases q:h.get? b with
 | none=>rw[q] at e;cases e
 | some o=>
  grind
def Inv.pinned {BD:AB}{G:St}{H:Hp}{s:Aa}{fp:AZ}(I:Inv X BD G H s)(hf:∀b∈fp,zen X BD H b)(ho:∀b∈fp,∃o,s.heap.get? b=some o/\∀v,o.data≠.cell v):Inv X (BD++zfa fp s.heap) G H s:=
 I.pins_of λp hp=>(aE.mp hp).elim (λz=>I.pin p (ba _ z)) λz=>by
  obtain⟨hb,e⟩:=zjV z;obtain⟨f0,f1,f2,_⟩:=hf p.1 hb;obtain⟨o,e',d⟩:=ho p.1 hb;right
def Inv.unpinned {BD pl:AB}{G:St}{H:Hp}{s:Aa}(I:Inv X (BD++pl) G H s):Inv X BD G H s:=I.pins_of λp hp=>I.pin p (ba _ (bi _ hp))
def zsa {iter:Expr}{body:List Stmt}{wi:TI}{g:TG}{tb:TS}{pos:Pos}(hp:PassesOwn (model X.prog X.w) X.A X.env X.xe)(hc:X.calm=true)(hi:PI X tg iter wi)(hg:PG X tg g)(hb:PSs X body tb)
  (hs:∀x,foldedSetIterable iter X.env x=pure x:=by intro _;rfl):PS X (.For tg iter body [] pos) (zvC wi g tb):=by
 intro BD s G H BI I h;show wpAny_For (thn (hi BD s G H _ I h) λv s1 h1=>thn h1 λitv s2 h2=>?_) hs;obtain⟨it,fp,tn,J,H2,e,I2,T,st2,f2,W,⟨m0,w0⟩,turn⟩:=h2;subst e;have stat:∀ {H':Hp},(∀b∈fp,H' b=none)->∀b∈fp,zen X BD H' b:=λhn b hb=>#[hn b hb,(f2 b hb).2];show codeAny_forLoop_any (λn s'=>∃i σ' H',Inv X BD σ' H' s'/\tn i s'.heap/\(∀b∈fp,H' b=none)/\W i n σ' H') ?_ m0 #[0,G,H2,I2,st2,λb hb=>(f2 b hb).1,w0];rintro n s3 ⟨i,σ3,H3,I3,st3,fr3,w3⟩;rcases turn i n σ3 H3 w3 with ⟨stop,qn⟩ | ⟨go,N,hN,step⟩
 ·show cG hp (thn (T.done X BC BC BC hc i BD s3 σ3 H3 X.xe I3 (stat fr3) st3 stop)  ?_);rintro r s4 ⟨hr,I4⟩;subst hr;show eO #[σ3,H3,I4,qn]
 ·show cG hp (thn (T.item X BC BC BC hc i BD s3 σ3 H3 X.xe I3 (stat fr3) st3 go)  ?_);rintro r s4 ⟨u,hr,h4⟩;subst hr;show cG hp (thn h4  ?_);rintro _ s5 ⟨x,H5,I5,r5,y5,st5,fr5⟩;have I5':=I5.pinned (stat fr5) (T.obj _ _ st5);show cG hp (thn (hg _ s5 σ3 H5 x u _ I5' r5 (step x H5 y5))  ?_);rintro _ s6 ⟨σ6,H6,I6,q6⟩;show cG hp (thn (hb _ s6 σ6 H6 _ I6 q6) λf s7 q7=>?_);have again:∀ {σ7:St} {H7:Hp},Inv X (BD++zfa fp s5.heap) σ7 H7 s7->N σ7 H7->∃m,m<n/\∃i σ' H',Inv X BD σ' H' s7/\tn i s7.heap/\(∀b∈fp,H' b=none)/\W i m σ' H':=λ{σ7 H7} I7 n7=>by obtain⟨m',hm,w7⟩:=hN σ7 H7 n7;show#[m',hm,i+1,σ7,H7,I7.unpinned,T.keep _ _ _ st5 λb hb o e=>(I7.pin (b,o) (ba _ (ba _ (zbg hb e)))).1,λb hb=>?_,w7];obtain⟨o,e,d⟩:=T.obj _ _ st5 b hb;show (I7.pin (b,o) (ba _ (ba _ (zbg hb e)))).2.1
  cases f with
  | next=>obtain⟨σ7,H7,I7,n7⟩:=q7;show again I7 n7
  | cont=>obtain⟨σ7,H7,I7,n7⟩:=q7;show again I7 n7
  | brk=>obtain⟨σ7,H7,I7,q7⟩:=q7;show#[σ7,H7,I7.unpinned,q7]
  | ret v=>obtain⟨x7,σ7,H7,I7,r7,q7⟩:=q7;show#[x7,σ7,H7,I7.unpinned,r7,q7]
end
abbrev R2:=V->V->Hp->VK->Prop
def OpR (X:Cx)(f:Value->Value->Sem Value)(r:R2):Prop:=
 ∀ (BD:AB) (s:Aa) (G:St) (H:Hp) (x y:V) (v u:Value) (Q:VK),Inv X BD G H s->yv x v->yv y u->r x y H Q->
  Ag X (f v u) (EP X BD G Q) X.xe s
def zcN (X:Cx)(f:Value)(r:AU->Hp->VK->Prop):Prop:=
 ∀ (BD:AB) (s:Aa) (G:St) (H:Hp) (xs:AU) (us:AO) (Q:VK),Inv X BD G H s->z9 xs us->r xs H Q->
  Ag X (call f us) (EP X BD G Q) X.xe s
def TruR (X:Cx)(r:V->Hp->(Bool->Hp->Prop)->Prop):Prop:=
 ∀ (BD:AB) (s:Aa) (G:St) (H:Hp) (x:V) (v:Value) (Q:Bool->Hp->Prop),Inv X BD G H s->yv x v->r x H Q->
  Ag X (truthy v) (TP X BD G Q) X.xe s
def tOp (r:R2)(ta tb:TE):TE:=λG H Q=>ta G H λx H1=>tb G H1 λy H2=>r x y H2 Q
def rI (C:Int->Int->Prop)(g:Int->Int->V):R2:=λx y H Q=>∃i j,x = .int i/\y = .int j/\C i j/\Q (g i j) H
def rI0 (g:Int->Int->V):R2:=λx y H Q=>∃i j,x = .int i/\y = .int j/\Q (g i j) H
section
variable {X:Cx}{a b c:Expr}{ta tb tc:TE}{pos:Pos}
def ztW (ha:PE X a ta)(hb:PE X b tb){BD:AB}{s:Aa}{G:St}{H:Hp}{R:V->V->Hp->Prop}(I:Inv X BD G H s)
  (h:ta G H λx H1=>tb G H1 λy H2=>R x y H2) {Q:AA} {f:Value->Value->Sem Value}
  (hf:∀v u s2 x y H2,Inv X BD G H2 s2->yv x v->yv y u->R x y H2->Ag X (f v u) Q X.xe s2) :
  Ag X (eval a X.env) (λv s₁=>Ag X (eval b X.env) (λu s₂=>Ag X (f v u) Q X.xe s₂) X.xe s₁) X.xe s:=by
 show thn (ha BD s G H _ I h)  ?_;rintro v s1 ⟨x,H1,I1,r1,q1⟩;show thn (hb BD s1 G H1 _ I1 q1)  ?_;rintro u s2 ⟨y,H2,I2,r2,q2⟩;show hf v u s2 x y H2 I2 r1 r2 q2
def zvk {op:Operator}{r:R2}(ho:OpR X (binaryOp op) r)(ha:PE X a ta)(hb:PE X b tb):PE X (.BinOp a op b pos) (tOp r ta tb):=by intro BD s G H Q I h;show wpAny_BinOp (ztW ha hb I h λv u s2 x y H2 I2 rx ry q=>ho BD s2 G H2 x y v u Q I2 rx ry q)
def opI {f:Value->Value->Sem Value}{C:Int->Int->Prop}{g:Int->Int->Int}
  (rule:∀ (i j:Int) (t u:Tok) (s:Aa) (Q:AA) (E:AA),C i j->Q (.int (g i j) s.toks) { s with toks:=s.toks+1 }->Ag X (f (.int i t) (.int j u)) Q E s) :
  OpR X f (rI C λi j=>.int (g i j)):=by
 intro BD s G H x y v u Q I rx ry h;obtain⟨i,j,rfl,rfl,hc,q⟩:=h;obtain⟨t,rfl⟩:=rx;obtain⟨t',rfl⟩:=ry;show rule i j t t' s _ _ hc #[.int (g i j),H,I.tok _,#[_,BC],q]
def opI0 {f:Value->Value->Sem Value}{g:Int->Int->Int}
  (rule:∀ (i j:Int) (t u:Tok) (s:Aa) (Q:AA) (E:AA),Q (.int (g i j) s.toks) { s with toks:=s.toks+1 }->Ag X (f (.int i t) (.int j u)) Q E s) :
  OpR X f (rI0 λi j=>.int (g i j)):=by
 intro BD s G H x y v u Q I rx ry h;obtain⟨i,j,rfl,rfl,q⟩:=h;obtain⟨t,rfl⟩:=rx;obtain⟨t',rfl⟩:=ry;show rule i j t t' s _ _ #[.int (g i j),H,I.tok _,#[_,BC],q]
def ztE {f:Value->Value->Sem Value}{g:Int->Int->Bool}
  (rule:∀ (i j:Int) (t u:Tok) (s:Aa) (Q:AA) (E:AA),Q (.bool (g i j)) s->Ag X (f (.int i t) (.int j u)) Q E s) :
  OpR X f (rI0 λi j=>.bl (g i j)):=by
 intro BD s G H x y v u Q I rx ry h;obtain⟨i,j,rfl,rfl,q⟩:=h;obtain⟨t,rfl⟩:=rx;obtain⟨t',rfl⟩:=ry;show rule i j t t' s _ _ #[.bl (g i j),H,I,BC,q]
def CDiv (i j:Int):Prop:=0<j/\j<1073741824
def CPow (i j:Int):Prop:=0<=j/\j<=1000000/\i.natAbs<2 ^ 64
def zmQ (i j:Int):Prop:=(-(2 ^ 64)<i/\i<2 ^ 64)\/(-(2 ^ 64)<j/\j<2 ^ 64)
def zmQ.ok {i j:Int}(h:zmQ i j):IntMulOk i j:=by
 rcases h with ⟨h1,h2⟩ | ⟨h1,h2⟩;show .of_left (intBits_le_64 h1 h2);show .of_right (intBits_le_64 h1 h2)
def zrH:OpR X (binaryOp .Add) (rI0 λi j=>.int (i+j)):=opI0 λ_ _ _ _ _ _ _ q=>add_int q
def zrO:OpR X (binaryOp .Sub) (rI0 λi j=>.int (i - j)):=opI0 λ_ _ _ _ _ _ _ q=>sub_int q
def zrL:OpR X (binaryOp .Mult) (rI zmQ λi j=>.int (i * j)):=opI λ_ _ _ _ _ _ _ hc q=>mul_int q hc.ok
def zoT:OpR X (binaryOp .FloorDiv) (rI CDiv λi j=>.int (i / j)):=opI λi j _ _ _ _ _ hc q=>by have h1:(0:Int)<j:=hc.1;have h2:j<1073741824:=hc.2;show floordiv_int (by lia) (by rw[Int.fdiv_eq_ediv_of_nonneg i (by lia)];show q) (.inl (PyProof.noPylong_small (by lia)))
def zrK:OpR X (binaryOp .Mod) (rI (λ_ j=>0<j) λi j=>.int (i % j)):=opI λi j _ _ _ _ _ hc q=>by have h1:(0:Int)<j:=hc;show mod_int' (by lia) (by rw[Int.fmod_eq_emod_of_nonneg i (by lia)];show q)
def zrN:OpR X (binaryOp .Pow) (rI CPow λi j=>.int (i ^ j.toNat)):=opI λ_ _ _ _ _ _ _ hc q=>pow_int_small hc.1 hc.2.1 hc.2.2 q
end
def zvx:V->V->Bool
 | .non,.non=>true | .non,.int _=>true | .int _,.non=>true | .non,.bl _=>true | .bl _,.non=>true | .non,.str _=>true | .str _,.non=>true
 | .int _,.int _=>true | .bl _,.bl _=>true | .str _,.str _=>true | .byt _,.byt _=>true
 | .int _,.str _=>true | .str _,.int _=>true | .bl _,.str _=>true | .str _,.bl _=>true
 | _,_=>false
def rEq:R2:=λx y H Q=>zvx x y=true/\Q (.bl (decide (x=y))) H
def rNe:R2:=λx y H Q=>zvx x y=true/\Q (.bl (!decide (x=y))) H
def ziO {i j:Int}:decide (V.int i=V.int j)=(i==j):=by rw[b5];simp
def zmZ {i j:Bool}:decide (V.bl i=V.bl j)=(i==j):=by rw[b5];simp
def ziP {i j:Str}:decide (V.str i=V.str j)=(i==j):=by rw[b5];simp
def ziN {i j:Array UInt8}:decide (V.byt i=V.byt j)=(i.toList==j.toList):=by
 rw[b5];right
section
variable {X:Cx}{a b c:Expr}{ta tb tc:TE}{pos:Pos}
def zY {BD:AB}{G:St}{H:Hp}{s:Aa}{Q:VK}{k k':Bool}(I:Inv X BD G H s)(q:Q (.bl k) H)(e:k=k'):EP X BD G Q (.bool k') s:=by subst e;show#[.bl k,H,I,BC,q]
def zu8:OpR X (compareOp .Eq) rEq:=by
 intro BD s G H x y v u Q I rx ry h;obtain⟨hs,q⟩:=h
 cases x with
 | non=>
  cases rx
  cases y with
  | non=>cases ry;show PySem.EqNone.eq_none_none (zY I q (by simp))
  | bl j=>cases ry;show PySem.EqNone.eq_none_bool (zY I q (by simp))
  | int j=>obtain⟨t',rfl⟩:=ry;show PySem.EqNone.eq_none_int (zY I q (by simp))
  | str j=>obtain⟨t',rfl⟩:=ry;show PySem.EqNone.eq_none_str (zY I q (by simp))
  | _=>show absurd (show false=true from hs) aM
 | bl i=>
  cases rx
  cases y with
  | non=>cases ry;show PySem.EqNone.eq_bool_none (zY I q (by simp))
  | bl j=>cases ry;show eq_bool (zY I q zmZ)
  | str j=>obtain⟨t',rfl⟩:=ry;show PySem.EqMixed.eq_bool_str (zY I q (by simp))
  | _=>show absurd (show false=true from hs) aM
 | int i=>
  obtain⟨t,rfl⟩:=rx
  cases y with
  | non=>cases ry;show PySem.EqNone.eq_int_none (zY I q (by simp))
  | int j=>obtain⟨t',rfl⟩:=ry;show eq_int (zY I q ziO)
  | str j=>obtain⟨t',rfl⟩:=ry;show PySem.EqMixed.eq_int_str (zY I q (by simp))
  | _=>show absurd (show false=true from hs) aM
 | str i=>
  obtain⟨t,rfl⟩:=rx
  cases y with
  | non=>cases ry;show PySem.EqNone.eq_str_none (zY I q (by simp))
  | bl j=>cases ry;show PySem.EqMixed.eq_str_bool (zY I q (by simp))
  | int j=>obtain⟨t',rfl⟩:=ry;show PySem.EqMixed.eq_str_int (zY I q (by simp))
  | str j=>obtain⟨t',rfl⟩:=ry;show eq_str (zY I q ziP)
  | _=>show absurd (show false=true from hs) aM
 | byt i=>
  obtain⟨t,rfl⟩:=rx
  cases y with
  | byt j=>obtain⟨t',rfl⟩:=ry;show PySem.W.eq_bytes (zY I q ziN)
  | _=>show absurd (show false=true from hs) aM
 | _=>cases y <;> show absurd (show false=true from hs) aM
def zvd:OpR X (compareOp .NotEq) rNe:=by
 intro BD s G H x y v u Q I rx ry h;obtain⟨hs,q⟩:=h
 cases x with
 | non=>
  cases rx
  cases y with
  | non=>cases ry;show PySem.EqNone.ne_none_none (zY I q (by simp))
  | bl j=>cases ry;show PySem.EqNone.ne_none_bool (zY I q (by simp))
  | int j=>obtain⟨t',rfl⟩:=ry;show PySem.EqNone.ne_none_int (zY I q (by simp))
  | str j=>obtain⟨t',rfl⟩:=ry;show PySem.EqNone.ne_none_str (zY I q (by simp))
  | _=>show absurd (show false=true from hs) aM
 | bl i=>
  cases rx
  cases y with
  | non=>cases ry;show PySem.EqNone.ne_bool_none (zY I q (by simp))
  | bl j=>cases ry;show ne_bool (zY I q (congrArg not zmZ))
  | str j=>obtain⟨t',rfl⟩:=ry;show PySem.EqMixed.ne_bool_str (zY I q (by simp))
  | _=>show absurd (show false=true from hs) aM
 | int i=>
  obtain⟨t,rfl⟩:=rx
  cases y with
  | non=>cases ry;show PySem.EqNone.ne_int_none (zY I q (by simp))
  | int j=>obtain⟨t',rfl⟩:=ry;show ne_int (zY I q (congrArg not ziO))
  | str j=>obtain⟨t',rfl⟩:=ry;show PySem.EqMixed.ne_int_str (zY I q (by simp))
  | _=>show absurd (show false=true from hs) aM
 | str i=>
  obtain⟨t,rfl⟩:=rx
  cases y with
  | non=>cases ry;show PySem.EqNone.ne_str_none (zY I q (by simp))
  | bl j=>cases ry;show PySem.EqMixed.ne_str_bool (zY I q (by simp))
  | int j=>obtain⟨t',rfl⟩:=ry;show PySem.EqMixed.ne_str_int (zY I q (by simp))
  | str j=>obtain⟨t',rfl⟩:=ry;show ne_str (zY I q (congrArg not ziP))
  | _=>show absurd (show false=true from hs) aM
 | byt i=>
  obtain⟨t,rfl⟩:=rx
  cases y with
  | byt j=>obtain⟨t',rfl⟩:=ry;show PySem.W.ne_bytes (zY I q (congrArg not ziN))
  | _=>show absurd (show false=true from hs) aM
 | _=>cases y <;> show absurd (show false=true from hs) aM
def zvc:OpR X (compareOp .Lt) (rI0 λi j=>.bl (decide (i<j))):=ztE λ_ _ _ _ _ _ _ q=>lt_int q
def zvb:OpR X (compareOp .LtE) (rI0 λi j=>.bl (decide (i<=j))):=ztE λ_ _ _ _ _ _ _ q=>le_int q
def zva:OpR X (compareOp .Gt) (rI0 λi j=>.bl (decide (j<i))):=ztE λ_ _ _ _ _ _ _ q=>gt_int q
def zu9:OpR X (compareOp .GtE) (rI0 λi j=>.bl (decide (j<=i))):=ztE λ_ _ _ _ _ _ _ q=>ge_int q
def zV (b:Expr){op:CmpOp}(h:op≠.In:=by ext)(h2:op≠.NotIn:=by ext):behindInMarks op b=false:=by
 have e1:(op==CmpOp.In)=false:=by cases op <;> first | rfl | show absurd BC h
 have e2:(op==CmpOp.NotIn)=false:=by cases op <;> first | rfl | show absurd BC h2
 cases b <;> simp[behindInMarks,e1,e2]
def zo2 {op:CmpOp}{r:R2}(ho:OpR X (compareOp op) r)(ha:PE X a ta)(hb:PE X b tb)(hm:behindInMarks op b=false):PE X (.Compare a [op] [b] pos) (tOp r ta tb):=by intro BD s G H Q I h;show wpAny_Compare1 (ztW ha hb I h λv u s2 x y H2 I2 rx ry q=>ho BD s2 G H2 x y v u Q I2 rx ry q) hm
def zkS (t:TE):TT:=λG H Q=>t G H λx H'=>∃k,x = .bl k/\Q k H'
def zpl {op:CmpOp}{r:R2}(ho:OpR X (compareOp op) r)(ha:PE X a ta)(hb:PE X b tb)(hm:behindInMarks op b=false):PT X (.Compare a [op] [b] pos) (zkS (tOp r ta tb)):=by
 intro BD s G H Q I h
 show wpAny_isTrue_Compare1 (thn (ha BD s G H _ I h) λv s1 ⟨x,H1,I1,r1,q1⟩=>thn (hb BD s1 G H1 _ I1 q1) λu s2 ⟨y,H2,I2,r2,q2⟩=>
  thn (ho BD s2 G H2 x y v u _ I2 r1 r2 q2) λc s3 ⟨z,H3,I3,r3,k,e,q3⟩=>?_) hm
 subst e;cases r3;show bW #[H3,I3,q3]
def zkP (r r':R2)(ta tb tc:TE):TE:=λG H Q=>ta G H λx H1=>tb G H1 λy H2=>r x y H2 λz H3=>∃k,z = .bl k/\
 (if k=true then tc G H3 λw' H4=>r' y w' H4 Q else Q (.bl false) H3)
def zmm {op op':CmpOp}{r r':R2}(ho:OpR X (compareOp op) r)(ho':OpR X (compareOp op') r')(ha:PE X a ta)(hb:PE X b tb)(hc:PE X c tc)
  (hm:lastMarks [op,op'] [b,c]=false:=by with_unfolding_all rfl):PT X (.Compare a [op,op'] [b,c] pos) (zkS (zkP r r' ta tb tc)):=by
 intro BD s G H Q I h
 show isTrue_chain (thn (ha BD s G H _ I h) λv s1 ⟨x,H1,I1,r1,q1⟩=>test_link (thn (hb BD s1 G H1 _ I1 q1) λu s2 ⟨y,H2,I2,r2,q2⟩=>
  thn (ho BD s2 G H2 x y v u _ I2 r1 r2 q2) λd s3 ⟨z,H3,I3,r3,k,e,q3⟩=>?_)) hm
 subst e;cases r3;show bW ?_
 cases k with
 | false=>
  obtain⟨k',e',q'⟩:=q3;cases e';show ite_ff #[H3,I3,q']
 | true=>
  show ite_tt (test_last (thn (hc BD s3 G H3 _ I3 q3) λw' s4 ⟨z',H4,I4,r4,q4⟩=>thn (ho' BD s4 G H4 y z' u w' _ I4 r2 r4 q4)  ?_));rintro d' s5 ⟨z2,H5,I5,r5,k2,e2,q5⟩;subst e2;cases r5;show bW #[H5,I5,q5]
def ztS (K:AI)(x:V)(H:Hp)(k:Bool):Prop:=
 match x with
 | .non=>k=false
 | .bl b=>k=b
 | .int i=>k=(i != 0)
 | .str y=>y.length<=sizeLine/\k=((y.length:Int) != 0)
 | .byt y=>y.size<=sizeLine/\k=((y.size:Int) != 0)
 | .ref p=>(∃xs,SqL K H p xs/\k = !xs.isEmpty)\/(∃xs,SqT K H p xs/\k = !xs.isEmpty)\/∃BE,H p=some (.dK BE)/\k = !BE.isEmpty
 | _=>False
def zhF {κ:Type}{BE:List (κ×V)}{vs:List (κ×Value)}(r:KV BE vs):(!vs.isEmpty) = !BE.isEmpty:=by cases r <;> rfl
def zc6 {xs:AU}{its:AO}(r:z9 xs its):(!its.toArray.isEmpty) = !xs.isEmpty:=by cases r <;> simp
def zgZ:(sizeLine:Nat)<2 ^ 63:=by rw[bp];decide
def zs7:TruR X (λx H Q=>∃k,ztS X.K x H k/\Q k H):=by
 intro BD s G H x v Q I rx h;obtain⟨k,e,q⟩:=h;have hl:=zgZ;have hs:sizeLine=16777216:=bp
 cases x with
 | non=>
  cases rx;have e':k=false:=e;subst e';show truthy_none #[H,I,q]
 | bl b=>
  cases rx;have e':k=b:=e;subst e';show bW #[H,I,q]
 | int i=>
  obtain⟨t,rfl⟩:=rx;have e':k=(i != 0):=e;subst e';show PySem.P.truthy_int #[H,I,q]
 | str y=>
  obtain⟨t,rfl⟩:=rx;obtain⟨hy,e'⟩:y.length<=sizeLine/\k=((y.length:Int) != 0):=e;subst e';show PySem.P.truthy_str (by lia) #[H,I.tok _,q]
 | byt y=>
  obtain⟨t,rfl⟩:=rx;obtain⟨hy,e'⟩:y.size<=sizeLine/\k=((y.size:Int) != 0):=e;subst e';show PySem.W.truthy_bytes (by lia) #[H,I.tok _,q]
 | ref p=>
  cases rx;have e':(∃xs,SqL X.K H p xs/\k = !xs.isEmpty)\/(∃xs,SqT X.K H p xs/\k = !xs.isEmpty)\/∃BE,H p=some (.dK BE)/\k = !BE.isEmpty:=e;rcases e' with ⟨xs,hx,e'⟩ | ⟨xs,hx,e'⟩ | ⟨BE,hx,e'⟩;subst e';obtain⟨its,r,pl,hz⟩:=I.list hx;have hlen:=r.length;show wpAny_truthy_list pl.isList (by simp only[a9];lia) #[H,I.tok _,by rw[zc6 r];show q];subst e';obtain⟨its,r,pl,hz⟩:=I.tuple hx;have hlen:=r.length;show truthy_tuple pl (by simp only[a9];lia) #[H,I.tok _,by rw[zc6 r];show q];subst e';obtain⟨hz,hS,vs,r,m⟩:BE.length<=sizeLine/\(p==sysModules)=false/\∃vs,KV BE vs/\s.heap.DictOf (zy X.prog X.w) p vs:=I.hok p _ hx;have hlen:BE.length=vs.length:=eI r;show wpAny_truthy_dict hS m (by lia) #[H,I.tok _,by rw[zhF r];show q]
 | _=>show (show False from e).elim
def zmn (ha:PE X a ta)(he:∀whole,isTrue a X.env whole=(do let v <- whole;standAt a.pos;holding [v] (truthy v))) :
  PT X a (λG H Q=>ta G H λx H'=>∃k,ztS X.K x H' k/\Q k H'):=by
 intro BD s G H Q I h;show isTrue_plain (thn (ha BD s G H _ I h) <| by rintro v s1 ⟨x,H1,I1,r1,q1⟩;show zs7 BD s1 G H1 x v Q I1 r1 q1) (he _)
def zak {x:V}{us:AO}(r:z9 [x] us):∃u,us=[u]/\yv x u:=by
 cases r with
 | cons r1 r2=>cases r2;show#[_,BC,r1]
def zvY {x y:V}{us:AO}(r:z9 [x,y] us):∃u w',us=[u,w']/\yv x u/\yv y w':=by
 cases r with
 | cons r1 r2=>
  cases r2 with
  | cons r3 r4=>cases r4;show#[_,_,BC,r1,r3]
def zla:zcN X (.builtin "abs") (λxs H Q=>∃i,xs=[.int i]/\Q (.int (if i<0 then -i else i)) H):=by intro BD s G H xs us Q I r h;obtain⟨i,rfl,q⟩:=h;obtain⟨u,rfl,t,rfl⟩:=zak r;show call_abs_int λu tk=>#[.int (if i<0 then -i else i),H,I.tok _,#[_,BC],q]
def zqv (K:AI)(x:V)(H:Hp)(n:Nat):Prop:=
 match x with
 | .str y=>y.length<=sizeLine/\n=y.length
 | .byt y=>y.size<=sizeLine/\n=y.size
 | .ref p=>(∃xs,SqL K H p xs/\n=xs.length)\/∃xs,SqT K H p xs/\n=xs.length
 | _=>False
def zlc:zcN X (.builtin "len") (λxs H Q=>∃x n,xs=[x]/\zqv X.K x H n/\Q (.int n) H):=by
 intro BD s G H xs us Q I r h;obtain⟨x,n,rfl,e,q⟩:=h;obtain⟨u,rfl,rx⟩:=zak r;have hl:=zgZ;have hs:sizeLine=16777216:=bp
 cases x with
 | str y=>
  obtain⟨t,rfl⟩:=rx;obtain⟨hy,e'⟩:y.length<=sizeLine/\n=y.length:=e;subst e';show len_str (by lia) #[.int _,H,I.tok _,#[_,BC],q]
 | byt y=>
  obtain⟨t,rfl⟩:=rx;obtain⟨hy,e'⟩:y.size<=sizeLine/\n=y.size:=e;subst e';show PySem.W.len_bytes (by lia) #[.int _,H,I.tok _,#[_,BC],q]
 | ref p=>
  cases rx;have e':(∃xs,SqL X.K H p xs/\n=xs.length)\/∃xs,SqT X.K H p xs/\n=xs.length:=e;rcases e' with ⟨xs,hx,e'⟩ | ⟨xs,hx,e'⟩;subst e';obtain⟨its,r',pl,hz⟩:=I.list hx;have hlen:=r'.length;show Calls.call_len_list pl.isList (by simp only[a9];lia) #[.int xs.length,H,I.tok _,#[_,by simp only[a9];rw[hlen]],q];subst e';obtain⟨its,r',pl,hz⟩:=I.tuple hx;have hlen:=r'.length;show len_tuple pl (by simp only[a9];lia) #[.int xs.length,H,I.tok _,#[_,by simp only[a9];rw[hlen]],q]
 | _=>show (show False from e).elim
end
structure ObjM (h:Heap)(x dx C:Addr)(mA:AJ):Prop where
 obj:h.get? x=some (PySem.W.instObj C dx)
 ns:h.Ns1 dx mA
 ne:dx≠x
def zjB {h:Heap}{dx:Addr}{mA:AJ}(n:h.Ns1 dx mA):∃od,h.get? dx=some od/\∀name,PySem.W.lookIn name od=some (mA name):=by
 obtain⟨o,es,ep,ho,hd,hk,_,hm⟩:=n;show#[o,ho,λname=>?_];have e:=hm name;unfold nsFind findBy at e;rw[<- Array.find?_toList] at e;unfold PySem.W.lookIn;rw[hd];dsimp only;split;right
 ·rename_i q;rw[q] at e
  have a:es.toList.any (·.refKey)=false:=by rw[List.any_eq_false];intro y hy;obtain⟨z,t,hkey⟩:=hk y (eG.mp hy);simp[DictEntry.refKey,hkey]
  grind
def ObjM.look {h:Heap}{x dx C:Addr}{mA:AJ}(I:ObjM h x dx C mA):∃od,PySem.W.InstAt h x (PySem.W.instObj C dx) C (some od)/\∀name,PySem.W.lookIn name od=some (mA name):=
 let ⟨od,ho,hl⟩:=zjB I.ns
 #[od,#[I.obj,BC,BC,ho],hl]
section
variable {prog:Ab}{w:Ac}{A:Af}{E:AA}{s:Aa}{K:AI}{x dx C f:Addr}{mA:AJ}{name:Str}{v:Value}
end
def zig.some_of {v:V}{o:AK}(r:zig (some v) o):∃u,o=some u/\yv v u:=by
 cases o with
 | none=>show (show False from r).elim
 | some u=>show#[u,BC,r]
section
variable {P:Ab}{w:Ac}{H H':Hp}{h h':Heap}{a C dx:Addr}{fs fs':List (Str×V)}
def zob (hok:HOk P w H h)(e:H a=some (.ins C dx fs)):∃mA,ObjM h a dx C mA/\(∀f,zig (fs.lookup f) (mA f))/\PySem.Within mA (fs.map (·.1))/\fs.length<=1000/\H dx=some (.own a):=by obtain⟨d,z,ne,ob,mA,n,r,q⟩:=(show z8 P w H h a (.ins C dx fs) from hok a _ e);show#[mA,#[ob,n,ne],r,q,z,d]
end
structure Cls (K:AI)(C:Addr):Prop where
 pg:PySem.W.plainGet K C Str.empty=true
 hd:PySem.W.hasDictIn K C=true
 po:PySem.W.plainOver K C=true
 sa:PySem.W.findIn K (.ref C) "__setattr__" = some (some (.builtin "object.__setattr__"))
def Cls.get {K:AI}{C:Addr}(c:Cls K C)(f:Str):PySem.W.plainGet K C f=true:=c.pg
section
variable {X:Cx}{BD:AB}{G:St}{H:Hp}{s:Aa}{a C dx:Addr}{fs:List (Str×V)}{f:Str}{v:V}{A:Af}{E:AA}
variable {o e value:Expr}{pos pos' tpos:Pos}{ta tv:TE}
variable {Q:AA}{c:Value}{b:Bool}
inductive TyOf (K:AI) (H:Hp):V->Value->Prop where
 | non:TyOf K H .non (.type "NoneType")
 | bl (x:Bool):TyOf K H (.bl x) (.type "bool")
 | int (i:Int):TyOf K H (.int i) (.type "int")
 | str (x:Str):TyOf K H (.str x) (.type "str")
 | flt (x:UInt64):TyOf K H (.flt x) (.type "float")
 | lst {a:Addr} {xs:AU} (e:H a=some (.lst xs)):TyOf K H (.ref a) (.type "list")
 | frz {a:Addr} {o:Obj} {xs:AU} (e:H a=some (.frz o (.lst xs))):TyOf K H (.ref a) (.type "list")
 | tup {a:Addr} {xs:AU} (e:H a=some (.tup xs)):TyOf K H (.ref a) (.type "tuple")
 | dK {a:Addr} {BE:List (Key×V)} (e:H a=some (.dK BE)):TyOf K H (.ref a) (.type "dict")
 | dT {a:Addr} {BE:List (List Key×V)} (e:H a=some (.dT BE)):TyOf K H (.ref a) (.type "dict")
 | ins {a C dx:Addr} {fs:List (Str×V)} (e:H a=some (.ins C dx fs)) (cl:Cls K C) (ha:PySem.W.findIn K (.ref C) "__class__" = some (some (.builtin "object.__class__")))
   (hn:PySem.W.specialIn K (.builtin "object.__class__") "__get__" = some (some (.builtin "getset_descriptor.__get__"))) (htk:PySem.W.takesIn K (.builtin "object.__class__")=some true)
   (hm:PySem.W.mroIn K C (.type "object")=some true):TyOf K H (.ref a) (.ref C)
def zjj {x:V}{u t:Value}(I:Inv X BD G H s)(rx:yv x u)(ty:TyOf X.K H x t)(e:PySem.W.kitOne X.K t c=some b)(h:∀tk,Q (.bool b) { s with toks:=tk }) :
  wpAny (model X.prog X.w) A (call (.builtin "isinstance") [u,c]) Q E s:=by
 cases ty with
 | non=>cases (show u=Value.none from rx);show bI PySem.W.kitx_none I.kIn True.intro e (λz=>nomatch z) h
 | bl y=>cases (show u=Value.bool y from rx);show bI PySem.W.kitx_bool I.kIn True.intro e (λz=>nomatch z) h
 | int i=>obtain⟨t,q⟩:=(show ∃t,u=Value.int i t from rx);cases q;show bI PySem.W.kitx_int I.kIn True.intro e (λz=>nomatch z) h
 | str y=>obtain⟨t,q⟩:=(show ∃t,u=Value.str y t from rx);cases q;show bI PySem.W.kitx_str I.kIn True.intro e (λz=>nomatch z) h
 | flt y=>obtain⟨t,q⟩:=(show ∃t,u=Value.float y t from rx);cases q;show bI PySem.W.kitx_float I.kIn True.intro e (λz=>nomatch z) h
 | @lst a xs ea=>
  cases (show u=Value.ref a from rx);obtain⟨_,_,n,_,h1⟩:=(show z8 X.prog X.w H s.heap a (.lst xs) from I.hok a _ ea);show bI PySem.W.kitx_list I.kIn #[_,h1,BC] e (λz=>nomatch z) h
 | @frz a ob xs ea=>
  cases (show u=Value.ref a from rx);obtain⟨_,_,_,n,_,h1⟩:=(show z8 X.prog X.w H s.heap a (.frz ob (.lst xs)) from I.hok a _ ea);show bI PySem.W.kitx_list I.kIn #[_,h1,BC] e (λz=>nomatch z) h
 | @tup a xs ea=>
  cases (show u=Value.ref a from rx);obtain⟨_,_,_,p⟩:=(show z8 X.prog X.w H s.heap a (.tup xs) from I.hok a _ ea);obtain⟨o,h1,h2,_⟩:=p;show bI PySem.W.kitx_tuple I.kIn #[o,h1,h2] e (λz=>nomatch z) h
 | @dK a BE ea=>
  cases (show u=Value.ref a from rx);obtain⟨_,_,vs,_,p⟩:=(show z8 X.prog X.w H s.heap a (.dK BE) from I.hok a _ ea);obtain⟨o,es,ep,h1,h2,_⟩:=p;show bI PySem.W.kitx_dict I.kIn #[o,h1,h2.1] e (λz=>nomatch z) h
 | @dT a BE ea=>
  cases (show u=Value.ref a from rx);obtain⟨_,_,xs,_,o,es,ep,h1,h2,_⟩:=(show z8 X.prog X.w H s.heap a (.dT BE) from I.hok a _ ea);show bI PySem.W.kitx_dict I.kIn #[o,h1,h2.1] e (λz=>nomatch z) h
 | @ins a C dx fs ea cl ha hn htk hm=>
  cases (show u=Value.ref a from rx);obtain⟨mA,O,_⟩:=zob I.hok ea;obtain⟨od,J,_⟩:=O.look;show bI (PySem.W.kitx_own (cl.get _) cl.hd ha hn htk hm) I.kIn J e (λz=>nomatch z) h
end
structure Room (k:Nat)(A:Af):Prop where
 hd:A.handled=none
 dp:A.depth+3 * k+5<recursionLimit
 un:A.units+16 * k+200<cLine
 gd:A.guards=some []:=by rfl
def Room.mono {j k:Nat}{A:Af}(r:Room k A)(h:j<=k):Room j A:=#[r.hd,by have:=r.dp;lia,by have:=r.un;lia,r.gd]
def Room.deeper {k:Nat}{A:Af}(r:Room (k+1) A)(env:Env):Room k (A.deeper env):=
 #[r.hd,by have:=r.dp;change A.depth+1+3 * k+5<_;lia,by have:=r.un;change A.units+3+16 * k+200<_;lia,r.gd]
def Room.depth {k:Nat}{A:Af}(r:Room k A):A.depth<recursionLimit:=by have:=r.dp;lia
def Room.units {k:Nat}{A:Af}(r:Room k A):A.units+64<cLine:=by have:=r.un;lia
def znv:TA:=λ_ H Q=>Q [] H
def zeh (ta:TE)(tr:TA):TA:=λG H Q=>ta G H λx H1=>tr G H1 λxs H2=>Q (x::xs) H2
section
variable {X:Cx}{e:Expr}{es:AQ}{te:TE}{t:TA}{pos:Pos}
def zrT:PA X [] znv:=λ_ _ _ _ H Q I h=>Calls.spliced_nil #[[],H,I,.nil,h]
def zoY (ha:PE X e te)(hr:PA X es t)(hs:starEach (e::es) X.env=(false,eval e X.env)::starEach es X.env:=by rfl):PA X (e::es) (zeh te t):=by intro pos BD s G H Q I h;rw[hs];change wpAny _ _ (spliced ((false,eval e X.env)::backTo pos (starEach es X.env))) _ _ s;show Calls.spliced_cons (thn (ha BD s G H _ I h)  ?_);rintro u s1 ⟨x,H1,I1,r1,q1⟩;show thn (hr pos BD s1 G H1 _ I1 q1) <| by rintro us s2 ⟨xs,H2,I2,r2,q2⟩;show#[x::xs,H2,I2,.cons r1 r2,q2]
end
abbrev Sp:=AU->Hp->VK->XK->Prop
abbrev CXT:=List Env->Hp->Aa->XK->AA
structure Env0 (P:Ab)(w:Ac)(K:AI)(mg:AJ)(base:Heap)(A:Af)(outer:List Env)(s:Aa)(H:Hp):Prop where
 frames:A.frames=some outer
 mod:Mod K mg base
 bs:∀b o,base.get? b=some o->s.heap.get? b=some o/\H b=none
 bsz:base.objs.size<=s.heap.objs.size
 funs:s.heap.FunFrames base outer
 frf:∀b∈frs outer,H b=none
 hok:HOk P w H s.heap
 bare:AllBare s.gens
def CE (outer:List Env)(P:Ab)(w:Ac)(H:Hp)(s:Aa)(Q:VK)(u:Value)(s':Aa):Prop:=
 ∃v H',s'.os=s.os/\AllBare s'.gens/\Un (frs outer) [] H H' s.heap s'.heap/\HOk P w H' s'.heap/\yv v u/\Q v H'
def CR (CX:CXT)(outer:List Env)(P:Ab)(w:Ac)(H:Hp)(s:Aa)(Q:VK)(E:XK)(r:Result)(s':Aa):Prop:=
 match r with
 | .ok (.ret u)=>CE outer P w H s Q u s'
 | .ok _=>False
 | .error e=>CX outer H s E e s'
structure FnOk (P:Ab)(w:Ac)(K:AI)(mg:AJ)(base:Heap)(CX:CXT)(k:Nat)(f:Addr)(fd:Ae)(ps:AN)(sp:Sp):Prop where
 len:∀vs H Q E,sp vs H Q E->vs.length=ps.length
 run:∀ (A:Af) (outer:List Env) (s:Aa) (H:Hp) (args:Args) (us:AO) (vs:AU) (Q:VK) (E:XK),Room k A->Env0 P w K mg base A outer s H->BindsTo s fd args (ps.zip us)->z9 vs us->sp vs H Q E->
  codeAny (model P w) A (.call (.ref f) args) (CR CX outer P w H s Q E) s
def FnOk.mono {P:Ab}{w:Ac}{K:AI}{mg:AJ}{base:Heap}{CX:CXT}{j k:Nat}{f:Addr}{fd:Ae}{ps:AN}{sp:Sp}(F:FnOk P w K mg base CX j f fd ps sp)(h:j<=k) :
  FnOk P w K mg base CX k f fd ps sp:=#[F.len,λA outer s H args us vs Q E hr=>F.run A outer s H args us vs Q E (hr.mono h)]
def FnOk.imp {P:Ab}{w:Ac}{K:AI}{mg:AJ}{base:Heap}{CX:CXT}{k:Nat}{f:Addr}{fd:Ae}{ps:AN}{sp sp':Sp}(F:FnOk P w K mg base CX k f fd ps sp)
  (h:∀vs H Q E,sp' vs H Q E->sp vs H Q E):FnOk P w K mg base CX k f fd ps sp':=
 #[λvs H Q E q=>F.len vs H Q E (h _ _ _ _ q),λA outer s H args us vs Q E hr he hb hv hs=>F.run A outer s H args us vs Q E hr he hb hv (h _ _ _ _ hs)]
section
variable {X:Cx}{BD:AB}{G:St}{H:Hp}{s s':Aa}
def Inv.env0 (I:Inv X BD G H s):Env0 X.prog X.w X.K X.mg X.base X.A X.stack s H:=
 #[I.ok.frames,I.ok.mod,I.bs,av I.ok.bsz I.sz,I.stack,I.stkFree,I.hok,I.bare]
def Inv.after {Q:VK}{u:Value}(I:Inv X BD G H s)(h:CE X.stack X.prog X.w H s Q u s'):EP X BD G Q u s':=by obtain⟨v,H',os,bare,un,hok,r,q⟩:=h;obtain⟨hh,g,d,t,os'⟩:=s';obtain rfl:os'=s.os:=os;show#[v,H',I.call (h':=hh) (g':=g) (d':=d) (t':=t) (ch:=[]) un hok bare (λb z=>absurd z (by simp)),r,q]
end
def zh2 (sp:Sp)(dvs:AU)(E:XK)(t:TA):TE:=λG H Q=>t G H λvs H1=>sp (vs++dvs) H1 Q E
def zhv (K:AI)(fd:Ae)(ps:AN)(ds:AO):Prop:=
 ∀ (s:Aa) (us:AO),K.In s.heap->(us++ds).length=ps.length->BindsTo s fd #[us,[]] (ps.zip (us++ds))
def zhv.all {K:AI}{fd:Ae}{ps:AN}(h:∀us:AO,us.length=ps.length->bindArgs fd #[us,[]]=pure (ps.zip us)):zhv K fd ps []:=λs us _ hl=>by rw[eP] at hl ⊢;show .of_eq (h us hl)
def zif (CX:CXT)(X:Cx)(E:XK):Prop:=∀ (BD:AB) (G:St) (H:Hp) (s:Aa) (e:Value) (s':Aa),Inv X BD G H s->CX X.stack H s E e s'->X.xe e s'
section
variable {X:Cx}{CX:CXT}{k:Nat}{f C:Addr}{fd:Ae}{ps:AN}{sp:Sp}{dvs:AU}{ds:AO}{E:XK}{x m:Str}{p pos apos:Pos}{e o:Expr}{es:AQ}{ta:TE}{t:TA}
def zsQ {BD:AB}{G:St}{H:Hp}{s:Aa}{Q:VK}{us:AO}{vs:AU}(F:FnOk X.prog X.w X.K X.mg X.base CX k f fd ps sp)(hr:Room k X.A)(hb:zhv X.K fd ps ds)(hd:z9 dvs ds)(hx:zif CX X E)
  (I:Inv X BD G H s) (r:z9 vs us) (h:sp (vs++dvs) H Q E):Ag X (call (.ref f) us) (EP X BD G Q) X.xe s:=by
 have r2:z9 (vs++dvs) (us++ds):=r.append hd;have hl:(us++ds).length=ps.length:=by rw[<- r2.length];show F.len _ _ _ _ h
 show wpAny_call (gc (F.run X.A X.stack s H #[us,[]] (us++ds) (vs++dvs) Q E hr I.env0 (hb s us I.kIn hl) r2 h) λr s' hq=>?_)
 cases r with
 | error e=>show hx BD G H s e s' I hq
 | ok fl=>
  cases fl with
  | ret u=>show I.after hq
  | next=>show False.elim hq
  | brk=>show False.elim hq
  | cont=>show False.elim hq
def zo1 (F:FnOk X.prog X.w X.K X.mg X.base CX k f fd ps sp)(hr:Room k X.A)(hg:Gl X x)(hm:X.mg x=some (.ref f))(hk:PySem.W.keepIn X.K (.ref f)=true)(hb:zhv X.K fd ps ds)(hd:z9 dvs ds)(hx:zif CX X E)
  (ha:PA X (e::es) t) (hdb:Ai x:=by ext) (he:starEach (e::es) X.env=(false,eval e X.env)::starEach es X.env:=by rfl) (hpl:(backTo pos (starEach es X.env)).any (·.1)=false:=by rfl) :
  PE X (.Call (.Name x p) (e::es) [] pos) (zh2 sp dvs E t):=by
 intro BD s G H Q I h;show fq (zjt I hg hm ?_ hdb);show PySem.W.callWith_K (h₀:=X.base) I.ok.mod.kin hk (thn (ha pos BD s G H _ I h) λus s1 ⟨vs,H1,I1,r,q⟩=>#[I1.kIn,?_]) he hpl;show zsQ F hr hb hd hx I1 r q
variable {ks:AN}{kpos:Pos}{kws:List Keyword}{te:TE}{tk:TA}{nm:Option Str}
variable {g:AO->AO->AO}{gV:AU->AU->AU}
end
structure FnScope (N P:AN)(sc:Scope):Prop where
 kind:sc.kind = .function
 co:sc.isCoroutine=false
 gen:sc.isGenerator=false
 nd:N.Nodup
 pre:N.take P.length=P
 par:∀x∈P,sc.names.lookup x=some .local\/sc.names.lookup x=some .cell
 nofree:∀y∈sc.names,y.2≠.free
theorem zeu {kindOf:Str->Option NameKind}{x:Str}:∀ {binds:List (Str×Value)} {m:AJ},(∀v,(x,v)∉binds)->bindL kindOf binds m x=m x
 | [],_,_=>rfl
 | (n,v)::r,m,h=>by
  unfold bindL;rw[zeu λw hw=>h w (ao _ hw)];split
  all_goals grind
theorem zes {kindOf:Str->Option NameKind}{x:Str}:∀ {binds:List (Str×Value)} {m:AJ},(∀v,(x,v)∉binds)->bindC kindOf binds m x=m x
 | [],_,_=>rfl
 | (n,v)::r,m,h=>by
  unfold bindC;rw[zes λw hw=>h w (ao _ hw)];split
  all_goals grind
theorem zet {kindOf:Str->Option NameKind}{x:Str}{v:Value}:∀ {P:AN} {vs:AO} {i:Nat} {m:AJ},P.Nodup->P[i]?=some x->vs[i]?=some v->kindOf x=some .local->
  bindL kindOf (P.zip vs) m x=some v
 | [],_,_,_,_,h,_,_=>by simp at h
 | _::_,[],_,_,_,_,h,_=>by simp at h
 | p::P,w::vs,0,m,nd,h1,h2,hk=>by simp at h1 h2;subst h1;subst h2;change bindL kindOf ((p,w)::P.zip vs) m p=_;unfold bindL;rw[zeu λv hv=>(bJ.mp nd).1 (List.of_mem_zip hv).1,if_pos hk];simp
 | p::P,w::vs,i+1,m,nd,h1,h2,hk=>by change bindL kindOf ((p,w)::P.zip vs) m x=_;unfold bindL;show zet (i:=i) (bJ.mp nd).2 (by simpa using h1) (by simpa using h2) hk
theorem zer {kindOf:Str->Option NameKind}{x:Str}{v:Value}:∀ {P:AN} {vs:AO} {i:Nat} {m:AJ},P.Nodup->P[i]?=some x->vs[i]?=some v->kindOf x≠some .local->
  bindC kindOf (P.zip vs) m x=some v
 | [],_,_,_,_,h,_,_=>by simp at h
 | _::_,[],_,_,_,_,h,_=>by simp at h
 | p::P,w::vs,0,m,nd,h1,h2,hk=>by simp at h1 h2;subst h1;subst h2;change bindC kindOf ((p,w)::P.zip vs) m p=_;unfold bindC;rw[zes λv hv=>(bJ.mp nd).1 (List.of_mem_zip hv).1,if_neg hk];simp
 | p::P,w::vs,i+1,m,nd,h1,h2,hk=>by change bindC kindOf ((p,w)::P.zip vs) m x=_;unfold bindC;show zer (i:=i) (bJ.mp nd).2 (by simpa using h1) (by simpa using h2) hk
def ul (N:AN)(vs:AU):St:=vs.map some++List.replicate (N.length - vs.length) none
def zfA (CX:CXT)(P:Ab)(w:Ac)(K:AI)(mg:AJ)(base:Heap)(N:AN)(qual:Str)(scope:Scope)(f:Addr)(cd:Value)(A:Af)(outer:List Env)(s:Aa)(H:Hp)(E:XK):Cx where
 prog:=P
 w:=w
 K:=K
 mg:=mg
 base:=base
 A:=A.deeper (envOfC qual scope s.heap.objs.size f cd)
 N:=N
 s₀:=s
 H₀:=H
 env:=envOfC qual scope s.heap.objs.size f cd
 outer:=outer
 stack:=envOfC qual scope s.heap.objs.size f cd::outer
 ex:=[]
 calm:=true
 fn:=λ_=>true
 pn:=[]
 xe:=λe s'=>wpAny (model P w) (A.deeper (envOfC qual scope s.heap.objs.size f cd)) (leaving (envOfC qual scope s.heap.objs.size f cd) e) (λ_ s''=>CX outer H s E e s'') (λe' s''=>CX outer H s E e' s'') s'
def zgE {sc:Scope}{n:Nat}{x:Str}(h:sc.names.lookup x=some .cell):∃c,(cellsFrom n sc.names []).lookup x=some c:=by have q:=PySem.W.cellsFrom_some sc.names n [] (.inl h);show Option.isSome_iff_exists.mp q
def zjf {CX:CXT}{P:Ab}{w:Ac}{K:AI}{mg:AJ}{base:Heap}{N ps:AN}{qual:Str}{scope:Scope}{f:Addr}{cd:Value}{A:Af}{outer:List Env}{s s1:Aa}{H:Hp}{E:XK}{us:AO}{vs:AU}
  (S:FnScope N ps scope) (hd:A.handled=none) (e0:Env0 P w K mg base A outer s H) (hl:vs.length=ps.length) (r:z9 vs us)
  (x:InCallC s s.heap.objs.size (bindL (envOfC qual scope s.heap.objs.size f cd).kindOf (ps.zip us) λ_=>none) (cellsFrom (s.heap.objs.size+1) scope.names []) (bindC (envOfC qual scope s.heap.objs.size f cd).kindOf (ps.zip us) λ_=>none) s1) :
  Inv (zfA CX P w K mg base N qual scope f cd A outer s H E) [] (ul N vs) H s1:=by
 have hpl:ps.length<=N.length:=by have:=congrArg List.length S.pre;rw[aR] at this;lia
 obtain⟨h1,tk,rfl,hk⟩:=x.done;have noA:∀b:Addr,b∉(zfA CX P w K mg base N qual scope f cd A outer s H E).ex:=λb z=>absurd (show b∈([]:AZ) from z) (by simp)
 show#[#[e0.mod,S.kind,BC,BC,ak _,λy z c h1 h2=>?_,λy hy=>?_,λy c _ h=>?_,λ_=>hd,Around.frames_deeper e0.frames,.inr #[BC,BC],λb z=>absurd z (noA b),e0.bs,e0.bsz,λb _ _=>noA b,λb z=>absurd z (noA b),e0.funs,e0.frf],
  rfl,e0.bare,Un.kept hk,#[_,x.toInCall.ns,λi y v h1 h2 h3=>?_],λy c h=>#[_,x.cell y c h],e0.hok.fresh (ak _),λy c h=>?_,λp hp=>absurd (show p∈([]:AB) from hp) (by simp),e0.hok.kept hk,?_]
 show name_of_addr x.apart (cL h1) (cL h2);have hy:scope.names.lookup y=some .cell\/scope.names.lookup y=some .free:=hy;rcases hy with hy | hy;show zgE hy;show absurd BC (S.nofree _ (cL hy));show dG (x.above y c (cL h))
 have hi:i<vs.length:=by
  unfold ul at h2;by_cases hi:i<vs.length;show hi;rw[bm (by simpa using hi)] at h2;rw[List.getElem?_replicate] at h2;right
 have ha:vs[i]?=some v:=by
  unfold ul at h2;rw[bv (by simpa using hi),aA] at h2;right
 obtain⟨u,hu,rv⟩:=r.get ha;have hp:ps[i]?=some y:=by rw[<- S.pre,dH (by lia)];show h1
 have ndP:ps.Nodup:=by rw[<- S.pre];show S.nd.sublist (fH _ _)
 show#[u,rv,?_];rcases S.par y (az hp) with k | k;show .inl #[k,zet ndP hp hu k];obtain⟨c,e⟩:=zgE (n:=s.heap.objs.size+1) k;show .inr #[.inl k,c,e,?_];have q:=x.cell y c e;rw[zer ndP hp hu (by change scope.names.lookup y≠_;rw[k];decide)] at q;show q;show e0.hok.fresh (dG (x.above y c (cL h)));unfold ul;change _=N.length;grind
def zuw {CX:CXT}{P:Ab}{w:Ac}{K:AI}{mg:AJ}{base:Heap}{k:Nat}{f:Addr}{name qual:Str}{params:Arguments}{body:List Stmt}{scope:Scope}{dV kV doc pm cdv ct oc:Value}{an od:Option Addr}
  {osl:Array AK} {N ps:AN} {sp:Sp} (lk:K.lookup f=some #[oc,od,.func (PySem.W.fnOf name qual params body scope dV kV doc pm an cdv ct),osl]) (hcd:PySem.W.codeIn K cdv qual=true) (S:FnScope N ps scope)
  (len:∀vs H Q E,sp vs H Q E->vs.length=ps.length)
  (hbody:∀ (A:Af) (outer:List Env) (s:Aa) (H:Hp) (vs:AU) (Q:VK) (E:XK),Room k (A.deeper (envOfC qual scope s.heap.objs.size f cdv))->sp vs H Q E->
   ∃t,PSs (zfA CX P w K mg base N qual scope f cdv A outer s H E) body t/\t { nx:=λ_ H'=>Q .non H',rt:=Q } (ul N vs) H) :
  FnOk P w K mg base CX (k+1) f (PySem.W.fnOf name qual params body scope dV kV doc pm an cdv ct) ps sp:=by
 show#[len,λA outer s H args us vs Q E hr e0 hb r hsp=>?_];have hl:=len _ _ _ _ hsp;have KX:K.In s.heap:=e0.mod.kin.keeps λb o e=>(e0.bs b o e).1;have lim:s.heap.NoLimit:=e0.mod.nolimit.keeps λb o e=>(e0.bs b o e).1
 have hkind:∀y∈ps.zip us,scope.names.lookup y.1=some .local\/(scope.names.lookup y.1=some .cell/\((cellsFrom (s.heap.objs.size+1) scope.names []).lookup y.1).isSome=true):=by
  rintro⟨n,v⟩ hy;rcases S.par n (List.of_mem_zip hy).1 with q | q;show .inl q;show .inr #[q,PySem.W.cellsFrom_some _ _ _ (.inl q)]
 show codeAny_call_function hr.depth (KX _ _ lk) BC S.co S.gen BC (PySem.W.codeRec_of KX hcd) (hb _ _ _ _ ?_);show wpAny_newFunctionEnv_cells S.kind hkind λenv he s1 x=>?_;subst he;show#[lim.keeps x.toInCall.keep,codeAny_func ?_];obtain⟨t,ht,hq⟩:=hbody A outer s H vs Q E (hr.deeper _) hsp;have I:Inv (zfA CX P w K mg base N qual scope f cdv A outer s H E) [] (ul N vs) H s1:=zjf S hr.hd e0 hl r x;show bA (ht [] s1 (ul N vs) H _ I hq) (λfl s' hs=>?_) λe s' hs=>hs
 have fin:∀ {σ':St} {H':Hp} {v:V} {u:Value},Inv (zfA CX P w K mg base N qual scope f cdv A outer s H E) [] σ' H' s'->yv v u->Q v H'->CE outer P w H s Q u s':=
  λ{σ' H' v u} J rv q=>#[v,H',J.os,J.bare,J.base,J.hok,rv,q]
 cases fl with
 | ret u=>
  obtain⟨v,σ',H',J,rv,q⟩:=hs;show fin J rv q
 | next=>
  obtain⟨σ',H',J,q⟩:=hs;show fin (v:=V.non) (u:=Value.none) J BC q
 | brk=>
  obtain⟨_,_,_,q⟩:=hs;show False.elim q
 | cont=>
  obtain⟨_,_,_,q⟩:=hs;show False.elim q
section
variable {X:Cx}{x:Str}{p pos:Pos}{e:Expr}{es:AQ}{t:TA}{id T:String}{r:AU->Hp->VK->Prop}
def tCB (r:AU->Hp->VK->Prop)(t:TA):TE:=λG H Q=>t G H λvs H1=>r vs H1 Q
def zl9 (hc:zcN X (.builtin id) r)(hg:Gl X x)(hm:X.mg x=none)(hv:bootBuiltins x=some (.builtin id))(ha:PA X (e::es) t)(hn:x ≠ "__name__" := by ext)(hdb:Ai x:=by ext)
  (he:starEach (e::es) X.env=(false,eval e X.env)::starEach es X.env:=by rfl) (hpl:(backTo pos (starEach es X.env)).any (·.1)=false:=by rfl):PE X (.Call (.Name x p) (e::es) [] pos) (tCB r t):=by
 intro BD s G H Q I h;show fq (zcg I hg hm hv ?_ hn hdb);show PyProof.Rows.callWith_builtin1 (thn (ha pos BD s G H _ I h) <| by rintro us s1 ⟨vs,H1,I1,r1,q1⟩;show hc BD s1 G H1 vs us Q I1 r1 q1) he hpl
def zj8 (hc:zcN X (.type T) r)(hg:Gl X x)(hm:X.mg x=none)(hv:bootBuiltins x=some (.type T))(ha:PA X (e::es) t)(hn:x ≠ "__name__" := by ext)(hdb:Ai x:=by ext)
  (he:starEach (e::es) X.env=(false,eval e X.env)::starEach es X.env:=by rfl) (hpl:(backTo pos (starEach es X.env)).any (·.1)=false:=by rfl):PE X (.Call (.Name x p) (e::es) [] pos) (tCB r t):=by
 intro BD s G H Q I h;show fq (zcg I hg hm hv ?_ hn hdb);show bR (thn (ha pos BD s G H _ I h) <| by rintro us s1 ⟨vs,H1,I1,r1,q1⟩;show hc BD s1 G H1 vs us Q I1 r1 q1) he hpl
variable {κ:Type}[DecidableEq κ]
def zaF (BE:List (κ×V))(k:κ):Option V:=(BE.find? λkv=>decide (kv.1=k)).map (·.2)
def za6 (BE:List (κ×V))(k:κ)(v:V):List (κ×V):=
 if (BE.any λkv=>decide (kv.1=k))=true then BE.map (λkv=>if kv.1=k then (kv.1,v) else kv) else BE++[(k,v)]
def um {p:κ×V}{r:List (κ×V)}{k:κ}(e:p.1=k):zaF (p::r) k=some p.2:=by simp[zaF,bt,e]
def xO {p:κ×V}{r:List (κ×V)}{k:κ}(e:¬ p.1=k):zaF (p::r) k=zaF r k:=by simp[zaF,bt,e]
theorem zhs (k:κ):∀BE:List (κ×V),(BE.any λkv=>decide (kv.1=k))=(zaF BE k).isSome
 | []=>rfl
 | p::r=>by
  rw[cN];by_cases e:p.1=k;simp only[um e,aN e,Bool.true_or,Option.isSome_some];rw[xO e,aT e,Bool.false_or];show zhs k r
def xz (BE:List (κ×V))(k:κ)(v:V):(za6 BE k v).length<=BE.length+1:=by
 unfold za6;split
 all_goals right
def zig.isSome_eq {o:Option V}{u:AK}(r:zig o u):o.isSome=u.isSome:=by
 cases o with
 | none=>cases u with
  | none=>rfl
  | some _=>show (show False from r).elim
 | some _=>cases u with
  | none=>show (show False from r).elim
  | some _=>rfl
def KV.val {BE:List (κ×V)}{vs:List (κ×Value)}(r:KV BE vs)(k:κ):zig (zaF BE k) (valueAt vs k):=by
 unfold KV at r
 induction r with
 | nil=>show True.intro
 | @cons p q ps qs h t ih=>
  obtain⟨h1,h2⟩:=h;by_cases e:p.1=k;have e':q.1=k:=h1.symm.trans e;have b:valueAt (q::qs) k=some q.2:=by simp[valueAt,bt,e']
  rw[um e,b];show h2;have e':¬ q.1=k:=λz=>e (h1.trans z);have b:valueAt (q::qs) k=valueAt qs k:=by simp[valueAt,bt,e']
  rw[xO e,b];show ih
def KV.any {BE:List (κ×V)}{vs:List (κ×Value)}(r:KV BE vs)(k:κ):(BE.any λkv=>decide (kv.1=k))=vs.any λkv=>decide (kv.1=k):=by
 unfold KV at r
 induction r with
 | nil=>rfl
 | cons h t ih=>rw[cN,cN,ih,h.1]
def KV.repl {BE:List (κ×V)}{vs:List (κ×Value)}(r:KV BE vs)(k:κ){y:V}{u:Value}(ry:yv y u) :
  KV (BE.map λkv=>if kv.1=k then (kv.1,y) else kv) (vs.map λkv=>if kv.1=k then (kv.1,u) else kv):=by
 unfold KV at r ⊢
 induction r with
 | nil=>show .nil
 | @cons p q ps qs h t ih=>
  rw[aC,aC];show .cons ?_ ih;grind
def KV.put {BE:List (κ×V)}{vs:List (κ×Value)}(r:KV BE vs)(k:κ){y:V}{u:Value}(ry:yv y u):KV (za6 BE k y) (stored vs k u):=by
 unfold za6 stored;rw[r.any k];by_cases e:(vs.any λkv=>decide (kv.1=k))=true;rw[if_pos e,if_pos e];show r.repl k ry;rw[if_neg e,if_neg e];show Paired.snoc r #[BC,ry]
def KV.length {BE:List (κ×V)}{vs:List (κ×Value)}(r:KV BE vs):BE.length=vs.length:=eI r
end
def zhJ {P:Ab}{w:Ac}{k:Key}{u:Value}(r:yv (kV k) u):(zy P w).is k u=true:=by
 cases k with
 | inl i=>obtain⟨t,e⟩:=(show ∃t,u=Value.int i t from r);subst e;show zco P w i t
 | inr x=>obtain⟨t,e⟩:=(show ∃t,u=Value.str x t from r);subst e;show zf7 P w x t
theorem zeF {P:Ab}{w:Ac}:∀ {ks:List Key} {us:AO},z9 (ks.map kV) us->ItemsAre (zy P w) ks us
 | [],_,r=>by rw[fw] at r;cases r;show .nil
 | k::ks,_,r=>by
  rw[aC] at r
  cases r with
  | cons h t=>show .cons (zhJ h) (zeF t)
abbrev KT (H:Hp):List (List Key×V)->List (List Key×Addr×Value)->Prop:=Paired λp q=>p.1=q.1/\H q.2.1=some (.tup (p.1.map kV))/\yv p.2 q.2.2
def KT.val {H:Hp}{BE:List (List Key×V)}{xs:List (List Key×Addr×Value)}(r:KT H BE xs)(k:List Key):zig (zaF BE k) ((atKey xs k).map (·.2)):=by
 induction r with
 | nil=>show True.intro
 | @cons p q ps qs h t ih=>
  obtain⟨h1,_,h2⟩:=h;by_cases e:p.1=k;have e':q.1=k:=h1.symm.trans e;have b:atKey (q::qs) k=some q.2:=by simp[atKey,bt,e']
  rw[um e,b];show h2;have e':¬ q.1=k:=λz=>e (h1.trans z);have b:atKey (q::qs) k=atKey qs k:=by simp[atKey,bt,e']
  rw[xO e,b];show ih
def KT.repl {H:Hp}{BE:List (List Key×V)}{xs:List (List Key×Addr×Value)}(r:KT H BE xs)(k:List Key){y:V}{u:Value}(ry:yv y u) :
  KT H (BE.map λkv=>if kv.1=k then (kv.1,y) else kv) (xs.map (putAt k u)):=by
 induction r with
 | nil=>show .nil
 | @cons p q ps qs h t ih=>
  rw[aC,aC];show .cons ?_ ih;obtain⟨h1,h2,h3⟩:=h;unfold putAt;by_cases e:p.1=k
  all_goals right
def KT.put {H:Hp}{BE:List (List Key×V)}{xs:List (List Key×Addr×Value)}(r:KT H BE xs)(k:List Key){b:Addr}{y:V}{u:Value}(hb:H b=some (.tup (k.map kV)))(ry:yv y u) :
  KT H (za6 BE k y) (storedH xs k b u):=by
 have e:(BE.any λkv=>decide (kv.1=k))=(atKey xs k).isSome:=by rw[zhs,(r.val k).isSome_eq,Option.isSome_map]
 unfold za6 storedH;rw[e];by_cases q:(atKey xs k).isSome=true;rw[if_pos q,if_pos q];show r.repl k ry;rw[if_neg q,if_neg q];show Paired.snoc r #[BC,hb,ry]
def KT.keeps {H H':Hp}{BE:List (List Key×V)}{xs:List (List Key×Addr×Value)}(r:KT H BE xs)(ht:∀b ys,H b=some (.tup ys)->H' b=some (.tup ys)):KT H' BE xs:=
 Paired.mapP r λ_ _ z=>#[z.1,ht _ _ z.2.1,z.2.2]
section
variable {P:Ab}{w:Ac}{H:Hp}{h:Heap}{a:Addr}
def zpM {u:HO}(ok:HOk P w H h)(e:Rd H a u):z8 P w H h a u:=e.ok ok
def zhB {BE:List (Key×V)}(ok:HOk P w H h)(e:Rd H a (.dK BE)):BE.length<=sizeLine/\(a==sysModules)=false/\∃vs,KV BE vs/\h.DictOf (zy P w) a vs:=
 show z8 P w H h a (.dK BE) from zpM ok e
def znR {BE:List (Key×V)}(ok:HOk P w H h)(e:H a=some (.dK BE)):BE.length<=sizeLine/\(a==sysModules)=false/\∃vs,KV BE vs/\h.DictOf (zy P w) a vs:=zhB ok (.inl e)
def zeL {ks:List Key}(ok:HOk P w H h)(e:H a=some (.tup (ks.map kV))):(tupleKind (zy P w)).is h ks a:=by obtain⟨_,its,r,o,h1,h2,⟨n,h3⟩,_⟩:=(show z8 P w H h a (.tup (ks.map kV)) from ok a _ e);show#[o,its.toArray,n,h1,h2,h3,by simpa using zeF r]
def zlr {BE:List (List Key×V)}(ok:HOk P w H h)(e:Rd H a (.dT BE)):BE.length<=sizeLine/\(a==sysModules)=false/\
  ∃xs,KT H BE xs/\h.DictOfH (tupleKind (zy P w)) a xs:=by
 obtain⟨z,y,xs,r,o,es,ep,h1,h2,h3,h4,h5⟩:=(show z8 P w H h a (.dT BE) from zpM ok e);show#[z,y,xs,r,o,es,ep,h1,h2,h3,h4,λx hx=>?_,h5]
 have all:∀ {l:List (List Key×V)} {m:List (List Key×Addr×Value)},KT H l m->∀x∈m,(tupleKind (zy P w)).is h x.1 x.2.1:=by
  intro l m q
  induction q with
  | nil=>intro x hx;show nomatch hx
  | @cons p q ps qs hq t ih=>
   intro x hx;rcases aG.mp hx with e | hx;subst e;show zeL ok (by right);show ih x hx
 show all r x hx
def zqW {BE:List (List Key×V)}(ok:HOk P w H h)(e:H a=some (.dT BE)):BE.length<=sizeLine/\(a==sysModules)=false/\
  ∃xs,KT H BE xs/\h.DictOfH (tupleKind (zy P w)) a xs:=zlr ok (.inl e)
end
def zfB (H:Hp)(a:Addr)(y:V)(r:Option V):Prop:=
 (∃BE k,Rd H a (.dK BE)/\y=kV k/\r=zaF BE k)\/∃BE k b,Rd H a (.dT BE)/\y = .ref b/\H b=some (.tup (k.map kV))/\r=zaF BE k
def zh9 (H:Hp)(a:Addr)(y v:V)(H':Hp):Prop:=
 (∃BE k,H a=some (.dK BE)/\y=kV k/\BE.length<sizeLine/\H'=upd H a (.dK (za6 BE k v)))\/
 ∃BE k b,H a=some (.dT BE)/\y = .ref b/\H b=some (.tup (k.map kV))/\BE.length<sizeLine/\H'=upd H a (.dT (za6 BE k v))
def zfB.k {H:Hp}{a:Addr}{BE:List (Key×V)}{k:Key}(e:H a=some (.dK BE)):zfB H a (kV k) (zaF BE k):=.inl #[BE,k,.inl e,BC,BC]
def zh9.k {H:Hp}{a:Addr}{BE:List (Key×V)}{k:Key}{v:V}(e:H a=some (.dK BE))(hl:BE.length<sizeLine):zh9 H a (kV k) v (upd H a (.dK (za6 BE k v))):=.inl #[BE,k,e,BC,hl,BC]
section
variable {X:Cx}{BD:AB}{G:St}{H:Hp}{s:Aa}{a:Addr}{y v:V}{u r:Value}{o:Option V}{A:Af}{E:AA}
def Inv.big (I:Inv X BD G H s):sysModules<s.heap.objs.size:=by have h:mainGlobals<s.heap.objs.size:=(I.mod.glob.keeps I.bk).lt;show dJ (by ext) h
def ziL {Q:AA}(hu:A.units+1<cLine)(I:Inv X BD G H s)(g:zfB H a y (some v))(ry:yv y u)(h:∀w' s',Inv X BD G H s'->yv v w'->Q w' s') :
  wpAny (model X.prog X.w) A (getItem (.ref a) u) Q E s:=by
 rcases g with ⟨BE,k,e,ey,l⟩ | ⟨BE,k,b,e,ey,eb,l⟩;subst ey;obtain⟨z,hd,vs,rel,dd⟩:=zhB I.hok e;obtain⟨w',hw,rw'⟩:=zig.some_of (v:=v) (o:=valueAt vs k) (by rw[l];show rel.val k);show wpAny_getItem_of (zhJ ry) dd.mapOf hw (h w' _ (I.tok _) rw');subst ey;cases (show u=Value.ref b from ry);obtain⟨z,hd,xs,rel,dd⟩:=zlr I.hok e;obtain⟨w',hw,rw'⟩:=zig.some_of (v:=v) (o:=(atKey xs k).map (·.2)) (by rw[l];show rel.val k);obtain⟨p,hp,hp2⟩:=aB.mp hw;show wpAny_getItem_heap (fB hu) (zeL I.hok eb) dd hp ?_;rw[hp2];show h w' _ (I.tok _) rw'
def d_in {Q:AA}(hu:A.units+1<cLine)(I:Inv X BD G H s)(g:zfB H a y o)(ry:yv y u)(h:∀s',Inv X BD G H s'->Q (.bool o.isSome) s') :
  wpAny (model X.prog X.w) A (compareOp .In u (.ref a)) Q E s:=by
 rcases g with ⟨BE,k,e,ey,l⟩ | ⟨BE,k,b,e,ey,eb,l⟩;subst ey;obtain⟨z,hd,vs,rel,dd⟩:=zhB I.hok e;show wpAny_in_of (zhJ ry) hd dd.mapOf ?_;rw[<- (rel.val k).isSome_eq,<- l];show h _ (I.tok _);subst ey;cases (show u=Value.ref b from ry);obtain⟨z,hd,xs,rel,dd⟩:=zlr I.hok e;show wpAny_in_heap (fB hu) (zeL I.hok eb) hd dd ?_;have q:=(rel.val k).isSome_eq;rw[Option.isSome_map] at q;rw[<- q,<- l];show h _ (I.tok _)
def zb5 {h':Heap}{t':Nat}{ob:HO}(I:Inv X BD G H s)(mu:Mut (H a))(hs:Heap.SameBut a s.heap h')(he:∃q,h'.get? a=some q)(new:z8 X.prog X.w (upd H a ob) h' a ob) :
  Inv X BD G (upd H a ob) { s with heap:=h',toks:=t' }:=
 I.write (x:=a) (e:=a) mu (.inl BC) (λb q hb z=>(hs.2 b hb).trans z) he new
def ziS {P:Ab}{w:Ac}{H':Hp}{h':Heap}{BE:List (Key×V)}{vs:List (Key×Value)}(z:BE.length<=sizeLine)(hd:(a==sysModules)=false)(rel:KV BE vs)(dd:h'.DictOf (zy P w) a vs) :
  z8 P w H' h' a (.dK BE):=#[z,hd,vs,rel,dd]
def ziM {H':Hp}{Q:Unit->Aa->Prop}(hu:A.units+1<cLine)(I:Inv X BD G H s)(g:zh9 H a y v H')(ry:yv y u)(rv:yv v r)(h:∀s',Inv X BD G H' s'->Q () s') :
  wpAny (model X.prog X.w) A (setItem (.ref a) u r) Q E s:=by
 rcases g with ⟨BE,k,e,ey,l,eH⟩ | ⟨BE,k,b,e,ey,eb,l,eH⟩;subst ey eH;obtain⟨z,hd,vs,rel,dd⟩:=znR I.hok e;have hz:vs.length<=sizeLine:=by rw[<- rel.length];show z
 have hl:(za6 BE k v).length<=sizeLine:=by have:=xz BE k v;lia
 show wpAny_setItem_pairs (hsz:=hz) (zhJ ry) dd λh' dd' hs=>h _ ?_;have he:∃q,h'.get? a=some q:=let ⟨q,_,_,hq,_⟩:=dd';#[q,hq];show zb5 I (by rw[e];show True.intro) hs he (ziS hl hd (rel.put k rv) dd');subst ey eH;cases (show u=Value.ref b from ry);obtain⟨z,hd,xs,rel,dd⟩:=zqW I.hok e;have hz:xs.length<=sizeLine:=by rw[<- eI rel];show z
 have hl:(za6 BE k v).length<=sizeLine:=by have:=xz BE k v;lia
 show wpAny_setItem_heap (hsz:=hz) (fB hu) (zeL I.hok eb) dd λh' dd' hs=>h _ ?_;obtain⟨q,es,ep,hq,h2,h3,h4,_,h5⟩:=dd';show zb5 I (by rw[e];show True.intro) hs #[q,hq] #[hl,hd,_,(rel.put k eb rv).keeps λc ys ec=>?_,q,es,ep,hq,h2,h3,h4,h5];rw[ze (by grind)];show ec
variable {BE:List (Key×V)}{k:Key}
def zuk {Q:AA}(I:Inv X BD G H s)(e:Rd H a (.dK BE))(h:∀t s',Inv X BD G H s'->Q (.int BE.length t) s'):wpAny (model X.prog X.w) A (call (.builtin "len") [.ref a]) Q E s:=by obtain⟨z,hd,vs,rel,dd⟩:=zhB I.hok e;show call_len_dict hd dd (by rw[<- rel.length];rw[bp] at z;lia) ?_;rw[<- rel.length];show h _ _ (I.tok _)
end
def zqw (i:Expr):Prop:=∀ov iv,subscripted i false ov iv=operate [ov,iv] (getItem ov iv)
def zp1 {prog:Ab}{w:Ac}{A:Af}{E:AA}{s:Aa}{env:Env}{value slice:Expr}{pos:Pos}{T id:String}{Q:AA}
  (hl:typeLookup (.type T) "__getitem__" = pure (some (.builtin id))) (hs:zqw slice)
  (h:Ah prog w A (eval value env) (λo s₁=>Ah prog w A (eval slice env) (λi s₂=>s₂.TypeIs o T/\Ah prog w A (getItem o i) Q E s₂) E s₁) E s) :
  Ah prog w A (eval (.Subscript value slice pos) env) Q E s:=by
 show Subscript_ (bA h (λo s₁ h₁=>bA h₁ (λi s₂ h₂=>?_) λ_ _ x=>x) λ_ _ x=>x);obtain⟨hT,h₂⟩:=h₂;unfold subscriptTail;show aa ?_;rw[getitemInPython_of_ne hT.not_modules];show aa (wpAny_specialOf hT hl ?_);have fin:Ah prog w A (subscripted slice false o i) (λr s₃=>Ah prog w A (letTemporaryGo value o r >>= λ_=>pure r) Q E s₃) E s₂:=by rw[hs o i];show wpAny_operating (bA h₂ (λr s₃ h₃=>aa (wpAny_letTemporaryGo (ai h₃))) λ_ _ x=>x)
 first
  | show ai (aa fin)
  | show aa (by grind)
  | show aa fin
def zfN {X:Cx}{BD:AB}{G:St}{H:Hp}{s:Aa}{a:Addr}{y:V}{o:Option V}(I:Inv X BD G H s)(g:zfB H a y o):s.TypeIs (.ref a) "dict" := by
 rcases g with ⟨BE,k,e,_,_⟩ | ⟨BE,k,b,e,_,_,_⟩;obtain⟨_,_,vs,_,dd⟩:=zhB I.hok e;show dd.typeIs;obtain⟨_,_,xs,_,dd⟩:=zlr I.hok e;show dd.typeIs
def zsY (td ty:TE):TE:=λG H Q=>td G H λx H1=>ty G H1 λy H2=>∃a v,x = .ref a/\zfB H2 a y (some v)/\Q v H2
def zvB (ty td:TE):TE:=λG H Q=>ty G H λy H1=>td G H1 λx H2=>∃a o,x = .ref a/\zfB H2 a y o/\Q (.bl o.isSome) H2
def zsR (td ty tv:TE):TS:=λBI G H=>tv G H λv H1=>td G H1 λx H2=>ty G H2 λy H3=>∃a H4,x = .ref a/\zh9 H3 a y v H4/\BI.nx G H4
section
variable {X:Cx}{o i e value:Expr}{pos pos' tpos:Pos}{td ty tv:TE}
def zo3 (hu:X.A.units+1<cLine)(ho:PE X o td)(hi:PE X i ty)(hs:zqw i):PE X (.Subscript o i pos) (zsY td ty):=by intro BD s G H Q I h;show zp1 PySem.F.slot_dict_getitem.lookup hs (thn (ho BD s G H _ I h) λu s1 ⟨x,H1,I1,rx,q1⟩=>thn (hi BD s1 G H1 _ I1 q1)  ?_);rintro iv s2 ⟨y,H2,I2,ry,a,v,ex,g,q2⟩;subst ex;obtain rfl:u=Value.ref a:=rx;show#[zfN I2 g,ziL hu I2 g ry λw' s3 I3 rw'=>#[v,H2,I3,rw',q2]]
def zrU (hu:X.A.units+1<cLine)(hi:PE X i ty)(ho:PE X o td):PC X .In i o (zvB ty td):=by intro BD s G H Q I h;show thn (hi BD s G H _ I h) λiv s1 ⟨y,H1,I1,ry,q1⟩=>thn (ho BD s1 G H1 _ I1 q1)  ?_;rintro u s2 ⟨x,H2,I2,rx,a,ov,ex,g,q2⟩;subst ex;obtain rfl:u=Value.ref a:=rx;show d_in hu I2 g ry λs3 I3=>#[.bl ov.isSome,H2,I3,BC,q2]
def zph (hu:X.A.units+1<cLine)(ho:PE X o td)(hi:PE X i ty)(hv:PE X value tv)(hs:swapsWith value (some (.Subscript o i pos')) pos.line X.env=pure false) :
  PS X (.Assign [.Subscript o i pos'] value pos) (zsR td ty tv):=by
 intro BD s G H BI I h;show wpAny_Assign_Subscript (thn (hv BD s G H _ I h) λr s1 ⟨v,H1,I1,rv,q1⟩=>thn (ho BD s1 G H1 _ I1 q1) λu s2 ⟨x,H2,I2,rx,q2⟩=>thn (hi BD s2 G H2 _ I2 q2) λiv s3 ⟨y,H3,I3,ry,a,H4,ex,g,q3⟩=>?_) hs;subst ex;obtain rfl:u=Value.ref a:=rx;show ziM hu I3 g ry rv λs4 I4=>#[G,H4,I4,q3]
end
def zgL {P:Ab}{w:Ac}{H:Hp}(h:Heap)(hb:sysModules<h.objs.size):z8 P w H (h.push { cls:=.type "dict",data:=.dict #v[] }) h.objs.size (.dK []):=
 #[aS _,eQ.mpr (Ne.symm (aJ hb)),[],.nil,Heap.DictOf.new h]
def zlq {P:Ab}{w:Ac}{H:Hp}(h:Heap)(hb:sysModules<h.objs.size):z8 P w H (h.push { cls:=.type "dict",data:=.dict #v[] }) h.objs.size (.dT []):=
 #[aS _,eQ.mpr (Ne.symm (aJ hb)),[],.nil,_,#v[],0,aw _ BC,#[BC,BC,BC],BC,BC,er]
section
variable {X:Cx}{pos:Pos}
end
def zkR:List (TE×TE)->St->Hp->(List (V×V)->Hp->Prop)->Prop
 | [],_,H,Q=>Q [] H
 | (tk,tv)::r,G,H,Q=>tk G H λx H1=>tv G H1 λy H2=>zkR r G H2 λps H3=>Q ((x,y)::ps) H3
abbrev VV:List (V×V)->List (Value×Value)->Prop:=Paired λp q=>yv p.1 q.1/\yv p.2 q.2
def PPs (X:Cx)(pos:Pos)(keys:List (Option Expr))(values:AQ)(trs:List (TE×TE)):Prop:=
 ∀ (BD:AB) (s:Aa) (G:St) (H:Hp) (Q:List (V×V)->Hp->Prop),Inv X BD G H s->zkR trs G H Q->
  Ag X (evalPairs (pairTrees keys values X.env pos)) (λvs s'=>∃ps H',Inv X BD G H' s'/\VV ps vs/\Q ps H') X.xe s
def zpg {X:Cx}{pos:Pos}:PPs X pos [] [] []:=λBD s G H Q I h=>pairTrees_nil_walk #[[],H,I,.nil,h]
def zmh {X:Cx}{pos:Pos}{k v:Expr}{ks:List (Option Expr)}{vs:AQ}{tk tv:TE}{trs:List (TE×TE)}(hk:PE X k tk)(hv:PE X v tv)(hr:PPs X pos ks vs trs) :
  PPs X pos (some k::ks) (v::vs) ((tk,tv)::trs):=λBD s G H Q I h=>
 pairTrees_cons_walk (thn (hk BD s G H _ I h) λu s1 ⟨x,H1,I1,rx,q1⟩=>thn (hv BD s1 G H1 _ I1 q1) λw2 s2 ⟨y,H2,I2,ry,q2⟩=>
  thn (hr BD s2 G H2 _ I2 q2) <| by rintro ws s3 ⟨ps,H3,I3,rel,q3⟩;show#[(x,y)::ps,H3,I3,.cons #[rx,ry] rel,q3])
def zcn (BE more:List (Key×V)):List (Key×V):=more.foldl (λacc kv=>za6 acc kv.1 kv.2) BE
def KV.merge:∀ {more:List (Key×V)} {rs:List (Key×Value)} {BE:List (Key×V)} {vs:List (Key×Value)},KV more rs->KV BE vs->KV (zcn BE more) (merged vs rs):=by
 intro more rs BE vs r;unfold KV at r
 induction r generalizing BE vs with
 | nil=>intro q;show q
 | @cons p q ps qs h t ih=>
  intro r0
  have e:KV (za6 BE p.1 p.2) (stored vs q.1 q.2):=by
   have:=r0.put p.1 h.2;right
  show ih e
theorem zaS:∀ (more BE:List (Key×V)),(zcn BE more).length<=BE.length+more.length
 | [],BE=>by change BE.length<=BE.length+0;lia
 | p::r,BE=>by
  have h1:=zaS r (za6 BE p.1 p.2);have h2:=xz BE p.1 p.2;change (zcn (za6 BE p.1 p.2) r).length<=_;grind
theorem zc4 {P:Ab}{w:Ac}:∀ {BE:List (Key×V)} {ws:List (Value×Value)},VV (BE.map λkv=>(kV kv.1,kv.2)) ws->∃rs,Carries (zy P w) ws rs/\KV BE rs
 | [],_,r=>by rw[fw] at r;cases r;show#[[],True.intro,.nil]
 | p::BE,_,r=>by
  rw[aC] at r
  cases r with
  | @cons a b as bs h t=>
   obtain⟨rs,c,q⟩:=zc4 (P:=P) (w:=w) t;obtain⟨b1,b2⟩:=b;show#[(p.1,b2)::rs,#[zhJ h.1,BC,c],.cons #[BC,h.2] q]
def zsZ (trs:List (TE×TE)):TE:=λG H Q=>∀p,H p=none->zkR trs G (upd H p (.dK [])) λps H2=>H2 p=some (.dK [])/\∃BE:List (Key×V),ps=BE.map (λkv=>(kV kv.1,kv.2))/\BE.length<=15/\Q (.ref p) (upd H2 p (.dK (zcn [] BE)))
def zo4 {X:Cx}{pos:Pos}{keys:List (Option Expr)}{values:AQ}{trs:List (TE×TE)}(h:PPs X pos keys values trs)(hall:keys.all (·.isSome)=true)(hl:keys.length=values.length)(h0:keys≠[])
  (h15:keys.length<=15):PE X (.Dict keys values pos) (zsZ trs):=by
 intro BD s G H Q I q;have hn:=I.hok.fresh (ak s.heap.objs.size);have I1:=I.laid (a:=s.heap.objs.size) (o:=.dK []) (h':=s.heap.push { cls:=.type "dict",data:=.dict #v[] }) (t':=s.toks) (λ_ _ q=>af _ q) (ak _) (zgL s.heap I.big);show wpAny_Dict_walk (knd:=zy X.prog X.w) hall hl h0 h15 (thn (h BD _ G _ _ I1 (q _ hn))  ?_);rintro ws s2 ⟨ps,H2,I2,rel,e,BE,ep,lk,q2⟩;subst ep;obtain⟨rs,c,rk⟩:=zc4 (P:=X.prog) (w:=X.w) rel;obtain⟨z,hd,vs0,r0,dd⟩:=znR I2.hok e;cases r0;show#[rs,c,dd,λh' dd' hs=>#[.ref s.heap.objs.size,_,?_,BC,q2]];have hz:(zcn [] BE).length<=sizeLine:=by have h1:=zaS BE [];rw[List.length_nil] at h1;rw[bp];lia
 have he:∃q,h'.get? s.heap.objs.size=some q:=let ⟨q,_,_,hq,_⟩:=dd';#[q,hq];show zb5 I2 (by rw[e];show True.intro) hs he (ziS hz hd (rk.merge .nil) dd')
section
variable {X:Cx}{BD:AB}{G:St}{H:Hp}{s:Aa}{a:Addr}{y d:V}{u r:Value}{o:Option V}{A:Af}{E:AA}
variable {o e f:Expr}{apos cpos:Pos}{td ty tx:TE}
variable {BE:List (Key×V)}
end
end L2
namespace HT
open PyProof.Rows
def lexLt:AH->AH->Bool
 | [],[]=>false
 | [],_::_=>true
 | _::_,[]=>false
 | x::xs,y::ys=>if x=y then lexLt xs ys else decide (x<y)
def lexLt_cons (x y:Int)(xs ys:AH):lexLt (x::xs) (y::ys)=if x=y then lexLt xs ys else decide (x<y):=rfl
def lexLt_nil_nil:lexLt [] []=false:=rfl
section
open PySem.SeqAt
open PySem.AutoSeq1 (wpAny_loadPart')
open PySem.MeetsSeq PySem.MeetsSeq2 PySem.MeetsSeq3
variable {prog:Ab}{w:Ac}{A:Af}{E:AA}{s:Aa}
def cat_tup {t b:Addr}{vs ws:AO}{Q:AA}(ht:IsTup s.heap t vs.toArray)(hb:IsTup s.heap b ws.toArray)(hv:vs≠[])
  (h1:ws=[]->Q (.ref t) s) (h2:ws≠[]->Q (.ref s.heap.objs.size) { s with heap:=s.heap.push { cls:=.type "tuple",data:=.seq (vs++ws).toArray } })
  (hsz:vs.length+ws.length<=sizeLine):Ah prog w A (binaryOp .Add (.ref t) (.ref b)) Q E s:=by
 obtain⟨⟨cls,dd,data,sl⟩,ho,hc,n,hd⟩:=id ht;obtain⟨⟨cls2,dd2,data2,sl2⟩,ho2,hc2,n2,hd2⟩:=id hb;simp only at hc hd hc2 hd2;subst hc hd hc2 hd2;have e:vs.toArray++ws.toArray=(vs++ws).toArray:=by simp
 by_cases hw:ws=[]
 ·show concat_meets #[_,ho,BC] #[_,ho2,BC] noFill_tuple_add seq_tuple_add PySem.F.slot_tuple_add PySem.F.entry_tuple_add (PySem.F.args_tuple_add_2 _ _)
   (tuple_addW1 t b vs.toArray ws.toArray n n2 dd dd2 sl sl2 (by simpa using hv) (by simp[hw])) #[ho,ho2,h1 hw]
 ·show concat_meets #[_,ho,BC] #[_,ho2,BC] noFill_tuple_add seq_tuple_add PySem.F.slot_tuple_add PySem.F.entry_tuple_add (PySem.F.args_tuple_add_2 _ _)
   (tuple_addW2 t b vs.toArray ws.toArray n n2 dd dd2 sl sl2 (by simpa using hv) (by simpa using hw) (by right)) #[ho,ho2,?_]
  rw[e];show h2 hw
def sIx (n d:Nat):AR->Nat
 | none=>d
 | some v=>if v<0 then (v+(n:Int)).toNat else min v.toNat n
def sIx_none (n d:Nat):sIx n d none=d:=rfl
def sIx_nat (n d k:Nat):sIx n d (some (k:Int))=min k n:=by change (if (k:Int)<0 then ((k:Int)+(n:Int)).toNat else min (k:Int).toNat n)=min k n;rw[if_neg (by lia),Int.toNat_natCast]
def zsS (n d:Nat)(hd:d<=n)(o:AR):sIx n d o<=n:=by
 cases o with
 | none=>show hd
 | some v=>
  change (if v<0 then (v+(n:Int)).toNat else min v.toNat n)<=n;by_cases hv:v<0;rw[if_pos hv];lia;rw[if_neg hv];show Nat.min_le_right _ _
def zit (v:Int)(n d:Nat):(if v<0 then max (v+(n:Int)) 0 else min v (n:Int))=((sIx n d (some v):Nat):Int):=by
 change (if v<0 then max (v+(n:Int)) 0 else min v (n:Int))=(((if v<0 then (v+(n:Int)).toNat else min v.toNat n):Nat):Int);grind
def zhw (lo hi:AR)(n:Nat):Builtin.Slice.sliceAdjust lo hi 1 (n:Int)=(((sIx n 0 lo:Nat):Int),((sIx n n hi:Nat):Int)):=by
 have h1:¬ ((1:Int)<0):=by lia
 unfold Builtin.Slice.sliceAdjust;simp only[h1,if_false];show Prod.ext ?_ ?_
 cases lo with
 | none=>rfl
 | some v=>show zit v n 0
 cases hi with
 | none=>rfl
 | some v=>show zit v n n
def zhT (i j:Nat):Builtin.Slice.slicePlaces (i:Int) (j:Int) 1=j - i:=by
 unfold Builtin.Slice.slicePlaces;have h1:(1:Int) > 0:=by lia
 simp only[h1,if_true,Int.ediv_one];split <;> lia
def zds {v:Value}{o:AR}{Q:AR->Aa->Prop}(p:IsPart v o)(h:Q o s):Ah prog w A (Builtin.Slice.slicePartIndex v) Q E s:=by
 cases p with
 | none=>show slicePart_none h
 | int i t=>show slicePart_int h
def uA {sl:Addr}{vl vu:Value}{lo hi:AR}{n:Nat}{Q:Int×Int×Nat->Aa->Prop}(hs:s.heap.IsSliceOf sl vl vu .none)(pl:IsPart vl lo)(pu:IsPart vu hi)
  (h:Q (((sIx n 0 lo:Nat):Int),1,sIx n n hi - sIx n 0 lo) s):Ah prog w A (Builtin.Slice.sliceApplied (.ref sl) (pure (n:Int))) Q E s:=by
 obtain⟨os,hos,hcs,hds⟩:=id hs;unfold Builtin.Slice.sliceApplied Builtin.Slice.sliceFields;show wpAny_bind (wpAny_bind (wpAny_field hos hds (x:=vl) BC (wpAny_bind (wpAny_field hos hds (x:=vu) BC (wpAny_bind (wpAny_field hos hds (x:=.none) BC (wpAny_pure ?_)))))));show wpAny_bind (slicePart_none ?_);change wpAny _ _ (if ((1:Int)==0)=true then _ else _) _ _ s;rw[if_neg (by ext)];show wpAny_bind (zds pl (wpAny_bind (zds pu (wpAny_bind (wpAny_pure ?_)))));change wpAny _ _ (match Builtin.Slice.sliceAdjust lo hi 1 (n:Int) with | (lo,hi)=>pure (lo,(1:Int),Builtin.Slice.slicePlaces lo hi 1)) _ _ s;rw[zhw lo hi n];change wpAny _ _ (pure (((sIx n 0 lo:Nat):Int),(1:Int),Builtin.Slice.slicePlaces ((sIx n 0 lo:Nat):Int) ((sIx n n hi:Nat):Int) 1)) _ _ s;rw[zhT];show wpAny_pure h
def zmg (xs:AL)(i k:Nat):((List.range k).filterMap λ(m:Nat)=>xs[((i:Int)+(m:Int) * 1).toNat]?).toArray=((xs.toList.drop i).take k).toArray:=by
 have e:(λ(m:Nat)=>xs[((i:Int)+(m:Int) * 1).toNat]?)=λm=>xs[i+m]?:=by
  funext m;have:((i:Int)+(m:Int) * 1).toNat=i+m:=by lia
  rw[this]
 rw[e];have:=pick_run xs i k;rw[List.filterMap_map] at this;have e2:((λx=>xs[x]?) ∘ λx=>i+x)=λm=>xs[i+m]?:=rfl;right
def getItem_tuple_cut {t sl:Addr}{items:AL}{vl vu:Value}{lo hi:AR}{Q:AA}(ht:IsTup s.heap t items)(hs:s.heap.IsSliceOf sl vl vu .none)(pl:IsPart vl lo)(pu:IsPart vu hi)
  (hw:¬ (sIx items.size 0 lo=0/\sIx items.size items.size hi=items.size))
  (h:Q (.ref s.heap.objs.size) { s with heap:=s.heap.push { cls:=.type "tuple",data:=.seq ((items.toList.drop (sIx items.size 0 lo)).take (sIx items.size items.size hi - sIx items.size 0 lo)).toArray } })
  (hsz:items.size<=sizeLine):Ah prog w A (getItem (.ref t) (.ref sl)) Q E s:=by
 have htake:sizeOk (.seq ((items.toList.drop (sIx items.size 0 lo)).take (sIx items.size items.size hi - sIx items.size 0 lo)).toArray):=by change ((items.toList.drop (sIx items.size 0 lo)).take (sIx items.size items.size hi - sIx items.size 0 lo)).toArray.size<=sizeLine;rw[List.size_toArray,List.length_take,List.length_drop,Array.length_toList];lia
 have hj:sIx items.size items.size hi<=items.size:=zsS _ _ (Nat.le_refl _) hi;obtain⟨os,hos,hcs,hds⟩:=id hs;have hTs:s.TypeIs (.ref sl) "slice" := #[os,hos,hcs];unfold getItem;try with_reducible show wpAny_holding ?_
 first | show wpAny_bind (wpAny_pure ?_) | skip
 show wpAny_bind (wpAny_sequenceKey ht.typeIs (by ext) ?_)
 show wpAny_bind (wpAny_callSpecial?_slot (name:=Str.ofString "__getitem__") ht.typeIs PyProof.Rows.slot_tuple_getitem
  (wpAny_call_entry PyProof.Rows.slot_tuple_getitem ht.typeIs entry_tuple_getitem ?_ (args_tuple_getitem _ _)))
 change wpAny _ _ (Builtin.Tuple.tupleItemsOf (.ref t) >>= _) _ _ s;show wpAny_bind (tupleItemsOf_ ht ?_);show wpAny_bind (wpAny_typeOf hTs ?_);rw[if_pos (by ext)];show wpAny_bind (uA hs pl pu ?_);have hno:¬ ((((sIx items.size 0 lo:Nat):Int)==0&&(1:Int)==1&&(sIx items.size items.size hi - sIx items.size 0 lo)==items.size)=true):=by grind
 change wpAny _ _ (if (((sIx items.size 0 lo:Nat):Int)==0&&(1:Int)==1&&(sIx items.size items.size hi - sIx items.size 0 lo)==items.size)=true then _ else _) _ _ s;rw[if_neg hno,zmg]
 first
  | show wpAny_bind (m:=Builtin.Tuple.tupleExact _) (wpAny_newObj_type (wpAny_pure #[_,BC,wpAny_pure h]) htake)
  | show wpAny_bind (by grind) (by grind)
  | show wpAny_bind (by grind)
  | show wpAny_bind (by grind)
end
end HT
namespace L2
open PyProof.Rows
abbrev TO:=St->Hp->(AR->Hp->Prop)->Prop
def PO (X:Cx)(e:Option Expr)(t:TO):Prop:=
 ∀ (BD:AB) (s:Aa) (G:St) (H:Hp) (Q:AR->Hp->Prop),Inv X BD G H s->t G H Q->
  Ag X (evalPart e X.env) (λu s'=>∃o H',Inv X BD G H' s'/\IsPart u o/\Q o H') X.xe s
def zkQ:TO:=λ_ H Q=>Q none H
def zs3 (t:TE):TO:=λG H Q=>t G H λx H1=>∃i,x = .int i/\Q (some i) H1
section
variable {X:Cx}{e:Expr}{te:TE}{lo hi:Option Expr}{tl th:TO}{pos p2:Pos}
def zpe:PO X none zkQ:=by intro BD s G H Q I h;rw[evalPart_none];show ai #[none,H,I,.none,h]
def zpf (h:PE X e te):PO X (some e) (zs3 te):=by intro BD s G H Q I hw;rw[evalPart_some];show thn (h BD s G H _ I hw)  ?_;rintro u s1 ⟨x,H1,I1,r1,q1⟩;obtain⟨i,rfl,q⟩:=q1;obtain⟨t,rfl⟩:=r1;show#[some i,H1,I1,.int i t,q]
def SlR (X:Cx)(r:V->AR->AR->Hp->VK->Prop):Prop:=
 ∀ (BD:AB) (s:Aa) (G:St) (H:Hp) (x:V) (v vl vu:Value) (lo hi:AR) (sl:Addr) (Q:VK),Inv X BD G H s->yv x v->s.heap.IsSliceOf sl vl vu .none->IsPart vl lo->IsPart vu hi->r x lo hi H Q->
  ∃T id,typeLookup (.type T) "__getitem__" = pure (some (.builtin id))/\s.TypeIs v T/\Ag X (getItem v (.ref sl)) (EP X BD G Q) X.xe s
def tSl (r:V->AR->AR->Hp->VK->Prop)(te:TE)(tl th:TO):TE:=λG H Q=>te G H λx H1=>tl G H1 λl H2=>th G H2 λu H3=>r x l u H3 Q
def zmb {r:V->AR->AR->Hp->VK->Prop}(hr:SlR X r)(he:PE X e te)(hl:PO X lo tl)(hu:PO X hi th):PE X (.Subscript e (.Slice lo hi none p2) pos) (tSl r te tl th):=by intro BD s G H Q I h;show Subscript_ (thn (he BD s G H _ I h)  ?_);rintro v s1 ⟨x,H1,I1,r1,q1⟩;show wpAny_Slice (thn (hl BD s1 G H1 _ I1 q1) λvl s2 ⟨l,H2,I2,pl,q2⟩=>thn (hu BD s2 G H2 _ I2 q2)  ?_);rintro vu s3 ⟨u,H3,I3,pu,q3⟩;rw[evalPart_none];show ai ?_;have I4:Inv X BD G H3 { s3 with heap:=s3.heap.push { cls:=.type "slice",data:=.fields #v[vl,vu,.none] } }:=I3.kept (t':=s3.toks) λb ob q=>af _ q;obtain⟨T,id,hT,ht,hg⟩:=hr BD { s3 with heap:=s3.heap.push { cls:=.type "slice",data:=.fields #v[vl,vu,.none] } } G H3 x v vl vu l u s3.heap.objs.size Q I4 r1 (Heap.IsSliceOf.new ..) pl pu q3;change Ag X (subscriptTail e (.Slice lo hi none p2) v (.ref s3.heap.objs.size)) (EP X BD G Q) X.xe { s3 with heap:=s3.heap.push { cls:=.type "slice",data:=.fields #v[vl,vu,.none] } };show tail_any (ops:=[.ref s3.heap.objs.size,v]) ht hT hg (by with_unfolding_all rfl)
def zcP (xs:AU)(lo hi:AR):AU:=(xs.drop (HT.sIx xs.length 0 lo)).take (HT.sIx xs.length xs.length hi - HT.sIx xs.length 0 lo)
def zb3 (xs:AU)(lo hi:AR):(zcP xs lo hi).length<=xs.length:=by unfold zcP;rw[aR,eD];lia
def rSlT (K:AI):V->AR->AR->Hp->VK->Prop:=λx lo hi H Q=>∃a xs,x = .ref a/\SqT K H a xs/\
 ¬ (HT.sIx xs.length 0 lo=0/\HT.sIx xs.length xs.length hi=xs.length)/\∀p,H p=none->Q (.ref p) (upd H p (.tup (zcP xs lo hi)))
def zsV:SlR X (rSlT X.K):=by
 intro BD s G H x v vl vu lo hi sl Q I rx hs pl pu h;obtain⟨a,xs,rfl,hx,hw,q⟩:=h;cases rx;obtain⟨its,r,ht,hz⟩:=I.tuple hx;have hlen:its.toArray.size=xs.length:=by rw[a9];show r.length.symm
 show#["tuple",_,PyProof.Rows.slot_tuple_getitem.lookup,ht.typeIs,?_];show HT.getItem_tuple_cut ht hs pl pu (by rw[hlen];show hw) ?_ (by rw[hlen];show hz);rw[hlen];show#[.ref s.heap.objs.size,_,I.laid (t':=s.toks) (o:=.tup (zcP xs lo hi)) (λb ob q=>af _ q) (ak _) ?_,BC,q _ (I.hok.fresh (ak _))];show#[av (zb3 xs lo hi) hz,_,(r.drop (HT.sIx xs.length 0 lo)).take (HT.sIx xs.length xs.length hi - HT.sIx xs.length 0 lo),uD.new _ _]
def zvs (K:AI):R2:=λx y H Q=>∃a b xs ys,x = .ref a/\y = .ref b/\SqT K H a xs/\SqT K H b ys/\xs≠[]/\xs.length+ys.length<=sizeLine/\
 (ys=[]->Q (.ref a) H)/\(ys≠[]->∀p,H p=none->Q (.ref p) (upd H p (.tup (xs++ys))))
def z9.nil_iff {xs:AU}{us:AO}(r:z9 xs us):us=[]↔xs=[]:=by
 cases r with
 | nil=>simp
 | cons _ _=>simp
def zoS:OpR X (binaryOp .Add) (zvs X.K):=by intro BD s G H x y v u Q I rx ry h;obtain⟨a,b,xs,ys,rfl,rfl,ha,hb,hx,hz,q1,q2⟩:=h;cases rx;cases ry;obtain⟨its,r1,p1,_⟩:=I.tuple ha;obtain⟨its2,r2,p2,_⟩:=I.tuple hb;show HT.cat_tup p1 p2 (λz=>hx (r1.nil_iff.mp z)) (λz=>#[.ref a,H,I,BC,q1 (r2.nil_iff.mp z)]) (λz=>?_) (by rw[<- r1.length,<- r2.length];show hz);show#[.ref s.heap.objs.size,_,I.laid (t':=s.toks) (o:=.tup (xs++ys)) (λb ob q=>af _ q) (ak _) ?_,BC,q2 (λw=>z (r2.nil_iff.mpr w)) _ (I.hok.fresh (ak _))];show#[by right,_,r1.append r2,uD.new _ _]
end
def ixN (n:Nat)(i:Int):Option Nat:=if 0<=i then (if i<n then some i.toNat else none) else if -(n:Int)<=i then some (i+n).toNat else none
def atI {α:Type}(xs:List α)(i:Int):Option α:=(ixN xs.length i).bind λj=>xs[j]?
def zjm {n:Nat}{i:Int}{j:Nat}(h:ixN n i=some j):seqIndex? i n=some j/\j<n/\-(n:Int)<=i/\i<n:=by
 unfold ixN at h;by_cases h0:0<=i;rw[if_pos h0] at h;by_cases h1:i<n;rw[if_pos h1] at h;have e:i.toNat=j:=bH h;show#[by rw[seqIndex_of h0 h1,e],by lia,by lia,h1];right;rw[if_neg h0] at h;by_cases h1:-(n:Int)<=i;rw[if_pos h1] at h;have e:(i+n).toNat=j:=bH h;show#[by rw[seqIndex_neg (by lia) h1,e],by lia,h1,by lia];right
def zik {α:Type}{xs:List α}{i:Int}{v:α}(h:atI xs i=some v):∃j,seqIndex? i xs.length=some j/\xs[j]?=some v/\j<xs.length/\-(xs.length:Int)<=i/\i<xs.length:=by
 unfold atI at h
 cases e:ixN xs.length i with
 | none=>rw[e] at h;cases h
 | some j=>
  rw[e] at h;obtain⟨h1,h2,h3,h4⟩:=zjm e;show#[j,h1,h,h2,h3,h4]
def znD {α:Type}{xs:List α}{j:Nat}{v:α}(h:xs[j]?=some v):atI xs (j:Int)=some v:=by
 have hj:j<xs.length:=(ae.mp h).1
 have e:ixN xs.length (j:Int)=some j:=by
  unfold ixN;right
 unfold atI;rw[e];show h
def zfC (b:Expr):Prop:=∀o i,subscripted b false o i=operate [o,i] (getItem o i)
def IxR (X:Cx)(r:R2):Prop:=
 ∀ (value slice:Expr) (BD:AB) (s:Aa) (G:St) (H:Hp) (x y:V) (v u:Value) (Q:VK),Inv X BD G H s->yv x v->yv y u->r x y H Q->
  subscripted slice false v u=operate [v,u] (getItem v u)->Ag X (subscriptTail value slice v u) (EP X BD G Q) X.xe s
def MtR (X:Cx)(id:String)(r:V->AU->Hp->VK->Prop):Prop:=
 ∀ (BD:AB) (s:Aa) (G:St) (H:Hp) (x:V) (xs:AU) (v:Value) (us:AO) (Q:VK),Inv X BD G H s->yv x v->z9 xs us->r x xs H Q->
  Ag X (call (.builtin id) (v::us)) (EP X BD G Q) X.xe s
section
variable {X:Cx}{a b:Expr}{ta tb:TE}{pos:Pos}
def zvj {r:R2}(hr:IxR X r)(ha:PE X a ta)(hb:PE X b tb)(hs:zfC b):PE X (.Subscript a b pos) (tOp r ta tb):=by intro BD s G H Q I h;show Subscript_ (ztW ha hb I h λv u s2 x y H2 I2 rx ry q=>hr a b BD s2 G H2 x y v u Q I2 rx ry q (hs _ _))
def ztH (K:AI):R2:=λx y H Q=>∃p xs i v,x = .ref p/\y = .int i/\SqL K H p xs/\atI xs i=some v/\Q v H
def ztI (K:AI):R2:=λx y H Q=>∃p xs i v,x = .ref p/\y = .int i/\SqT K H p xs/\atI xs i=some v/\Q v H
def zof:IxR X (ztH X.K):=by
 intro value slice BD s G H x y v u Q I rx ry h hs;obtain⟨p,xs,i,z,rfl,rfl,hq,he,q⟩:=h;cases rx;obtain⟨t,rfl⟩:=ry;obtain⟨its,r,pl,hz⟩:=I.list hq;obtain⟨j,h1,h2,h3,h4,h5⟩:=zik he;obtain⟨w,ew,rw'⟩:=r.get h2;have hl:=r.length;have hn:=zgZ;have fin:EP X BD G Q w s:=#[z,H,I,rw',q];by_cases h0:0<=i
 have hj:i.toNat=j:=by
  rw[seqIndex_of h0 h5] at h1;right
 show item_listR pl.isList h0 (by lia) (by rw[hj];simpa using ew) fin hs
 have hj:(i+(its.toArray.size:Int)).toNat=j:=by
  rw[seqIndex_neg (by lia) h4] at h1;right
 show subscriptTail_builtinR (x:=w) pl.isList.typeIs slot_list_getitem.lookup
  (wpAny_getItem_list_neg (Q:=λr s'=>r=w/\EP X BD G Q r s') pl.isList (by lia) (by right) (by lia) (by rw[hj];simpa using ew) #[BC,fin]) hs
def zq9:IxR X (ztI X.K):=by
 intro value slice BD s G H x y v u Q I rx ry h hs;obtain⟨p,xs,i,z,rfl,rfl,hq,he,q⟩:=h;cases rx;obtain⟨t,rfl⟩:=ry;obtain⟨its,r,pl,hz⟩:=I.tuple hq;obtain⟨j,h1,h2,h3,h4,h5⟩:=zik he;obtain⟨w,ew,rw'⟩:=r.get h2;have hl:=r.length;have hn:=zgZ;have fin:EP X BD G Q w s:=#[z,H,I,rw',q]
 show subscriptTail_builtinR (x:=w) pl.typeIs slot_tuple_getitem.lookup
  (getItem_tuple (j:=j) (Q:=λr s'=>r=w/\EP X BD G Q r s') pl (by lia) (by lia) (by right) (by simpa using ew) #[BC,fin]) hs
def zfn (lo hi:AR)(n:Nat):(sliceBounds lo hi none n).1=((HT.sIx n 0 lo:Nat):Int)/\(sliceBounds lo hi none n).2.1=((HT.sIx n n hi:Nat):Int)/\(sliceBounds lo hi none n).2.2=1:=by
 show#[?_,?_,BC]
 ·cases lo with
  | none=>simp[sliceBounds,HT.sIx]
  | some i=>
   simp only[sliceBounds,HT.sIx,Option.getD_none,show (1:Int) > 0 by ext,if_true];by_cases h:i<0
   ·simp only[h,if_true] <;> lia
   ·simp only[h,if_false] <;> lia
 ·cases hi with
  | none=>simp[sliceBounds,HT.sIx]
  | some i=>
   simp only[sliceBounds,HT.sIx,Option.getD_none,show (1:Int) > 0 by ext,if_true];by_cases h:i<0
   ·simp only[h,if_true] <;> lia
   ·simp only[h,if_false] <;> lia
def zec (its:AO)(lo hi:AR):slicePick its.toArray lo hi none=((its.drop (HT.sIx its.length 0 lo)).take (HT.sIx its.length its.length hi - HT.sIx its.length 0 lo)).toArray:=by obtain⟨h1,h2,h3⟩:=zfn lo hi its.toArray.size;unfold slicePick;rw[h1,h2,h3];simp only[sliceRange_one,pick_run,a9] <;> rfl
def rSlL (K:AI):V->AR->AR->Hp->VK->Prop:=λx lo hi H Q=>∃a xs,x = .ref a/\SqL K H a xs/\∀p,H p=none->Q (.ref p) (upd H p (.lst (zcP xs lo hi)))
def zpX:SlR X (rSlL X.K):=by intro BD s G H x v vl vu lo hi sl Q I rx hs pl pu h;obtain⟨a,xs,rfl,hx,q⟩:=h;cases rx;obtain⟨its,r,ht,hz⟩:=I.list hx;have hlen:=r.length;show#["list",_,slot_list_getitem.lookup,ht.isList.typeIs,?_];show wpAny_getItem_list_slice ht.isList hs pl pu .none (by simp) ?_ (by grind);rw[zec,<- hlen];show#[.ref s.heap.objs.size,_,I.laid (t':=s.toks) (o:=.lst (zcP xs lo hi)) (λb ob q=>af _ q) (ak _) ?_,BC,q _ (I.hok.fresh (ak _))];show#[av (zb3 xs lo hi) hz,_,0,(r.drop (HT.sIx xs.length 0 lo)).take (HT.sIx xs.length xs.length hi - HT.sIx xs.length 0 lo),aw _ BC]
def zdF:V->Bool
 | .non=>true
 | .bl _=>true
 | .int _=>true
 | .str _=>true
 | _=>false
def eqV:V->V->Bool
 | .non,.non=>true
 | .bl a,.bl b=>a==b
 | .bl a,.int b=>(if a then 1 else 0)==b
 | .int a,.bl b=>a==(if b then 1 else 0)
 | .int a,.int b=>a==b
 | .str a,.str b=>a==b
 | _,_=>false
def zqY {A:Af}{s:Aa}{y x:V}{u v:Value}(ry:yv y u)(rx:yv x v)(fy:zdF y=true)(fx:zdF x=true):SeqAt.EqAt A s u v (eqV y x):=by
 cases y with
 | non=>
  cases ry
  cases x with
  | non=>cases rx;show SeqAt.EqAt.same _
  | bl b=>cases rx;show SeqAt.EqAt.none_bool b
  | int b=>obtain⟨t,rfl⟩:=rx;show SeqAt.EqAt.none_int b t
  | str b=>obtain⟨t,rfl⟩:=rx;show SeqAt.EqAt.none_str b t
  | _=>show absurd (show false=true from fx) aM
 | bl a=>
  cases ry
  cases x with
  | non=>cases rx;show SeqAt.EqAt.bool_none a
  | bl b=>cases rx;show SeqAt.EqAt.bool_bool a b
  | int b=>obtain⟨t,rfl⟩:=rx;show SeqAt.EqAt.bool_int a b t
  | str b=>obtain⟨t,rfl⟩:=rx;show SeqAt.EqAt.bool_str a b t
  | _=>show absurd (show false=true from fx) aM
 | int a=>
  obtain⟨t',rfl⟩:=ry
  cases x with
  | non=>cases rx;show SeqAt.EqAt.int_none a t'
  | bl b=>cases rx;show SeqAt.EqAt.int_bool a t' b
  | int b=>obtain⟨t,rfl⟩:=rx;show SeqAt.EqAt.int_int a t' b t
  | str b=>obtain⟨t,rfl⟩:=rx;show SeqAt.EqAt.int_str a t' b t
  | _=>show absurd (show false=true from fx) aM
 | str a=>
  obtain⟨t',rfl⟩:=ry
  cases x with
  | non=>cases rx;show SeqAt.EqAt.str_none a t'
  | bl b=>cases rx;show SeqAt.EqAt.str_bool a t' b
  | int b=>obtain⟨t,rfl⟩:=rx;show SeqAt.EqAt.str_int a t' b t
  | str b=>obtain⟨t,rfl⟩:=rx;show SeqAt.EqAt.str_str a t' b t
  | _=>show absurd (show false=true from fx) aM
 | _=>show absurd (show false=true from fy) aM
def eqU (x:V)(u:Value):Bool:=match u with
 | .none=>eqV .non x
 | .bool b=>eqV (.bl b) x
 | .int i _=>eqV (.int i) x
 | .str z _=>eqV (.str z) x
 | _=>false
def zm0 {x y:V}{u:Value}(r:yv y u)(f:zdF y=true):eqU x u=eqV y x:=by
 cases y with
 | non=>cases r;rfl
 | bl b=>cases r;rfl
 | int i=>obtain⟨t,rfl⟩:=r;rfl
 | str z=>obtain⟨t,rfl⟩:=r;rfl
 | _=>show absurd (show false=true from f) aM
theorem zbW {x:V}:∀ {xs:AU} {us:AO},z9 xs us->xs.all zdF=true->us.any (eqU x)=xs.any λy=>eqV y x
 | _,_,.nil,_=>rfl
 | y::xs,u::us,.cons r t,f=>by rw[cO,aU] at f;rw[cN,cN,zm0 r f.1,zbW t f.2]
theorem zaV {A:Af}{s:Aa}{x:V}{v:Value}(rx:yv x v)(fx:zdF x=true):∀ {xs:AU} {us:AO},z9 xs us->xs.all zdF=true->∀u∈us,SeqAt.EqAt A s u v (eqU x u)
 | _,_,.nil,_=>by grind
 | y::xs,u::us,.cons r t,f=>λu' hu=>by
  rw[cO,aU] at f;rcases aG.mp hu with rfl | hu;rw[zm0 r f.1];show zqY r rx f.1 fx;show zaV rx fx t f.2 u' hu
def inV (x:V)(xs:AU):Bool:=xs.any λy=>eqV y x
def rIn (K:AI)(neg:Bool):R2:=λx y H Q=>∃p xs,y = .ref p/\(SqL K H p xs\/SqT K H p xs)/\zdF x=true/\xs.all zdF=true/\Q (.bl (if neg then !inV x xs else inV x xs)) H
def zj1:OpR X (compareOp .In) (rIn X.K false):=by
 intro BD s G H x y v u Q I rx ry h;obtain⟨p,xs,rfl,hq,fx,fs,q⟩:=h;cases ry;rcases hq with hq | hq;obtain⟨its,r,pl,hz⟩:=I.list hq;show SeqAt.in_listAt (eqU x) pl.isList (λw hw=>zaV rx fx r fs w (by simpa using hw)) #[.bl _,H,I,BC,?_];rw[show its.toArray.any (eqU x)=its.any (eqU x) by simp,zbW r fs];show q;obtain⟨its,r,pl,hz⟩:=I.tuple hq;show SeqAt.in_tupleAt (eqU x) pl (λw hw=>zaV rx fx r fs w (by simpa using hw)) #[.bl _,H,I,BC,?_];rw[show its.toArray.any (eqU x)=its.any (eqU x) by simp,zbW r fs];show q
def ze7:OpR X (compareOp .NotIn) (rIn X.K true):=by
 intro BD s G H x y v u Q I rx ry h;obtain⟨p,xs,rfl,hq,fx,fs,q⟩:=h;cases ry;rcases hq with hq | hq;obtain⟨its,r,pl,hz⟩:=I.list hq;show SeqAt.notIn_listAt (eqU x) pl.isList (λw hw=>zaV rx fx r fs w (by simpa using hw)) #[.bl _,H,I,BC,?_];rw[show its.toArray.any (eqU x)=its.any (eqU x) by simp,zbW r fs];show q;obtain⟨its,r,pl,hz⟩:=I.tuple hq;show SeqAt.notIn_tupleAt (eqU x) pl (λw hw=>zaV rx fx r fs w (by simpa using hw)) #[.bl _,H,I,BC,?_];rw[show its.toArray.any (eqU x)=its.any (eqU x) by simp,zbW r fs];show q
def zev:zcN X (.type "list") (λxs H Q=>∃p ys,xs=[.ref p]/\(SqL X.K H p ys\/SqT X.K H p ys)/\∀l,H l=none->Q (.ref l) (upd H l (.lst ys))):=by
 intro BD s G H xs us Q I r h;obtain⟨p,ys,rfl,hq,q⟩:=h;obtain⟨u,rfl,rx⟩:=zak r;cases rx
 have fin:∀ (its:AO),z9 ys its->ys.length<=sizeLine->∀ (h':Heap) (c':Nat),(∀b o',s.heap.get? b=some o'->h'.get? b=some o')->
   h'.get? s.heap.objs.size=some { cls:=.type "list",dict:=none,data:=.seq its.toArray c',slots:=#v[] }->EP X BD G Q (.ref s.heap.objs.size) { s with heap:=h' }:=λits r' hz h' c' kp e=>
  #[.ref s.heap.objs.size,_,I.laid (t':=s.toks) kp (ak _) (show z8 X.prog X.w _ h' _ (.lst ys) from #[hz,its,c',r',e]),BC,q _ (I.hok.fresh (ak _))]
 rcases hq with hq | hq;obtain⟨its,r',pl,hz⟩:=I.list hq;have hlen:=r'.length;obtain⟨o,ho,hc,n,hd⟩:=pl.isList;show call_list_seq p (.inl BC) ho hc hd (λh' c' kp e=>fin its r' hz h' c' kp e) (by grind);obtain⟨its,r',pl,hz⟩:=I.tuple hq;have hlen:=r'.length;obtain⟨o,ho,hc,n,hd⟩:=pl;show call_list_seq p (.inr BC) ho hc hd (λh' c' kp e=>fin its r' hz h' c' kp e) (by grind)
def zdx:zcN X (.type "tuple") (λxs H Q=>∃p ys,xs=[.ref p]/\((SqL X.K H p ys/\∀l,H l=none->Q (.ref l) (upd H l (.tup ys)))\/(SqT X.K H p ys/\Q (.ref p) H))):=by
 intro BD s G H xs us Q I r h;obtain⟨p,ys,rfl,h⟩:=h;obtain⟨u,rfl,rx⟩:=zak r;cases rx;rcases h with ⟨hq,q⟩ | ⟨hq,q⟩;obtain⟨its,r',pl,hz⟩:=I.list hq;have hlen:=r'.length;show call_tuple_list pl.isList (λh' kp=>?_) (by grind);have I1:Inv X BD G H { s with heap:=h' }:=I.kept (t':=s.toks) kp
 have I2:Inv X BD G (upd H h'.objs.size (.tup ys)) { s with heap:=h'.push { cls:=.type "tuple",data:=.seq its.toArray } }:=
  I1.laid (t':=s.toks) (λb o e=>af _ e) (ak _) (show z8 X.prog X.w _ _ _ (.tup ys) from #[hz,its,r',uD.new _ _])
 show#[.ref h'.objs.size,_,I2,BC,q _ (I1.hok.fresh (ak _))];obtain⟨its,r',pl,hz⟩:=I.tuple hq;show call_tuple_same pl #[.ref p,H,I,BC,q]
def tyV (K:AI)(T:String)(x:V)(H:Hp):Prop:=match x with
 | .str _=>T = "str"
 | .int _=>T = "int"
 | .ref p=>(T = "list" /\ ∃xs,SqL K H p xs)\/(T = "tuple" /\ ∃o,K.lookup p=some o/\o.cls = .type "tuple" /\ o.dict=none)\/
   (T = "dict" /\ ((∃BE,H p=some (.dK BE))\/∃BE,H p=some (.dT BE)))\/(T = "set" /\ ∃S n,H p=some (.set S n))
 | _=>False
def zs8 {BD:AB}{G:St}{H:Hp}{s:Aa}{T:String}{x:V}{v:Value}(I:Inv X BD G H s)(r:yv x v)(ty:tyV X.K T x H) :
  s.TypeIs v T/\∀a,v = .ref a->∃ob,s.heap.get? a=some ob/\ob.dict=none:=by
 cases x with
 | str z=>
  obtain⟨t,rfl⟩:=r;cases (show T = "str" from ty);show#[typeIs_str s z t,λ_ e=>nomatch e]
 | int i=>
  obtain⟨t,rfl⟩:=r;cases (show T = "int" from ty);show#[eL s i t,λ_ e=>nomatch e]
 | ref p=>
  cases r;rcases ty with ⟨rfl,xs,hq⟩ | ⟨rfl,o,hk,hc,hd⟩ | ⟨rfl,hk⟩ | ⟨rfl,S,n,hk⟩;obtain⟨its,_,pl,_⟩:=I.list hq;show#[pl.isList.typeIs,λa e=>?_];cases e;obtain⟨o,n,e,c,hd,_⟩:=pl;show#[o,e,hd];show#[#[o,I.kIn p o hk,hc],λa e=>?_];cases e;show#[o,I.kIn _ o hk,hd]
  have z:∃o,s.heap.get? p=some o/\o.ExactDict:=by
   rcases hk with ⟨BE,hk⟩ | ⟨BE,hk⟩;obtain⟨_,_,_,_,o,_,_,e,ex,_⟩:=I.hok p _ hk;show#[o,e,ex];obtain⟨_,_,_,_,o,_,_,e,ex,_⟩:=I.hok p _ hk;show#[o,e,ex]
  obtain⟨o,e,ex⟩:=z;show#[#[o,e,ex.1],λa e2=>?_];cases e2;show#[o,e,ex.2.1];obtain⟨o,_,_,_,e,ex,_⟩:=I.hok p _ hk;show#[#[o,e,ex.1],λa e2=>?_];cases e2;show#[o,e,ex.2.1]
 | _=>show False.elim ty
def tBM (K:AI)(T:String)(r:V->AU->Hp->VK->Prop)(to:TE)(t:TA):TE:=λG H Q=>to G H λx H1=>tyV K T x H1/\t G H1 λxs H2=>r x xs H2 Q
variable {o e:Expr}{es:AQ}{to:TE}{t:TA}{name:Str}{apos cpos:Pos}{T id:String}{r:V->AU->Hp->VK->Prop}
def zrW (pa:PlainAttrs T)(slot:Slot T name id)(hty:typeOf (.builtin id)=pure (.type "method_descriptor"))(hm:MtR X id r)(ho:PE X o to)(ha:PA X (e::es) t)
  (hbase:attributeBase o name X.env (eval o X.env)=eval o X.env:=by rfl)
  (hfew:((backTo cpos (starEach (e::es) X.env)).all (λx=>!x.1)&&(backToKw cpos (keywordEach [] X.env)).all (λx=>x.1.isSome)
   && decide ((e::es).length+([]:List Keyword).length+(if ([]:List Keyword).isEmpty then 0 else 1)<30))=true:=by rfl)
  (hline:(apos.endLine==cpos.line)=true:=by rfl) (hs:starEach (e::es) X.env=(false,eval e X.env)::starEach es X.env:=by rfl) (hplain:(backTo cpos (starEach es X.env)).any (·.1)=false:=by rfl) :
  PE X (.Call (.Attribute o name apos) (e::es) [] cpos) (tBM X.K T r to t):=by
 intro BD s G H Q I h;show wpAny_Call_method_late hbase hfew hline BC (thn (ho BD s G H _ I h)  ?_);rintro v s1 ⟨x,H1,I1,r1,ty,q1⟩;obtain⟨h1,h2⟩:=zs8 I1 r1 ty;show#[T,id,pa,slot,hty,h1,h2,?_];have hA:=ha cpos BD s1 G H1 _ I1 q1;rw[hs] at hA ⊢;show Calls.callWith_builtin (by change (false || (backTo cpos (starEach es X.env)).any (·.1))=false;rw[hplain] <;> rfl) (Calls.evalArgs_plain ?_);show thn hA <| by rintro us s2 ⟨vs,H2,I2,r2,q2⟩;show hm BD s2 G H2 x vs v us Q I2 r1 r2 q2
end
def MtM (X:Cx)(id:String)(r:V->AU->Hp->VK->Prop):Prop:=
 ∀ (BD:AB) (s:Aa) (G:St) (H:Hp) (x:V) (xs:AU) (v:Value) (us:AO) (Q:VK),Inv X BD G H s->yv x v->z9 xs us->r x xs H Q->
  Ag X (call (.builtin id) (v::us)) (EP X BD G Q) X.xe s
theorem z9.one:∀ {x:V} {us:AO},z9 [x] us->∃u,us=[u]/\yv x u
 | _,_,.cons r .nil=>#[_,BC,r]
theorem z9.eraseIdx:∀ {xs:AU} {us:AO} (i:Nat),z9 xs us->z9 (xs.eraseIdx i) (us.eraseIdx i)
 | _,_,_,.nil=>.nil
 | _,_,0,.cons _ t=>t
 | _,_,i+1,.cons r t=>.cons r (z9.eraseIdx i t)
theorem z9.rep {xs:AU}{us:AO}(h:z9 xs us):∀k:Nat,z9 (List.replicate k xs).flatten (List.replicate k us).flatten
 | 0=>.nil
 | k+1=>by rw[cP,cP,ee,ee];show z9.append h (z9.rep h k)
theorem zeP {α:Type}:∀ (l:List α) (i:Nat),(l.eraseIdx i).length<=l.length
 | [],_=>ak _
 | _::_,0=>cQ _
 | _::r,i+1=>Nat.succ_le_succ (zeP r i)
theorem zb6 (its:AO):∀ (k:Nat) (acc:AO),
  List.foldl (λx1 x2=>x1++x2) acc.toArray (List.replicate k its.toArray)=(acc++(List.replicate k its).flatten).toArray
 | 0,acc=>by simp
 | k+1,acc=>by
  have e:acc.toArray++its.toArray=(acc++its).toArray:=by simp
  have e2:(acc++its)++(List.replicate k its).flatten=acc++(List.replicate (k+1) its).flatten:=by grind
  rw[<- e2,<- zb6 its k (acc++its),<- e,cP,List.foldl_cons]
section
variable {X:Cx}{BD:AB}{G:St}{H:Hp}{s:Aa}{l b:Addr}{xs ys zs:AU}
def Inv.lset {its its':AO}{n:Nat}{f:AL->AL}{t':Nat}(I:Inv X BD G H s)(hH:H l=some (.lst xs))
  (e:s.heap.get? l=some { cls:=.type "list",data:=.seq its.toArray n }) (hf:f its.toArray=its'.toArray) (hv:z9 ys its') (hz:ys.length<=sizeLine) :
  Inv X BD G (upd H l (.lst ys)) { s with heap:=s.heap.update l (Obj.mapSeq f),toks:=t' }:=by
 have q:=PySem.IsL.update e f;rw[hf] at q;show I.write (x:=l) (e:=l) (by rw[hH];show trivial) (.inl BC) (λb' u hb hu=>(bG s.heap (Obj.mapSeq f) (Ne.symm hb)).trans hu) #[_,q] ?_;show#[hz,its',_,hv,q]
def Inv.lnew {its:AO}{t':Nat}(I:Inv X BD G H s)(hv:z9 ys its)(hz:ys.length<=sizeLine) :
  Inv X BD G (upd H s.heap.objs.size (.lst ys)) { s with heap:=s.heap.push { cls:=.type "list",data:=.seq its.toArray },toks:=t' }:=
 I.laid (λ_ _ q=>af _ q) (ak _) #[hz,its,0,hv,aw _ BC]
def Inv.fresh (I:Inv X BD G H s):H s.heap.objs.size=none:=I.hok.fresh (ak _)
def Inv.lstM (I:Inv X BD G H s)(hH:Rd H l (.lst xs)):xs.length<=sizeLine/\∃ (its:AO) (n:Nat),z9 xs its/\xs.length=its.length/\s.heap.get? l=some { cls:=.type "list",data:=.seq its.toArray n }:=by obtain⟨z,its,n,r,e⟩:=(show z8 X.prog X.w H s.heap l (.lst xs) from hH.ok I.hok);show#[z,its,n,r,r.length,e]
def zl1 {n:Nat}(h:n<=sizeLine):Builtin.List.listTooLong n=false:=by
 unfold Builtin.List.listTooLong;right
def zgh:V->AU->Hp->VK->Prop:=λx vs H Q=>∃l xs y,x = .ref l/\vs=[y]/\H l=some (.lst xs)/\xs.length<sizeLine/\Q .non (upd H l (.lst (xs++[y])))
def zeT:MtM X "list.append" zgh:=by intro BD s G H x vs v us Q I rx rv h;obtain⟨l,xs,y,rfl,rfl,hH,hz,q⟩:=h;cases rx;obtain⟨u,rfl,ru⟩:=rv.one;obtain⟨z,its,n,r,hl,e⟩:=I.lstM (.inl hH);show dj F.slot_list_append #[_,e,BC] F.entry_list_append (F.args_list_append_2 _ _) (PySem.list_append l its.toArray n u (by grind)) #[e,?_];show#[.non,_,I.lset (its':=its++[u]) hH e (by simp) (r.append (.cons ru .nil)) ?_,BC,q];rw[ay,b6];lia
def zpJ:V->AU->Hp->VK->Prop:=λx vs H Q=>∃l b xs zs,x = .ref l/\vs=[.ref b]/\H l=some (.lst xs)/\Rd H b (.lst zs)/\xs.length+zs.length<=sizeLine/\Q .non (upd H l (.lst (xs++zs)))
def zjQ:MtM X "list.extend" zpJ:=by
 intro BD s G H x vs v us Q I rx rv h;obtain⟨l,b,xs,zs,rfl,rfl,hH,hB,hz,q⟩:=h;cases rx;obtain⟨u,rfl,ru⟩:=rv.one;cases ru;obtain⟨z,its,n,r,hl,e⟩:=I.lstM (.inl hH);obtain⟨z2,its2,n2,r2,hl2,e2⟩:=I.lstM hB;have hsz:its.toArray.size+its2.toArray.size<=sizeLine:=by rw[a9,a9];lia
 have hlong:¬ (!its.toArray.isEmpty&&Builtin.List.listTooLong (its.toArray.size+its2.toArray.size))=true:=by
  rw[zl1 hsz,dv];grind
 show dj F.slot_list_extend #[_,e,BC] F.entry_list_extend (F.args_list_extend_2 _ _)
  (AutoSeq1.list_extend_list_list_0 l its.toArray n b its2.toArray n2 hlong (by lia) (by lia)) #[e,e2,?_]
 show#[.non,_,I.lset (its':=its++its2) hH e (by simp) (r.append r2) ?_,BC,q];right
def znn:V->AU->Hp->VK->Prop:=λx vs H Q=>∃l xs i k y,x = .ref l/\vs=[.int i]/\H l=some (.lst xs)/\-(2 ^ 63)<=i/\i<2 ^ 63/\seqIndex? i xs.length=some k/\xs[k]?=some y/\Q y (upd H l (.lst (xs.eraseIdx k)))
def zlY:MtM X "list.pop" znn:=by
 intro BD s G H x vs v us Q I rx rv h;obtain⟨l,xs,i,k,y,rfl,rfl,hH,h1,h2,hk,hy,q⟩:=h;cases rx;obtain⟨u,rfl,ru⟩:=rv.one;obtain⟨t,rfl⟩:=ru;obtain⟨z,its,n,r,hl,e⟩:=I.lstM (.inl hH);obtain⟨w,hw,rw'⟩:=r.get hy
 show dj F.slot_list_pop #[_,e,BC] F.entry_list_pop (F.args_list_pop_2 _ _)
  (MeetsSeq.list_pop_at l its.toArray n i t k w (fitsIndex_both h1 h2) (by right) (by right) (by right)) #[e,?_]
 show#[y,_,I.lset (its':=its.eraseIdx k) hH e ?_ (r.eraseIdx k) ?_,rw',q];right;have:=zeP xs k;lia
def rCat:R2:=λx y H Q=>∃l b xs zs,x = .ref l/\y = .ref b/\Rd H l (.lst xs)/\Rd H b (.lst zs)/\xs.length+zs.length<=sizeLine/\∀p,H p=none->Q (.ref p) (upd H p (.lst (xs++zs)))
def zrI:OpR X (binaryOp .Add) rCat:=by
 intro BD s G H x y v u Q I rx ry h;obtain⟨l,b,xs,zs,rfl,rfl,hH,hB,hz,q⟩:=h;cases rx;cases ry;obtain⟨z,its,n,r,hl,e⟩:=I.lstM hH;obtain⟨z2,its2,n2,r2,hl2,e2⟩:=I.lstM hB;show PySem.P.add_list e e2 ?_ (by right);have ea:its.toArray++its2.toArray=(its++its2).toArray:=by simp
 rw[ea];show#[.ref _,_,I.lnew (t':=s.toks) (r.append r2) (by right),BC,q _ I.fresh]
def zjw {α:Type}(xs:List α)(k:Nat):(List.replicate k xs).flatten.length=k * xs.length:=by right
variable {prog:Ab}{w:Ac}{A:Af}{E:AA}
end
end L2
namespace Att
open PySem.W PySem.Calls PyProof.Rows
def zcb {P:Params}{h:Heap}:∀ (ns:AH) (vs:AO),WellAll P h vs (ns.map WData.int)->IntsAre vs ns:=by
 intro ns
 induction ns with
 | nil=>
  intro vs w;rw[List.map_nil] at w;cases w;show .nil
 | cons n ns ih=>
  intro vs w;rw[List.map_cons] at w
  cases w with
  | cons a b=>
   cases a;show .cons _ _ (ih _ b)
def zkE {l:OpenLaw}{n:Nat}(hn:l.most=some n){P:Params}{h:Heap}{args:List WData}{vals:AO}
  (hpre:l.row.toRowW.claim.pre args=true) (hwl:WellAll P h vals args) :
  ∃a vs ns,vals=[Value.ref a]/\args=[WData.list (ns.map WData.int)]/\h.get? a=some { cls:=.type "list",data:=.seq vs.toArray }/\IntsAre vs ns/\ns.length<=n:=by
 have hsh:WShape.hasAll [] args [.list .int]=true:=(pre_splitW hpre).1;have hc:l.pre.holds [] { args:=args }=true:=(pre_splitW hpre).2;obtain⟨d,r,rfl,h1,h2⟩:=hasAllW_cons hsh;obtain rfl:=hasAllW_nil h2;obtain⟨xs,rfl,h3⟩:=hasW_list h1;obtain⟨ns,rfl⟩:=items_int h3
 have hlen:ns.length<=n:=by
  unfold OpenLaw.pre at hc
  have h4:(WTm.not (.lt (.lit (.int (n:Int))) (.len (.arg 0)))).holds [] { args:=[.list (ns.map .int)] }=true:=by
   have h4:=(holds_andW hc).1;right
  have h5:=condW_of h4 (w_not (w_lt w_lit (w_len_list (w_arg BC))));grind
 cases hwl with
 | cons w1 w2=>
  cases w2
  cases w1 with
  | list ho hall=>show#[_,_,ns,BC,BC,ho,zcb ns _ hall,hlen]
def zkc (l:OpenLaw)(args:List WData):l.row.toRowW.claim.post args (.bool true) args=true:=
 postW_of (r:=l.row.toRowW) (X:=(true==true))
  (show WShape.has [] (.bool true) .bool=true by first | rfl | decide | simp[WShape.has,WShape.arms,WShape.armsAll])
  (show (WTm.eq .res (.lit (.bool true))).value [] { args:=args,res:=some (.bool true),after:=args }=some (.bool (true==true)) from w_eq_bool (w_res BC) w_lit) BC
def attach_call {l:OpenLaw}{n:Nat}{q:Ab}{loose:AN}{XP:(AJ)->Heap->Prop}{YP:Ac->Heap->Prop}{d:DefRec}
  (hn:l.most=some n) (hdf:d.params.defaults=[])
  (call:∀ (w:Ac) (s₀ s₁:Aa) (mg mb:AJ) (fa:Addr) (o:Obj) (pm cd doc:Value) (a:Addr) (vs:AO) (ns:AH),
   Ground q loose [] XP w s₀ mg mb s₁.heap->YP w s₁.heap->
   s₁.heap.get? fa=some o->o.data = .func (docDef d.name d.params d.body d.scope pm cd doc)->s₁.heap.CodeRec cd d.name->mg d.name=some (.ref fa)->
   s₁.heap.get? a=some { cls:=.type "list",data:=.seq vs.toArray }->IntsAre vs ns->ns.length<=n->s₁.gens = #v[]->
   codeAny (model l.prog w) callerA (.call (.ref fa) #[[.ref a],[]]) (λr s'=>r = .ok (.ret (.bool true))/\OldK s₁.heap s'.heap/\s'.os=s₁.os/\AllBare s'.gens) s₁) :
  WalkO q loose XP YP l.row.toRowW d [] (λf vs=>PySem.call f vs):=by
 intro w s₀ s₁ mg mb BH Y fa o pm cd doc dV kV ho hd hcd hD hmg hg args vals as hpre hlay hrd hwl hlo;obtain rfl:dV = .none:=Dflts.none hD hdf;obtain rfl:kV = .none:=Dflts.noKw hD;obtain⟨a,vs,ns,rfl,rfl,hobj,hints,hlen⟩:=zkE hn hpre hwl;show enter_call (codeAny_mono (call w s₀ s₁ mg mb fa o pm cd doc a vs ns BH Y ho (fd_plain hd) hcd hmg hobj hints hlen hg) λr s' hq=>?_);obtain⟨rfl,h2,h3,h4⟩:=hq;show#[.inl #[.bool true,.bool true,[],BC,λ_=>rfl,.bool true,zkc l _,λ_=>#[List.Pairwise.nil,λ_ hm=>(nomatch hm)]],h2,h3,h4]
section
variable {prog:Ab}{w:Ac}{A:Af}{E:AA}{s:Aa}{K:Frag}
def ledger (h:Heap)(L d:Addr):AB:=(List.range h.objs.size).filterMap λa=>if a=L\/a=d then none else (h.get? a).map λo=>(a,o)
end
end Att
namespace L2
open PyProof.Rows
theorem zfw:∀ {vs:AO} {ns:AH},IntsAre vs ns->z9 (ns.map V.int) vs
 | _,_,.nil=>.nil
 | _,_,.cons n t h=>.cons #[t,BC] (zfw h)
def ztP (H:Hp):Prop:=∀b,H b=none\/∃o xs,H b=some (.frz o (.lst xs))
def zlN {P:Ab}{w:Ac}{K:AI}{mg mb:AJ}{CX:CXT}{k:Nat}{fa a:Addr}{fd:Ae}{x:Str}{sp:Sp}{s₁:Aa}{vs:AO}{ns:AH}
  (KX:K.In s₁.heap) (hns:s₁.heap.Ns mainGlobals mg) (hb:s₁.heap.Ns builtinsNs mb) (hbb:∀x:Str,x ≠ "__name__" -> mb x=bootBuiltins x) (hlim:s₁.heap.NoLimit) (hg:s₁.gens = #v[])
  (ha:s₁.heap.get? a=some { cls:=.type "list",data:=.seq vs.toArray }) (hi:IntsAre vs ns) (hl:ns.length<=sizeLine) (hr:Room k callerA)
  (F:∀base:Heap,K.In base->base.Ns mainGlobals mg->FnOk P w K mg base CX k fa fd [x] sp) (hbind:∀ (s:Aa) (u:Value),BindsTo s fd #[[u],[]] [(x,u)])
  (hsp:∀H:Hp,ztP H->SqL K H a (ns.map V.int)->sp [.ref a] H (λv _=>v = .bl true) λ_ _ _=>False)
  (hCX:∀H e s',CX [] H s₁ (λ_ _ _=>False) e s'->False) :
  codeAny (model P w) callerA (.call (.ref fa) #[[.ref a],[]]) (λr s'=>r = .ok (.ret (.bool true))/\OldK s₁.heap s'.heap/\s'.os=s₁.os/\AllBare s'.gens) s₁:=by
 have rv:=zfw hi;have lenV:=hi.length
 have core:∀H:Hp,ztP H->SqL K H a (ns.map V.int)->HOk P w H s₁.heap->(∀b,H b≠none->b=a)->(H a≠none->K.lookup a=none)->
   codeAny (model P w) callerA (.call (.ref fa) #[[.ref a],[]]) (λr s'=>r = .ok (.ret (.bool true))/\OldK s₁.heap s'.heap/\s'.os=s₁.os/\AllBare s'.gens) s₁:=by
  intro H hO hS hok hA hK;have base_of:∀ {b:Addr} {o:Obj},s₁.heap.get? b=some o->H b=none->(zly s₁.heap H).get? b=some o:=λe n=>zlz e n;have noA:∀ {b:Addr} {o:Obj} {es:Array DictEntry} {ep:Nat},s₁.heap.get? b=some o->o.data = .dict es ep->H b=none:=λ{b o es ep} e d=>by grind
  have nsK:∀ {b:Addr} {m:AJ},s₁.heap.Ns b m->(zly s₁.heap H).Ns b m:=λ{b m} ⟨o,es,ep,e,d,r⟩=>#[o,es,ep,base_of e (noA e d),d,r];have hKb:K.In (zly s₁.heap H):=λb o e=>base_of (KX b o e) (by grind);have hM:Mod K mg (zly s₁.heap H):=#[hKb,nsK hns,#[mb,nsK hb,hbb],let ⟨mc,h1,h2⟩:=hlim;#[mc,nsK h1,h2]];have e0:Env0 P w K mg (zly s₁.heap H) callerA [] s₁ H:=#[BC,hM,λb o e=>zoM e,Nat.le_of_eq (zja _ _),trivial,λb hb=>absurd (show b∈([]:AZ) from hb) (by simp),hok,.of_eq hg];show gc ((F _ hKb (nsK hns)).run callerA [] s₁ H #[[.ref a],[]] [.ref a] [.ref a] _ _ hr e0 (hbind s₁ (.ref a)) (.cons BC .nil) (hsp H hO hS)) λr s' h=>?_
  cases r with
  | error e=>show (hCX H e s' h).elim
  | ok fl=>
   cases fl with
   | next=>show False.elim h
   | brk=>show False.elim h
   | cont=>show False.elim h
   | ret u=>
    obtain⟨v,H',os,bare,un,hok',r',q⟩:=h;have q':v = .bl true:=q;subst q';obtain rfl:u=Value.bool true:=r';show#[BC,OldK.of_keep λb o e=>?_,os,bare]
    cases q:H b with
    | none=>show un.keep b o e q (by intro z;show absurd (show b∈([]:AZ) from z) (by simp)) (by simp)
    | some u=>
     rcases hO b with z | ⟨ob,xs,z⟩;grind;have z2:=un.frzs b ob _ z;obtain⟨e1,_⟩:=hok b _ z;obtain⟨e2,_⟩:=hok' b _ z2;grind
 cases hk:K.lookup a with
 | some o=>
  have e:=KX a o hk;rw[ha] at e;cases e;show core (λ_=>none) (λ_=>.inl BC) (.inr #[_,vs.toArray,_,hk,BC,BC,BC,by right,by simpa using rv]) (λb u z=>by lia) (by grind) λz=>absurd BC z
 | none=>
  show core (λb=>if b=a then some (.frz { cls:=.type "list",data:=.seq vs.toArray } (.lst (ns.map V.int))) else none) (λb=>?_) (.inl (.inr #[{ cls:=.type "list",data:=.seq vs.toArray },if_pos BC])) (λb u z=>?_) (λb z=>?_) λ_=>hk;by_cases hb:b=a;show .inr #[_,_,if_pos hb];show .inl (if_neg hb);by_cases hb:b=a;have z':=(if_pos hb).symm.trans z;cases z';subst hb;show#[ha,by right,vs,_,rv,ha];right;grind
def zql {l:PySem.W.OpenLaw}{n k:Nat}{q:Ab}{loose:AN}{XP:(AJ)->Heap->Prop}{YP:Ac->Heap->Prop}{d:DefRec}{K:Params->AI}{CX:Ac->CXT}{sp:Ac->Sp}{x:Str}
  (hn:l.most=some n) (hn2:n<=sizeLine) (hdf:d.params.defaults=[]) (hr:Room k callerA)
  (hY:∀ (w:Ac) (h:Heap),YP w h->(K w.params).In h)
  (F:∀ (w:Ac) (mg:AJ) (fa:Addr) (h:Heap),(K w.params).In h->h.Ns mainGlobals mg->mg d.name=some (.ref fa)->
   ∃fd:Ae,(∀ (s:Aa) (u:Value),BindsTo s fd #[[u],[]] [(x,u)])/\
    ∀base:Heap,(K w.params).In base->base.Ns mainGlobals mg->FnOk l.prog w (K w.params) mg base (CX w) k fa fd [x] (sp w))
  (hsp:∀ (w:Ac) (H:Hp) (a:Addr) (ns:AH),ns.length<=n->ztP H->SqL (K w.params) H a (ns.map V.int)->sp w [.ref a] H (λv _=>v = .bl true) λ_ _ _=>False)
  (hCX:∀ (w:Ac) (H:Hp) (s:Aa) (e:Value) (s':Aa),CX w [] H s (λ_ _ _=>False) e s'->False) :
  PySem.W.WalkO q loose XP YP l.row.toRowW d [] (λf vs=>PySem.call f vs):=by
 show Att.attach_call hn hdf λw s₀ s₁ mg mb fa o pm cd doc a vs ns BH Y ho hd hcd hmg hobj hints hlen hg=>?_;have KX:=hY w _ Y;obtain⟨fd,hb,hF⟩:=F w mg fa _ KX BH.T.g hmg;show zlN KX BH.T.g BH.T.b BH.T.builtins BH.T.nolimit hg hobj hints (av hlen hn2) hr hF hb (λH hO hS=>hsp w H a ns hlen hO hS) λH e s'=>hCX w H s₁ e s'
def zaw (s:Stmt):Arguments:=match s with
 | .FunctionDef _ a _ _ _ _ _ _ _ _=>a
 | _=>{ posonlyargs:=[],args:=[],vararg:=none,kwonlyargs:=[],kw_defaults:=[],kwarg:=none,defaults:=[] }
def yC (s:Stmt):List Stmt:=match s with
 | .FunctionDef _ _ b _ _ _ _ _ _ _=>b
 | _=>[]
def zf (s:Stmt):Scope:=match s with
 | .FunctionDef _ _ _ _ _ _ sc _ _ _=>sc
 | _=>{ kind:=.function,names:=[],isGenerator:=false,isCoroutine:=false }
abbrev CX0:CXT:=λ_ _ _ _ _ _=>False
abbrev E0:XK:=λ_ _ _=>False
def zvg {X:Cx}:zif CX0 X E0:=λ_ _ _ _ _ _ _ h=>h.elim
structure Fun (K:AI)(x qual:Str)(st:Stmt)(f:Addr)(fd:Ae):Prop where
 ex:∃ (oc:Value) (od:Option Addr) (kV doc pm:Value) (an:Option Addr) (cdv ct:Value) (osl:Array AK),
  fd=PySem.W.fnOf x qual (zaw st) (yC st) (zf st) .none kV doc pm an cdv ct/\K.lookup f=some #[oc,od,.func fd,osl]/\PySem.W.codeIn K cdv qual=true
 kp:PySem.W.keepIn K (.ref f)=true
section
variable {P:Ab}{w:Ac}{K:AI}{mg:AJ}{base:Heap}
def Fun.ok {x qual:Str}{st:Stmt}{f:Addr}{fd:Ae}{N ps:AN}{k:Nat}{sp:Sp}(F:Fun K x qual st f fd)(S:FnScope N ps (zf st))(len:∀vs H Q E,sp vs H Q E->vs.length=ps.length)
  (hbody:∀ (cdv:Value) (A:Af) (outer:List Env) (s:Aa) (H:Hp) (vs:AU) (Q:VK) (E:XK),Room k (A.deeper (envOfC qual (zf st) s.heap.objs.size f cdv))->sp vs H Q E->
   ∃t,PSs (zfA CX0 P w K mg base N qual (zf st) f cdv A outer s H E).nox (yC st) t/\t { nx:=λ_ H'=>Q .non H',rt:=Q } (ul N vs) H):FnOk P w K mg base CX0 (k+1) f fd ps sp:=by
 obtain⟨oc,od,kV,doc,pm,an,cdv,ct,osl,rfl,lk,hcd⟩:=F.ex;show zuw lk hcd S len λA outer s H vs Q E hr hsp=>?_;obtain⟨t,h,q⟩:=hbody cdv A outer s H vs Q E hr hsp;show#[t,h.nox,q]
def Fun.binds {x qual:Str}{st:Stmt}{f:Addr}{fd:Ae}{ps:AN}(F:Fun K x qual st f fd)
  (h:∀ (kV doc pm:Value) (an:Option Addr) (cdv ct:Value) (us:AO),us.length=ps.length->bindArgs (PySem.W.fnOf x qual (zaw st) (yC st) (zf st) .none kV doc pm an cdv ct) #[us,[]]=pure (ps.zip us)):zhv K fd ps []:=by
 obtain⟨oc,od,kV,doc,pm,an,cdv,ct,osl,rfl,lk,hcd⟩:=F.ex;show .all (h kV doc pm an cdv ct)
def zm2 {x qual:Str}{st:Stmt}{f:Addr}{oc:Value}{od an:Option Addr}{osl:Array AK}{kV doc pm cdv ct:Value}(l:K.lookup f=some #[oc,od,.func (PySem.W.fnOf x qual (zaw st) (yC st) (zf st) .none kV doc pm an cdv ct),osl])
  (c:PySem.W.codeIn K cdv qual=true) (k:PySem.W.keepIn K (.ref f)=true):Fun K x qual st f (PySem.W.fnOf x qual (zaw st) (yC st) (zf st) .none kV doc pm an cdv ct):=#[#[oc,od,kV,doc,pm,an,cdv,ct,osl,BC,l,c],k]
end
def zaP {A:Af}{k:Nat}(hr:Room k A):A.units+1<cLine:=aY (Nat.add_le_add_left (by decide:1<=64) _) hr.units
def zfo {n:Nat}(h:n<=1000):n<sizeLine:=aY h (by ext)
section
variable {X:Cx}
def zin:zcN X (.builtin "len") (λxs H Q=>∃a BE,xs=[V.ref a]/\H a=some (.dK BE)/\Q (.int BE.length) H):=by intro BD s G H xs us Q I r h;obtain⟨a,BE,rfl,ha,q⟩:=h;obtain⟨u,rfl,ru⟩:=zak r;cases ru;show zuk I (.inl ha) λt s' I'=>#[.int BE.length,H,I',#[t,BC],q]
end
def iteF {A B:Prop}(h:B):if false=true then A else B:=by grind
def zty {c A B:Prop}[Decidable c](h1:c->A)(h2:¬ c->B):if c then A else B:=by grind
def xq (H H':Hp):Prop:=∀b o,H b=some o->H' b=some o
def xq.trans {H H1 H2:Hp}(a:xq H H1)(b:xq H1 H2):xq H H2:=λc o h=>b c o (a c o h)
def xq.free {H H':Hp}(e:xq H H'){l:Addr}(h:H' l=Option.none):H l=Option.none:=by
 cases q:H l with
 | none=>rfl
 | some o=>
  rw[e l o q] at h;cases h
def xq.seq {K:AI}{H H':Hp}{a:Addr}{xs:AU}(e:xq H H')(h:SqL K H a xs):SqL K H' a xs:=by
 rcases h with (h | ⟨o,h⟩) | h;show .inl (.inl (e _ _ h));show .inl (.inr #[o,e _ _ h]);show .inr h
section
variable {κ:Type}[DecidableEq κ]
variable {X:Cx}
def zfF:zcN X (.builtin "isinstance") (λxs H Q=>∃x T t b,xs=[x,.ty T]/\TyOf X.K H x t/\PySem.W.kitOne X.K t (.type T)=some b/\Q (.bl b) H):=by intro BD s G H xs us Q I r h;obtain⟨x,T,t,b,rfl,ty,e,q⟩:=h;obtain⟨u,c,rfl,ru,rc⟩:=zvY r;cases rc;show zjj I ru ty e λtk=>#[.bl b,H,I.tok tk,BC,q]
def zmx (K:AI):R2:=λx y H Q=>∃a b xs ys,x = .ref a/\y = .ref b/\H a=some (.tup xs)/\H b=some (.tup ys)/\xs.length+ys.length<=sizeLine/\
 ∀p H',H' p=some (.tup (xs++ys))->xq H H'->Q (.ref p) H'
def zoR:OpR X (binaryOp .Add) (zmx X.K):=by
 intro BD s G H x y v u Q I rx ry h;obtain⟨a,b,xs,ys,rfl,rfl,ha,hb,hz,q⟩:=h;by_cases hx:xs=[]
 ·subst hx;cases rx;cases ry;obtain⟨its,r1,p1,_⟩:=I.tuple (.of ha);obtain⟨its2,r2,p2,_⟩:=I.tuple (.of hb);obtain⟨⟨cls,dd,data,sl⟩,ho,hc,n,hd⟩:=id p1;obtain⟨⟨cls2,dd2,data2,sl2⟩,ho2,hc2,n2,hd2⟩:=id p2;simp only at hc hd hc2 hd2;subst hc hd hc2 hd2;have hi:its=[]:=r1.nil_iff.mpr BC
  show concat_meets #[_,ho,BC] #[_,ho2,BC] fW seq_tuple_add dX dP (dM _ _)
   (tuple_addW0 a b its.toArray its2.toArray n n2 dd dd2 sl sl2 (by simp[hi])) #[ho,ho2,#[.ref b,H,I,BC,q b H hb λ_ _ e=>e]]
 show zoS BD s G H _ _ v u Q I rx ry #[a,b,xs,ys,BC,BC,.of ha,.of hb,hx,hz,λe=>?_,λe p hp=>?_];subst e;show q a H (by right) λ_ _ e=>e;show q p _ zj λc o e=>by rw[ze (zb e hp)];show e
end
def zgw (l:Addr)(items:AL)(n:Nat)(dd:Option Addr)(sl:Array AK)(u:Tok) :
  Meets (Builtin.«tuple.__mul__» #[[.ref l,.int 1 u],[]]) (λ_ R s=>s.heap.get? l=some { cls:=.type "tuple",dict:=dd,data:=.seq items n,slots:=sl }/\R (.ok (.ret (Value.ref l))) s):=
 .of_wp λprog w A R s h=>by
  obtain⟨hp,g,d,tk,os⟩:=s;obtain⟨hl,h⟩:=h;have f1:=fX
  wp_walk using bP hl
  show#[_,BC,h]
def zh3 (l:Addr)(items:AL)(n:Nat)(dd:Option Addr)(sl:Array AK)(x:Int)(u:Tok)(hx:2<=x)(hc0:x<2 ^ 63)(hc1:¬ items.isEmpty=true)(hsz:items.size * x.toNat<=sizeLine) :
  Meets (Builtin.«tuple.__mul__» #[[.ref l,.int x u],[]]) (λ_ R s=>s.heap.get? l=some { cls:=.type "tuple",dict:=dd,data:=.seq items n,slots:=sl }/\R (.ok (.ret (Value.ref s.heap.objs.size))) { s with heap:=s.heap.push { cls:=Value.type "tuple",data:=Data.seq (List.foldl (λx1 x2=>x1++x2) #v[] (List.replicate x.toNat items)) },toks:=s.toks }):=
 .of_wp λprog w A R s h=>by
  obtain⟨hp,g,d,tk,os⟩:=s;obtain⟨hl,h⟩:=h;have f1:=fX
  wp_walk
  have e1:¬ ((decide (x < -2 ^ 63) || decide (x ≥ 2 ^ 63))=true):=by simp;lia
  have e2:¬ ((items.isEmpty || x==1)=true):=by grind
  have e3:¬ ((decide (x<=0) || items.isEmpty)=true):=by grind
  have xe:x=(x.toNat:Int):=by lia
  have pe:(items.size:Int) * x=((items.size * x.toNat:Nat):Int):=by rw[Int.natCast_mul,<- xe]
  have lz:(sizeLine:Nat)<=(2 ^ 63 - 1) / 8:=by ext
  have e4:¬ ((items.size:Int) * x > (2 ^ 63 - 1) / 8):=by rw[pe];lia
  have e5:¬ (Builtin.Tuple.tupleTooMany ((items.size:Int) * x)=true):=by
   rw[pe];unfold Builtin.Tuple.tupleTooMany;grind
  have e6:sizeOk (.seq (List.foldl (λx1 x2=>x1++x2) #v[] (List.replicate x.toNat items))):=by
   have:=zb6 items.toList x.toNat [];change (List.foldl (λx1 x2=>x1++x2) #v[] (List.replicate x.toNat items)).size<=sizeLine;have h2:List.foldl (λx1 x2=>x1++x2) #v[] (List.replicate x.toNat items)=(List.replicate x.toNat items.toList).flatten.toArray:=by simpa using this
   rw[h2,a9,zjw,aX,Nat.mul_comm];show hsz
  generalize hB:((2:Int) ^ 63 - 1) / 8=B at e4;rw[if_neg e1];show aa (fP #[_,hl,BC,n,BC] ?_);rw[if_neg e2];change wpAny _ _ (if (decide (x<=0) || items.isEmpty)=true then _ else _) _ _ _;rw[if_neg e3];change wpAny _ _ (if (items.size:Int) * x > B then _ else _) _ _ _;rw[if_neg e4];change wpAny _ _ (if Builtin.Tuple.tupleTooMany ((items.size:Int) * x)=true then _ else _) _ _ _;rw[if_neg e5];change wpAny _ _ (Builtin.Tuple.tupleExact _ >>= _) _ _ _;show aa (m:=Builtin.Tuple.tupleExact _) (bg ?_ e6);show ai #[_,BC,h]
def zvt:R2:=λx y H Q=>∃l k xs,x = .ref l/\y = .int k/\H l=some (.tup xs)/\1<=k/\k<2 ^ 63/\xs≠[]/\xs.length * k.toNat<=sizeLine/\
 ∀p H',H' p=some (.tup (List.replicate k.toNat xs).flatten)->xq H H'->Q (.ref p) H'
def uv:fillsNumberSlot (.type "tuple") "mul" = pure false:=rfl
def zbu:seqRepeat? (.type "tuple")=pure (some (.builtin "tuple.__mul__")):=by unfold seqRepeat?;rw[PySem.seqSlot_of (T := "tuple") (name := "__mul__") (id := "tuple.__mul__") F.slot_tuple_mul.lookup (by decide +kernel),PySem.seqSlot_of (T := "tuple") (name := "__rmul__") (id := "tuple.__rmul__") F.slot_tuple_rmul.lookup (by decide +kernel)];rfl
def zao (a:Int)(t:Tok)(l:Addr)(items:AL)(n:Nat)(dd:Option Addr)(sl:Array AK) :
  Meets (Builtin.«int.__rmul__» #[[.int a t,.ref l],[]]) (λ_ R s=>s.heap.get? l=some { cls:=.type "tuple",dict:=dd,data:=.seq items n,slots:=sl }/\R (.ok (.ret Value.notImplemented)) s):=
 .of_wp λprog w A R s h=>by obtain⟨hp,g,d,tk,os⟩:=s;obtain⟨hl,h⟩:=h;wp_walk;show#[_,BC,h]
section
variable {X:Cx}
def zoU:OpR X (binaryOp .Mult) zvt:=by
 intro BD s G H x y v u Q I rx ry h;obtain⟨l,k,xs,rfl,rfl,hH,h1,h2,hx,hz,q⟩:=h;cases rx;obtain⟨t,rfl⟩:=ry;obtain⟨its,r,pt,zz⟩:=I.tuple (.of hH);have hlen:=r.length;obtain⟨⟨cls,dd,data,sl⟩,e,hc,n,hd⟩:=id pt;simp only at hc hd;subst hc hd
 show wpAny_binaryOp_repeat_ref (T := "tuple") (U := "int") (by ext) #[_,e,BC] (λs'=>eL s' k t) uv F.fills_int_mul eR zbu F.slot_int_index.lookup
  (dj eR (eL s k t) F.entry_int_rmul (F.args_int_rmul_2 _ _) (zao k t l its.toArray n dd sl) #[e,BC,#[_,e,BC],?_])
 by_cases hk:k=1;subst hk;show dj fY #[_,e,BC] fJ (fD _ _) (zgw l its.toArray n dd sl t) #[e,#[.ref l,H,I,BC,q l H (by simpa using hH) λ_ _ e=>e]]
 have hfold:List.foldl (λx1 x2=>x1++x2) #v[] (List.replicate k.toNat its.toArray)=(List.replicate k.toNat its).flatten.toArray:=by
  have:=zb6 its k.toNat [];simpa using this
 show dj fY #[_,e,BC] fJ (fD _ _) (zh3 l its.toArray n dd sl k t (by lia) h2 (λz=>hx (r.nil_iff.mp (by simpa using z))) (by right)) #[e,?_];rw[hfold];show#[.ref s.heap.objs.size,_,I.laid (t':=s.toks) (o:=.tup (List.replicate k.toNat xs).flatten) (λb ob q=>af _ q) (ak _) ?_,BC,q _ _ zj λc o e=>by rw[ze (zb e (I.hok.fresh (ak _)))];show e];show#[by rw[zjw,Nat.mul_comm];show hz,_,r.rep k.toNat,uD.new _ _]
end
end L2
namespace HT
open PyProof.Rows
section
variable {prog:Ab}{w:Ac}{A:Af}{E:AA}{s:Aa}
def getItem_tuple_whole {t sl:Addr}{items:AL}{vl vu:Value}{lo hi:AR}{Q:AA}(ht:IsTup s.heap t items)(hs:s.heap.IsSliceOf sl vl vu .none)(pl:IsPart vl lo)(pu:IsPart vu hi)
  (hw:sIx items.size 0 lo=0/\sIx items.size items.size hi=items.size) (h:Q (.ref t) s) (hsz:items.size<=sizeLine):Ah prog w A (getItem (.ref t) (.ref sl)) Q E s:=by
 obtain⟨os,hos,hcs,hds⟩:=id hs;have hTs:s.TypeIs (.ref sl) "slice" := #[os,hos,hcs];unfold getItem;try with_reducible show wpAny_holding ?_
 first | show wpAny_bind (wpAny_pure ?_) | skip
 show wpAny_bind (wpAny_sequenceKey ht.typeIs (by ext) ?_)
 show wpAny_bind (wpAny_callSpecial?_slot (name:=Str.ofString "__getitem__") ht.typeIs PyProof.Rows.slot_tuple_getitem
  (wpAny_call_entry PyProof.Rows.slot_tuple_getitem ht.typeIs entry_tuple_getitem ?_ (args_tuple_getitem _ _)))
 change wpAny _ _ (Builtin.Tuple.tupleItemsOf (.ref t) >>= _) _ _ s;show wpAny_bind (tupleItemsOf_ ht ?_);show wpAny_bind (wpAny_typeOf hTs ?_);rw[if_pos (by ext)];show wpAny_bind (uA hs pl pu ?_);have hyes:(((sIx items.size 0 lo:Nat):Int)==0&&(1:Int)==1&&(sIx items.size items.size hi - sIx items.size 0 lo)==items.size)=true:=by right
 change wpAny _ _ (if (((sIx items.size 0 lo:Nat):Int)==0&&(1:Int)==1&&(sIx items.size items.size hi - sIx items.size 0 lo)==items.size)=true then _ else _) _ _ s;rw[if_pos hyes];unfold Builtin.Tuple.tupleIsExact;show wpAny_bind (wpAny_bind (wpAny_typeOf ht.typeIs ?_));show wpAny_pure ?_;rw[if_pos (by ext)];show wpAny_bind (wpAny_rule ?_);show wpAny_pure #[_,BC,wpAny_pure h]
end
end HT
namespace L2
open PyProof.Rows
section
variable {X:Cx}
def rSlA:V->AR->AR->Hp->VK->Prop:=λx lo hi H Q=>∃a xs,x = .ref a/\H a=some (.tup xs)/\∀p H',H' p=some (.tup (zcP xs lo hi))->xq H H'->Q (.ref p) H'
def zpY:SlR X rSlA:=by
 intro BD s G H x v vl vu lo hi sl Q I rx hs pl pu h;obtain⟨a,xs,rfl,ha,q⟩:=h;by_cases hw:HT.sIx xs.length 0 lo=0/\HT.sIx xs.length xs.length hi=xs.length;cases rx;obtain⟨its,r,ht,hz⟩:=I.tuple (.of ha);have hlen:its.toArray.size=xs.length:=by rw[a9];show r.length.symm
 show#["tuple",_,PyProof.Rows.slot_tuple_getitem.lookup,ht.typeIs,?_];show HT.getItem_tuple_whole ht hs pl pu (by rw[hlen];show hw) #[.ref a,H,I,BC,q a H ?_ λ_ _ e=>e] (by rw[hlen];show hz);unfold zcP;grind;show zsV BD s G H _ v vl vu lo hi sl Q I rx hs pl pu #[a,xs,BC,.of ha,hw,λp hp=>q p _ zj λc o e=>by rw[ze (zb e hp)];show e]
inductive Dt where
 | non | bl (b:Bool) | int (i:Int) | str (x:Str) | tup (l:List Dt) | lst (l:List Dt) | dct
abbrev AT:=List Dt
mutual
def Is (H:Hp):Dt->V->Prop
 | .non,v=>v = .non
 | .bl b,v=>v = .bl b
 | .int i,v=>v = .int i
 | .str x,v=>v = .str x
 | .tup l,v=>∃a xs,v = .ref a/\H a=some (.tup xs)/\IsL H l xs
 | .lst l,v=>∃a xs,v = .ref a/\Rd H a (.lst xs)/\IsL H l xs
 | .dct,v=>∃a BE,v = .ref a/\H a=some (.dK BE)/\BE=[]
def IsL (H:Hp):AT->AU->Prop
 | [],xs=>xs=[]
 | d::ds,xs=>∃x r,xs=x::r/\Is H d x/\IsL H ds r
end
def kO (d:Addr)(ob:Obj):HO:=.ext λh=>h.get? d=some ob
open Classical in
@[reducible] noncomputable def pnK:HO->Option (List (Key×V))
 | .dK BE=>some BE
 | .ext φ=>if (∃d ob,(∃h:Heap,h.get? d=some ob)/\φ=λh=>h.get? d=some ob) then some [(Sum.inr "at",.non)] else none
 | _=>none
def zo (H H':Hp):Prop:=∀b o,H b=some o->(∀BE,pnK o=some BE->zaF BE (Sum.inr "at" : Key)=none)->H' b=some o
def zo.refl (H:Hp):zo H H:=λ_ _ e _=>e
def zo.trans {H H1 H2:Hp}(a:zo H H1)(b:zo H1 H2):zo H H2:=λc o e n=>b c o (a c o e n) n
def zo.same {H H1:Hp}(a:xq H H1):zo H H1:=λc o e _=>a c o e
def zo.upd {H:Hp}{p:Addr}{o:HO}(h:H p=none):zo H (upd H p o):=λc u e _=>by rw[ze (zb e h)];show e
def xq.upd {H:Hp}{p:Addr}{o:HO}(h:H p=none):xq H (upd H p o):=λc u e=>by rw[ze (zb e h)];show e
def zo.tup {H H1:Hp}(a:zo H H1){p:Addr}{xs:AU}(h:H p=some (.tup xs)):H1 p=some (.tup xs):=a _ _ h λ_ e=>by cases e
def zo.rdl {H H1:Hp}(a:zo H H1){p:Addr}{xs:AU}(h:Rd H p (.lst xs)):Rd H1 p (.lst xs):=h.imp (λh=>a _ _ h λ_ e=>by cases e) λ⟨o,h⟩=>#[o,a _ _ h λ_ e=>by cases e]
def Rd.same {H H1:Hp}{u:HO}{p:Addr}(h:Rd H p u)(a:xq H H1):Rd H1 p u:=h.imp (a _ _) λ⟨o,h⟩=>#[o,a _ _ h]
def zo.lst {H H1:Hp}(a:zo H H1){p:Addr}{xs:AU}(h:H p=some (.lst xs)):H1 p=some (.lst xs):=a _ _ h λ_ e=>by cases e
mutual
theorem Is.stay {H H1:Hp}(a:zo H H1):∀ {d:Dt} {v:V},Is H d v->Is H1 d v
 | .non,_,h=>h
 | .bl _,_,h=>h
 | .int _,_,h=>h
 | .str _,_,h=>h
 | .tup l,v,h=>by obtain⟨p,xs,e,hp,hl⟩:=h;show#[p,xs,e,a.tup hp,IsL.stay a hl]
 | .lst l,v,h=>by obtain⟨p,xs,e,hp,hl⟩:=h;show#[p,xs,e,a.rdl hp,IsL.stay a hl]
 | .dct,v,h=>by obtain⟨p,BE,e,hp,hl⟩:=h;show#[p,BE,e,a _ _ hp λkvs' e=>by cases e;subst hl;rfl,hl]
theorem IsL.stay {H H1:Hp}(a:zo H H1):∀ {ds:AT} {xs:AU},IsL H ds xs->IsL H1 ds xs
 | [],_,h=>h
 | d::ds,xs,h=>by obtain⟨x,r,e,h1,h2⟩:=h;show#[x,r,e,Is.stay a h1,IsL.stay a h2]
end
theorem IsL.length {H:Hp}:∀ {ds:AT} {xs:AU},IsL H ds xs->xs.length=ds.length
 | [],_,h=>by cases h;rfl
 | d::ds,xs,h=>by obtain⟨x,r,rfl,_,h2⟩:=h;rw[bc,bc,IsL.length h2]
theorem IsL.getD {H:Hp}:∀ {ds:AT} {xs:AU} {i:Nat} {d:Dt},IsL H ds xs->ds[i]?=some d->∃x,xs[i]?=some x/\Is H d x
 | [],_,_,_,_,e=>by simp at e
 | d::ds,xs,i,x,h,e=>by
  obtain⟨y,r,rfl,h1,h2⟩:=h
  cases i with
  | zero=>simp at e;subst e;show#[y,BC,h1]
  | succ i=>
   obtain⟨d',q1,q2⟩:=IsL.getD (i:=i) (d:=x) h2 (by simpa using e);right
theorem IsL.append {H:Hp}:∀ {ds es:AT} {xs ys:AU},IsL H ds xs->IsL H es ys->IsL H (ds++es) (xs++ys)
 | [],_,_,_,h,k=>by cases h;show k
 | d::ds,es,xs,ys,h,k=>by obtain⟨y,r,rfl,h1,h2⟩:=h;show#[y,r++ys,BC,h1,IsL.append h2 k]
theorem IsL.take {H:Hp}:∀ {ds:AT} {xs:AU} (n:Nat),IsL H ds xs->IsL H (ds.take n) (xs.take n)
 | _,_,0,_=>by simp[IsL]
 | [],_,n+1,h=>by cases h;simp[IsL]
 | d::ds,xs,n+1,h=>by obtain⟨y,r,rfl,h1,h2⟩:=h;show#[y,r.take n,BC,h1,IsL.take n h2]
theorem IsL.drop {H:Hp}:∀ {ds:AT} {xs:AU} (n:Nat),IsL H ds xs->IsL H (ds.drop n) (xs.drop n)
 | _,_,0,h=>h
 | [],_,n+1,h=>by cases h;simp[IsL]
 | d::ds,xs,n+1,h=>by obtain⟨y,r,rfl,h1,h2⟩:=h;show IsL.drop n h2
def IsL.one {H:Hp}{d:Dt}{x:V}(h:Is H d x):IsL H [d] [x]:=#[x,[],BC,h,BC]
theorem IsL.ints {H:Hp}:∀ {ns:AH},IsL H (ns.map .int) (ns.map .int)
 | []=>rfl
 | n::ns=>#[_,_,BC,BC,IsL.ints]
theorem IsL.of_ints {H:Hp}:∀ {ns:AH} {xs:AU},IsL H (ns.map .int) xs->xs=ns.map .int
 | [],_,h=>h
 | n::ns,xs,h=>by obtain⟨y,r,rfl,h1,h2⟩:=h;cases h1;rw[IsL.of_ints h2];rfl
def Dt.ty:Dt->String
 | .non => "NoneType" | .bl _ => "bool" | .int _ => "int" | .str _ => "str" | .tup _ => "tuple" | .lst _ => "list" | .dct => "dict"
theorem Is.ty {K:AI}{H:Hp}:∀ {d:Dt} {v:V},Is H d v->TyOf K H v (.type d.ty)
 | .non,_,h=>by cases h;show .non
 | .bl _,_,h=>by cases h;show .bl _
 | .int _,_,h=>by cases h;show .int _
 | .str _,_,h=>by cases h;show .str _
 | .tup l,v,h=>by obtain⟨p,xs,rfl,hp,hl⟩:=h;show .tup hp
 | .lst l,v,h=>by obtain⟨p,xs,rfl,hp,hl⟩:=h;show hp.elim .lst λ⟨_,hp⟩=>.frz hp
 | .dct,v,h=>by obtain⟨p,xs,rfl,hp,hl⟩:=h;show .dK hp
abbrev Dt.isTup:Dt->Bool
 | .tup _=>true | _=>false
abbrev Dt.isLst:Dt->Bool
 | .lst _=>true | _=>false
abbrev Dt.isInt:Dt->Bool
 | .int _=>true | .bl _=>true | _=>false
abbrev Dt.isBl:Dt->Bool
 | .bl _=>true | _=>false
def Dt.isWhole:Dt->Bool
 | .int _=>true | _=>false
def zou (K:AI)(d:Dt):PySem.W.kitOne K (.type d.ty) (.type "tuple")=some d.isTup:=by cases d <;> rfl
def zot (K:AI)(d:Dt):PySem.W.kitOne K (.type d.ty) (.type "int")=some d.isInt:=by cases d <;> rfl
def zrk (K:AI)(d:Dt):PySem.W.kitOne K (.type d.ty) (.type "bool")=some d.isBl:=by cases d <;> rfl
end
def zcO (env:Env):List (Str×NameKind)->List (Str×Addr)->List (Str×Addr)
 | [],cs=>cs
 | x::r,cs=>zcO env r (if (x.2==NameKind.free)=true then (x.1,(env.cells.lookup x.1).getD 0)::cs else cs)
def zhx {env:Env}{scope:Scope}(h:∀x∈scope.names,x.2 = .free->∃c,env.cells.lookup x.1=some c):closureFor scope env=pure (zcO env scope.names []):=by
 have gen:∀ (names:List (Str×NameKind)) (cs:List (Str×Addr)),(∀x∈names,x.2 = .free->∃c,env.cells.lookup x.1=some c)->
   (forIn names cs (λx r=>match x with
    | (name,kind)=>if (kind==NameKind.free)=true then do let a <- cellOf env name;pure (ForInStep.yield ((name,a)::r)) else pure (ForInStep.yield r)):Sem (List (Str×Addr)))=pure (zcO env names cs):=by
  intro names
  induction names with
  | nil=>intro cs _;rfl
  | cons x r ih=>
   intro cs hh;obtain⟨n,k⟩:=x;rw[c9];by_cases hk:(k==NameKind.free)=true;obtain⟨c,hc⟩:=hh (n,k) am (eS hk);have hc':env.cells.lookup n=some c:=hc;have e:cellOf env n=pure c:=by unfold cellOf;rw[hc']
   simp only[hk,if_true,e,pure_bind];rw[ih _ λy hy=>hh y (ao _ hy)];change pure _=pure (zcO env r (if (k==NameKind.free)=true then (n,(env.cells.lookup n).getD 0)::cs else cs));right;simp only[hk,pure_bind];have e2:zcO env ((n,k)::r) cs=zcO env r cs:=by change zcO env r (if (k==NameKind.free)=true then _ else cs)=_;rw[if_neg hk]
   right
 unfold closureFor;have:=gen scope.names [] h;simpa using this
theorem uE {env:Env}:∀ {names:List (Str×NameKind)} {cs:List (Str×Addr)} {x:Str} {c:Addr},(∀y∈names,y.2 = .free->∃c,env.cells.lookup y.1=some c)->(zcO env names cs).lookup x=some c->env.cells.lookup x=some c\/cs.lookup x=some c
 | [],_,_,_,_,h=>.inr h
 | (n,k)::r,cs,x,c,hh,h=>by
  have ih:=uE (names:=r) (x:=x) (c:=c) (λy hy=>hh y (ao _ hy)) h;rcases ih with ih | ih;show .inl ih;by_cases hk:(k==NameKind.free)=true;obtain⟨c',hc⟩:=hh (n,k) am (eS hk);grind;right
theorem zc3 {env:Env}:∀ {names:List (Str×NameKind)} {cs:List (Str×Addr)} {x:Str},(∃c,cs.lookup x=some c)->∃c,(zcO env names cs).lookup x=some c
 | [],_,_,h=>h
 | (n,k)::r,cs,x,h=>by
  show zc3 (names:=r) ?_;grind
theorem u8 {env:Env}:∀ {names:List (Str×NameKind)} {cs:List (Str×Addr)} {x:Str},names.lookup x=some .free->∃c,(zcO env names cs).lookup x=some c
 | [],_,_,h=>by simp at h
 | (n,k)::r,cs,x,h=>by
  rw[cU] at h
  cases e:x==n with
  | true=>
   rw[e] at h;have h':some k=some NameKind.free:=h;cases h';show zc3 (names:=r) ?_;right
  | false=>
   rw[e] at h;show u8 (names:=r) h
theorem yK {env:Env}:∀ {names:List (Str×NameKind)} {x:Str} {k:NameKind},(∀y∈names,y.2≠.cell)->
  (names.map λ(n,k)=>if (k==NameKind.free&&env.scope.kind==.function&&env.kindOf n==some .cell) then (n,NameKind.cell) else (n,k)).lookup x=some k->(k = .cell\/k = .free)->names.lookup x=some .free
 | [],_,_,_,h,_=>by simp at h
 | (n,k)::r,x,k',hc,h,hk=>by
  have ih:=@yK env r x k' (λy hy=>hc y (ao _ hy));grind
theorem yL {env:Env}:∀ {names:List (Str×NameKind)} {x:Str},names.lookup x=some .free->
  (names.map λ(n,k)=>if (k==NameKind.free&&env.scope.kind==.function&&env.kindOf n==some .cell) then (n,NameKind.cell) else (n,k)).lookup x=some .cell\/
  (names.map λ(n,k)=>if (k==NameKind.free&&env.scope.kind==.function&&env.kindOf n==some .cell) then (n,NameKind.cell) else (n,k)).lookup x=some .free
 | [],_,h=>by simp at h
 | (n,k)::r,x,h=>by
  have ih:=@yL env r x;grind
def zm (X:Cx)(scope:Scope)(N:AN)(C:Addr)(s:Aa)(H:Hp)(ex:AZ):Cx where
 prog:=X.prog
 w:=X.w
 K:=X.K
 mg:=X.mg
 base:=X.base
 A:=X.A
 N:=N
 s₀:=s
 H₀:=H
 env:=compEnvC scope (zcO X.env scope.names []) C X.env
 outer:=X.stack
 stack:=X.stack
 ex:=ex
 fn:=λ_=>false
 calm:=X.calm
 pn:=[]
 xe:=λ_ _=>False
def caps (XN:AN)(Xnames names:List (Str×NameKind))(N:AN)(BF:List (Option Nat)):Bool:=
 N.length==BF.length&&(names.all λy=>y.2 != .cell)&&((N.zip BF).all λp=>match p.2 with
  | none=>true
  | some i=>XN[i]?==some p.1&&names.lookup p.1==some .free&&(Xnames.lookup p.1==some .cell || Xnames.lookup p.1==some .free)) &&
 (names.all λy=>y.2 != .free || (Xnames.lookup y.1==some .cell || Xnames.lookup y.1==some .free))
def xB (G:St)(BF:List (Option Nat)):St:=BF.map λo=>match o with
 | none=>none
 | some i=>(G[i]?).join
structure CompOk (X:Cx)(scope:Scope)(N:AN)(BF:List (Option Nat)):Prop where
 kind:scope.kind = .function
 names:∀x∈scope.names,x.2 = .local->scope.names.lookup x.1=some .local
 caps:caps X.N X.env.scope.names scope.names N BF=true
section
variable {X:Cx}{BD:AB}{G:St}{H:Hp}{s:Aa}{scope:Scope}{N:AN}{BF:List (Option Nat)}
def CompOk.cell (c:CompOk X scope N BF):∀y∈scope.names,y.2≠.cell:=λy hy e=>by
 have h:=c.caps;unfold L2.caps at h;rw[aU,aU,aU] at h;have:=a8.mp h.1.1.2 y hy;right
def CompOk.len (c:CompOk X scope N BF):N.length=BF.length:=by
 have h:=c.caps;unfold L2.caps at h;right
def CompOk.cells (c:CompOk X scope N BF)(ok:X.Ok):∀x∈scope.names,x.2 = .free->∃a,X.env.cells.lookup x.1=some a:=λx hx e=>by
 have h:=c.caps;unfold L2.caps at h;rw[aU] at h;have q:=a8.mp h.2 x hx;rw[e] at q;have q':(X.env.scope.names.lookup x.1==some NameKind.cell || X.env.scope.names.lookup x.1==some NameKind.free)=true:=by simpa using q
 rcases Bool.or_eq_true_iff.mp q' with q | q;show ok.has _ (.inl (eS q));show ok.has _ (.inr (eS q))
def CompOk.cap (c:CompOk X scope N BF){j i:Nat}{x:Str}(h1:N[j]?=some x)(h2:BF[j]?=some (some i)):X.N[i]?=some x/\scope.names.lookup x=some .free/\(X.env.scope.names.lookup x=some .cell\/X.env.scope.names.lookup x=some .free):=by
 have h:=c.caps;unfold L2.caps at h;rw[aU,aU] at h;have hm:(x,some i)∈N.zip BF:=by show az (i:=j) ?_;rw[List.getElem?_zip_eq_some];show#[h1,h2]
 have q:=a8.mp h.1.2 _ hm;grind
def zlB {fp:AZ}{h':Heap}{tk:Nat}{m:AJ}(I:Inv X BD G H s)(c:CompOk X scope N BF)(hf:∀b∈fp,zen X BD H b)(hfo:∀b∈fp,b<s.heap.objs.size)
  (hn:h'.Ns s.heap.objs.size m) (hk:∀b o,s.heap.get? b=some o->h'.get? b=some o) :
  Inv (zm X scope N s.heap.objs.size s H fp) [] (xB G BF) H { s with heap:=h',toks:=tk }:=by
 have hcl:=c.cells I.ok
 have back:∀x a,(zcO X.env scope.names []).lookup x=some a->X.env.cells.lookup x=some a:=λx a e=>by
  rcases uE hcl e with z | z;show z;simp at z
 show#[#[I.mod,c.kind,I.ok.glob,I.ok.blt,ak _,λx y a e1 e2=>I.ok.inj x y a (back x a e1) (back y a e2),λx hx=>?_,λx a z _=>absurd (show (false:Bool)=true from z) (by ext),I.ok.hd,I.ok.frames,.inl BC,
  λb hb=>#[aJ (hfo b hb),λx a e=>(hf b hb).2.2.2.2.1 x a (back x a e)],I.bs,av I.ok.bsz I.sz,λb o e hb=>?_,λb hb z=>?_,I.stack,I.stkFree],
  I.os ▸ BC,I.bare,Un.kept hk,#[m,hn,λj x v h1 h2 h3=>?_],λx a e=>?_,I.hok.fresh (ak _),λx a e=>I.freeC x a (back x a e),λp hp=>absurd (show p∈([]:AB) from hp) (by simp),I.hok.kept hk,?_]
 have hx':((relabel scope X.env).names.lookup x=some .cell\/(relabel scope X.env).names.lookup x=some .free):=hx;rcases hx' with z | z;show u8 (yK c.cell z (.inl BC));show u8 (yK c.cell z (.inr BC));rcases (hf b hb).2.2.2.1 with z | z;show I.ok.noex b o e z;show absurd (aL (ax e) (av I.ok.bsz z)) (bL _);rcases aG.mp (I.stkSub b z) with e | e;show (hf b hb).2.1 e;show (hf b hb).2.2.1 e;have h1':N[j]?=some x:=h1;unfold xB at h2;rw[aA] at h2
 cases e:BF[j]? with
 | none=>rw[e] at h2;cases h2
 | some o=>
  rw[e] at h2
  cases o with
  | none=>cases h2
  | some i=>
   have h2':(G[i]?).join=some v:=bH h2
   have h2'':G[i]?=some (some v):=by
    cases q:G[i]? with
    | none=>rw[q] at h2';cases h2'
    | some z=>rw[q] at h2';have:z=some v:=h2';rw[this]
   obtain⟨q1,q2,q3⟩:=c.cap h1' e;obtain⟨m0,hn0,hl0⟩:=I.loc;obtain⟨u,ru,hu⟩:=hl0 i x v q1 h2'' (q3.elim (λz=>.inr (.inl z)) λz=>.inr (.inr z));show#[u,ru,.inr #[yL q2,?_]];rcases hu with ⟨z,_⟩ | ⟨_,a,ha,hcell⟩;have z':X.env.scope.names.lookup x=some .local:=z;right;obtain⟨a',ha'⟩:=u8 (env:=X.env) (cs:=[]) q2;have:a'=a:=by have:=(back x a' ha').symm.trans ha;show bH this
   subst this;obtain⟨oc,hoc,hd⟩:=hcell;show#[a',ha',oc,hk _ _ hoc,hd]
 obtain⟨v,oc,hoc,hd⟩:=I.cell x a (back x a e);show#[v,oc,hk _ _ hoc,hd];change (xB G BF).length=N.length;unfold xB;rw[ab,c.len]
def zca {P:Ab}{w:Ac}{H:Hp}{h h':Heap}{a:Addr}(x:HOk P w H h)(hn:H a=none)(hs:Heap.SameBut a h h'):HOk P w H h':=λb o e=>by
 show (x b o e).stay (λc u hc q=>(hs.2 c ?_).trans q) (λ_ q=>q) λ_ _ q=>q;grind
def zhE {fp:AZ}{σ':St}{H':Hp}{s':Aa}{h'':Heap}(I:Inv X BD G H s)(hf:∀b∈fp,zen X BD H b)(I':Inv (zm X scope N s.heap.objs.size s H fp) [] σ' H' s')(hs:Heap.SameBut s.heap.objs.size s'.heap h'') :
  Inv X BD G H' { s' with heap:=h'' }:=by
 have ne:∀b o,s.heap.get? b=some o->b≠s.heap.objs.size:=λb o e=>aJ (ax e);have u:=I'.base;show Inv.call' (ch:=fp) I I'.os #[λb o e n hb hx=>?_,λb o e n hb hx=>?_,u.free,λb o e hx=>?_,u.tups,u.frzs,u.tbls] (zca I'.hok I'.free hs) I'.bare λb hb=>#[(hf b hb).2.2.2.1,(hf b hb).2.1,(hf b hb).2.2.2.2.1,(hf b hb).2.2.2.2.2];show (hs.2 b (ne b o e)).trans (u.keep b o e n hb hx);obtain⟨sl,q⟩:=u.slot b o e n hb hx;show#[sl,(hs.2 b (ne b o e)).trans q];obtain⟨o',q⟩:=u.there b o e hx;show#[o',(hs.2 b (ne b o e)).trans q]
end
def PTs (X:Cx)(ifs:AQ)(t:TT):Prop:=
 ∀ (BD:AB) (s:Aa) (G:St) (H:Hp) (Q:Bool->Hp->Prop),Inv X BD G H s->t G H Q->
  Ag X (forIn ifs true λc r=>if r=true then do let ok <- isTrue c X.env (eval c X.env);pure (ForInStep.yield ok) else pure (ForInStep.yield r)) (TP X BD G Q) X.xe s
def zcJ:TT:=λ_ H Q=>Q true H
def zpm {X:Cx}:PTs X [] zcJ:=λBD s G H Q I h=>wpAny_tests_nil #[H,I,h]
def zpn {X:Cx}{c:Expr}{t:TT}(h:PT X c t):PTs X [c] t:=λBD s G H Q I q=>wpAny_tests_one (h BD s G H Q I q)
def zvA (wi:TI)(g:TG)(ti:TT)(te:TE)(BF:List (Option Nat)):TE:=λG H Q=>wi G H λJ H1=>∀acc,H1 acc=none->∃W:Nat->Nat->St->Hp->Prop,(∃m,W 0 m (xB G BF) (upd H1 acc (.lst [])))/\
 ∀i m σ' H',W i m σ' H'->(J.stop i H'/\Q (.ref acc) H')\/(J.go i H'/\∃N:St->Hp->Prop,(∀ σ2 H2,N σ2 H2->∃m',m'<m/\W (i+1) m' σ2 H2)/\
  ∀x H2,J.yld i H' x H2->g x σ' H2 λσ3 H3=>ti σ3 H3 λok H4=>if ok=true then te σ3 H4 λv H5=>∃xs,H5 acc=some (.lst xs)/\xs.length<sizeLine/\N σ3 (upd H5 acc (.lst (xs++[v]))) else N σ3 H4)
def zlg (g:TG)(ti:TT)(te:TE)(acc:Addr)(N:St->Hp->Prop)(x:V)(G:St)(H:Hp):Prop:=
 g x G H λσ3 H3=>ti σ3 H3 λok H4=>if ok=true then te σ3 H4 λv H5=>∃xs,H5 acc=some (.lst xs)/\xs.length<sizeLine/\N σ3 (upd H5 acc (.lst (xs++[v]))) else N σ3 H4
def zie (M:Model)(A:Af)(e:Expr)(k:Nat)(tg:Expr)(ifs:AQ)(it acc:Value)(env:Env)(B:(Aa->Prop)->Aa->Prop):Prop:=
 ∀ (R:Result->Aa->Prop) (s:Aa) (I:Nat->Aa->Prop),(∀n s,I n s->wpAny M A (pyNext it) (λr s₁=>match r with
   | none=>R (.ok .next) s₁
   | some v=>wpAny M A (letOwnedTupleGo tg it v) (λ_ s₂=>wpAny M A (assign tg env v) (λ_ s₃=>
     wpAny M A (forIn ifs true λc r=>if r=true then do let ok <- isTrue c env (eval c env);pure (ForInStep.yield ok) else pure (ForInStep.yield r)) (λok s₄=>
      if ok=true then B (λs'=>∃m,m<n/\I m s') s₄ else ∃m,m<n/\I m s₄) (λ_ _=>False) s₃) (λ_ _=>False) s₂) (λ_ _=>False) s₁) (λ_ _=>False) s)->
  ∀n,I n s->codeAny M A (.compLoop e k it acc env) R s
structure PlainC (e:Expr):Prop where
 uL:∀ (A:Af) k it acc env,A.under (.compLoop e k it acc env)=A
 dL:∀prog w k it acc env,(model prog w).den (.compLoop e k it acc env)=(compTurn e k it acc env).onRaise λx=>do noteFrame x env;theTreesLotGoes x
 uS:∀ (A:Af) k it acc env,A.under (.compStart e k it acc env)=A
 dS:∀prog w k it acc env,(model prog w).den (.compStart e k it acc env)=(compStart e k it acc env).onRaise λx=>do noteFrame x env;standAt theWindowsPlace
def ua {elt gens scope pos}:PlainC (.ListComp elt gens scope pos):=#[λ_ _ _ _ _=>rfl,λ_ _ _ _ _ _=>rfl,λ_ _ _ _ _=>rfl,λ_ _ _ _ _ _=>rfl]
def uU {elt gens scope pos}:PlainC (.SetComp elt gens scope pos):=#[λ_ _ _ _ _=>rfl,λ_ _ _ _ _ _=>rfl,λ_ _ _ _ _=>rfl,λ_ _ _ _ _ _=>rfl]
def zdj {ke ve gens scope pos}:PlainC (.DictComp ke ve gens scope pos):=#[λ_ _ _ _ _=>rfl,λ_ _ _ _ _ _=>rfl,λ_ _ _ _ _=>rfl,λ_ _ _ _ _ _=>rfl]
def zp7 (e:Expr)(k:Nat)(tg iter:Expr)(ifs:AQ)(nx:Sem Fin->Sem Fin)(it acc:Value)(env:Env):Sem Fin:=do
 standAt iter.pos
 match <- pyNext it with
 | none=>pure (.done .next)
 | some v=>
  letOwnedTupleGo tg it v
  assign tg env v
  let mut ok:=true
  for c in ifs do
   if ok then ok <- isTrue c env (eval c env)
  if ok then nx (again (.compLoop e k it acc env)) else again (.compLoop e k it acc env)
def BdOf (M:Model)(A:Af)(nx:Sem Fin->Sem Fin)(P:Aa->Prop)(s:Aa):Prop:=∀ (k:Sem Fin) (Q:Fin->Aa->Prop) (E:AA),(∀s',P s'->wpAny M A k Q E s')->wpAny M A (nx k) Q E s
def zck {prog:Ab}{w:Ac}{A:Af}{e tg iter:Expr}{k:Nat}{ifs:AQ}{it acc:Value}{env:Env}{nx:Sem Fin->Sem Fin}(hp:PlainC e)(hT:compTurn e k it acc env=zp7 e k tg iter ifs nx it acc env):zie (model prog w) A e k tg ifs it acc env (BdOf (model prog w) A nx):=λR s I turn n h=>by
 show codeAny_loop BC I (λn s hI=>?_) n h;rw[hp.uL,hp.dL];show wpAny_noted ?_;rw[hT];show aa (dq (aa (bA (turn n s hI) (λr s₁ h₁=>?_) λ_ _ h'=>h'.elim)))
 cases r with
 | none=>show ai h₁
 | some v=>
  show aa (bA h₁ (λ_ s₂ h₂=>?_) λ_ _ h'=>h'.elim);show aa (bA h₂ (λ_ s₃ h₃=>aa (bA h₃ (λok s₄ h₄=>?_) λ_ _ h'=>h'.elim)) λ_ _ h'=>h'.elim)
  cases ok with
  | false=>show ai #[BC,h₄]
  | true=>show h₄ _ _ _ λs' h'=>ai #[BC,h']
def zhh {prog:Ab}{w:Ac}{A:Af}{R:Result->Aa->Prop}{s:Aa}{e tg iter:Expr}{k:Nat}{ifs:AQ}{it acc:Value}{env:Env}(hp:PlainC e)(hg:(clausesOf e)[k]?=some #[tg,iter,ifs,0])
  (h1:codeAny (model prog w) A (.compLoop e k it acc env) R s) (h2:Ah prog w A (pyIter it) (λit' s'=>codeAny (model prog w) A (.compLoop e k it' acc env) R s') (notedBy (model prog w) A env λx s'=>R (.error x) s') s):codeAny (model prog w) A (.compStart e k it acc env) R s:=by
 show codeAny_of_tree ?_;rw[hp.uS,hp.dS];show wpAny_notedAt ?_;unfold compStart;rw[hg,if_neg (by change ¬ ((0 != 0)=true);decide)];show aa (bN ?_);split;show ai #[BC,h1];show aa (eM (aa (dq (aa (bA h2 (λit' s' h'=>ai #[BC,h']) λ_ _ x=>x)))))
def zeR {X:Cx}{e tg:Expr}{k:Nat}{ifs:AQ}{it acc:Addr}{fp:AZ}{tn:Nat->Heap->Prop}{J:It}{g:TG}{ti:TT}{tb:(St->Hp->Prop)->St->Hp->Prop}{B:(Aa->Prop)->Aa->Prop}{pl:AB}{Fin:St->Hp->Prop}{R:Result->Aa->Prop}{W:Nat->Nat->St->Hp->Prop}{m0:Nat}{σ0:St}{H0:Hp}{s0:Aa}
  (L:zie (model X.prog X.w) X.A e k tg ifs (.ref it) (.ref acc) X.env B) (hc:X.calm=true) (xX:X.xe=λ_ _=>False) (T:Turn X.prog X.w X.K tg J fp it tn) (f4:∀ {H':Hp},(∀b∈fp,H' b=none)->∀b∈fp,zen X pl H' b) (hg:PG X tg g) (ht:PTs X ifs ti)
  (hb:∀pl' s G H (Nx:St->Hp->Prop) (P:Aa->Prop),Inv X (pl++pl') G H s->tb Nx G H->(∀ σ' H' s',Inv X (pl++pl') σ' H' s'->Nx σ' H'->P s')->B P s)
  (turn:∀i n G H,W i n G H->(J.stop i H/\Fin G H)\/(J.go i H/\∃Nx:St->Hp->Prop,(∀ σ' H',Nx σ' H'->∃m,m<n/\W (i+1) m σ' H')/\∀x H',J.yld i H x H'->g x G H' λσ2 H2=>ti σ2 H2 λb H3=>if b=true then tb Nx σ2 H3 else Nx σ2 H3))
  (fin:∀ G H s,Inv X pl G H s->Fin G H->R (.ok .next) s) (I0:Inv X pl σ0 H0 s0) (st0:tn 0 s0.heap) (fr0:∀b∈fp,H0 b=none) (w0:W 0 m0 σ0 H0) :
  codeAny (model X.prog X.w) X.A (.compLoop e k (.ref it) (.ref acc) X.env) R s0:=by
 show L R s0 (λn s'=>∃i σ' H',Inv X pl σ' H' s'/\tn i s'.heap/\(∀b∈fp,H' b=none)/\W i n σ' H') ?_ m0 #[0,σ0,H0,I0,st0,fr0,w0];rintro n s5 ⟨i,σ5,H5,I5,st5,fr5,w5⟩;rcases turn i n σ5 H5 w5 with ⟨stop,qn⟩ | ⟨go,Nx,hN,step⟩
 ·show thn (T.done X BC BC BC hc i pl s5 σ5 H5 (λ_ _=>False) I5 (f4 fr5) st5 stop) ?_;rintro r s6 ⟨hr,I6⟩;subst hr;show fin σ5 H5 s6 I6 qn
 show thn (T.item X BC BC BC hc i pl s5 σ5 H5 (λ_ _=>False) I5 (f4 fr5) st5 go) ?_;rintro r s6 ⟨u,hr,h6⟩;subst hr;show thn h6 ?_;rintro _ s7 ⟨x,H7,I7,r7,y7,st7,fr7⟩;have I7':=I7.pinned (f4 fr7) (T.obj _ _ st7);have a7:=hg _ s7 σ5 H7 x u _ I7' r7 (step x H7 y7);rw[xX] at a7;show thn a7 ?_;rintro _ s8 ⟨σ8,H8,I8,q8⟩;have t8:=ht _ s8 σ8 H8 _ I8 q8;rw[xX] at t8;show thn t8 ?_;rintro ok s9 ⟨H9,I9,q9⟩
 have ag:∀ σ' H' s',Inv X (pl++zfa fp s7.heap) σ' H' s'->Nx σ' H'->∃m,m<n/\∃i σ' H',Inv X pl σ' H' s'/\tn i s'.heap/\(∀b∈fp,H' b=none)/\W i m σ' H':=λσ' H' s' J' n'=>by
  obtain⟨m',hm,w'⟩:=hN σ' H' n'
  have pn:∀b∈fp,∀o,s7.heap.get? b=some o->s'.heap.get? b=some o/\H' b=none:=λb hb o e=>by
   have:=J'.pin (b,o) (ba _ (ba _ (zbg hb e)));right
  show#[m',hm,i+1,σ',H',J'.unpinned,T.keep _ _ _ st7 λb hb o e=>(pn b hb o e).1,λb hb=>?_,w'];obtain⟨o,e,_⟩:=T.obj _ _ st7 b hb;right
 cases ok with
 | false=>show ag _ _ _ I9 q9
 | true=>show hb _ s9 σ8 H9 _ _ I9 q9 ag
structure Inn (X X':Cx)(BD:AB)(G:St)(fp:AZ)(C:Addr):Prop where
 pX:X'.prog=X.prog
 wX:X'.w=X.w
 KX:X'.K=X.K
 AX:X'.A=X.A
 cX:X'.calm=X.calm
 xX:X'.xe=λ_ _=>False
 lX:X'.env.locals=C
 f4:∀ {H':Hp},(∀b∈fp,H' b=none)->∀b∈fp,zen X' [] H' b
 back:∀ {σ':St} {H':Hp} {s':Aa} {h'':Heap},Inv X' [] σ' H' s'->Heap.SameBut C s'.heap h''->Inv X BD G H' { s' with heap:=h'' }
structure Opn (X:Cx)(scope:Scope)(BF:List (Option Nat))(Fam:Cx->Prop):Prop where
 kind:scope.kind = .function
 names:∀x∈scope.names,x.2 = .local->scope.names.lookup x.1=some .local
 cells:X.Ok->∀x∈scope.names,x.2 = .free->∃a,X.env.cells.lookup x.1=some a
 run:∀ (BD:AB) (G:St) (H3:Hp) (s3:Aa) (fp:AZ) (Q:Env->Aa->Prop),Inv X BD G H3 s3->(∀b∈fp,zen X BD H3 b)->(∀b∈fp,b<s3.heap.objs.size)->
  (∀X' cenv s4,Fam X'->Inn X X' BD G fp s3.heap.objs.size->cenv.locals=s3.heap.objs.size->X'.env={ cenv with scope:=relabel scope X.env }->Inv X' [] (xB G BF) H3 s4->(∀b o,s3.heap.get? b=some o->s4.heap.get? b=some o)->Q cenv s4)->
  Ag X (newFunctionEnv scope X.env.globals (zcO X.env scope.names []) [] X.env.qual none .none (some X.env)) Q X.xe s3
def inG (J:It)(g:TG)(ti:TT)(tb:(St->Hp->Prop)->St->Hp->Prop)(N:St->Hp->Prop)(G:St)(H:Hp):Prop:=∃W:Nat->Nat->St->Hp->Prop,(∃m,W 0 m G H)/\
 ∀i m σ' H',W i m σ' H'->(J.stop i H'/\N σ' H')\/(J.go i H'/\∃N2:St->Hp->Prop,(∀ σ2 H2,N2 σ2 H2->∃m',m'<m/\W (i+1) m' σ2 H2)/\∀x H2,J.yld i H' x H2->g x σ' H2 λσ3 H3=>ti σ3 H3 λok H4=>if ok=true then tb N2 σ3 H4 else N2 σ3 H4)
def ClB (X:Cx)(e:Expr)(k:Nat)(tg:Expr)(ifs:AQ)(acc:Addr)(tb:(St->Hp->Prop)->St->Hp->Prop):Prop:=
 ∃B:(Aa->Prop)->Aa->Prop,(∀it,zie (model X.prog X.w) X.A e k tg ifs it (.ref acc) X.env B)/\∀pl s G H (Nx:St->Hp->Prop) (P:Aa->Prop),Inv X pl G H s->tb Nx G H->(∀ σ' H' s',Inv X pl σ' H' s'->Nx σ' H'->P s')->B P s
def zmU {X:Cx}{e tg iter tg2 iter2:Expr}{k:Nat}{ifs ifs2:AQ}{acc:Addr}{wi:TI}{g:TG}{ti:TT}{tb:(St->Hp->Prop)->St->Hp->Prop}(hp:PlainC e)
  (hT:∀it,compTurn e k it (.ref acc) X.env=zp7 e k tg iter ifs (λc=>do let x <- eval iter2 X.env;standAt iter2.pos;let x <- foldedSetIterable iter2 X.env x;let _ <- runOwn (.compStart e (k+1) (<- holding [x] (pyIter x)) (.ref acc) X.env) X.env;c) it (.ref acc) X.env)
  (hg1:(clausesOf e)[k+1]?=some #[tg2,iter2,ifs2,0]) (hs:∀x,foldedSetIterable iter2 X.env x=pure x) (hc:X.calm=true) (xX:X.xe=λ_ _=>False) (hi:PI X tg2 iter2 wi) (hg:PG X tg2 g) (ht:PTs X ifs2 ti) (hb:ClB X e (k+1) tg2 ifs2 acc tb) :
  ClB X e k tg ifs acc λNx G H=>wi G H λJ H2=>inG J g ti tb Nx G H2:=by
 obtain⟨B,hL,hB⟩:=hb;show#[_,λit=>zck hp (hT it),λpl s G H Nx P I q kk c Q E hk=>?_];have e9:=hi pl s G H _ I q;rw[xX] at e9;show aa (bA e9 (λx s1 h1=>?_) λ_ _ h'=>h'.elim);show aa (dq ?_);change wpAny _ _ (foldedSetIterable iter2 X.env x >>= _) _ _ _;rw[hs];show aa (ai (aa (bw (bA h1 (λitv s2 h2=>?_) λ_ _ h'=>h'.elim))));show aa (wpAny_runOwn (h:=none) ?_);obtain⟨it,fp,tn,J,H2,e0,I2,T,st2,f2,W,⟨m0,w0⟩,turn⟩:=h2;subst e0;have loop:=zeR (X:=X) (pl:=pl) (R:=λr s7=>match r with | .ok _=>P s7 | .error _=>False) (hL _) hc xX T (λhn b hb=>#[hn b hb,(f2 b hb).2]) hg ht (λpl'=>hB (pl++pl')) turn (λσ' H' s' I' q'=>kk σ' H' s' I' q') I2 st2 (λb hb=>(f2 b hb).1) w0;show gc (zhh (A:=X.A) hp hg1 loop (T.self X.A 0 _ _ _ st2 loop)) λr s₇ h₇=>?_
 cases r with
 | ok f=>show hk _ h₇
 | error e=>show h₇.elim
def uG {X:Cx}{Fam:Cx->Prop}{scope:Scope}{BF:List (Option Nat)}{use:Option (Value->Sem Unit)}{Qp:AA}{e tg iter:Expr}{ifs:AQ}{gs:List Comprehension}{pos:Pos}{newAcc:Sem Value}{ob:Obj}{o0:Addr->HO}{tb:Addr->(St->Hp->Prop)->St->Hp->Prop}{Fin:Addr->Hp->Prop}{wi:TI}{g:TG}{ti:TT}{Kk:It->Hp->Prop}{BD:AB}{G:St}{H:Hp}{s:Aa}
  (O:Opn X scope BF Fam) (hp:PlainC e) (hc:X.calm=true) (hcl:clausesOf e=#[tg,iter,ifs,0]::gs) (hs:∀x,foldedSetIterable iter X.env x=pure x)
  (hacc:∀ (s:Aa) (Q:AA),Q (.ref s.heap.objs.size) { s with heap:=s.heap.push ob }->Ag X newAcc Q X.xe s)
  (hob:∀ {BD G H s},Inv X BD G H s->∀H',z8 X.prog X.w H' (s.heap.push ob) s.heap.objs.size (o0 s.heap.objs.size))
  (hi:PI X tg iter wi) (hg:∀X',Fam X'->PG X' tg g) (ht:∀X',Fam X'->PTs X' ifs ti)
  (hb:∀X',Fam X'->X'.prog=X.prog->X'.w=X.w->X'.A=X.A->X'.calm=true->X'.xe=(λ_ _=>False)->∀acc,ClB X' e 0 tg ifs acc (tb acc))
  (I:Inv X BD G H s) (h:wi G H Kk)
  (hK:∀J H1 acc,Kk J H1->H1 acc=none->inG J g ti (tb acc) (λ_ H=>Fin acc H) (xB G BF) (upd H1 acc (o0 acc)))
  (hfin:∀acc C H5 s6,zen X BD H5 C->(∃m,s6.heap.Ns C m)->(∀h'',Heap.SameBut C s6.heap h''->Inv X BD G H5 { s6 with heap:=h'' })->Fin acc H5->compPost (model X.prog X.w) X.A X.xe use Qp (.ref acc) C (.ok .next) s6) :
  Ag X (comprehension e scope X.env pos newAcc false (eval iter X.env) use) Qp X.xe s:=by
 show wpAny_comprehension_free (use:=use) hcl hs (zhx (O.cells I.ok)) O.kind O.names (thn (hi BD s G H _ I h) λxv s1 h1=>thn h1 λitv s2 h2=>?_);obtain⟨it,fp,tn,J,H2,e,I2,T,st2,f2,q2⟩:=h2;subst e;show hacc s2 _ ?_;have hnone:=I2.hok.fresh (ak s2.heap.objs.size);obtain⟨W,⟨m0,w0⟩,turn⟩:=hK J H2 s2.heap.objs.size q2 hnone;have kp2:∀b o,s2.heap.get? b=some o->(s2.heap.push ob).get? b=some o:=λb u e=>af _ e;have I3:Inv X BD G (upd H2 s2.heap.objs.size (o0 s2.heap.objs.size)) { s2 with heap:=s2.heap.push ob,toks:=s2.toks }:=I2.laid (t':=s2.toks) kp2 (ak _) (hob I2 _);have ltF:∀b∈fp,b<s2.heap.objs.size:=λb hb=>by obtain⟨o,ho,_⟩:=T.obj _ _ st2 b hb;show ax ho
 have fn:∀b∈fp,upd H2 s2.heap.objs.size (o0 s2.heap.objs.size) b=none:=λb hb=>by rw[ze (aJ (ltF b hb))];show (f2 b hb).1
 show O.run BD G _ _ fp _ I3 (λb hb=>#[fn b hb,(f2 b hb).2]) (λb hb=>dJ (ltF b hb) (by simp)) λX' cenv s4 hF N hl hE I4 kp=>?_;rw[<- hE,hl];have st4:tn 0 s4.heap:=T.keep _ _ _ st2 λb hb o e=>kp b o (kp2 b o e);have cX:=N.cX.trans hc;obtain⟨B,hL,hB⟩:=hb X' hF N.pX N.wX N.AX cX N.xX s2.heap.objs.size;have loop:=zeR (X:=X') (R:=compPost (model X.prog X.w) X.A X.xe use Qp (.ref s2.heap.objs.size) (s2.heap.push ob).objs.size) (Fin:=λ_ H=>Fin s2.heap.objs.size H) (pl:=[]) (hL (.ref it)) cX N.xX (by rw[N.pX,N.wX,N.KX];show T) N.f4 (hg X' hF) (ht X' hF) (λpl'=>hB ([]++pl')) turn (λσ5 H5 s6 I6 q=>?_) I4 st4 fn w0;rw[N.pX,N.wX,N.AX] at loop;show zhh hp (show (clausesOf e)[0]?=some #[tg,iter,ifs,0] by rw[hcl];rfl) loop (T.self X.A 0 _ _ _ st4 loop);have hfr:H5 (s2.heap.push ob).objs.size=none:=by have:=I6.free;rwa[N.lX] at this
 obtain⟨m6,hn6,_⟩:=I6.loc;rw[N.lX] at hn6;show hfin _ _ H5 s6 (I3.fpOk (ak _) hfr) #[m6,hn6] (λh'' hs=>N.back I6 hs) q
section
variable {X:Cx}{scope:Scope}{N:AN}{BF:List (Option Nat)}{z:Str}
def x8 (c:CompOk X scope N BF):Opn X scope BF (λX'=>∃C s H ex,X'=zm X scope N C s H ex) where
 kind:=c.kind
 names:=c.names
 cells:=c.cells
 run:=λBD G H3 s3 fp Q I3 f3 ltF k=>by
  show wpAny_newFunctionEnv c.cell (by simp) (λh4 hns4 hsb4=>?_) c.kind;have kp:∀b o,s3.heap.get? b=some o->h4.get? b=some o:=λb o e=>hsb4.extBut b o (aJ (ax e)) (af _ e);show k (zm X scope N s3.heap.objs.size s3 H3 fp) _ _ #[_,_,_,_,BC] #[BC,BC,BC,BC,BC,BC,BC,λ{H'} hn b hb=>#[hn b hb,aJ (ltF b hb),λy=>?_,.inl hb,λx a e=>?_,λp hp=>?_],λI' hs=>zhE I3 f3 I' hs] BC BC (zlB I3 c f3 ltF hns4 kp) kp;rcases aG.mp (I3.stkSub b y) with e | e;show (f3 b hb).2.1 e;show (f3 b hb).2.2.1 e;rcases uE (c.cells I3.ok) e with y | y;show (f3 b hb).2.2.2.2.1 x a y;simp at y;show absurd (show p∈([]:AB)++[] from hp) (by simp)
def u9 {BD:AB}{G:St}{Q:VK}{acc C:Addr}{H5:Hp}{s6:Aa}(hm:∃m,s6.heap.Ns C m)(hb:∀h'',Heap.SameBut C s6.heap h''->Inv X BD G H5 { s6 with heap:=h'' })(q:Q (.ref acc) H5):compPost (model X.prog X.w) X.A X.xe none (EP X BD G Q) (.ref acc) C (.ok .next) s6:=
 let ⟨m,hn⟩:=hm;#[m,hn,λh7 hs7=>#[.ref acc,H5,hb h7 hs7,BC,q]]
def zgB {e:Expr}{pos spos px:Pos}{ix:Nat}{nx:Str}{newAcc first:Sem Value}{BI:Ends}{BD:AB}{G:St}{s:Aa}(hNd:X.N.Nodup)(hix:X.N[ix]?=some nx)(hlx:X.env.scope.names.lookup nx=some .local)
  (hsw:swapsWithSole [.Name nx px] e spos.line X.env=pure true) (h1a:(assignEach [.Name nx px] X.env).map (·.2)=[assign (.Name nx px) X.env]) (heU:∀U,evalThenUse e X.env U=comprehension e scope X.env pos newAcc false first (some U) >>= λ_=>pure ())
  (h:∀ (U:Value->Sem Unit) (Qp:AA),(∀acc C H5 s6,zen X BD H5 C->(∃m,s6.heap.Ns C m)->(∀h'',Heap.SameBut C s6.heap h''->Inv X BD G H5 { s6 with heap:=h'' })->BI.nx (G.set ix (some (.ref acc))) H5->compPost (model X.prog X.w) X.A X.xe (some U) Qp (.ref acc) C (.ok .next) s6)->Ag X (comprehension e scope X.env pos newAcc false first (some U)) Qp X.xe s) :
  Ag X (exec (.Assign [.Name nx px] e spos) X.env) (SP X BD BI) X.xe s:=by
 rw[exec_Assign_arm];show aa (dq ?_);rw[hsw];show aa (ai ?_);rw[if_pos rfl];show aa ?_;rw[heU];show aa ?_;show h _ _ λacc C H5 s6 fC hm hbk q=>?_;have IX:=hbk _ #[BC,λ_ _=>rfl];change wpAny _ _ (assignAll _ ((assignEach [.Name nx px] X.env).map (·.2))) _ _ s6;rw[h1a];show wpAny_assign_Name (x:=nx) (pos:=px) ?_;show zfq IX hNd hix (Or.inl hlx) (v:=.ref acc) BC (λs7 I7 ⟨a7,hs7,ha7⟩=>?_) (.inr hlx)
 have hCa:C≠a7:=by
  intro z;rcases ha7 with e | e;show fC.2.1 (z.trans e);show fC.2.2.2.2.1 nx a7 e z.symm
 obtain⟨m6,oC,esC,epC,hoC,rC⟩:=hm;show#[m6,#[oC,esC,epC,(hs7.2 _ hCa).trans hoC,rC],λh8 hs8=>ai (ai ?_)];show#[_,H5,I7.turned (t':=s7.toks) (λb o hb e=>(hs8.2 b hb).trans e) fC.1 fC.2.1 fC.2.2.2.1 fC.2.2.2.2.1 fC.2.2.2.2.2,q]
variable {Fam:Cx->Prop}{use:Option (Value->Sem Unit)}{Qp:AA}{elt tg iter:Expr}{ifs:AQ}{pos ipos spos px:Pos}{wi:TI}{g:TG}{ti:TT}{te:TE}{BD:AB}{G:St}{H:Hp}{s:Aa}{Fin:Addr->Hp->Prop}
def zk7 {P:Aa->Prop}{acc:Addr}{Nx:St->Hp->Prop}(he:PE X elt te)(xX:X.xe=λ_ _=>False)(I:Inv X BD G H s)(q:te G H λv H'=>∃xs,H' acc=some (.lst xs)/\xs.length<sizeLine/\Nx G (upd H' acc (.lst (xs++[v]))))(k:∀ σ' H' s',Inv X BD σ' H' s'->Nx σ' H'->P s') :
  Ag X (eval elt X.env) (λx s5=>Ag X (call (.builtin "list.append") [.ref acc,x]) (λ_ s6=>P s6) (λ_ _=>False) s5) (λ_ _=>False) s:=by
 have e9:=he BD s G H _ I q;rw[xX] at e9;show thn e9 ?_;rintro u2 s10 ⟨v,H10,I10,r10,xs,hxs,hlt,nx⟩;have m10:=zeT (X:=X) _ s10 G H10 (.ref acc) [v] (.ref acc) [u2] (λ_ H'=>Nx G H') I10 BC (.cons r10 .nil) #[_,xs,v,BC,BC,hxs,hlt,nx];rw[xX] at m10;show thn m10 (by rintro _ s11 ⟨_,H11,I11,_,n11⟩;show k _ _ _ I11 n11)
abbrev zqy (te:TE)(acc:Addr):(St->Hp->Prop)->St->Hp->Prop:=λNx G H=>te G H λv H'=>∃xs,H' acc=some (.lst xs)/\xs.length<sizeLine/\Nx G (upd H' acc (.lst (xs++[v])))
def zis {e:Expr}{k:Nat}{acc:Addr}(hp:PlainC e)(he:PE X elt te)(xX:X.xe=λ_ _=>False)(hT:∀it,compTurn e k it (.ref acc) X.env=zp7 e k tg iter ifs (λc=>(do let _ <- call (.builtin "list.append") [.ref acc,<- eval elt X.env]) >>= λ_=>c) it (.ref acc) X.env):ClB X e k tg ifs acc (zqy te acc):=
 #[_,λit=>zck hp (hT it),λpl s G H Nx P I q kk _ _ _ hk=>aa (aa (bA (zk7 he xX I q kk) (λ_ _ h5=>aa (bA h5 (λ_ _ h6=>ai (hk _ h6)) λ_ _ h'=>h'.elim)) λ_ _ h'=>h'.elim))]
def zcj (O:Opn X scope BF Fam)(hc:X.calm=true)(hi:PI X tg iter wi)(hg:∀X',Fam X'->PG X' tg g)(ht:∀X',Fam X'->PTs X' ifs ti)(he:∀X',Fam X'->PE X' elt te)(hs:∀x,foldedSetIterable iter X.env x=pure x)(I:Inv X BD G H s)
  (h:wi G H λJ H1=>∀acc,H1 acc=none->∃W:Nat->Nat->St->Hp->Prop,(∃m,W 0 m (xB G BF) (upd H1 acc (.lst [])))/\∀i n G H,W i n G H->(J.stop i H/\Fin acc H)\/(J.go i H/\∃Nx:St->Hp->Prop,(∀ σ' H',Nx σ' H'->∃m,m<n/\W (i+1) m σ' H')/\∀x H',J.yld i H x H'->zlg g ti te acc Nx x G H'))
  (hfin:∀acc C H5 s6,zen X BD H5 C->(∃m,s6.heap.Ns C m)->(∀h'',Heap.SameBut C s6.heap h''->Inv X BD G H5 { s6 with heap:=h'' })->Fin acc H5->compPost (model X.prog X.w) X.A X.xe use Qp (.ref acc) C (.ok .next) s6) :
  Ag X (comprehension (.ListComp elt [#[tg,iter,ifs,0]] scope pos) scope X.env ipos (newList []) false (eval iter X.env) use) Qp X.xe s:=
 uG (ob:={ cls:=.type "list",dict:=none,data:=.seq ([]:AO).toArray }) (o0:=λ_=>.lst []) (tb:=λacc=>zqy te acc) O ua hc BC hs (λs Q h=>bg h) (λ_ _=>#[aS _,[],0,.nil,aw _ BC]) hi hg ht (λX' hF _ _ _ _ xX _=>zis ua (he X' hF) xX λ_=>rfl) I h (λJ H1 acc q hn=>q acc hn) hfin
end
section
variable {X:Cx}{scope:Scope}{N:AN}{z:Str}
def zba {P:Cx->Prop}(h:∀C s H ex,P (zm X scope N C s H ex)):∀X',(∃C s H ex,X'=zm X scope N C s H ex)->P X':=by right
abbrev zto (X:Cx)(BD:AB)(G:St)(use:Option (Value->Sem Unit))(Qp:AA)(Q:VK):Prop:=∀acc C H5 s6,zen X BD H5 C->(∃m,s6.heap.Ns C m)->(∀h'',Heap.SameBut C s6.heap h''->Inv X BD G H5 { s6 with heap:=h'' })->Q (.ref acc) H5->compPost (model X.prog X.w) X.A X.xe use Qp (.ref acc) C (.ok .next) s6
end
structure Dfn (K:AI)(mg:AJ)(x:Str)(st:Stmt)(ps:AN)(f:Addr)(fd:Ae):Prop where
 F:Fun K x x st f fd
 b:zhv K fd ps []
 m:mg x=some (.ref f)
section
variable {X:Cx}
def zvi {x:Str}{st:Stmt}{ps:AN}{f:Addr}{fd:Ae}{sp:Sp}{j k:Nat}{e:Expr}{es:AQ}{t:TA}{p pos:Pos}(BI:Dfn X.K X.mg x st ps f fd)(BH:FnOk X.prog X.w X.K X.mg X.base CX0 j f fd ps sp)(hr:Room k X.A)
  (ha:PA X (e::es) t) (hjk:j<=k:=by ext) (hg:Gl X x:=by rfl) (hdb:Ai x:=by ext) (he:starEach (e::es) X.env=(false,eval e X.env)::starEach es X.env:=by rfl) (hpl:(backTo pos (starEach es X.env)).any (·.1)=false:=by rfl) :
  PE X (.Call (.Name x p) (e::es) [] pos) (zh2 sp [] E0 t):=
 zo1 BH (hr.mono hjk) hg BI.m BI.F.kp BI.b .nil zvg ha hdb he hpl
def zkv {bs:List Bool}:((List.range bs.length).all λi=>bs.getD i true)=bs.all id:=by
 rw[b5,a8,a8];constructor;intro h b hb;obtain⟨i,hi,e⟩:=cb.mp hb;right;intro h i hi;have hi':=aZ.mp hi;have:=h bs[i] (bu hi');right
def zlb (hc:X.calm=true):zcN X (.builtin "all") (λxs H Q=>∃ (p:Addr) (bs:List Bool),xs=[.ref p]/\Rd H p (.lst (bs.map V.bl))/\Q (.bl (bs.all id)) H):=by
 intro BD s G H xs us Q I r h;obtain⟨p,bs,rfl,hp,q⟩:=h;obtain⟨u,rfl,ru⟩:=zak r;cases ru;obtain⟨its,rv,pl,hz⟩:=I.list (.inl hp);have hlen:=rv.length;rw[ab] at hlen;have W:Walks X.prog X.w X.A.in1 s.heap.objs.size [s.heap.objs.size,p] [s.heap.objs.size] its.toArray.size (λi v=>its.toArray[i]?=some v) (λi h=>h.IsListIter s.heap.objs.size p i/\h.IsList p its.toArray):=by show Walks.list (A:=X.A.in1) (I.ok.hd hc) s.heap.objs.size p ?_ its.toArray;obtain⟨o,_,ho,_⟩:=pl;show aJ (ax ho)
 show call_all_walk (fG pl.isList #[s.heap.objs.size,_,_,_,_,_,λi=>bs.getD i true,BC,W,#[?_,?_],?_,?_]);show#[_,aw _ BC,BC,BC];show pl.isList.at λo e=>af _ e;intro i v s' Q' E' hP hQ;have hP':its[i]?=some v:=by simpa using hP
 have hi:i<bs.length:=by grind
 have hb:(bs.map V.bl)[i]?=some (V.bl bs[i]):=by simp[hi]
 obtain⟨u',hu',rb⟩:=rv.get hb;rw[hP'] at hu';cases hu';cases rb;have:bs.getD i true=bs[i]:=by simp[hi]
 dsimp only at hQ;rw[this] at hQ;show bW hQ;intro h' tk hk;have e:(List.range its.toArray.size).all (λi=>bs.getD i true)=bs.all id:=by rw[a9,<- hlen];show zkv
 rw[e];show#[.bl _,H,I.kept (t':=tk) λb o eb=>hk b o (by simp;show aJ (ax eb)) (af _ eb),BC,q]
end
structure QE (X:Cx)(e:Expr)(t:TE):Prop where
 run:PE X e t
structure QT (X:Cx)(e:Expr)(t:TT):Prop where
 run:PT X e t
structure QW (X:Cx)(e:Expr)(t:TT):Prop where
 run:PW X e t
structure QC (X:Cx)(op:CmpOp)(a b:Expr)(t:TE):Prop where
 run:PC X op a b t
structure QA (X:Cx)(es:AQ)(t:TA):Prop where
 run:PA X es t
structure QS (X:Cx)(s:Stmt)(t:TS):Prop where
 run:PS X s t
structure QSs (X:Cx)(s:List Stmt)(t:TS):Prop where
 run:PSs X s t
structure QG (X:Cx)(e:Expr)(t:TG):Prop where
 run:PG X e t
structure QGs (X:Cx)(es:AQ)(t:TGs):Prop where
 run:PGs X es t
structure QI (X:Cx)(tg e:Expr)(t:TI):Prop where
 run:PI X tg e t
structure QO (X:Cx)(e:Option Expr)(t:TO):Prop where
 run:PO X e t
structure QP (X:Cx)(pos:Pos)(ks:List (Option Expr))(vs:AQ)(t:List (TE×TE)):Prop where
 run:PPs X pos ks vs t
structure QTs (X:Cx)(es:AQ)(t:TT):Prop where
 run:PTs X es t
structure OpQ (X:Cx)(f:Value->Value->Sem Value)(r:R2):Prop where
 run:OpR X f r
structure CallQ (X:Cx)(f:Value)(r:AU->Hp->VK->Prop):Prop where
 run:zcN X f r
structure IxQ (X:Cx)(r:R2):Prop where
 run:IxR X r
structure SlQ (X:Cx)(r:V->AR->AR->Hp->VK->Prop):Prop where
 run:SlR X r
section
variable {X:Cx}{e a b c:Expr}{es:AQ}{te ta tb tc:TE}{t u:TT}{pos p:Pos}
def qv (i:Nat){x:Str}{pos:Pos}(hN:X.N[i]?=some x:=by rfl)(hv:Vis X.env.scope x:=by fail"v")(hd:Ai x:=by ext)
  (hcd:(x==("__classdict__" : Str))=false:=by ext):QE X (.Name x pos) (znw i):=#[zr1 hN hv hd hcd]
def yo {i:Int}{j:Nat}:QE X (.Constant (.int i) j pos) (tC (.int i)):=#[zrX]
def zvp {k:Bool}{j:Nat}:QE X (.Constant (.bool k) j pos) (tC (.bl k)):=#[zvh]
def zsm {j:Nat}:QE X (.Constant .none j pos) (tC .non):=#[zrY]
def xA {x:Str}{j:Nat}:QE X (.Constant (.str x) j pos) (tC (.str x)):=#[zr0]
def zmo {x:Str}{v:V}(hg:Gl X x)(h:∃w,yv v w/\X.mg x=some w)(hd:Ai x:=by ext):QE X (.Name x pos) (tC v):=by obtain⟨w,r,hm⟩:=h;show#[zo6 hg hm r hd]
def zpr {x:Str}{v:V}{w:Value}(hg:Gl X x)(hm:X.mg x=none)(hv:bootBuiltins x=some w)(r:yv v w)(hn:x ≠ "__name__" := by ext)(hd:Ai x:=by ext):QE X (.Name x pos) (tC v):=#[zo0 hg hm hv r hn hd]
def xi:OpQ X (binaryOp .Add) (rI0 λi j=>.int (i+j)):=#[zrH]
def zrS:OpQ X (binaryOp .Sub) (rI0 λi j=>.int (i - j)):=#[zrO]
def zat:OpQ X (binaryOp .Mult) (rI zmQ λi j=>.int (i * j)):=#[zrL]
def zgb:OpQ X (binaryOp .FloorDiv) (rI CDiv λi j=>.int (i / j)):=#[zoT]
def zcw:OpQ X (binaryOp .Mod) (rI (λ_ j=>0<j) λi j=>.int (i % j)):=#[zrK]
def zj4:OpQ X (binaryOp .Pow) (rI CPow λi j=>.int (i ^ j.toNat)):=#[zrN]
def xo:OpQ X (binaryOp .Add) (zmx X.K):=#[zoR]
def zrP:OpQ X (binaryOp .Add) rCat:=#[zrI]
def zl3:OpQ X (compareOp .Lt) (rI0 λi j=>.bl (decide (i<j))):=#[zvc]
def zrR:OpQ X (compareOp .LtE) (rI0 λi j=>.bl (decide (i<=j))):=#[zvb]
def zoW:OpQ X (compareOp .Gt) (rI0 λi j=>.bl (decide (j<i))):=#[zva]
def zve:OpQ X (compareOp .GtE) (rI0 λi j=>.bl (decide (j<=i))):=#[zu9]
def zaB:OpQ X (compareOp .Eq) rEq:=#[zu8]
def zoX:OpQ X (compareOp .NotEq) rNe:=#[zvd]
def zcv:OpQ X (compareOp .In) (rIn X.K false):=#[zj1]
def xL:OpQ X (compareOp .NotIn) (rIn X.K true):=#[ze7]
def yZ {op:Operator}{r:R2}(ho:OpQ X (binaryOp op) r)(ha:QE X a ta)(hb:QE X b tb):QE X (.BinOp a op b pos) (tOp r ta tb):=#[zvk ho.run ha.run hb.run]
def zps {op:CmpOp}{r:R2}(ho:OpQ X (compareOp op) r)(ha:QE X a ta)(hb:QE X b tb)(hm:behindInMarks op b=false):QE X (.Compare a [op] [b] pos) (tOp r ta tb):=#[zo2 ho.run ha.run hb.run hm]
def zcA {op:CmpOp}{r:R2}(ho:OpQ X (compareOp op) r)(ha:QE X a ta)(hb:QE X b tb)(hm:behindInMarks op b=false):QT X (.Compare a [op] [b] pos) (zkS (tOp r ta tb)):=#[zpl ho.run ha.run hb.run hm]
def zmv {op op':CmpOp}{r r':R2}(ho:OpQ X (compareOp op) r)(ho':OpQ X (compareOp op') r')(ha:QE X a ta)(hb:QE X b tb)(hc:QE X c tc)(hm:lastMarks [op,op'] [b,c]=false:=by with_unfolding_all rfl) :
  QT X (.Compare a [op,op'] [b,c] pos) (zkS (zkP r r' ta tb tc)):=#[zmm ho.run ho'.run ha.run hb.run hc.run hm]
def zpq {j:Nat}{pos':Pos}(ha:QE X a ta):QC X .IsNot a (.Constant .none j pos') (zp3 ta):=#[zoZ ha.run]
def zsi (hu:X.A.units+1<cLine)(ha:QE X a ta)(hb:QE X b tb):QC X .In a b (zvB ta tb):=#[zrU hu ha.run hb.run]
def znl {op:CmpOp}(h:QC X op a b te)(h1:behindInMarks op b=false:=by first | show zdV _ (by ext) (by ext) | rfl):QT X (.Compare a [op] [b] pos) (tB te):=#[zsd h.run h1]
def zst (h:QE X e te)(he:∀whole,isTrue e X.env whole=(do let v <- whole;standAt e.pos;holding [v] (truthy v)):=by intro _;rfl):QT X e (tB te):=#[zsf h.run he]
def zmw (h:QE X e te)(he:∀whole,isTrue e X.env whole=(do let v <- whole;standAt e.pos;holding [v] (truthy v)):=by intro _;rfl):QT X e (λG H Q=>te G H λx H'=>∃k,ztS X.K x H' k/\Q k H'):=#[zmn h.run he]
def zss (h:QT X a t):QT X (.UnaryOp .Not a pos) (tNot t):=#[zse h.run]
def zkq (h:QT X a t):QW X (.BoolOp .And [a] pos) t:=#[zpp h.run]
def zsu (h:QT X a t):QW X (.BoolOp .Or [a] pos) t:=#[zsh h.run]
def znm {yD:AQ}(h:QT X a t)(h':QW X (.BoolOp .And (b::yD) pos) u):QW X (.BoolOp .And (a::b::yD) pos) (zvz t u):=#[zsg h.run h'.run]
def zvr {yD:AQ}(h:QT X a t)(h':QW X (.BoolOp .Or (b::yD) pos) u):QW X (.BoolOp .Or (a::b::yD) pos) (tOr t u):=#[zvo h.run h'.run]
def QW.pt (h:QW X e t):QT X e t:=#[h.run.pt]
def zsn {op:BoolOp}(h:QE X a ta):QE X (.BoolOp op [a] pos) ta:=#[zrZ h.run]
def zsj {yD:AQ}(ha:QE X a ta)(hb:QE X (.BoolOp .And (b::yD) pos) tb):QE X (.BoolOp .And (a::b::yD) pos) (zsX ta tb):=#[zrV ha.run hb.run]
def zmp (hc:QT X c t)(ha:QE X a ta)(hb:QE X b tb):QE X (.IfExp c a b pos) (tIf t ta tb):=#[zma hc.run ha.run hb.run]
def yQ:QA X [] znv:=#[zrT]
def zR {ts:TA}(ha:QE X e te)(hr:QA X es ts)(hs:starEach (e::es) X.env=(false,eval e X.env)::starEach es X.env:=by rfl):QA X (e::es) (zeh te ts):=#[zoY ha.run hr.run hs]
def zpF:QP X pos [] [] []:=#[zpg]
def zd8 {k v:Expr}{ks:List (Option Expr)}{vs:AQ}{tk tv:TE}{trs:List (TE×TE)}(hk:QE X k tk)(hv:QE X v tv)(hr:QP X pos ks vs trs):QP X pos (some k::ks) (v::vs) ((tk,tv)::trs):=#[zmh hk.run hv.run hr.run]
def zpu {keys:List (Option Expr)}{values:AQ}{trs:List (TE×TE)}(h:QP X pos keys values trs)(hall:keys.all (·.isSome)=true)(hl:keys.length=values.length)(h0:keys≠[])(h15:keys.length<=15):QE X (.Dict keys values pos) (zsZ trs):=#[zo4 h.run hall hl h0 h15]
def zkn:QO X none zkQ:=#[zpe]
def zko (h:QE X e te):QO X (some e) (zs3 te):=#[zpf h.run]
def zp0:SlQ X rSlA:=#[zpY]
def zkO:SlQ X (rSlL X.K):=#[zpX]
def zd7 {r:V->AR->AR->Hp->VK->Prop}{lo hi:Option Expr}{tl th:TO}{p2:Pos}(hr:SlQ X r)(he:QE X e te)(hl:QO X lo tl)(hu:QO X hi th):QE X (.Subscript e (.Slice lo hi none p2) pos) (tSl r te tl th):=#[zmb hr.run he.run hl.run hu.run]
def ur:IxQ X (ztH X.K):=#[zof]
def xt:IxQ X (ztI X.K):=#[zq9]
def zsl {r:R2}(hr:IxQ X r)(ha:QE X a ta)(hb:QE X b tb)(hs:zfC b):QE X (.Subscript a b pos) (tOp r ta tb):=#[zvj hr.run ha.run hb.run hs]
def xT (hu:X.A.units+1<cLine)(ha:QE X a ta)(hb:QE X b tb)(hs:zqw b):QE X (.Subscript a b pos) (zsY ta tb):=#[zo3 hu ha.run hb.run hs]
def yU:CallQ X (.builtin "len") (λxs H Q=>∃x n,xs=[x]/\zqv X.K x H n/\Q (.int n) H):=#[zlc]
def zix:CallQ X (.builtin "abs") (λxs H Q=>∃i,xs=[.int i]/\Q (.int (if i<0 then -i else i)) H):=#[zla]
def ziz:CallQ X (.builtin "isinstance") (λxs H Q=>∃x T t b,xs=[x,.ty T]/\TyOf X.K H x t/\PySem.W.kitOne X.K t (.type T)=some b/\Q (.bl b) H):=#[zfF]
def ziy (hc:X.calm=true):CallQ X (.builtin "all") (λxs H Q=>∃ (p:Addr) (bs:List Bool),xs=[.ref p]/\Rd H p (.lst (bs.map V.bl))/\Q (.bl (bs.all id)) H):=#[zlb hc]
def zhz:CallQ X (.type "list") (λxs H Q=>∃p ys,xs=[.ref p]/\(SqL X.K H p ys\/SqT X.K H p ys)/\∀l,H l=none->Q (.ref l) (upd H l (.lst ys))):=#[zev]
def zfK:CallQ X (.type "tuple") (λxs H Q=>∃p ys,xs=[.ref p]/\((SqL X.K H p ys/\∀l,H l=none->Q (.ref l) (upd H l (.tup ys)))\/(SqT X.K H p ys/\Q (.ref p) H))):=#[zdx]
def yY {id:String}{r:AU->Hp->VK->Prop}{x:Str}{ts:TA}(hc:CallQ X (.builtin id) r)(hg:Gl X x)(hm:X.mg x=none)(hv:bootBuiltins x=some (.builtin id))(ha:QA X (e::es) ts)(hn:x ≠ "__name__" := by ext)(hdb:Ai x:=by ext)
  (he:starEach (e::es) X.env=(false,eval e X.env)::starEach es X.env:=by rfl) (hpl:(backTo pos (starEach es X.env)).any (·.1)=false:=by rfl):QE X (.Call (.Name x p) (e::es) [] pos) (tCB r ts):=#[zl9 hc.run hg hm hv ha.run hn hdb he hpl]
def zaY {T:String}{r:AU->Hp->VK->Prop}{x:Str}{ts:TA}(hc:CallQ X (.type T) r)(hg:Gl X x)(hm:X.mg x=none)(hv:bootBuiltins x=some (.type T))(ha:QA X (e::es) ts)(hn:x ≠ "__name__" := by ext)(hdb:Ai x:=by ext)
  (he:starEach (e::es) X.env=(false,eval e X.env)::starEach es X.env:=by rfl) (hpl:(backTo pos (starEach es X.env)).any (·.1)=false:=by rfl):QE X (.Call (.Name x p) (e::es) [] pos) (tCB r ts):=#[zj8 hc.run hg hm hv ha.run hn hdb he hpl]
def zpv {x:Str}{st:Stmt}{ps:AN}{f:Addr}{fd:Ae}{sp:Sp}{j k:Nat}{ts:TA}(BI:Dfn X.K X.mg x st ps f fd)(BH:FnOk X.prog X.w X.K X.mg X.base CX0 j f fd ps sp)(hr:Room k X.A)
  (ha:QA X (e::es) ts) (hjk:j<=k:=by ext) (hg:Gl X x:=by rfl) (hdb:Ai x:=by ext) (he:starEach (e::es) X.env=(false,eval e X.env)::starEach es X.env:=by rfl) (hpl:(backTo pos (starEach es X.env)).any (·.1)=false:=by rfl) :
  QE X (.Call (.Name x p) (e::es) [] pos) (zh2 sp [] E0 ts):=#[zvi BI BH hr ha.run hjk hg hdb he hpl]
def zkk {i:Nat}{x:Str}(hN:X.N.Nodup)(hi:X.N[i]?=some x)(hx:Loc X.env.scope x)(hf:X.fn x=true\/X.env.scope.names.lookup x=some .local:=by fail"l"):QG X (.Name x pos) (zaL i):=#[zo9 hN hi hx hf]
def zpB:QGs X [] gNil:=#[zpa]
def zmq {g:TG}{gs:TGs}(h1:QG X e g)(h2:QGs X es gs)(hs:(assignEach (e::es) X.env).map (·.2)=assign e X.env::(assignEach es X.env).map (·.2):=by rfl):QGs X (e::es) (zq1 g gs):=#[zme h1.run h2.run hs]
def zso {k:Nat}{gs:TGs}{n:Nat}(hc:X.calm=true)(h:QGs X es gs)(hn:(assignEach es X.env).length=n:=by rfl)(hst:(assignEach es X.env).findIdx? (·.1)=none:=by rfl):QG X (.Tuple es k pos) (zuy X.K n gs):=#[zr7 hc h.run hn hst]
def zkl {tg:Expr}(hl:QE X e te):QI X tg e (zn9 X.K te):=#[zpc hl.run]
def zsp {tg:Expr}(hl:QE X e te):QI X tg e (zuA X.K te):=#[zr8 hl.run]
def zkm {tg:Expr}{ts:TA}(hg:Gl X "range")(hm:X.mg "range" = none)(ha:QA X [a] ts)(hs:starEach [a] X.env=[(false,eval a X.env)]:=by rfl):QI X tg (.Call (.Name "range" p) [a] [] pos) (zq5 ts):=#[zkb hg hm ha.run hs]
def zkp:QTs X [] zcJ:=#[zpm]
def zpH (h:QT X c t):QTs X [c] t:=#[zpn h.run]
def zpt {elt tg iter:Expr}{ifs:AQ}{scope:Scope}{wi:TI}{g:TG}{ti:TT}{N:AN}{BF:List (Option Nat)}(hc:X.calm=true)(c:CompOk X scope N BF)
  (hi:QI X tg iter wi) (hg:∀C s H ex,QG (zm X scope N C s H ex) tg g) (ht:∀C s H ex,QTs (zm X scope N C s H ex) ifs ti) (he:∀C s H ex,QE (zm X scope N C s H ex) elt te)
  (hs:∀x,foldedSetIterable iter X.env x=pure x:=by intro _;rfl):QE X (.ListComp elt [#[tg,iter,ifs,0]] scope pos) (zvA wi g ti te BF):=#[λBD s G H Q I h=>by
 rw[eval_ListComp];show zcj (Fin:=λacc H=>Q (.ref acc) H) (x8 c) hc hi.run (zba λC s H ex=>(hg C s H ex).run) (zba λC s H ex=>(ht C s H ex).run) (zba λC s H ex=>(he C s H ex).run) hs I h λ_ _ _ _ _ hm hb q=>u9 hm hb q]
variable {st:Stmt}{BG body a b:List Stmt}{t u:TS}{o i:Expr}{td ty tv:TE}
def zd9:QSs X [] zs2:=#[zpj]
def ya (h1:QS X st t)(h2:QSs X BG u):QSs X (st::BG) (zvF t u):=#[zml h1.run h2.run]
def uV (h1:QS X st t):QSs X [st] t:=#[zpk h1.run]
def zgg (he:QE X e te)(hs:swapsWith e none pos.line X.env=pure false:=by rfl):QS X (.Expr e pos) (zp2 te):=#[zpi he.run hs]
def zbt (he:QE X e te):QS X (.Return (some e) pos) (ztK te):=#[zsb he.run]
def zmt {c:Expr}{tc:TT}(hc:QT X c tc)(ha:QSs X a t)(hb:QSs X b u):QS X (.If c a b pos) (tIfS tc t u):=#[zvn hc.run ha.run hb.run]
def ux {i:Nat}{x:Str}{pos':Pos}(hN:X.N.Nodup)(hi:X.N[i]?=some x)(hx:Loc X.env.scope x)(he:QE X e te)(hs:swapsWith e (some (.Name x pos')) pos.line X.env=pure false:=by rfl)(hf:X.fn x=true\/X.env.scope.names.lookup x=some .local:=by fail"l") :
  QS X (.Assign [.Name x pos'] e pos) (zhm te (zaL i)):=#[zsc hN hi hx he.run hs hf]
def zsq {tg:Expr}{g:TG}(he:QE X e te)(hg:QG X tg g)(hs:swapsWithSole [tg] e pos.line X.env=pure false:=by rfl)(hw:swappedStores [tg] e X.env=pure none:=by rfl)
  (h1:(assignEach [tg] X.env).map (·.2)=[assign tg X.env]:=by rfl):QS X (.Assign [tg] e pos) (zhm te g):=#[zr9 he.run hg.run hs hw h1]
def zgf {pos':Pos}(hu:X.A.units+1<cLine)(ho:QE X o td)(hi:QE X i ty)(hv:QE X e tv)(hs:swapsWith e (some (.Subscript o i pos')) pos.line X.env=pure false):QS X (.Assign [.Subscript o i pos'] e pos) (zsR td ty tv):=#[zph hu ho.run hi.run hv.run hs]
def zsr {tg iter:Expr}{wi:TI}{g:TG}(hp:PassesOwn (model X.prog X.w) X.A X.env X.xe)(hc:X.calm=true)(hi:QI X tg iter wi)(hg:QG X tg g)(hb:QSs X body t)(hs:∀x,foldedSetIterable iter X.env x=pure x:=by intro _;rfl):QS X (.For tg iter body [] pos) (zvC wi g t):=#[zsa hp hc hi.run hg.run hb.run hs]
end
def Fun.okQ {P:Ab}{w:Ac}{K:AI}{mg:AJ}{base:Heap}{x qual:Str}{st:Stmt}{f:Addr}{fd:Ae}{N ps:AN}{k:Nat}{sp:Sp}(F:Fun K x qual st f fd)(S:FnScope N ps (zf st))(len:∀vs H Q E,sp vs H Q E->vs.length=ps.length)
  (hbody:∀ (cdv:Value) (A:Af) (outer:List Env) (s:Aa) (H:Hp) (vs:AU) (Q:VK) (E:XK),Room k (A.deeper (envOfC qual (zf st) s.heap.objs.size f cdv))->sp vs H Q E->
   ∃t,QSs (zfA CX0 P w K mg base N qual (zf st) f cdv A outer s H E).nox (yC st) t/\t { nx:=λ_ H'=>Q .non H',rt:=Q } (ul N vs) H):FnOk P w K mg base CX0 (k+1) f fd ps sp:=
 F.ok S len λcdv A outer s H vs Q E hr h=>by obtain⟨t,h1,h2⟩:=hbody cdv A outer s H vs Q E hr h;show#[t,h1.run,h2]
def s_ca:¬ (("cells" : Str) = "at"):=by decide +kernel
def s_cl:¬ (("cells" : Str) = "left"):=by decide +kernel
def s_al:¬ (("at" : Str) = "left"):=by decide +kernel
def zuI:¬ (Sum.inr "cells" : Key)=(Sum.inr "at" : Key):=λz=>s_ca (Sum.inr.inj z)
def zuJ:¬ (Sum.inr "cells" : Key)=(Sum.inr "left" : Key):=λz=>s_cl (Sum.inr.inj z)
def ztz:¬ (Sum.inr "at" : Key)=(Sum.inr "left" : Key):=λz=>s_al (Sum.inr.inj z)
def zaE (c:Addr)(a l:Int):List (Key×V):=[(Sum.inr "cells",.ref c),(Sum.inr "at",.int a),(Sum.inr "left",.int l)]
def zvl (c:Addr)(a l:Int):zaF (zaE c a l) (Sum.inr "cells" : Key)=some (.ref c):=um BC
def zmc (c:Addr)(a l:Int):zaF (zaE c a l) (Sum.inr "at" : Key)=some (.int a):=by unfold zaE;rw[xO zuI,um rfl]
def zvm (c:Addr)(a l:Int):zaF (zaE c a l) (Sum.inr "left" : Key)=some (.int l):=by unfold zaE;rw[xO zuJ,xO ztz,um rfl]
def zr4 (c:Addr)(a l b:Int):za6 (zaE c a l) (Sum.inr "at" : Key) (.int b)=zaE c b l:=by unfold za6 zaE;have e1:=zuI;have e2:¬ (Sum.inr "left" : Key)=(Sum.inr "at" : Key):=λz=>ztz z.symm;simp[e1,e2]
def zr5 (c:Addr)(a l b:Int):za6 (zaE c a l) (Sum.inr "left" : Key) (.int b)=zaE c a b:=by unfold za6 zaE;have e1:=zuJ;have e2:=ztz;simp[e1,e2]
def zr3 (c:Addr)(a l:Int):zcn [] (zaE c a l)=zaE c a l:=by unfold zcn zaE;have e1:=zuI;have e2:=zuJ;have e3:=ztz;simp[za6,e1,e2,e3]
structure Pen (H:Hp)(p c:Addr)(ns:AH)(n:Nat):Prop where
 ob:∃a l:Int,H p=some (.dK (zaE c a l))/\0<=a/\a<=n/\0<=l
 ls:∃ob,H c=some (.frz ob (.lst (ns.map V.int)))
 len:ns.length<=63
def Pen.same {H H':Hp}{p c:Addr}{ns:AH}{n:Nat}(P:Pen H p c ns n)(h:xq H H'):Pen H' p c ns n:=by obtain⟨⟨a,l,h1,h2,h3,h4⟩,h5,h6⟩:=P;show#[#[a,l,h _ _ h1,h2,h3,h4],let ⟨ob,e⟩:=h5;#[ob,h _ _ e],h6]
def zef {H:Hp}{p c:Addr}{a l:Int}{o:HO}(h:H p=some (.dK (zaE c a l))):zo H (upd H p o):=λb u e n=>by
 by_cases hb:b=p;subst hb;rw[h] at e;cases e;have:=n _ BC;rw[zmc] at this;cases this;rw[ze hb];show e
section
variable {H:Hp}{p c:Addr}{a l:Int}
def zg5 (h:H p=some (.dK (zaE c a l))):zfB H p (.str "cells") (some (.ref c)):=by have:=zfB.k (k:=(Sum.inr "cells" : Key)) h;rw[zvl] at this;show this
def zr2 (h:H p=some (.dK (zaE c a l))):zfB H p (.str "at") (some (.int a)):=by have:=zfB.k (k:=(Sum.inr "at" : Key)) h;rw[zmc] at this;show this
def zj9 (h:H p=some (.dK (zaE c a l))):zfB H p (.str "left") (some (.int l)):=by have:=zfB.k (k:=(Sum.inr "left" : Key)) h;rw[zvm] at this;show this
def zr6 (h:H p=some (.dK (zaE c a l)))(b:Int):zh9 H p (.str "at") (.int b) (upd H p (.dK (zaE c b l))):=by have:=zh9.k (k:=(Sum.inr "at" : Key)) (v:=.int b) h (by change 3<sizeLine;decide);rw[zr4] at this;show this
def znj (h:H p=some (.dK (zaE c a l)))(b:Int):zh9 H p (.str "left") (.int b) (upd H p (.dK (zaE c a b))):=by have:=zh9.k (k:=(Sum.inr "left" : Key)) (v:=.int b) h (by change 3<sizeLine;decide);rw[zr5] at this;show this
end
def zqB (ns:AH)(a:Int)(h:0<((ns.map V.int).length:Int)):∃z,atI (ns.map V.int) (a % ((ns.map V.int).length:Int))=some (.int z):=by
 have h0:=dg a (show ((ns.map V.int).length:Int)≠0 by lia);have h1:=cB a h;generalize hm:a % ((ns.map V.int).length:Int)=m at h0 h1;obtain⟨j,rfl⟩:∃j:Nat,m=j:=#[m.toNat,by lia];have hj:j<ns.length:=by rw[ab] at h1;lia
 show#[ns[j],znD (by simp[hj])]
def zmL {a:Int}{n:Nat}(h0:0<=a)(h1:a<=n)(h2:n<=1000000):0<=60013 * a * a/\60013 * a * a<=60013000000000000:=by have e:60013 * a * a=60013 * (a * a):=Int.mul_assoc _ _ _;have m0:0<=a * a:=fE h0 h0;have m1:a * a<=1000000 * 1000000:=Int.mul_le_mul (by lia) (by lia) h0 (by lia);rw[e];lia
def meet {α:Type}{BH:Prop}(P:α->Prop)(h:(∀a,P a)->BH)(r:∀a,P a):BH:=h r
def zu3 {BH:Prop}(P:Prop)(h:P->BH)(r:P):BH:=h r
def zkM:Sp:=λvs H Q _=>∃ (p c:Addr) (ns:AH) (n:Nat) (zu:Int),vs=[.ref p,.int zu]/\Pen H p c ns n/\n<=1000000/\1<=zu/\zu<1073741824/\
 ∀ (r:Int) (H':Hp),0<=r->r<zu->Pen H' p c ns (n+1)->zo H H'->Q (.int r) H'
def zmK (K:AI):Sp:=λvs H Q _=>∃ (a:Addr) (ns:AH),vs=[.ref a]/\SqL K H a (ns.map V.int)/\ns.length<=63/\∀ (p c:Addr) (H':Hp),Pen H' p c ns 0->xq H H'->Q (.ref p) H'
def zbm (ns:AH):Int:=ns.foldl (· * ·) 1
def zhU (ns:AH)(n:Int):zbm (ns++[n])=zbm ns * n:=by unfold zbm;rw[eh];rfl
def zi {α:Type}{l:List α}{i:Nat}{x:α}(h:l[i]?=some x):l.take (i+1)=l.take i++[x]:=by rw[List.take_succ,h];rfl
def zkN (K:AI):Sp:=λvs H Q _=>∃ (a:Addr) (ns:AH),vs=[.ref a]/\SqL K H a (ns.map V.int)/\ns.length<=63/\∀H',Q (.bl true) H'
def zrA {g:TG}{x:V}{G:St}{H:Hp}{A B:St->Hp->Prop}(h:g x G H A):g x G H λσ3 H3=>zcJ σ3 H3 λok H4=>if ok=true then A σ3 H4 else B σ3 H4:=by
 have e:(λσ3 H3=>zcJ σ3 H3 λok H4=>if ok=true then A σ3 H4 else B σ3 H4)=A:=by funext σ3 H3;change (if true=true then A σ3 H3 else B σ3 H3)=A σ3 H3;rw[if_pos rfl]
 rw[e];show h
section
variable {prog:Ab}{w:Ac}{A:Af}{E:AA}{s:Aa}
def y9 {it t:Addr}{i:Nat}{items}{x:Value}{Q:AA}(hit:s.heap.IsTupleIter it t i)(ht:s.heap.IsTuple t items)(hx:items[i]?=some x)
  (hQ:∀h',h'.IsTupleIter it t (i+1)->Heap.SameBut it s.heap h'->Q x { s with heap:=h' }):Ah prog w A (Builtin.SmallTypes.nextOf (.ref it)) Q E s:=by
 obtain⟨o,ho,hc,hd⟩:=id hit;obtain⟨ol,hol,_,nl,hdl⟩:=ht;unfold Builtin.SmallTypes.nextOf
 show aa (wpAny_callSpecial?_slot (name:=Str.ofString "__next__") hit.typeIs cq
  (a6 cq hit.typeIs eU ?_ (eJ _)))
 change wpAny _ _ (field (.ref it) 0 >>= _) _ _ s;show aa (bE ho hd (x:=.ref t) BC ?_);change wpAny _ _ (if (Value.ref t==Value.none)=true then _ else _) _ _ s;rw[if_neg (by grind)];change wpAny _ _ (field (.ref it) 1 >>= _) _ _ s;show aa (bE ho hd (x:=.int i 0) BC ?_);change wpAny _ _ (seqItems? (.ref t) >>= _) _ _ s;show aa (ce hol hdl ?_);simp only[aP,hx];show aa (bB ho hd (by simp) (ai #[x,BC,ai (hQ _ ?_ (bh ..))]))
 show#[_,br _ ho (dh (bS hd _)),(ei ..).trans hc,by
  rw[bS hd];simp[rawInt]]
def xn {it t:Addr}{i:Nat}{items}{Q:AA}(hh:A.handled=none)(hit:s.heap.IsTupleIter it t i)(ht:s.heap.IsTuple t items)(hx:items[i]?=none)
  (hE:∀h' e,Heap.ExtBut it s.heap h'->(∃o,h'.get? e=some o/\o.cls = .type "StopIteration")->E (.ref e) { s with heap:=h' }):Ah prog w A (Builtin.SmallTypes.nextOf (.ref it)) Q E s:=by
 obtain⟨o,ho,hc,hd⟩:=id hit;obtain⟨ol,hol,_,nl,hdl⟩:=ht;unfold Builtin.SmallTypes.nextOf
 show aa (wpAny_callSpecial?_slot (name:=Str.ofString "__next__") hit.typeIs cq
  (a6 cq hit.typeIs eU ?_ (eJ _)))
 change wpAny _ _ (field (.ref it) 0 >>= _) _ _ s;show aa (bE ho hd (x:=.ref t) BC ?_);change wpAny _ _ (if (Value.ref t==Value.none)=true then _ else _) _ _ s;rw[if_neg (by grind)];change wpAny _ _ (field (.ref it) 1 >>= _) _ _ s;show aa (bE ho hd (x:=.int i 0) BC ?_);change wpAny _ _ (seqItems? (.ref t) >>= _) _ _ s;show aa (ce hol hdl ?_);simp only[aP,hx];show aa (eM (aa (bB ho hd (by simp) ?_)));change wpAny _ _ (newExc (.type "StopIteration") [] >>= _) _ _ _;show aa ?_;simp only[newExc,newTuple];show aa (bg ?_ (by size_fits));show aa (m:=firstArgMember _ _) (wpAny_of_eq (a:=Value.none) (by first | rfl | (simp only[firstArgMember];rfl)) ?_);show bg ?_ (by size_fits);simp only[raiseNew];show aa (fQ ?_)
 first | rw[show A.in1.handled=none from hh] | rw[hh]
 show aa (ai (wpAny_throw ?_));show hE _ _ (((bh ..).extBut.push _).push _) #[_,aw _ BC,BC]
def zfO (hh:A.handled=none)(it l:Addr)(hne:l≠it)(items:AL) :
  Draws prog w A it [it,l] items.size (λi v=>items[i]?=some v) (λi h=>h.IsTupleIter it l i/\h.IsTuple l items) where
 live:=λ_ _ st=>let ⟨o,ho,_⟩:=st.1;#[o,ho]
 frame:=λ_ _ _ st hk=>#[let ⟨o,ho,r⟩:=st.1;#[o,hk it (by simp) o ho,r],let ⟨o,ho,r⟩:=st.2;#[o,hk l (by simp) o ho,r]]
 item:=λi s Q E hi st hQ=>by show y9 st.1 st.2 (x:=items[i]) (by simp[hi]) λh' hit' hs'=>?_;show hQ _ h' s.toks (by simp[hi]) #[hit',st.2.extBut hs'.extBut hne] hs'
 done:=λs Q E st hE=>xn hh st.1 st.2 (by simp) hE
def zaf (l:Addr)(items:AL)(n:Nat)(dct:Option Addr)(sl:Array AK) :
  Meets (Builtin.«enumerate.__new__» #[[.type "enumerate",.ref l],[]]) (λ_ R s=>s.heap.get? l=some { cls:=.type "tuple",dict:=dct,data:=.seq items n,slots:=sl }/\
   R (.ok (.ret (.ref (s.heap.push { cls:=.type "tuple_iterator",data:=.fields #v[.ref l,.int 0 0] }).objs.size)))
    { s with heap:=(s.heap.push { cls:=.type "tuple_iterator",data:=.fields #v[.ref l,.int 0 0] }).push { cls:=.type "enumerate",data:=.fields #v[.none,.bool false,.ref s.heap.objs.size,rawInt 0,.none,.none] } }):=
 .of_wp λprog w A R s h=>by
  obtain⟨hp,g,d,tk,os⟩:=s;obtain⟨hl,h⟩:=h;have hsub:=sub_enumerate;have hL:Heap.IsTuple (Shared.heap #[hp,g,d,tk,os]) l items:=#[_,hl,BC,n,BC]
  wp_walk using bP hl
  show wpAny_stack_any λst=>ai ?_;split
  ·rename_i c _ _ _ _ _;cases (c==Value.type "enumerate")
   wp_walk using bP hl,b8 hL
   show#[_,BC,h]
   wp_walk using bP hl,b8 hL
   show#[_,BC,h]
  wp_walk using bP hl,b8 hL
  show#[_,BC,h]
def zae {l:Addr}{items:AL}{Q:AA}(hL:s.heap.IsTuple l items)
  (h:∀h',IsEnum h' (s.heap.objs.size+1) s.heap.objs.size 0 .none->h'.IsTupleIter s.heap.objs.size l 0->h'.objs.size=s.heap.objs.size+2->
   (∀b o,s.heap.get? b=some o->h'.get? b=some o)->Q (.ref (s.heap.objs.size+1)) { s with heap:=h' }) :
  Ah prog w A (call (.type "enumerate") [.ref l]) Q E s:=by
 obtain⟨⟨c,dct,dt,sl⟩,hl,hc,n,hd⟩:=hL
 replace hc:c = .type "tuple" := hc
 replace hd:dt = .seq items n:=hd
 subst hc hd
 show callType_new F.called_enumerate (by ext) (F.typeCall_enumerate_1 _) (F.newCall_enumerate_1 _) (λobj=>F.args_object_init_2 obj _) F.entry_enumerate_new
  (zaf l items n dct sl) #[hl,?_]
 have hz:(s.heap.push { cls:=.type "tuple_iterator",data:=.fields #v[.ref l,.int 0 0] }).objs.size=s.heap.objs.size+1:=cg ..;change _/\_;rw[hz]
 have he:IsEnum ((s.heap.push { cls:=.type "tuple_iterator",data:=.fields #v[.ref l,.int 0 0] }).push
   { cls:=.type "enumerate",data:=.fields #v[.none,.bool false,.ref s.heap.objs.size,rawInt 0,.none,.none] }) (s.heap.objs.size+1) s.heap.objs.size 0 .none:=by
  have:=aw (s.heap.push { cls:=.type "tuple_iterator",data:=.fields #v[.ref l,.int 0 0] })
   (o:={ cls:=.type "enumerate",data:=.fields #v[.none,.bool false,.ref s.heap.objs.size,rawInt 0,.none,.none] }) BC
  rw[hz] at this;show this
 show#[#[_,he,BC],h _ he #[_,af _ (aw _ BC),BC,BC] (by simp) λb o x=>af _ (af _ x)]
end
def Ite (K:AI)(a:Addr):It:=
 #[λi H=>∃xs x,SqT K H a xs/\xs[i]?=some x,λi H v H'=>∃T x,v = .ref T/\H T=none/\H'=upd H T (.tup [.int i,x])/\∀xs,SqT K H a xs->xs[i]?=some x,λi H=>∃xs,SqT K H a xs/\xs.length<=i]
def zkU {P:Ab}{w:Ac}{K:AI}{elts:AQ}{x1}{tpos:Pos}(a it e:Addr)(hei:e≠it) :
  Turn P w K (.Tuple elts x1 tpos) (Ite K a) [e,it] e (λi h=>(∃old,IsEnum h e it i old)/\h.IsTupleIter it a i) where
 mem:=by simp
 obj:=λi h st b hb=>by
  rcases aG.mp hb with rfl | hb;grind;rw[au.mp hb];obtain⟨_,o,e,c,d⟩:=st;right
 keep:=λi h h' st k=>by obtain⟨⟨old,he⟩,o,ho,r⟩:=st;show#[#[old,k e (by simp) _ he],o,k it (by simp) _ ho,r]
 item:=by
  intro X hP hw hK hc i BD s G H E I hf st hg;subst hP hw hK;obtain⟨xs,x,hq,hx⟩:=hg;obtain⟨its,rv,p,hz⟩:=I.tuple hq;obtain⟨u,hu,ru⟩:=rv.get hx;obtain⟨f0,f1,f2,f3,f4,f5⟩:=hf e (by simp);obtain⟨g0,g1,g2,g3,g4,g5⟩:=hf it (by simp);obtain⟨⟨old,he⟩,hit⟩:=st;have hsz:i<its.toArray.size:=by have:=(ae.mp hu).1;simpa using this
  have hai:a≠it:=by
   intro z;obtain⟨o,ho,hcl,_⟩:=p;obtain⟨o',ho',hcl',_⟩:=hit;grind
  have hea:e≠a:=by
   intro z;obtain⟨o,ho,hcl,_⟩:=p;grind
  show wpAny_pyNext_enum_itemD (zfO (A:=X.A.in1) (I.ok.hd hc) it a hai its.toArray) he #[hit,p] hsz hei (by simp[hei,hea]) λy h' tk hy ho hst hT hsz' hk=>?_;have hy':y=u:=by right
  subst hy';show#[_,BC,?_];show wpAny_letOwnedTupleGo_enum ho λh'' he'' hs''=>?_;have hTe:s.heap.objs.size≠e:=cA (ax he);have hTi:s.heap.objs.size≠it:=by obtain⟨o,hoi,_⟩:=hit;show cA (ax hoi)
  have hnone:=I.hok.fresh (ak s.heap.objs.size);have kp:∀b o,b≠e->b≠it->s.heap.get? b=some o->h''.get? b=some o:=λb o h1 h2 hb=>(hs''.2 b h1).trans (hk b o h1 h2 hb);have hT'':h''.get? s.heap.objs.size=some { cls:=.type "tuple",data:=.seq #v[.int i tk,y] }:=(hs''.2 _ hTe).trans hT;obtain⟨oe,hoe⟩:∃o,h''.get? e=some o:=#[_,he''];obtain⟨oi,hoi⟩:∃o,h''.get? it=some o:=by obtain⟨⟨o,ho2,_⟩,_⟩:=hst;show#[o,(hs''.2 it (Ne.symm hei)).trans ho2]
  have objK:∀b u',H b=some u'->b≠e/\b≠it:=λb u' hb=>#[zb hb f0,zb hb g0]
  have hok':HOk X.prog X.w (upd H s.heap.objs.size (.tup [.int i,x])) h'':=by
   intro b u' hb;by_cases hbT:b=s.heap.objs.size;subst hbT;rw[zj] at hb;cases hb;show#[by change 2<=sizeLine;decide,[.int i tk,y],.cons #[tk,BC] (.cons ru .nil),_,hT'',BC,#[0,BC],BC]
   ·rw[ze hbT] at hb;show (I.hok b u' hb).stay (λc v hcv q=>?_) (λc q=>?_) (λc ys q=>?_)
    ·show kp c v ?_ ?_ q
     all_goals grind
    rw[ze (zb q hnone)];show q;rw[ze (zb q hnone)];show q
  have I1:Inv X BD G (upd H s.heap.objs.size (.tup [.int i,x])) { s with heap:=h'',toks:=tk+1 }:=by
   show Inv.step (ch:=[e,it]) (g':=s.gens) (d':=s.drawn) (t':=tk+1) I (λb hb=>?_) (λb o h1 h2 h3 h4 h5=>?_) (λb o h1 h2 h3 h4 h5=>?_) (λb o h3 h4 h5=>?_) (λb o h3 h4=>?_) (λb ys q=>?_) (λb o u' q=>?_) (λb ps q=>?_) (λm hm=>?_) hok' I.bare;rcases aG.mp hb with rfl | hb;show#[f3,f1,f4,f5];rw[au.mp hb];show#[g3,g1,g4,g5];right;show#[o.slots,kp b o (λz=>h3 (by simp[z])) (λz=>h3 (by simp[z])) h4];rw[ze (aJ (ax h4))];show h5;right;rw[ze (zb q hnone)];show q;rw[ze (zb q hnone)];show q;show#[#v[],by rw[ze (zb q hnone),dQ];show q];obtain⟨o,es,ep,ho1,r1⟩:=hm;show#[o,es,ep,kp _ o (Ne.symm f1) (Ne.symm g1) ho1,r1]
  show#[.ref s.heap.objs.size,_,I1,BC,#[s.heap.objs.size,x,BC,hnone,BC,λys hy2=>by rw[I.tuple_inj hy2 hq];show hx],#[#[y,by have:=he'';push_cast;show this],?_],λb hb=>?_];obtain⟨⟨o,ho2,r2⟩,_⟩:=hst;show#[o,(hs''.2 it (Ne.symm hei)).trans ho2,r2];rcases aG.mp hb with rfl | hb;rw[ze (Ne.symm hTe)];show f0;rw[au.mp hb,ze (Ne.symm hTi)];show g0
 done:=by
  intro X hP hw hK hc i BD s G H E I hf st hg;subst hP hw hK;obtain⟨xs,hq,hx⟩:=hg;obtain⟨its,rv,p,hz⟩:=I.tuple hq;obtain⟨f0,f1,f2,f3,f4,f5⟩:=hf it (by simp);obtain⟨⟨old,he⟩,hit⟩:=st;have hl:=rv.length;have hT:s.TypeIs (.ref e) "enumerate" := #[_,he,BC];unfold pyNext
  show aa (cR (wpAny_callSpecial?_slot (name:=Str.ofString "__next__") hT di
   (a6 di hT F.entry_enumerate_next ?_ (F.args_enumerate_next_1 _))))
  change wpAny _ _ (field (.ref e) 2 >>= _) _ _ _;show aa (bE he BC (x:=.ref it) BC ?_);show aa (xn (A:=X.A.in1) (I.ok.hd hc) hit p (by simp;lia) λh' x he' hx'=>?_);obtain⟨o,ho,hc'⟩:=hx';show aa (cw (T := "StopIteration") (b:=true) #[o,ho,hc'] dw ?_);show ai #[BC,I.turned (t':=s.toks) (λb o hb e=>he' b o hb e) f0 f1 f3 f4 f5]
 self:=λA i s Q E st h=>by obtain⟨⟨old,he⟩,hit⟩:=st;show ek he h
def zq4 (K:AI)(ta:TA):TI:=λG H R=>ta G H λvs H1=>∃a,vs=[.ref a]/\(∃xs,SqT K H1 a xs)/\R (Ite K a) H1
def zpb {X:Cx}{elts:AQ}{x1}{tpos:Pos}{a:Expr}{ta:TA}{p pos:Pos}(hg:Gl X "enumerate")(hm:X.mg "enumerate" = none)(ha:PA X [a] ta)(hs:starEach [a] X.env=[(false,eval a X.env)]:=by rfl) :
  PI X (.Tuple elts x1 tpos) (.Call (.Name "enumerate" p) [a] [] pos) (zq4 X.K ta):=by
 intro BD s G H R I h;show Call_ (zcg I hg hm boot_enumerate (bR (thn (ha pos BD s G H _ I h) λus s1 ⟨vs,H1,I1,r1,q1⟩=>?_) hs BC));obtain⟨b,rfl,⟨xs,hq⟩,q⟩:=q1;obtain⟨u,rfl,ru⟩:=zak r1;cases ru;obtain⟨its,rv,pt,hz⟩:=I1.tuple hq;show zae (show s1.heap.IsTuple b its.toArray from pt) λh' he hit hsz hk=>?_;have I2:Inv X BD G H1 { s1 with heap:=h',toks:=s1.toks }:=I1.kept (t':=s1.toks) hk;show ek he ?_;show#[s1.heap.objs.size+1,[s1.heap.objs.size+1,s1.heap.objs.size],_,_,H1,BC,I2,zkU b s1.heap.objs.size (s1.heap.objs.size+1) (Nat.succ_ne_self _),#[#[_,he],hit],λc hc=>?_,q];rcases aG.mp hc with rfl | hc;show I1.fpOk (cQ _) (I1.hok.fresh (cQ _));rw[au.mp hc];show I1.fpOk (ak _) (I1.hok.fresh (ak _))
def zpC {X:Cx}{elts:AQ}{x1}{tpos:Pos}{a:Expr}{ta:TA}{p pos:Pos}(hg:Gl X "enumerate")(hm:X.mg "enumerate" = none)(ha:QA X [a] ta)(hs:starEach [a] X.env=[(false,eval a X.env)]:=by rfl) :
  QI X (.Tuple elts x1 tpos) (.Call (.Name "enumerate" p) [a] [] pos) (zq4 X.K ta):=#[zpb hg hm ha.run hs]
mutual
def Dt.toW:Dt->PySem.W.Dat
 | .non=>.none
 | .bl b=>.bool b
 | .int i=>.int i
 | .str x=>.str x
 | .tup l=>.tuple (Dt.toWs l)
 | .lst l=>.list (Dt.toWs l)
 | .dct=>.bytes #v[]
def Dt.toWs:AT->List PySem.W.Dat
 | []=>[]
 | d::ds=>d.toW::Dt.toWs ds
end
mutual
theorem zgu:∀ {d e:Dt},d.toW=e.toW->d=e
 | .non,e,h=>by cases e <;> simp[Dt.toW] at h ⊢
 | .bl b,e,h=>by cases e <;> simp[Dt.toW] at h ⊢;show h
 | .int b,e,h=>by cases e <;> simp[Dt.toW] at h ⊢;show h
 | .str b,e,h=>by cases e <;> simp[Dt.toW] at h ⊢;show h
 | .tup l,e,h=>by
  cases e with
  | tup m=>simp only[Dt.toW,PySem.W.Dat.tuple.injEq] at h;rw[zei h]
  | _=>simp[Dt.toW] at h
 | .lst l,e,h=>by
  cases e with
  | lst m=>simp only[Dt.toW,PySem.W.Dat.list.injEq] at h;rw[zei h]
  | _=>simp[Dt.toW] at h
 | .dct,e,h=>by cases e <;> simp[Dt.toW] at h ⊢
theorem zei:∀ {l m:AT},Dt.toWs l=Dt.toWs m->l=m
 | [],m,h=>by cases m <;> simp[Dt.toWs] at h ⊢
 | d::l,m,h=>by
  cases m with
  | nil=>simp[Dt.toWs] at h
  | cons e m=>
   simp only[Dt.toWs,List.cons.injEq] at h;rw[zgu h.1,zei h.2]
end
def Dt.eqOk (d:Dt):Prop:=PySem.W.kqdOk 8 d.toW=true
section
variable {P:Ab}{w:Ac}{H:Hp}{h:Heap}
mutual
theorem yV (ok:HOk P w H h):∀ (n:Nat) {d:Dt} {v:V} {u:Value},Is H d v->yv v u->PySem.W.kqdOk n d.toW=true->∃as,Reads h u (PySem.W.kqdP d.toW) as
 | _,.non,_,_,h1,r,_=>by cases h1;cases r;show#[_,Reads.none]
 | n,.bl b,_,_,_,_,k=>by cases n <;> simp[Dt.toW,PySem.W.kqdOk] at k
 | _,.int i,_,_,h1,r,_=>by cases h1;obtain⟨t,rfl⟩:=r;show#[_,Reads.int i t]
 | _,.str x,_,_,h1,r,_=>by cases h1;obtain⟨t,rfl⟩:=r;show#[_,Reads.str x t]
 | 0,.tup l,_,_,_,_,k=>by simp[Dt.toW,PySem.W.kqdOk] at k
 | n+1,.tup l,_,_,h1,r,k=>by obtain⟨a,xs,rfl,ha,hl⟩:=h1;cases r;obtain⟨_,its,rv,o,ho,hc,⟨m,hd⟩,_⟩:=ok a _ ha;obtain⟨as,q⟩:=zay ok n hl rv (by simpa [Dt.toW,PySem.W.kqdOk] using k);show#[as,reads_tuple_at ho hc hd (by simpa using q)]
 | 0,.lst l,_,_,_,_,k=>by simp[Dt.toW,PySem.W.kqdOk] at k
 | n+1,.lst l,_,_,h1,r,k=>by obtain⟨a,xs,rfl,ha,hl⟩:=h1;cases r;obtain⟨_,its,m,rv,e⟩:=(show z8 P w H h a (.lst xs) from zpM ok ha);obtain⟨as,q⟩:=zay ok n hl rv (by simpa [Dt.toW,PySem.W.kqdOk] using k);show#[_,reads_list_at e BC BC (by simpa using q)]
 | n,.dct,_,_,_,_,k=>by cases n <;> simp[Dt.toW,PySem.W.kqdOk] at k
theorem zay (ok:HOk P w H h):∀ (n:Nat) {ds:AT} {xs:AU} {us:AO},IsL H ds xs->z9 xs us->(∀d∈Dt.toWs ds,PySem.W.kqdOk n d=true)->∃as,ReadsAll h us (PySem.W.kqdPs (Dt.toWs ds)) as
 | _,[],_,_,h1,r,_=>by cases h1;cases r;show#[_,ReadsAll.nil]
 | n,d::ds,_,_,h1,r,k=>by
  obtain⟨x,xr,rfl,hd,hr⟩:=h1
  cases r with
  | cons rx rr=>
   obtain⟨as,q⟩:=yV ok n hd rx (k _ (by simp[Dt.toWs]));obtain⟨bs,q2⟩:=zay ok n hr rr λe he=>k e (by simp[Dt.toWs,he]);show#[_,ReadsAll.cons q q2]
end
end
def ue {d:Dt}(h:d.eqOk):SeqAt.shaped (PySem.W.kqdP d.toW)=true:=by
 have l:=PySem.W.kqd_lay 8 _ h;unfold SeqAt.shaped;grind
def ztF:R2:=λx y H Q=>∃d e,Is H d x/\Is H e y/\d.eqOk/\e.eqOk/\∀b:Bool,(b=true↔d=e)->Q (.bl b) H
def ztJ:R2:=λx y H Q=>∃d e,Is H d x/\Is H e y/\d.eqOk/\e.eqOk/\∀b:Bool,(b=true↔d=e)->Q (.bl (!b)) H
section
variable {X:Cx}
def ziX {d e:Dt}(h1:d.eqOk)(h2:e.eqOk):PyData.eqv (PySem.W.kqdP d.toW) (PySem.W.kqdP e.toW)=true↔d=e:=
 (PySem.W.kqd_eqv 8 d.toW e.toW 8 h1 h2).trans #[zgu,λz=>by rw[z]]
def zrJ (hu:X.A.units+64<cLine):OpR X (compareOp .Eq) ztF:=by intro BD s G H x y v u Q I rx ry h;obtain⟨d,e,hd,he,kd,ke,q⟩:=h;obtain⟨as,ra⟩:=yV I.hok 8 hd rx kd;obtain⟨bs,rb⟩:=yV I.hok 8 he ry ke;show eq_dataH ra rb (ue kd) (ue ke) hu #[.bl _,H,I,BC,q _ (ziX kd ke)]
def zrM (hu:X.A.units+64<cLine):OpR X (compareOp .NotEq) ztJ:=by intro BD s G H x y v u Q I rx ry h;obtain⟨d,e,hd,he,kd,ke,q⟩:=h;obtain⟨as,ra⟩:=yV I.hok 8 hd rx kd;obtain⟨bs,rb⟩:=yV I.hok 8 he ry ke;show ne_dataH ra rb (ue kd) (ue ke) hu #[.bl _,H,I,BC,q _ (ziX kd ke)]
def znh (hu:X.A.units+64<cLine):OpQ X (compareOp .Eq) ztF:=#[zrJ hu]
def zj2 (hu:X.A.units+64<cLine):OpQ X (compareOp .NotEq) ztJ:=#[zrM hu]
def zsk {o e:Expr}{to:TE}{t:TA}{apos cpos:Pos}(ho:QE X o to)(ha:QA X [e] t)(hbase:attributeBase o "append" X.env (eval o X.env)=eval o X.env:=by rfl)
  (hfew:((backTo cpos (starEach [e] X.env)).all (λx=>!x.1)&&(backToKw cpos (keywordEach [] X.env)).all (λx=>x.1.isSome)&&decide (([e]:AQ).length+([]:List Keyword).length+(if ([]:List Keyword).isEmpty then 0 else 1)<30))=true:=by rfl)
  (hline:(apos.endLine==cpos.line)=true:=by rfl) (hs:starEach [e] X.env=(false,eval e X.env)::starEach [] X.env:=by rfl) (hplain:(backTo cpos (starEach [] X.env)).any (·.1)=false:=by rfl) :
  QE X (.Call (.Attribute o "append" apos) [e] [] cpos) (tBM X.K "list" zgh to t):=#[zrW cS PySem.F.slot_list_append PySem.F.type_list_append zeT ho.run ha.run hbase hfew hline hs hplain]
end
def yE {ns:AH}:(Dt.tup (ns.map .int)).eqOk:=by
 have e:∀ns:AH,(Dt.toWs (ns.map .int)).all (PySem.W.kqdOk 7)=true:=by
  intro ns
  induction ns with
  | nil=>rfl
  | cons n ns ih=>simp only[aC,Dt.toWs,cO,ih,cT];rfl
 show e ns
def zu (rm:AH)(i:Int):Int:=rm.getD i.toNat 0
abbrev zK (q:Int×Int):Dt:=.tup [.int q.1,.int q.2]
structure Giv (rm:AH)(g:List (Int×Int)):Prop where
 ok:∀q∈g,0<=q.1/\q.1<rm.length/\0<=q.2/\q.2<zu rm q.1
 up:g.Pairwise λa b=>a.1<b.1
def zih (H H':Hp):Prop:=∀b xs,H b=some (.tup xs)->H' b=some (.tup xs)
mutual
def Dt.noL:Dt->Bool
 | .tup l=>Dt.noLs l
 | .lst _=>false
 | .dct=>false
 | _=>true
def Dt.noLs:AT->Bool
 | []=>true
 | d::ds=>d.noL&&Dt.noLs ds
end
mutual
theorem Is.stayT {H H1:Hp}(a:zih H H1):∀ {d:Dt} {v:V},d.noL=true->Is H d v->Is H1 d v
 | .non,_,_,h=>h
 | .bl _,_,_,h=>h
 | .int _,_,_,h=>h
 | .str _,_,_,h=>h
 | .tup l,_,n,h=>by obtain⟨p,xs,e,hp,hl⟩:=h;show#[p,xs,e,a _ _ hp,IsL.stayT a (by simpa [Dt.noL] using n) hl]
 | .lst l,_,n,_=>by simp[Dt.noL] at n
 | .dct,_,n,_=>by simp[Dt.noL] at n
theorem IsL.stayT {H H1:Hp}(a:zih H H1):∀ {ds:AT} {xs:AU},Dt.noLs ds=true->IsL H ds xs->IsL H1 ds xs
 | [],_,_,h=>h
 | d::ds,_,n,h=>by
  obtain⟨x,r,e,hd,hr⟩:=h;have n':d.noL=true/\Dt.noLs ds=true:=by simpa [Dt.noLs] using n
  show#[x,r,e,Is.stayT a n'.1 hd,IsL.stayT a n'.2 hr]
end
theorem zeW:∀g:List (Int×Int),Dt.noLs (g.map zK)=true
 | []=>rfl
 | q::g=>by change (Dt.noL (zK q)&&Dt.noLs (g.map zK))=true;rw[zeW g];rfl
def Giv.snoc {rm:AH}{g:List (Int×Int)}{i w:Int}(h:Giv rm g)(hl:∀q∈g,q.1<i)(h0:0<=i)(h1:i<rm.length)(h2:0<=w)(h3:w<zu rm i):Giv rm (g++[(i,w)]):=by
 show#[λq hq=>?_,List.pairwise_append.mpr #[h.up,dR _ _,λa ha b hb=>?_]];rcases aE.mp hq with z | z;show h.ok q z;right;rw[au.mp hb];show hl a ha
def Pen.app {H:Hp}{p c fa:Addr}{ns:AH}{n:Nat}{xs ys:AU}(P:Pen H p c ns n)(hf:H fa=some (.lst xs))(hc:c≠fa):Pen (upd H fa (.lst ys)) p c ns n:=by
 obtain⟨⟨a,l,h1,h2,h3,h4⟩,h5,h6⟩:=P;have hp:p≠fa:=λe=>by subst e;rw[hf] at h1;cases h1
 show#[#[a,l,by rw[ze hp];show h1,h2,h3,h4],let ⟨ob,e⟩:=h5;#[ob,by rw[ze hc];show e],h6]
def New (H:Hp)(o:HO)(R:V->Hp->Prop):Prop:=∀ (p:Addr) (H':Hp),H p=none->H' p=some o->xq H H'->R (.ref p) H'
def New.at {H:Hp}{o:HO}{R:V->Hp->Prop}(h:New H o R){p:Addr}(hp:H p=none):R (.ref p) (upd H p o):=h p _ hp zj (xq.upd hp)
def zs5 (t:TA):TE:=λG H Q=>t G H λxs H1=>xs.length<=sizeLine/\New H1 (.tup xs) Q
def zs0 (t:TA):TE:=λG H Q=>t G H λxs H1=>xs.length<=sizeLine/\New H1 (.lst xs) Q
section
variable {X:Cx}{es:AQ}{t:TA}{pos:Pos}
def zo8 {x1}(h:PA X es t):PE X (.Tuple es x1 pos) (zs5 t):=by intro BD s G H Q I hq;show wpAny_Tuple_spliced (thn (h pos BD s G H _ I hq) λus s1 ⟨xs,H1,I1,r,z,q⟩=>#[by rw[<- r.length];show z,?_]);have hf:H1 s1.heap.objs.size=none:=I1.hok.fresh (ak _);show#[.ref s1.heap.objs.size,upd H1 s1.heap.objs.size (.tup xs),I1.laid (t':=s1.toks) (λb u e=>af _ e) (ak _) ?_,BC,q.at hf];show#[z,us,r,#[_,aw _ BC,BC,#[_,BC],BC]]
def zo7 (h:PA X es t):PE X (.List es pos) (zs0 t):=by intro BD s G H Q I hq;show wpAny_List_spliced (thn (h pos BD s G H _ I hq) λus s1 ⟨xs,H1,I1,r,z,q⟩=>#[by rw[<- r.length];show z,?_]);have hf:H1 s1.heap.objs.size=none:=I1.hok.fresh (ak _);show#[.ref s1.heap.objs.size,upd H1 s1.heap.objs.size (.lst xs),I1.laid (t':=s1.toks) (λb u e=>af _ e) (ak _) ?_,BC,q.at hf];show#[z,us,0,r,aw _ BC]
def zkj {x1}(h:QA X es t):QE X (.Tuple es x1 pos) (zs5 t):=#[zo8 h.run]
def zpx (h:QA X es t):QE X (.List es pos) (zs0 t):=#[zo7 h.run]
def CallQ.weak {f:Value}{r r':AU->Hp->VK->Prop}(h:CallQ X f r)(k:∀xs H Q,r' xs H Q->r xs H Q):CallQ X f r':=#[λBD s G H xs us Q I rr z=>h.run BD s G H xs us Q I rr (k _ _ _ z)]
def OpQ.weak {f:Value->Value->Sem Value}{r r':R2}(h:OpQ X f r)(k:∀x y H Q,r' x y H Q->r x y H Q):OpQ X f r':=#[λBD s G H x y v u Q I rx ry z=>h.run BD s G H x y v u Q I rx ry (k _ _ _ _ z)]
def zsw (K:AI):AU->Hp->VK->Prop:=λxs H Q=>∃p ys,xs=[.ref p]/\(SqL K H p ys\/SqT K H p ys)/\New H (.lst ys) Q
def zgi (K:AI):AU->Hp->VK->Prop:=λxs H Q=>∃p ys,xs=[.ref p]/\((SqL K H p ys/\New H (.tup ys) Q)\/(SqT K H p ys/\Q (.ref p) H))
def zfI:CallQ X (.type "list") (zsw X.K):=zhz.weak <| by rintro xs H Q ⟨p,ys,e,h,n⟩;show#[p,ys,e,h,λl hl=>n.at hl]
def xf:CallQ X (.type "tuple") (zgi X.K):=zfK.weak <| by rintro xs H Q ⟨p,ys,e,h⟩;show#[p,ys,e,h.elim (by rintro⟨a,n⟩;show .inl #[a,λl hl=>n.at hl]) .inr]
def zpI:R2:=λx y H Q=>∃l b xs zs,x = .ref l/\y = .ref b/\Rd H l (.lst xs)/\Rd H b (.lst zs)/\xs.length+zs.length<=sizeLine/\New H (.lst (xs++zs)) Q
def zoV:OpQ X (binaryOp .Add) zpI:=zrP.weak <| by rintro x y H Q ⟨l,b,xs,zs,e1,e2,h1,h2,z,n⟩;show#[l,b,xs,zs,e1,e2,h1,h2,z,λp hp=>n.at hp]
end
def zqH (J:It)(g:TG)(ti:TT)(te:TE)(acc:Addr)(Q:VK)(G:St)(H:Hp):Prop:=∃W:Nat->Nat->St->Hp->Prop,(∃m,W 0 m G H)/\
 ∀i m σ' H',W i m σ' H'->(J.stop i H'/\Q (.ref acc) H')\/(J.go i H'/\∃N:St->Hp->Prop,(∀ σ2 H2,N σ2 H2->∃m',m'<m/\W (i+1) m' σ2 H2)/\∀x H2,J.yld i H' x H2->zlg g ti te acc N x σ' H2)
def zhn (wi:TI)(g:TG)(ti:TT)(te:TE)(BF:List (Option Nat)):TE:=λG H Q=>wi G H λJ H1=>∀acc,H1 acc=none->zqH J g ti te acc Q (xB G BF) (upd H1 acc (.lst []))
def zg9 {X:Cx}{pos:Pos}{te:TE}{elt tg iter:Expr}{ifs:AQ}{scope:Scope}{wi:TI}{g:TG}{ti:TT}{N:AN}{BF:List (Option Nat)}(hc:X.calm=true)(c:CompOk X scope N BF)
  (hi:QI X tg iter wi) (hg:∀C s H ex,QG (zm X scope N C s H ex) tg g) (ht:∀C s H ex,QTs (zm X scope N C s H ex) ifs ti) (he:∀C s H ex,QE (zm X scope N C s H ex) elt te)
  (hs:∀x,foldedSetIterable iter X.env x=pure x:=by intro _;rfl):QE X (.ListComp elt [#[tg,iter,ifs,0]] scope pos) (zhn wi g ti te BF):=zpt hc c hi hg ht he hs
section
variable {K:AI}{a acc:Addr}{xs:AU}{g:TG}{ti:TT}{te:TE}{G:St}{H:Hp}{Q:VK}
def ziu (hacc:H acc=none)(Pv:Nat->St->Hp->Prop)(h0:∀H',H' acc=some (.lst [])->xq H H'->Pv 0 G H')(hl:∀i G H,i<=xs.length->Pv i G H->SqL K H a xs)
  (hs:∀i x G H,xs[i]?=some x->Pv i G H->zlg g ti te acc (Pv (i+1)) x G H) (hd:∀ G H,Pv xs.length G H->Q (.ref acc) H):zqH (Itl K a) g ti te acc Q G (upd H acc (.lst [])):=by
 show#[λi m G H=>m=xs.length - i/\i<=xs.length/\Pv i G H,#[xs.length,by simp,aS _,h0 _ zj (xq.upd hacc)],?_];rintro i m G H ⟨rfl,hi,p⟩;have q:=hl i G H hi p;by_cases hlt:i<xs.length;show .inr #[#[xs,xs[i],q,by simp[hlt]],Pv (i+1),λσ' H' p'=>#[xs.length - (i+1),by lia,BC,hlt,p'],λx H' y=>?_];obtain⟨e,y⟩:=y;subst e;show hs i x G _ (y xs q) p;have e:i=xs.length:=by lia
 subst e;show .inl #[#[xs,q,ak _],hd G H p]
end
def zqI {g:TG}{te:TE}{acc:Addr}{N:St->Hp->Prop}{x:V}{G:St}{H:Hp}(h:g x G H λσ3 H3=>te σ3 H3 λv H5=>∃xs,H5 acc=some (.lst xs)/\xs.length<sizeLine/\N σ3 (upd H5 acc (.lst (xs++[v])))):zlg g zcJ te acc N x G H:=zrA h
def zhi {H H1:Hp}{acc:Addr}{o:HO}(h:H acc=none)(s:zo H H1):zo H (upd H1 acc o):=λb u e nn=>by rw[ze (zb e h)];show s b u e nn
section
variable {X:Cx}(K:AI)(h:X.K=K)
include h
def znL:CallQ X (.builtin "len") (λxs H Q=>∃x n,xs=[x]/\zqv K x H n/\Q (.int n) H):=h ▸ yU
end
def zpA {X:Cx}(K:AI)(hK:X.K=K){es:AQ}{pos:Pos}{k:Nat}{gs:TGs}{n:Nat}(hc:X.calm=true)(h:QGs X es gs)(hn:(assignEach es X.env).length=n:=by rfl)(hst:(assignEach es X.env).findIdx? (·.1)=none:=by rfl):QG X (.Tuple es k pos) (zuy K n gs):=hK ▸ zso hc h hn hst
def zpD {X:Cx}(K:AI)(hK:X.K=K){e tg:Expr}{te:TE}(hl:QE X e te):QI X tg e (zuA K te):=hK ▸ zsp hl
def zha {X:Cx}(K:AI)(hK:X.K=K){e tg:Expr}{te:TE}(hl:QE X e te):QI X tg e (zn9 K te):=hK ▸ zkl hl
structure Wi where
 g:List (Int×Int)
 b:Int
 r:Int
 w:Int
abbrev AY:=List Wi
abbrev uq (x:Wi):Dt:=.tup [.tup (x.g.map zK),.int x.b,.int x.r,.int x.w]
structure WishOk (rm:AH)(x:Wi):Prop where
 giv:Giv rm x.g
 b0:0<=x.b
 b1:x.b<rm.length
 apart:∀q∈x.g,q.1≠x.b
 r0:0<=x.r
 r1:x.r<zu rm x.b
 w0:0<=x.w
 w1:x.w<zu rm x.b
 ne:x.r≠x.w
section
variable {H H':Hp}{R:Dt->Prop}{xs ys:AU}
end
def zgR (b:Int)(ns:AH):inV (.int b) (ns.map V.int)=ns.contains b:=by
 unfold inV
 induction ns with
 | nil=>rfl
 | cons n ns ih=>
  rw[aC,cN,ih,List.contains_cons];show ((n==b) || _)=((b==n) || _);rw[show (n==b)=(b==n) from BEq.comm]
def zez (ns:AH):(ns.map V.int).all zdF=true:=by rw[a8];intro x hx;obtain⟨n,_,rfl⟩:=aq.mp hx;rfl
theorem zfU {m:Int}:∀ {g:List (Int×Int)} {lo:Int},(∀q∈g,lo<=q.1/\q.1<m)->(g.Pairwise λa b=>a.1<b.1)->lo<=m->(g.length:Int)<=m - lo
 | [],lo,_,_,h=>by simp;lia
 | q::g,lo,h,hp,hm=>by
  have h1:=h q am;have hp':=bT.mp hp;have ih:=zfU (g:=g) (lo:=q.1+1) (λx hx=>#[by have:=hp'.1 x hx;lia,(h x (ao _ hx)).2]) hp'.2 (by lia);grind
def ziE (xs:AU)(k:Nat):zcP xs none (some (k:Int))=xs.take k:=by
 have e:HT.sIx xs.length xs.length (some (k:Int))=min k xs.length:=by simp[HT.sIx];try lia
 unfold zcP;rw[e,show HT.sIx xs.length 0 none=0 from rfl,ez,ge];grind
def ziD (xs:AU)(k:Nat):zcP xs (some (k:Int)) none=xs.drop k:=by
 have e:HT.sIx xs.length 0 (some (k:Int))=min k xs.length:=by simp[HT.sIx];try lia
 unfold zcP;rw[e,show HT.sIx xs.length xs.length none=xs.length from rfl];by_cases h:k<=xs.length;rw[Nat.min_eq_left h,dZ (by simp)];rw[Nat.min_eq_right (by lia),List.drop_eq_nil_of_le (as:=xs) (i:=xs.length) (by lia),List.drop_eq_nil_of_le (as:=xs) (i:=k) (by lia),List.take_nil]
section
variable {rm:AH}{g b r w:Dt}
end
end L2
namespace HT
open PyProof.Rows
section
variable {prog:Ab}{w:Ac}{A:Af}{E:AA}{s:Aa}
end
end HT
namespace L2
open PyProof.Rows
section
variable {X:Cx}{e:Expr}{te:TE}{pos p2 p3 p4:Pos}{j:Nat}
end
def zgv (l:Addr)(items:AL)(n:Nat)(dd:Option Addr)(sl:Array AK)(x:Int)(u:Tok)(hx:1<=x)(hc0:x<2 ^ 63)(hc1:items.isEmpty=true) :
  Meets (Builtin.«tuple.__mul__» #[[.ref l,.int x u],[]]) (λ_ R s=>s.heap.get? l=some { cls:=.type "tuple",dict:=dd,data:=.seq items n,slots:=sl }/\R (.ok (.ret (Value.ref l))) s):=
 .of_wp λprog w A R s h=>by
  obtain⟨hp,g,d,tk,os⟩:=s;obtain⟨hl,h⟩:=h;have f1:=fX
  wp_walk
  have e1:¬ ((decide (x < -2 ^ 63) || decide (x ≥ 2 ^ 63))=true):=by simp;lia
  have e2:(items.isEmpty || x==1)=true:=by rw[hc1];rfl
  rw[if_neg e1];show aa (fP #[_,hl,BC,n,BC] ?_);rw[if_pos e2]
  wp_walk using bP hl
  show#[_,BC,h]
section
variable {X:Cx}
def zpK:R2:=λx y H Q=>∃l k xs,x = .ref l/\y = .int k/\H l=some (.tup xs)/\1<=k/\k<2 ^ 63/\xs.length * k.toNat<=sizeLine/\
 ∀p H',H' p=some (.tup (List.replicate k.toNat xs).flatten)->xq H H'->Q (.ref p) H'
def zd2:OpQ X (binaryOp .Mult) zpK:=#[by
 intro BD s G H x y v u Q I rx ry h;obtain⟨l,k,xs,rfl,rfl,hH,h1,h2,hz,q⟩:=h;by_cases hx:xs=[];subst hx;cases rx;obtain⟨t,rfl⟩:=ry;obtain⟨its,r,pt,zz⟩:=I.tuple (.of hH);obtain⟨⟨cls,dd,data,sl⟩,e,hc,n,hd⟩:=id pt;simp only at hc hd;subst hc hd;have hi:its=[]:=r.nil_iff.mpr BC
 show wpAny_binaryOp_repeat_ref (T := "tuple") (U := "int") (by ext) #[_,e,BC] (λs'=>eL s' k t) uv F.fills_int_mul eR zbu F.slot_int_index.lookup
  (dj eR (eL s k t) F.entry_int_rmul (F.args_int_rmul_2 _ _) (zao k t l its.toArray n dd sl) #[e,BC,#[_,e,BC],?_])
 show dj fY #[_,e,BC] fJ (fD _ _) (zgv l its.toArray n dd sl k t h1 h2 (by simp[hi])) #[e,#[.ref l,H,I,BC,q l H (by right) λ_ _ e=>e]];show zoU BD s G H _ _ v u Q I rx ry #[l,k,xs,BC,BC,hH,h1,h2,hx,hz,q]]
end
def chg (st:AH)(b w:Int):AH:=st.take b.toNat++[w]++st.drop (b.toNat+1)
def znJ (st:AH){b w:Int}(h0:0<=b):zcP (st.map V.int) none (some b)++[.int w]++zcP (st.map V.int) (some (b+1)) none=(chg st b w).map V.int:=by
 obtain⟨j,rfl⟩:∃j:Nat,b=j:=#[b.toNat,by lia];rw[ziE,show ((j:Int)+1)=((j+1:Nat):Int) by lia,ziD];unfold chg;right
def zir {st:AH}{b w:Int}(h0:0<=b)(h1:b<st.length):(chg st b w).length=st.length:=by
 unfold chg;grind
def zb2 {st:AH}{b w c:Int}(h0:0<=b)(h1:b<st.length)(c0:0<=c):zu (chg st b w) c=if c=b then w else zu st c:=by
 obtain⟨j,rfl⟩:∃j:Nat,b=j:=#[b.toNat,by lia];obtain⟨k,rfl⟩:∃k:Nat,c=k:=#[c.toNat,by lia];have hj:j<st.length:=by lia
 unfold zu chg;simp only[aP,aD];have hl:(st.take j).length=j:=by rw[aR];lia
 rcases ci k j with h | h | h;rw[if_neg (by lia),bY,bv (by rw[hl];show h),dH h];right;rw[if_neg (by lia),bY,bm (by rw[hl];lia),hl];obtain⟨m,rfl⟩:∃m,k=j+1+m:=#[k - (j+1),by lia];rw[show j+1+m - j=m+1 by lia];right
def zgM {s t:AH}(hl:s.length=t.length)(h:∀c:Int,0<=c->c<s.length->zu s c=zu t c):s=t:=by
 show dB hl λi h1 h2=>?_;have:=h (i:Int) (by lia) (by lia);unfold zu at this;right
def yW (st:AH)(g:List (Int×Int)):Bool:=g.all λq=>decide (zu st q.1=q.2)
def zaN (st:AH)(x:Wi):Bool:=decide (zu st x.b=x.w)&&yW st x.g
def xI (st:AH)(j:Nat):zu st (j:Int)=st.getD j 0:=by unfold zu;simp
def zf6 {st:AH}{i:Nat}{m:Int}(h:st[i]?=some m):zu st (i:Int)=m:=by rw[xI,aD,h];rfl
def zA {rm:AH}(hb:∀r∈rm,2<=r/\r<=4){b:Int}(h0:0<=b)(h1:b<rm.length):2<=zu rm b/\zu rm b<=4:=by
 obtain⟨j,rfl⟩:∃j:Nat,b=j:=#[b.toNat,by lia];have hj:j<rm.length:=by lia
 rw[zf6 (aj hj)];right
theorem zeX:∀st:AH,Dt.noLs (st.map .int)=true
 | []=>rfl
 | _::st=>by change (true&&Dt.noLs (st.map .int))=true;rw[zeX st];rfl
def zbO (st:AH):PySem.W.kqdOk 7 (Dt.tup (st.map .int)).toW=true:=by
 have e:∀ns:AH,(Dt.toWs (ns.map .int)).all (PySem.W.kqdOk 6)=true:=by
  intro ns
  induction ns with
  | nil=>rfl
  | cons n ns ih=>simp only[aC,Dt.toWs,cO,ih,cT];rfl
 show e st
def zpG {X:Cx}{elt tg iter:Expr}{ifs:AQ}{scope:Scope}{pos spos:Pos}{wi:TI}{g:TG}{ti:TT}{te:TE}{N:AN}{BF:List (Option Nat)}{ix:Nat}{nx:Str}{px:Pos}(hNd:X.N.Nodup)(hix:X.N[ix]?=some nx)(hlx:X.env.scope.names.lookup nx=some .local)(hc:X.calm=true)(c:CompOk X scope N BF)
  (hi:QI X tg iter wi) (hg:∀C s H ex,QG (zm X scope N C s H ex) tg g) (ht:∀C s H ex,QTs (zm X scope N C s H ex) ifs ti) (he:∀C s H ex,QE (zm X scope N C s H ex) elt te)
  (hsw:swapsWithSole [.Name nx px] (.ListComp elt [#[tg,iter,ifs,0]] scope pos) spos.line X.env=pure true:=by rfl)
  (hs:∀x,foldedSetIterable iter X.env x=pure x:=by intro _;rfl)
  (h1a:(assignEach [.Name nx px] X.env).map (·.2)=[assign (.Name nx px) X.env]:=by rfl):QS X (.Assign [.Name nx px] (.ListComp elt [#[tg,iter,ifs,0]] scope pos) spos) (zhm (zhn wi g ti te BF) (zaL ix)):=#[λBD s G H BI I h=>zgB hNd hix hlx hsw h1a (λ_=>rfl) λU Qp hf=>zcj (Fin:=λacc H=>BI.nx (G.set ix (some (.ref acc))) H) (x8 c) hc hi.run (zba λC s H ex=>(hg C s H ex).run) (zba λC s H ex=>(ht C s H ex).run) (zba λC s H ex=>(he C s H ex).run) hs I h hf]
section
variable {prog:Ab}{w:Ac}{A:Af}{E:AA}{s:Aa}
variable {X:Cx}
end
def zqF (J:It)(g:TG)(ti:TT)(wi2:TI)(g2:TG)(ti2:TT)(te:TE)(acc:Addr)(Q:VK)(G:St)(H:Hp):Prop:=inG J g ti (λN G H=>wi2 G H λJ2 H2=>inG J2 g2 ti2 (zqy te acc) N G H2) (λ_ H=>Q (.ref acc) H) G H
def znu (wi:TI)(g:TG)(ti:TT)(wi2:TI)(g2:TG)(ti2:TT)(te:TE)(BF:List (Option Nat)):TE:=λG H Q=>wi G H λJ H1=>∀acc,H1 acc=none->zqF J g ti wi2 g2 ti2 te acc Q (xB G BF) (upd H1 acc (.lst []))
section
variable {X:Cx}{Fam:Cx->Prop}{scope:Scope}{N:AN}{BF:List (Option Nat)}{z:Str}{use:Option (Value->Sem Unit)}{Qp:AA}{elt ke ve tg iter tg2 iter2:Expr}{ifs ifs2:AQ}{pos ipos spos px:Pos}{wi wi2:TI}{g g2:TG}{ti ti2:TT}{te tk tv:TE}{BD:AB}{G:St}{H:Hp}{s:Aa}{Q:VK}{o0:HO}
def zhy (O:Opn X scope BF Fam)(hc:X.calm=true)(hi:PI X tg iter wi)(hg:∀X',Fam X'->PG X' tg g)(ht:∀X',Fam X'->PTs X' ifs ti)(hi2:∀X',Fam X'->PI X' tg2 iter2 wi2)(hg2:∀X',Fam X'->PG X' tg2 g2)(ht2:∀X',Fam X'->PTs X' ifs2 ti2)(he:∀X',Fam X'->PE X' elt te)
  (hs:∀x,foldedSetIterable iter X.env x=pure x) (hs2:∀X',Fam X'->∀x,foldedSetIterable iter2 X'.env x=pure x) (I:Inv X BD G H s) (h:znu wi g ti wi2 g2 ti2 te BF G H Q) (hfin:zto X BD G use Qp Q) :
  Ag X (comprehension (.ListComp elt [#[tg,iter,ifs,0],#[tg2,iter2,ifs2,0]] scope pos) scope X.env ipos (newList []) false (eval iter X.env) use) Qp X.xe s:=
 uG (ob:={ cls:=.type "list",dict:=none,data:=.seq ([]:AO).toArray }) (o0:=λ_=>.lst []) (Fin:=λacc H=>Q (.ref acc) H) (tb:=λacc Nx G H=>wi2 G H λJ2 H2=>inG J2 g2 ti2 (zqy te acc) Nx G H2)
  O ua hc BC hs (λs Q h=>bg h) (λ_ _=>#[aS _,[],0,.nil,aw _ BC]) hi hg ht (λX' hF _ _ _ cX xX _=>zmU (iter:=iter) ua (λ_=>rfl) BC (hs2 X' hF) cX xX (hi2 X' hF) (hg2 X' hF) (ht2 X' hF) (zis (iter:=iter2) ua (he X' hF) xX λ_=>rfl)) I h (λJ H1 acc q hn=>q acc hn) hfin
end
def zmu {X:Cx}{elt tg iter tg2 iter2:Expr}{ifs ifs2:AQ}{scope:Scope}{pos spos:Pos}{wi wi2:TI}{g g2:TG}{ti ti2:TT}{te:TE}{N:AN}{BF:List (Option Nat)}{ix:Nat}{nx:Str}{px:Pos}(hNd:X.N.Nodup)(hix:X.N[ix]?=some nx)(hlx:X.env.scope.names.lookup nx=some .local)(hc:X.calm=true)(c:CompOk X scope N BF)
  (hi:QI X tg iter wi) (hg:∀C s H ex,QG (zm X scope N C s H ex) tg g) (ht:∀C s H ex,QTs (zm X scope N C s H ex) ifs ti)
  (hi2:∀C s H ex,QI (zm X scope N C s H ex) tg2 iter2 wi2) (hg2:∀C s H ex,QG (zm X scope N C s H ex) tg2 g2) (ht2:∀C s H ex,QTs (zm X scope N C s H ex) ifs2 ti2) (he:∀C s H ex,QE (zm X scope N C s H ex) elt te)
  (hsw:swapsWithSole [.Name nx px] (.ListComp elt [#[tg,iter,ifs,0],#[tg2,iter2,ifs2,0]] scope pos) spos.line X.env=pure true:=by rfl)
  (hs:∀x,foldedSetIterable iter X.env x=pure x:=by intro _;rfl) (hs2:∀C s H ex x,foldedSetIterable iter2 (zm X scope N C s H ex).env x=pure x:=by intro _ _ _ _ _;rfl)
  (h1a:(assignEach [.Name nx px] X.env).map (·.2)=[assign (.Name nx px) X.env]:=by rfl):QS X (.Assign [.Name nx px] (.ListComp elt [#[tg,iter,ifs,0],#[tg2,iter2,ifs2,0]] scope pos) spos) (zhm (znu wi g ti wi2 g2 ti2 te BF) (zaL ix)):=#[λBD s G H BI I h=>zgB hNd hix hlx hsw h1a (λ_=>rfl) λU Qp hf=>zhy (Q:=λv H=>BI.nx (G.set ix (some v)) H) (x8 c) hc hi.run (zba λC s H ex=>(hg C s H ex).run) (zba λC s H ex=>(ht C s H ex).run) (zba λC s H ex=>(hi2 C s H ex).run) (zba λC s H ex=>(hg2 C s H ex).run) (zba λC s H ex=>(ht2 C s H ex).run) (zba λC s H ex=>(he C s H ex).run) hs (zba λC s H ex=>hs2 C s H ex) I h hf]
section
variable {K:AI}{a acc:Addr}{xs:AU}{g:TG}{ti:TT}{wi2:TI}{g2:TG}{ti2:TT}{te:TE}{G:St}{H:Hp}{Q:VK}{N:St->Hp->Prop}
end
section
variable {X:Cx}
def zlk:CallQ X (.type "range") (λxs H Q=>∃n,xs=[.int n]/\New H (.rng 0 n) Q):=#[by
 intro BD s G H xs us Q I r h;obtain⟨n,rfl,q⟩:=h;obtain⟨u,rfl,ru⟩:=zak r;obtain⟨t,rfl⟩:=ru;show call_range_1 ?_;show#[.ref s.heap.objs.size,_,I.laid (t':=s.toks+1+1) (o:=.rng 0 n) (λb ob q=>af _ q) (ak _) ?_,BC,q.at (I.hok.fresh (ak _))];show#[_,_,_,aw _ BC]]
def zhc (n:Nat):Builtin.Range.rangeSize 0 (n:Int) 1=n:=by
 unfold Builtin.Range.rangeSize;grind
theorem zkY:∀ {xs:AU} {us:AO},xs.length=us.length->(∀ (i:Nat) x u,xs[i]?=some x->us[i]?=some u->yv x u)->z9 xs us
 | [],[],_,_=>.nil
 | [],_::_,h,_=>by simp at h
 | _::_,[],h,_=>by simp at h
 | x::xs,u::us,h,k=>.cons (k 0 x u BC BC) (zkY (by simpa using h) λi y v hy hv=>k (i+1) y v hy hv)
def zfJ (hc:X.calm=true):CallQ X (.type "list") (λxs H Q=>∃ (p:Addr) (n:Nat),xs=[.ref p]/\H p=some (.rng 0 n)/\n<=1000/\New H (.lst ((List.range n).map λi:Nat=>V.int i)) Q):=#[by
 intro BD s G H xs us Q I r h;obtain⟨p,n,rfl,hp,hn,q⟩:=h;obtain⟨u,rfl,ru⟩:=zak r;cases ru;obtain⟨t,u,v,ho⟩:=I.hok p _ hp;have hn':n<sizeLine:=zfo hn;show call_list_range (a:=0) (b:=n) (c:=1) (n:=n) (I.ok.hd hc) ho ?_ ?_ (av hn (by ext)) λh' tk acc' c' kp hg hit=>?_;have e:=zhc n;unfold Builtin.Range.small;rw[e];simp[Builtin.Range.rangeFitsLong];lia;show zhc n
 have hv:z9 ((List.range n).map λi:Nat=>V.int i) acc'.toList:=by
  show zkY (by rw[ab,aI,aX,hit.1]) λj x u hx hu=>?_;rw[aA] at hx;obtain⟨k,hk,rfl⟩:=aB.mp hx;obtain⟨hlt,e⟩:=ae.mp hk;have:k=j:=by simpa using e.symm
  subst this;obtain⟨t',rfl⟩:=hit.2 k u (by simpa using hu);show#[t',by lia]
 show#[.ref s.heap.objs.size,_,I.laid (t':=tk) (o:=.lst ((List.range n).map λi:Nat=>V.int i)) kp (ak _) ?_,BC,q.at (I.hok.fresh (ak _))];show#[by rw[ab,aI];show dG hn',acc'.toList,c',hv,by simpa using hg]]
end
def zn (m:Int):AH:=(List.range m.toNat).map λi:Nat=>(i:Int)
def zqK (rows:AG)(ws:AH):AG:=rows.flatMap λr=>ws.map λw=>r++[w]
def ztU (cs:AG):AG:=cs.foldl zqK [[]]
abbrev stD (st:AH):Dt:=.tup (st.map .int)
theorem zbR:∀BG:AG,Dt.noLs (BG.map stD)=true
 | []=>rfl
 | st::BG=>by show ((stD st).noL&&Dt.noLs (BG.map stD))=true;rw[zbR BG,show (stD st).noL=true from zeX st];rfl
def zdO (BG:AG):(Dt.lst (BG.map stD)).eqOk:=by
 have e:∀BG:AG,(Dt.toWs (BG.map stD)).all (PySem.W.kqdOk 7)=true:=by
  intro BG
  induction BG with
  | nil=>rfl
  | cons m ms ih=>simp only[aC,Dt.toWs,cO,ih,show PySem.W.kqdOk 7 (stD m).toW=true from zbO m,cT]
 show e BG
def zI (m:Int):(zn m).length=m.toNat:=by unfold zn;rw[ab,aI]
section
variable {X:Cx}{o:Expr}{to:TE}{apos cpos:Pos}
end
open PySem.W
inductive Run (ans:Nat->Nat->Bool) (n:Nat):{α:Type}->KasT α->α->Prop
 | ret {α:Type} (a:α):Run ans n (.ret a) a
 | ask {α:Type} {i j:Nat} {k:Bool->KasT α} {a:α} (hi:i<n) (hj:j<n) (h:Run ans n (k (ans i j)) a):Run ans n (.ask i j k) a
def Run.bind {ans:Nat->Nat->Bool}{n:Nat}{α β:Type}{t:KasT α}{f:α->KasT β}{a:α}{b:β}(h:Run ans n t a)(k:Run ans n (f a) b):Run ans n (t.bind f) b:=by
 induction h with
 | ret a=>show k
 | ask hi hj _ ih=>show .ask hi hj (ih k)
def Run.wp {ans:Nat->Nat->Bool}{n:Nat}{α:Type}{t:KasT α}{a:α}(h:Run ans n t a){cmp:Nat->Nat->(Bool->Aa->Prop)->Aa->Prop}{S:Aa->Prop}{Q:α->Aa->Prop}
  (hc:∀i j C s,i<n->j<n->S s->(∀s',S s'->C (ans i j) s')->cmp i j C s) (hq:∀s,S s->Q a s):∀s,S s->KasT.kasWp cmp t Q s:=by
 induction h with
 | ret a=>intro s hs;rw[KasT.kasWp.eq_1];show hq s hs
 | ask hi hj _ ih=>
  intro s hs;rw[KasT.kasWp.eq_2];right
section
variable {n:Nat}{f:Nat->Int}
def zfz (f:Nat->Int)(i j:Nat):Bool:=decide (f i<f j)
def key (f:Nat->Int)(p:Array Nat)(k:Nat):Int:=f (p.getD k 0)
structure Up (n:Nat)(f:Nat->Int)(p:Array Nat)(m:Nat):Prop where
 perm:p.Perm (List.range n).toArray
 le:m<=n
 up:∀k,k+1<m->key f p k<key f p (k+1)
def x9 {p:Array Nat}(h:p.Perm (List.range n).toArray):p.size=n:=by have:=h.size_eq;simpa using this
def yn {p:Array Nat}(h:p.Perm (List.range n).toArray){k:Nat}(hk:k<n):p.getD k 0<n:=by
 have hs:=x9 h;have hm:p.getD k 0∈p:=by right
 have:=(h.mem_iff).mp hm;simpa using this
def Up.lt_of {p:Array Nat}{m:Nat}(h:Up n f p m):∀ {i j:Nat},i<j->j<m->key f p i<key f p j:=by
 intro i j
 induction j with
 | zero=>intro h0;lia
 | succ j ih=>
  intro hij hj;have h1:=h.up j hj;grind
theorem zfD (p:Array Nat)(hp:p.Perm (List.range n).toArray):∀ (g x:Nat),1<=x->x+g<=n->∃m,Run (zfz f) n (kas_asc p g x) m/\x<=m/\m<=x+g/\(∀k,x<=k->k<m->¬ key f p k<key f p (k - 1))/\(m<x+g->key f p m<key f p (m - 1))
 | 0,x,_,_=>#[x,by rw[kas_asc.eq_1];show .ret _,ak _,ak _,by grind,λh=>by lia]
 | g+1,x,hx,hn=>by
  rw[kas_asc.eq_2];by_cases hc:key f p x<key f p (x - 1);show#[x,.ask (yn hp (by lia)) (yn hp (by lia)) ?_,ak _,by lia,by grind,λ_=>hc];rw[show zfz f (p.getD x 0) (p.getD (x - 1) 0)=true from aN hc,if_pos rfl];show .ret _;obtain⟨m,h1,h2,h3,h4,h5⟩:=zfD p hp g (x+1) (by lia) (by lia);show#[m,.ask (yn hp (by lia)) (yn hp (by lia)) ?_,by lia,by lia,λk k1 k2=>?_,λh=>h5 (by lia)];rw[show zfz f (p.getD x 0) (p.getD (x - 1) 0)=false from aT hc,if_neg aM];show h1;by_cases e:k=x;subst e;show hc;show h4 k (by lia) k2
def zbV (n:Nat)(f:Nat->Int):Prop:=∀i j,i<n->j<n->f i=f j->i=j
def zgX (hu:zbV n f){p:Array Nat}(hp:p.Perm (List.range n).toArray){i j:Nat}(hi:i<n)(hj:j<n)(hij:i≠j):key f p i≠key f p j:=by
 intro e;have e2:=hu _ _ (yn hp hi) (yn hp hj) e;have hs:=x9 hp
 have hnd:p.toList.Nodup:=by
  have:p.toList.Perm (List.range n):=by have:=hp.toList;simpa using this
  show this.nodup_iff.mpr fZ
 rw[bU,bU,bK (by lia),bK (by lia)] at e2;have e3:p.toList[i]'(by right)=p.toList[j]'(by right):=by simpa using e2
 show hij ((bM hnd).mp e3)
theorem zgK (hu:zbV n f)(p:Array Nat)(hp:p.Perm (List.range n).toArray):∀ (g x:Nat),1<=x->x+g<=n->∃m,Run (zfz f) n (kas_desc g p x 0) (p,m,0)/\x<=m/\m<=x+g/\(∀k,x<=k->k<m->key f p k<key f p (k - 1))
 | 0,x,_,_=>#[x,by rw[kas_desc.eq_1];show .ret _,ak _,ak _,by grind]
 | g+1,x,hx,hn=>by
  rw[kas_desc.eq_2];by_cases hc:key f p x<key f p (x - 1);obtain⟨m,h1,h2,h3,h4⟩:=zgK hu p hp g (x+1) (by lia) (by lia);show#[m,.ask (yn hp (by lia)) (yn hp (by lia)) ?_,by lia,by lia,λk k1 k2=>?_];rw[show zfz f (p.getD x 0) (p.getD (x - 1) 0)=true from aN hc,if_pos rfl,if_neg (by lia)];show h1;by_cases e:k=x;subst e;show hc;show h4 k (by lia) k2;have hne:=zgX hu hp (i:=x) (j:=x - 1) (by lia) (by lia) (by lia);have hlt:key f p (x - 1)<key f p x:=by lia
  show#[x,.ask (yn hp (by lia)) (yn hp (by lia)) ?_,ak _,by lia,by grind];rw[show zfz f (p.getD x 0) (p.getD (x - 1) 0)=false from aT hc,if_neg aM];show .ask (yn hp (by lia)) (yn hp (by lia)) ?_;rw[show zfz f (p.getD (x - 1) 0) (p.getD x 0)=true from aN hlt,if_pos rfl];show .ret _
def zjs {p:Array Nat}{j:Nat}(hj:j<=p.size)(k:Nat):key f (kas_rev p 0 j) k=if k<j then key f p (j - 1 - k) else key f p k:=by
 unfold key kas_rev;rw[bU,getElem?_mirror_all hj];by_cases h:k<j;right;rw[if_neg (λz=>h z.2),if_neg h,bU]
def zmE {p:Array Nat}(hp:p.Perm (List.range n).toArray)(j:Nat):(kas_rev p 0 j).Perm (List.range n).toArray:=(mirror_perm p 0 j _).trans hp
def ziw (hu:zbV n f)(hn:2<=n)(p:Array Nat)(hp:p.Perm (List.range n).toArray):∃ (m:Nat) (q:Array Nat),Run (zfz f) n (kas_count n p) (m,q)/\1<=m/\Up n f q m:=by
 have hs:=x9 hp;obtain⟨m,h1,h2,h3,h4,h5⟩:=zfD (f:=f) p hp (n - 1) 1 (ak _) (by lia);have up1:Up n f p m:=#[hp,by lia,λk hk=>by have h6:=h4 (k+1) (by lia) hk;rw[dU] at h6;have:=zgX hu hp (i:=k) (j:=k+1) (by lia) (by lia) (by lia);lia];unfold kas_count;by_cases hmn:m=n;show#[m,p,h1.bind ?_,h2,up1];rw[if_pos (by right)];show .ret _;by_cases hm1:m > 1;show#[m,p,h1.bind ?_,h2,up1];rw[if_neg (by right),if_pos hm1];show .ask (yn hp (by lia)) (yn hp (by lia)) ?_;have hlt:key f p 0<key f p (m - 1):=up1.lt_of (by lia) (by lia);rw[show zfz f (p.getD 0 0) (p.getD (m - 1) 0)=true from aN hlt,if_pos rfl];show .ret _;have em:m=1:=by lia
 subst em;have h10:=h5 (by lia);obtain⟨d,g1,g2,g3,g4⟩:=zgK hu p hp (n - 2) 2 (by lia) (by lia);have hrp:=zmE hp d;obtain⟨m2,a1,a2,a3,a4,_⟩:=zfD (f:=f) (kas_rev p 0 d) hrp (n - d) d (by lia) (by lia);show#[m2,kas_rev p 0 d,h1.bind ?_,by lia,#[hrp,by lia,λk hk=>?_]];rw[if_neg (by right),if_neg hm1];unfold kas_descPart;show Run.bind (a:=(p,d,0)) g1 ?_;rw[if_neg (by simp)];unfold kas_tail3;show Run.bind a1 (.ret _);by_cases hkd:k+1<d;rw[zjs (by lia),zjs (by lia),if_pos (by lia),if_pos hkd];have e:d - 1 - k=(d - 1 - (k+1))+1:=by lia
 rw[e];by_cases e0:d - 1 - (k+1)=0;rw[e0];show h10;have:=g4 (d - 1 - (k+1)+1) (by lia) (by lia);right;have h6:=a4 (k+1) (by lia) hk;rw[dU] at h6;have:=zgX hu hrp (i:=k) (j:=k+1) (by lia) (by lia) (by lia);lia
theorem zcz (p:Array Nat)(hp:p.Perm (List.range n).toArray)(k:Nat)(hk:k<n):∀ (g l r:Nat),r<=k->l<=r->r - l<=g->(∀i,i<l->¬ key f p k<key f p i)->(∀i,r<=i->i<k->key f p k<key f p i)->
  (∀i j,i<j->j<k->key f p i<key f p j)->
  ∃m,Run (zfz f) n (kas_place p k g l r) m/\m<=k/\(∀i,i<m->¬ key f p k<key f p i)/\(∀i,m<=i->i<k->key f p k<key f p i)
 | 0,l,r,h1,h2,h3,h4,h5,_=>#[l,by rw[kas_place.eq_1];show .ret _,by lia,h4,λi hi=>h5 i (by lia)]
 | g+1,l,r,h1,h2,h3,h4,h5,hup=>by
  rw[kas_place.eq_2];by_cases hlr:l ≥ r;show#[l,?_,by lia,h4,λi hi=>h5 i (by lia)];rw[if_pos hlr];show .ret _;rw[if_neg hlr];by_cases hc:key f p k<key f p ((l+r) / 2)
  obtain⟨m,g1,g2,g3,g4⟩:=zcz p hp k hk g l ((l+r) / 2) (by lia) (by lia) (by lia) h4 (λi hi hik=>by
   by_cases e:i=(l+r) / 2;rw[e];show hc;have:=hup ((l+r) / 2) i (by lia) hik;lia) hup
  show#[m,.ask (yn hp hk) (yn hp (by lia)) ?_,g2,g3,g4];rw[show zfz f (p.getD k 0) (p.getD ((l+r) / 2) 0)=true from aN hc,if_pos rfl];show g1
  obtain⟨m,g1,g2,g3,g4⟩:=zcz p hp k hk g ((l+r) / 2+1) r h1 (by lia) (by lia) (λi hi=>by
   by_cases e:i=(l+r) / 2;rw[e];show hc;have:=hup i ((l+r) / 2) (by lia) (by lia);lia) h5 hup
  show#[m,.ask (yn hp hk) (yn hp (by lia)) ?_,g2,g3,g4];rw[show zfz f (p.getD k 0) (p.getD ((l+r) / 2) 0)=false from aT hc,if_neg aM];show g1
def zda {p:Array Nat}{src d:Nat}(h1:src<p.size)(h2:d<=src)(k:Nat):key f (bubble p src d) k=if k=src - d then key f p src else if src - d<k/\k<=src then key f p (k - 1) else key f p k:=by
 unfold key;simp only[bU];rw[getElem?_bubble h1 d h2];grind
theorem zil (hu:zbV n f):∀ (g k:Nat) (p:Array Nat),k+g=n->Up n f p k->∃q,Run (zfz f) n (kas_bin g p k) q/\Up n f q n
 | 0,k,p,hk,h=>by
  have e:k=n:=by lia
  rw[e] at h;show#[p,by rw[kas_bin.eq_1];show .ret _,h]
 | g+1,k,p,hk,h=>by
  have hs:=x9 h.perm;obtain⟨l,r1,r2,r3,r4⟩:=zcz (f:=f) p h.perm k (by lia) k 0 k (ak _) (aS _) (by lia) (λi hi=>by lia) (λi h1 h2=>by lia) (λi j hij hj=>h.lt_of hij hj)
  have hup:Up n f (bubble p k (k - l)) (k+1):=by
   show#[(bubble_perm p k (k - l)).trans h.perm,by lia,λi hi=>?_];rw[zda (by lia) (by lia),zda (by lia) (by lia)];have ekl:k - (k - l)=l:=by lia
   rw[ekl];by_cases e1:i=l;grind;rw[if_neg e1];by_cases e2:l<i;rw[if_pos (by lia),if_neg (by lia),if_pos (by lia),dU];show h.lt_of (by lia) (by lia);rw[if_neg (by lia)];by_cases e3:i+1=l;rw[if_pos e3];have h1:=r3 i (by lia);have h2:=zgX hu h.perm (i:=i) (j:=k) (by lia) (by lia) (by lia);lia;rw[if_neg e3,if_neg (by lia)];show h.lt_of (by lia) (by lia)
  obtain⟨q,q1,q2⟩:=zil hu g (k+1) (bubble p k (k - l)) (by lia) hup;show#[q,?_,q2];rw[kas_bin.eq_2];show Run.bind r1 q1
def zhf (hu:zbV n f)(hn:2<=n):∃q,Run (zfz f) n (kas_sort n) q/\Up n f q n:=by
 obtain⟨m,p,h1,h2,h3⟩:=ziw hu hn (List.range n).toArray (Array.Perm.refl _);unfold kas_sort;by_cases hm:m<n;obtain⟨q,q1,q2⟩:=zil hu (n - m) m p (by lia) h3;show#[q,Run.bind h1 ?_,q2];grind;have e:m=n:=by have:=h3.le;lia
 show#[p,Run.bind h1 ?_,by lia];rw[if_neg hm];show .ret _
end
theorem zdN {prog:Ab}{w:Ac}{A:Af}{s:Aa}{b:Bool}{Q:Bool->Aa->Prop}:∀ {ns ms:AH} {xs ys:AO} (i:Nat),z9 (ns.map V.int) xs->z9 (ms.map V.int) ys->ns.length=ms.length->Q (HT.lexLt ns ms) s->W.KatLex prog w A b false Q (xs.zip ys) i s
 | [],[],_,_,i,hx,hy,_,q=>by cases hx;cases hy;show W.kat_nil q
 | [],_::_,_,_,_,_,_,h,_=>by simp at h
 | _::_,[],_,_,_,_,_,h,_=>by simp at h
 | a::ns,c::ms,_,_,i,hx,hy,hl,q=>by
  cases hx with
  | cons r1 rr1=>
   cases hy with
   | cons r2 rr2=>
    obtain⟨t,rfl⟩:=r1;obtain⟨u,rfl⟩:=r2;rw[List.zip_cons_cons];have q':Q (if a=c then HT.lexLt ns ms else decide (a<c)) s:=q;show W.kat_cons (wpAny_eqBool_int ?_);by_cases e:a=c;rw[show (a==c)=true from by lia];rw[if_pos e] at q';show W.kat_yes (zdN (i+1) rr1 rr2 (by simpa using hl) q');rw[show (a==c)=false from beq_false_of_ne e];rw[if_neg e] at q';show W.kat_no ?_
    cases (b&&i==0) with
    | true=>show oneLt_int q'
    | false=>show W.kat_one _ _ (P.lt_int q')
theorem xx:∀s:AH,HT.lexLt s s=false
 | []=>rfl
 | a::s=>by change (if a=a then HT.lexLt s s else _)=false;rw[if_pos rfl];show xx s
theorem zaT:∀ {a b c:AH},a.length=b.length->b.length=c.length->HT.lexLt a b=true->HT.lexLt b c=true->HT.lexLt a c=true
 | [],[],[],_,_,h,_=>h
 | x::a,y::b,z::c,h1,h2,h3,h4=>by
  have h3':(if x=y then HT.lexLt a b else decide (x<y))=true:=h3;have h4':(if y=z then HT.lexLt b c else decide (y<z))=true:=h4;change (if x=z then HT.lexLt a c else decide (x<z))=true;by_cases e1:x=y;by_cases e2:y=z;rw[if_pos e1] at h3';rw[if_pos e2] at h4';rw[if_pos (e1.trans e2)];show zaT (by simpa using h1) (by simpa using h2) h3' h4';grind;grind
 | [],_::_,_,h,_,_,_=>by simp at h
 | _::_,[],_,h,_,_,_=>by simp at h
 | [],[],_::_,_,h,_,_=>by simp at h
 | _::_,_::_,[],_,h,_,_=>by simp at h
theorem uO:∀ {a b:AH},a.length=b.length->a=b\/HT.lexLt a b=true\/HT.lexLt b a=true
 | [],[],_=>.inl BC
 | [],_::_,h=>by simp at h
 | _::_,[],h=>by simp at h
 | x::a,y::b,h=>by
  change _\/(if x=y then HT.lexLt a b else decide (x<y))=true\/(if y=x then HT.lexLt b a else decide (y<x))=true;by_cases e:x=y
  ·subst e;rw[if_pos rfl,if_pos rfl];rcases uO (a:=a) (b:=b) (by simpa using h) with h1 | h1 | h1
   all_goals right
  ·rw[if_neg e,if_neg (Ne.symm e)];rcases Int.lt_or_gt_of_ne e with h1 | h1
   all_goals right
theorem zgG {α:Type}{p q:α->Bool}:∀ {l:List α},(∀x∈l,p x=true->q x=true)->(∃x∈l,p x=false/\q x=true)->l.countP p<l.countP q
 | [],_,h=>by right
 | y::l,h,k=>by
  have hle:l.countP p<=l.countP q:=List.countP_mono_left λx hx hp=>h x (ao _ hx) hp;rw[List.countP_cons,List.countP_cons];obtain⟨x,hx,hp,hq⟩:=k;rcases aG.mp hx with rfl | hx;rw[hp,hq];simp;lia;have ih:=zgG (l:=l) (λz hz=>h z (ao _ hz)) #[x,hx,hp,hq];grind
def zch (BG:AG)(i:Nat):Int:=(BG.countP λc=>HT.lexLt c (BG.getD i [])  : Nat)
def xg {BG:AG}{m:Nat}(hm:∀st∈BG,st.length=m){i j:Nat}(hi:i<BG.length)(hj:j<BG.length):decide (zch BG i<zch BG j)=HT.lexLt (BG.getD i []) (BG.getD j []):=by
 have gi:BG.getD i []∈BG:=by rw[aD,aj hi];show bu hi
 have gj:BG.getD j []∈BG:=by rw[aD,aj hj];show bu hj
 have mono:∀ {a b:AH},a∈BG->b∈BG->HT.lexLt a b=true->(BG.countP λc=>HT.lexLt c a)<(BG.countP λc=>HT.lexLt c b):=λ{a b} ha hb hab=>
  zgG (λx hx hp=>zaT ((hm x hx).trans (hm a ha).symm) ((hm a ha).trans (hm b hb).symm) hp hab) #[a,ha,xx a,hab]
 unfold zch;generalize BG.getD i []=a at gi;generalize BG.getD j []=b at gj;rcases uO (a:=a) (b:=b) ((hm a gi).trans (hm b gj).symm) with h | h | h;subst h;rw[xx];right
 all_goals grind
def uy (h:Heap)(L:Addr):AB:=(List.range h.objs.size).filterMap λb=>if b=L then none else (h.get? b).map λo=>(b,o)
def zH {h:Heap}{L b:Addr}{o:Obj}:(b,o)∈uy h L↔b≠L/\h.get? b=some o:=by
 unfold uy;rw[cZ];constructor;rintro⟨c,hc,e⟩;by_cases hL:c=L;right;rw[if_neg hL] at e;obtain⟨o',ho,e2⟩:=aB.mp e;grind;rintro⟨hL,ho⟩;show#[b,aZ.mpr (ax ho),by right]
def zrB {h:Heap}{L:Addr}{m m':AJ}(a:h.Ns L m)(b:h.Ns L m'):m=m':=by
 obtain⟨o,es,ep,ho,hd,hk,hf⟩:=a;obtain⟨o',es',ep',ho',hd',hk',hf'⟩:=b;grind
section
variable {X:Cx}
def uR {P:Ab}{w:Ac}{H:Hp}{h:Heap}{a:Addr}{o:HO}(x:z8 P w H h a o):∃u,h.get? a=some u:=by
 cases o with
 | lst xs=>obtain⟨_,_,_,_,e⟩:=x;show#[_,e]
 | tup xs=>obtain⟨_,_,_,p⟩:=x;obtain⟨o,e,_⟩:=p;show#[o,e]
 | dK BE=>obtain⟨_,_,_,_,o,_,_,e,_⟩:=x;show#[_,e]
 | dT BE=>obtain⟨_,_,_,_,o,_,_,e,_⟩:=x;show#[_,e]
 | set S n=>obtain⟨o,_,_,_,e,_⟩:=x;show#[_,e]
 | ins C dx fs=>obtain⟨_,_,_,e,_⟩:=x;show#[_,e]
 | own y=>show x
 | xd fs=>obtain⟨_,⟨_,_,_,e,_⟩,_⟩:=x;show#[_,e]
 | met f y=>show#[_,x]
 | rng lo hi=>obtain⟨_,_,_,e⟩:=x;show#[_,e]
 | frz o u=>obtain⟨e,_⟩:=x;show#[_,e]
 | tbl ps=>show#[_,x]
 | ext φ=>obtain⟨_,e,_⟩:=x;show e
def zcc {BD:AB}{G:St}{H:Hp}{s:Aa}(I:Inv X BD G H s){m:AJ}(hm:s.heap.Ns X.env.locals m){h':Heap}{BI:Addr}{ys:AU}{its:AO}{c:Nat}
  (kp:∀b o,b≠X.env.locals->s.heap.get? b=some o->h'.get? b=some o) (ns':h'.Ns X.env.locals m) (hDn:s.heap.get? BI=none) (hD:H BI=none)
  (ho:h'.get? BI=some { cls:=.type "list",data:=.seq its.toArray c }) (hv:z9 ys its) (hz:ys.length<=sizeLine) (tk:Nat):Inv X BD G (upd H BI (.lst ys)) { s with heap:=h',toks:=tk }:=by
 have nD:∀b o,s.heap.get? b=some o->b≠BI:=λb o e z=>by rw[z,hDn] at e;cases e
 have nL:∀b u,H b=some u->b≠X.env.locals:=λb u e=>zb e I.free;show Inv.step (ch:=[]) (g':=s.gens) (d':=s.drawn) (t':=tk) I (λb hb=>by simp at hb) (λb o h1 _ _ h4 _=>kp b o h1 h4) (λb o h1 _ _ h4 _=>#[o.slots,kp b o h1 h4]) (λb o _ h4 h5=>by rw[ze (nD b o h4)];show h5) (λb o _ h4=>?_) (λb ys q=>by rw[ze (zb q hD)];show q) (λb o u q=>by rw[ze (zb q hD)];show q) (λb ps q=>#[#v[],by rw[ze (zb q hD),dQ];show q]) (λm' hm'=>by rw[<- zrB hm hm'];show ns') (λb u hb=>?_) I.bare;by_cases hL:b=X.env.locals;obtain⟨o',_,_,h1,_⟩:=ns';right;show#[o,kp b o hL h4];by_cases hbD:b=BI;subst hbD;rw[zj] at hb;cases hb;show#[hz,its,c,hv,ho];rw[ze hbD] at hb;show (I.hok b u hb).stay (λc v hcv q=>kp c v ?_ q) (λc q=>by rw[ze (zb q hD)];show q) (λc ys q=>by rw[ze (zb q hD)];show q);grind
theorem zgo {BD:AB}{G:St}{H:Hp}{s:Aa}(I:Inv X BD G H s):∀ {BG:AG} {vs:AU} {its:AO},IsL H (BG.map stD) vs->z9 vs its->∀ {i:Nat},i<BG.length->∃ (a:Addr) (items:AO),vs.getD i .non = .ref a/\its.getD i .none = .ref a/\IsTup s.heap a items.toArray/\z9 ((BG.getD i []).map V.int) items/\a≠X.env.locals
 | [],_,_,_,_,i,hi=>by simp at hi
 | st::BG,_,_,h,hv,i,hi=>by
  obtain⟨x,r,rfl,⟨a,xs,rfl,ha,hxs⟩,hr⟩:=h;obtain rfl:=hxs.of_ints
  cases hv with
  | cons r1 rr=>
   cases r1
   cases i with
   | zero=>
    obtain⟨items,rv,pt,_⟩:=I.tuple (.of ha);show#[a,items,BC,BC,pt,rv,zb ha I.free]
   | succ i=>
    obtain⟨a',items,e1,e2,e3,e4,e5⟩:=zgo I (BG:=BG) hr rr (i:=i) (by simpa using hi);show#[a',items,by simpa using e1,by simpa using e2,e3,by simpa using e4,e5]
theorem zkT {BD:AB}{G:St}{H:Hp}{s:Aa}(I:Inv X BD G H s){h':Heap}(kp:∀b o,b≠X.env.locals->s.heap.get? b=some o->h'.get? b=some o):∀ {BG:AG} {vs:AU} {its:AO},IsL H (BG.map stD) vs->z9 vs its->(∀st∈BG,1<=st.length)->∃fs,W.KatTups h' its fs/\fs.length=BG.length/\∀f∈fs,∃a t,f = .int a t
 | [],_,_,h,hv,_=>by cases h;cases hv;show#[[],trivial,BC,λ_ h=>by simp at h]
 | st::BG,_,_,h,hv,h1=>by
  obtain⟨x,r,rfl,⟨a,xs,rfl,ha,hxs⟩,hr⟩:=h;obtain rfl:=hxs.of_ints
  cases hv with
  | cons r1 rr=>
   cases r1;obtain⟨items,rv,pt,_⟩:=I.tuple (.of ha);obtain⟨o,ho,hc,n,hd⟩:=pt;obtain⟨fs,f1,f2,f3⟩:=zkT I kp (BG:=BG) hr rr λz hz=>h1 z (ao _ hz);have hst:=h1 st am
   match st,rv,hst with
   | z::zs,rv,_=>
    cases rv with
    | cons q1 qq=>
     obtain⟨t,rfl⟩:=q1;show#[_::fs,#[#[a,o,_,n,BC,kp a o (zb ha I.free) ho,hc,hd,BC],f1],by right,λf hf=>?_];rcases aG.mp hf with rfl | hf
     all_goals right
def zsx:AU->Hp->VK->Prop:=λxs H Q=>∃ (l:Addr) (vs:AU) (BG:AG) (m:Nat),xs=[.ref l]/\Rd H l (.lst vs)/\IsL H (BG.map stD) vs/\2<=BG.length/\BG.length<64/\1<=m/\(∀st∈BG,st.length=m)/\BG.Nodup/\
 ∀ (ys:AU) (sts':AG),IsL H (sts'.map stD) ys->sts'.Perm BG->(sts'.Pairwise λa b=>HT.lexLt a b=true)->New H (.lst ys) Q
theorem zgS {H:Hp}{BG:AG}{vs:AU}(h:IsL H (BG.map stD) vs):∀ {p:AS},(∀i∈p,i<BG.length)->IsL H ((p.map λi=>BG.getD i []).map stD) (p.map λi=>vs.getD i .non)
 | [],_=>rfl
 | i::p,hp=>by
  have hi:=hp i am;obtain⟨x,hx,hd⟩:=h.getD (i:=i) (d:=stD (BG.getD i [])) (by simp[hi]);show#[vs.getD i .non,_,BC,?_,zgS h λj hj=>hp j (ao _ hj)];right
theorem zfx {vs:AU}{its:AO}(h:z9 vs its):∀ (p:AS),(∀i∈p,i<vs.length)->z9 (p.map λi=>vs.getD i .non) (p.map λi=>its.getD i .none)
 | [],_=>.nil
 | i::p,hp=>by
  have hi:=hp i am;obtain⟨u,hu,ru⟩:=h.get (i:=i) (x:=vs[i]) (aj hi);show .cons ?_ (zfx h p λj hj=>hp j (ao _ hj));right
def zbn {α:Type}(d:α)(l:List α):(List.range l.length).map (λi=>l.getD i d)=l:=by show dB (by simp) λi h1 h2=>?_;simp[h2]
def zln:CallQ X (.builtin "sorted") zsx:=#[by
 intro BD s G H xs us Q I r h;obtain⟨l,vs,BG,m,rfl,hl,hsts,h2,h64,hm1,hm,hnd,q⟩:=h;obtain⟨u,rfl,ru⟩:=zak r;cases ru;obtain⟨its,rv,pl,hz⟩:=I.list (.inl hl);have hvl:=hsts.length;rw[ab] at hvl;have hil:=rv.length;obtain⟨m0,hns,_⟩:=id I.loc;show W.kat_sorted (h₀:=(#[#v[],{}]:Heap)) (L:=X.env.locals) (m:=m0) (news:=uy s.heap X.env.locals) #[hns,λb o e=>?_,aS _] (λp hp=>?_) pl.isList (by lia) (by lia) λBI e1 h' F N hDlt=>?_;have:=ax e;simp at this;obtain⟨b,o⟩:=p;have:=zH.mp hp;show#[this.2,this.1,?_]
 cases e:(#[#v[],{}]:Heap).get? b with
 | none=>rfl
 | some o'=>
  have:=ax e;simp at this
 ·have kp:∀b o,b≠X.env.locals->s.heap.get? b=some o->h'.get? b=some o:=λb o hb e=>(N (b,o) (ao _ (zH.mpr #[hb,e]))).1;obtain⟨fs,k1,k2,k3⟩:=zkT I kp hsts rv λst hst=>by rw[hm st hst];show hm1
  show W.kat_kind (T:=.type "int") (s:={ s with heap:=h' }) k1 (by lia) (λf hf=>?_) (by ext) ?_;obtain⟨a,t,rfl⟩:=k3 f hf;intro A' Q' E' s' _ hq;show cJ (eL s' a t) hq
  ·have hu:zbV BG.length (zch BG):=λi j hi hj e=>by
    have e1:=xg hm hi hj;have e2:=xg hm hj hi;rw[e,aT (fR _)] at e1;rw[e,aT (fR _)] at e2;have gi:BG.getD i []=BG[i]:=by simp[hi]
    have gj:BG.getD j []=BG[j]:=by simp[hj]
    rcases uO (a:=BG.getD i []) (b:=BG.getD j []) (by right) with h | h | h;rw[gi,gj] at h;show (bM hnd).mp h
    all_goals grind
   obtain⟨p,hrun,hup⟩:=zhf hu h2;rw[show its.length=BG.length by lia];show hrun.wp (S:=λs'=>s'={ s with heap:=h' }) (λi j C s' hi hj hs' hC=>?_) (λs' hs'=>?_) _ BC;subst hs';obtain⟨a1,it1,_,b1,c1,d1,f1⟩:=zgo I hsts rv hi;obtain⟨a2,it2,_,b2,c2,d2,f2⟩:=zgo I hsts rv hj;obtain⟨o1,ho1,_,n1,hd1⟩:=c1;obtain⟨o2,ho2,_,n2,hd2⟩:=c2;change wpAny _ _ (keyLt' _ (its.getD i .none) (its.getD j .none)) C _ _;rw[b1,b2];have gi:(BG.getD i []).length=m:=by right
   have gj:(BG.getD j []).length=m:=by right
   have l1:=d1.length;have l2:=d2.length;rw[ab] at l1 l2;show W.kat_lt (s:={ s with heap:=h' }) (kp _ _ f1 ho1) hd1 (kp _ _ f2 ho2) hd2 ?_;rw[show decide (it1.toArray.size<it2.toArray.size)=false from aT (by simp;lia)];show zdN 0 d1 d2 (by rw[gi,gj]) ?_;have:=hC { s with heap:=h' } BC;rw[show zfz (zch BG) i j=HT.lexLt (BG.getD i []) (BG.getD j []) from xg hm hi hj] at this;show this;subst hs';have hpl:p.toList.Perm (List.range BG.length):=by have:=hup.perm.toList;simpa using this
   have hpi:∀i∈p.toList,i<BG.length:=λi hi=>aZ.mp ((hpl.mem_iff).mp hi);show W.KasFin.intro F N (W.UpdF.head λq' hq'=>?_) λh'' c F'' N''=>?_;show aJ (hDlt q' hq');have kp2:∀b o,b≠X.env.locals->s.heap.get? b=some o->h''.get? b=some o:=λb o hb e=>(N'' (b,o) (ao _ (zH.mpr #[hb,e]))).1;have hDL:BI≠X.env.locals:=(N'' (BI,_) am).2.1
   have hDn:s.heap.get? BI=none:=by
    cases e:s.heap.get? BI with
    | none=>rfl
    | some o=>show absurd (hDlt (BI,o) (zH.mpr #[hDL,e])) (bL _)
   have hHD:H BI=none:=by
    cases e:H BI with
    | none=>rfl
    | some o=>
     obtain⟨o',ho'⟩:=uR (I.hok BI o e);grind
   have hout:=(N'' (BI,_) am).1;have I':=zcc I hns (ys:=p.toList.map λi=>vs.getD i .non) kp2 F''.ns hDn hHD hout (zfx rv p.toList λi hi=>by right) (by rw[ab,hpl.length_eq,aI];show dG (zfo (by lia))) s.toks;show#[.ref BI,_,I',BC,(q _ (p.toList.map λi=>BG.getD i []) (zgS hsts hpi) ?_ ?_).at hHD];have:=hpl.map λi=>BG.getD i [];rwa[zbn] at this;have hps:p.size=BG.length:=x9 hup.perm;rw[cD];intro i j hi hj hij;rw[ab,aX] at hi hj;have hk:=hup.lt_of hij (by lia);rw[cy,cy,du,du];have e1:p.getD i 0=p[i]:=by simp[hi]
   have e2:p.getD j 0=p[j]:=by simp[hj]
   unfold key at hk;rw[e1,e2] at hk;rw[<- xg hm (hpi _ (by simp)) (hpi _ (by simp))];show aN hk]
end
open PySem.Calls PySem.W
def u6 {prog:Ab}{w:Ac}{A:Af}{E:AA}{s:Aa}{a:Addr}{vs:AO}{n:Nat}{P:PySem.Fin->Aa->Prop}(ho:s.heap.get? a=some (seqObj "list" vs.toArray n))(h2:vs.length<2)
  (h:∀h' c,(∀b o,b≠a->s.heap.get? b=some o->h'.get? b=some o)->h'.get? a=some (seqObj "list" vs.toArray c)->P (.done (.ret .none)) { s with heap:=h' }) :
  Ah prog w A (Builtin.«list.sort» #[[.ref a],[]]) P E s:=by
 obtain⟨e1,ho1⟩:∃e1,(s.heap.update a (Obj.mapSeq λ_=>(#v[]:AL))).get? a=some (seqObj "list" #v[] e1):=#[_,get?_update_seq ho λ_=>#v[]];rw[list_sort_plain];show aa (listItems_at ho BC ?_);show aa (listUpdate_at ho BC ?_ (by rw[a9,bp];lia) (aS _));show aa (seqEpoch_at ho1 BC ?_);show aa (wpAny_newTuple ?_ (by change vs.length<=_;rw[bp];lia));show aa (wpAny_newList ?_ (aS _));show bw ?_;change Ah prog w A _ P E { s with heap:=((s.heap.update a (Obj.mapSeq λ_=>(#v[]:AL))).push (seqObj "tuple" vs.toArray 0)).push (seqObj "list" #v[] 0) };dsimp only;have hn2:vs.toArray.size<2:=by rw[a9];lia
 rw[if_pos hn2,if_pos hn2];show aa (ai ?_);show aa (m:=(pure ():StateT SortSt _ _).run _) (ai ?_);have hsnd:(arrOf (SortSt.mk' general' (vs.toArray.zip vs.toArray) #v[] 7 none)).map (λx=>x.snd)=vs.toArray:=by change (vs.toArray.zip vs.toArray).map (λx=>x.snd)=vs.toArray;apply Array.toList_inj.mp;rw[Array.toList_map,Array.toList_zip];show List.map_snd_zip (ak _)
 have ha:a<s.heap.objs.size:=ax ho;have g3:(((s.heap.update a (Obj.mapSeq λ_=>(#v[]:AL))).push (seqObj "tuple" vs.toArray 0)).push (seqObj "list" #v[] 0)).get? a=some (seqObj "list" #v[] e1):=af _ (af _ ho1);show aa (seqEpoch_at g3 BC ?_);show aa (listUpdate_at g3 BC ?_ (aS _) ?_);change wpAny _ _ _ _ _ _;dsimp only;rw[hsnd];simp only[bne_self_eq_false,aQ,if_false];show ai (h _ _ (λb o hb e=>?_) (get?_update_seq g3 λ_=>vs.toArray));rw[eV _ _ _ _ hb];show af _ (af _ ?_);rw[eV _ _ _ _ hb];show e;dsimp only;rw[hsnd,a9,bp];lia
def zfm {prog:Ab}{w:Ac}{A:Af}{E:AA}{s:Aa}{l:Addr}{vs:AO}{Q:AA}(hl:s.heap.IsList l vs.toArray)(h2:vs.length<2)
  (h:∀BI h' c,(∀b o,s.heap.get? b=some o->h'.get? b=some o)->s.heap.get? BI=none->h'.get? BI=some (seqObj "list" vs.toArray c)->Q (.ref BI) { s with heap:=h' }) :
  Ah prog w A (call (.builtin "sorted") [.ref l]) Q E s:=by
 show Calls.call_function_entry kind_sorted plain_sorted entry_sorted (args_sorted1 _) ?_;unfold Builtin.«sorted»;show aa (m:=checkCount "sorted" 1 1 _) (ai ?_);show aa (collect_list hl ?_ (by rw[bp];lia));show aa (wpAny_newList ?_ (by rw[bp];lia));have hsz:((s.heap.push (seqObj "list" #v[] 0)).update s.heap.objs.size (Obj.mapSeq (·++vs.toArray))).objs.size=s.heap.objs.size+1:=by right
 have hoL:(((s.heap.push (seqObj "list" #v[] 0)).update s.heap.objs.size (Obj.mapSeq (·++vs.toArray))).push (seqObj "list" vs.toArray 0)).get? (s.heap.objs.size+1)=some (seqObj "list" vs.toArray 0):=by rw[<- hsz];show aw _ BC
 have keep:∀b o,s.heap.get? b=some o->(((s.heap.push (seqObj "list" #v[] 0)).update s.heap.objs.size (Obj.mapSeq (·++vs.toArray))).push (seqObj "list" vs.toArray 0)).get? b=some o:=λb o q=>by have hlt:b<s.heap.objs.size:=ax q;rw[Heap.get?_push_ne _ _ _ (by rw[hsz];show aJ (Nat.lt_succ_of_lt hlt)),eV _ _ _ _ (aJ hlt),Heap.get?_push_ne _ _ _ (aJ hlt)];show q
 change wpAny _ _ _ _ _ { s with heap:=((s.heap.push (seqObj "list" #v[] 0)).update s.heap.objs.size (Obj.mapSeq (·++vs.toArray))).push (seqObj "list" vs.toArray 0) };rw[hsz];show aa (bw (a6 slot_list_sort #[_,hoL,BC] entry_list_sort ?body (args_list_sort _)))
 case body=>
  show u6 (s:={ s with heap:=((s.heap.push (seqObj "list" #v[] 0)).update s.heap.objs.size (Obj.mapSeq (·++vs.toArray))).push (seqObj "list" vs.toArray 0) }) hoL h2 λh' c kp hD=>?_;show#[_,BC,ai #[_,BC,h _ _ _ (λb o e=>kp b o (aJ (Nat.lt_succ_of_lt (ax e))) (keep b o e)) ?_ hD]];show Heap.get?_none_of_le (cQ _)
section
variable {X:Cx}
def zpL:AU->Hp->VK->Prop:=λxs H Q=>∃ (l:Addr) (vs:AU) (BG:AG) (m:Nat),xs=[.ref l]/\Rd H l (.lst vs)/\IsL H (BG.map stD) vs/\BG.length<64/\1<=m/\(∀st∈BG,st.length=m)/\BG.Nodup/\
 ∀ (ys:AU) (sts':AG),IsL H (sts'.map stD) ys->sts'.Perm BG->(sts'.Pairwise λa b=>HT.lexLt a b=true)->New H (.lst ys) Q
def znM:CallQ X (.builtin "sorted") zpL:=#[by
 intro BD s G H xs us Q I r h;obtain⟨l,vs,BG,m,rfl,hl,hsts,h64,hm1,hm,hnd,q⟩:=h;by_cases h2:2<=BG.length;show zln.run _ _ _ _ _ _ _ I r #[l,vs,BG,m,BC,hl,hsts,h2,h64,hm1,hm,hnd,q];obtain⟨u,rfl,ru⟩:=zak r;cases ru;obtain⟨its,rv,pl,hz⟩:=I.list (.inl hl);have hvl:=hsts.length;rw[ab] at hvl;have hil:=rv.length;obtain⟨m0,hns,_⟩:=id I.loc;show zfm pl.isList (by lia) λBI h' c kp hDn hD=>?_
 have hHD:H BI=none:=by
  cases e:H BI with
  | none=>rfl
  | some o=>
   obtain⟨o',ho'⟩:=uR (I.hok BI o e);grind
 have I':=zcc I hns (ys:=vs) (λb o _ e=>kp b o e) (by obtain⟨o,es,ep,g,k⟩:=hns;show#[o,es,ep,kp _ _ g,k]) hDn hHD hD rv (by grind) s.toks;show#[.ref BI,_,I',BC,(q _ BG hsts (List.Perm.refl _) ?_).at hHD]
 match BG,h2 with
 | [],_=>show .nil
 | [_],_=>show dR _ _
 | _::_::_,h2=>show absurd (by simp) h2]
end
def Ris (xs:Array Nat):Prop:=∀i j:Nat,i<j->j<xs.size->xs.getD i 0<xs.getD j 0
theorem zdw {xs:Array Nat}(hr:Ris xs){j:Nat}:∀ (fuel lo hi:Nat),lo<=hi->hi<=xs.size->hi - lo<=fuel->(∀i,i<lo->xs.getD i 0<j)->(∀i,hi<=i->i<xs.size->j<=xs.getD i 0)->
  ∃p,SetTable.below.go xs j fuel lo hi=p/\p<=xs.size/\(∀i,i<p->xs.getD i 0<j)/\(∀i,p<=i->i<xs.size->j<=xs.getD i 0)
 | 0,lo,hi,h1,h2,h3,h4,h5=>by
  have:lo=hi:=by lia
  subst this;show#[lo,BC,h2,h4,h5]
 | fuel+1,lo,hi,h1,h2,h3,h4,h5=>by
  change ∃p,(if lo<hi then if xs.getD ((lo+hi) / 2) j<j then SetTable.below.go xs j fuel ((lo+hi) / 2+1) hi else SetTable.below.go xs j fuel lo ((lo+hi) / 2) else lo)=p/\_;by_cases hl:lo<hi;rw[if_pos hl];have hm:(lo+hi) / 2<xs.size:=by lia
  have e:xs.getD ((lo+hi) / 2) j=xs.getD ((lo+hi) / 2) 0:=by simp[hm]
  rw[e];by_cases hc:xs.getD ((lo+hi) / 2) 0<j;rw[if_pos hc];show zdw hr fuel _ hi (by lia) h2 (by lia) (λi hi'=>?_) h5;by_cases q:i=(lo+hi) / 2;rw[q];show hc;have:=hr i ((lo+hi) / 2) (by lia) hm;lia;rw[if_neg hc];show zdw hr fuel lo _ (by lia) (by lia) (by lia) h4 (λi hi' hs=>?_);by_cases q:i=(lo+hi) / 2;rw[q];lia;have:=hr ((lo+hi) / 2) i (by lia) hs;lia;rw[if_neg hl];have:lo=hi:=by lia
  subst this;show#[lo,BC,h2,h4,h5]
def xW {xs:Array Nat}(hr:Ris xs)(j:Nat):SetTable.below xs j<=xs.size/\(∀i,i<SetTable.below xs j->xs.getD i 0<j)/\(∀i,SetTable.below xs j<=i->i<xs.size->j<=xs.getD i 0):=by obtain⟨p,e,h⟩:=zdw hr (j:=j) xs.size 0 xs.size (aS _) (ak _) (ak _) (λi h=>absurd h (ck _)) (λi h1 h2=>by lia);have e':SetTable.below xs j=p:=e;rw[e'];show h
def xQ {xs:Array Nat}{i j:Nat}(h:xs[i]?=some j):i<xs.size/\xs.getD i 0=j:=by
 obtain⟨h1,h2⟩:=cr.mp h;right
def zfT {xs:Array Nat}{i:Nat}(h:i<xs.size):xs[i]?=some (xs.getD i 0):=by simp[h]
def zk8 {xs:Array Nat}(hr:Ris xs){i j:Nat}(h:xs[i]?=some j):SetTable.below xs j=i:=by
 obtain⟨h1,h2⟩:=xQ h;obtain⟨b1,b2,b3⟩:=xW hr j;rcases ci (SetTable.below xs j) i with q | q | q;have:=b3 _ (ak _) (by lia);have:=hr _ i q h1;lia;show q;have:=b2 i q;lia
def za4 {t:SetTable}(hr:Ris t.place){i j:Nat}(h:t.place[i]?=some j):t.slot j = .live i:=by unfold SetTable.slot;rw[zk8 hr h];simp[h]
def zkK {t:SetTable}(hd:t.dummies = #v[]){j:Nat}(h:∀i:Nat,t.place[i]?≠some j):t.slot j = .empty:=by
 unfold SetTable.slot;have e:(t.place[SetTable.below t.place j]?==some j)=false:=by grind
 have e2:SetTable.has t.dummies j=false:=by rw[hd];rfl
 right
def zpZ {t:SetTable}(hr:Ris t.place)(hd:t.dummies = #v[])(j:Nat):(t.slot j = .empty/\∀i:Nat,t.place[i]?≠some j)\/∃i,t.slot j = .live i/\t.place[i]?=some j:=by
 by_cases h:∃i:Nat,t.place[i]?=some j;obtain⟨i,hi⟩:=h;show .inr #[i,za4 hr hi,hi];have h':∀i:Nat,t.place[i]?≠some j:=λi e=>h #[i,e];show .inl #[zkK hd h',h']
def tm (mask:Nat):SetTable:=#[mask,#v[],#v[],0,true,0,true]
def stp (mask:Nat)(h:Int):Nat->SetTable.Probe
 | 0=>(tm mask).probeStart h
 | n+1=>(tm mask).advance (stp mask h n)
def wk (mask:Nat)(h:Int)(n:Nat):Nat:=(stp mask h n).j
def zii (mask:Nat)(p:SetTable.Probe):((tm mask).advance p).dummy=p.dummy:=by unfold SetTable.advance;split <;> rfl
theorem zfr (mask:Nat)(h:Int):∀n,(stp mask h n).dummy=none
 | 0=>rfl
 | n+1=>by change ((tm mask).advance _).dummy=none;rw[zii,zfr mask h n]
def zdu (mask:Nat)(p:SetTable.Probe)(h:0<p.more):(tm mask).advance p={ p with j:=p.j+1,more:=p.more - 1 }:=by unfold SetTable.advance;rw[if_pos h]
def zbL (mask:Nat)(p:SetTable.Probe)(h:p.more=0):(tm mask).advance p={ p with j:=(p.i * 5+1+p.perturb / 32) % (mask+1),more:=SetTable.runEnd mask ((p.i * 5+1+p.perturb / 32) % (mask+1)) - (p.i * 5+1+p.perturb / 32) % (mask+1),i:=(p.i * 5+1+p.perturb / 32) % (mask+1),perturb:=p.perturb / 32 }:=by unfold SetTable.advance;rw[if_neg (by lia)];rfl
def lp (mask:Nat)(h:Int):Nat->Nat×Nat
 | 0=>(SetTable.bits h % (mask+1),SetTable.bits h)
 | n+1=>SetTable.leap mask (lp mask h n).1 (lp mask h n).2
def znq (mask i:Nat):SetTable.runEnd mask i - i<=9:=by unfold SetTable.runEnd;split <;> lia
theorem zeg (mask:Nat)(h:Int){T i q:Nat}(e:stp mask h T=#[i,SetTable.runEnd mask i - i,i,q,none]):∀k,k<=SetTable.runEnd mask i - i->stp mask h (T+k)=#[i+k,SetTable.runEnd mask i - i - k,i,q,none]
 | 0,_=>e
 | k+1,hk=>by
  change (tm mask).advance (stp mask h (T+k))=_;rw[zeg mask h e k (by lia),zdu mask _ (by lia)];grind
theorem zju (mask:Nat)(h:Int):∀k,∃T,T<=10 * k/\stp mask h T=#[(lp mask h k).1,SetTable.runEnd mask (lp mask h k).1 - (lp mask h k).1,(lp mask h k).1,(lp mask h k).2,none]
 | 0=>#[0,ak _,BC]
 | k+1=>by obtain⟨T,hT,e⟩:=zju mask h k;have hr:=znq mask (lp mask h k).1;show#[T+(SetTable.runEnd mask (lp mask h k).1 - (lp mask h k).1)+1,by lia,?_];change (tm mask).advance (stp mask h (T+_))=_;rw[zeg mask h e _ (ak _),zbL mask _ (gf _)];rfl
theorem zdb (mask:Nat)(h:Int):∀k,(lp mask h k).2=SetTable.bits h / 32 ^ k
 | 0=>by change SetTable.bits h=_;simp
 | k+1=>by change (lp mask h k).2 / 32=_;rw[zdb mask h k,Nat.div_div_eq_div_mul,Nat.pow_succ]
def znH (h:Int):SetTable.bits h<2 ^ 64:=by
 unfold SetTable.bits;grind
def lcg (m i:Nat):Nat:=(i * 5+1) % m
def orb (m:Nat):Nat->Nat->Nat
 | 0,i=>i
 | k+1,i=>lcg m (orb m k i)
theorem zjD (mask:Nat)(h:Int):∀k,(lp mask h (13+k)).1=orb (mask+1) k (lp mask h 13).1
 | 0=>rfl
 | k+1=>by
  change ((lp mask h (13+k)).1 * 5+1+(lp mask h (13+k)).2 / 32) % (mask+1)=lcg (mask+1) (orb (mask+1) k _);rw[<- zjD mask h k,zdb];have hb:=znH h
  have e:SetTable.bits h / 32 ^ (13+k)=0:=by
   show Nat.div_eq_of_lt (aL hb ?_)
   calc 2 ^ 64<=32 ^ 13:=by ext
    _<=32 ^ (13+k):=cF (by ext) (by lia)
  rw[e];rfl
theorem zcx (m:Nat)(a:Nat):∀ (b i:Nat),orb m (a+b) i=orb m b (orb m a i)
 | 0,i=>rfl
 | b+1,i=>by change lcg m (orb m (a+b) i)=lcg m (orb m b _);rw[zcx m a b i]
def zqp (m:Nat):Nat->Nat->AS
 | 0,_=>[]
 | n+1,i=>i::zqp m n (lcg m i)
def zl4 (m:Nat)(k i:Nat):orb m (k+1) i=orb m k (lcg m i):=by rw[Nat.add_comm,zcx];rfl
theorem zd3 (m:Nat):∀ (n i k:Nat),k<n->(zqp m n i)[k]?=some (orb m k i)
 | n+1,i,0,_=>rfl
 | n+1,i,k+1,h=>by rw[zl4];show zd3 m n (lcg m i) k (by lia)
theorem zg4 (m:Nat):∀ (n i:Nat),(zqp m n i).length=n
 | 0,_=>rfl
 | n+1,i=>by change (zqp m n _).length+1=n+1;rw[zg4 m n]
structure Ring (m:Nat):Prop where
 pos:0<m
 all:∀v,v<m->v∈zqp m m 0
 back:orb m m 0=0
def Ring.reach {m:Nat}(r:Ring m){i j:Nat}(hi:i<m)(hj:j<m):∃k,k<m/\orb m k i=j:=by
 obtain⟨a,ha,ea⟩:=cb.mp (r.all i hi);obtain⟨b,hb,eb⟩:=cb.mp (r.all j hj);rw[zg4] at ha hb
 have ea':orb m a 0=i:=by
  have:=zd3 m m 0 a ha;right
 have eb':orb m b 0=j:=by
  have:=zd3 m m 0 b hb;right
 by_cases hab:a<=b;show#[b - a,by lia,?_];rw[<- ea',<- zcx,show a+(b - a)=b by lia];show eb';show#[b+m - a,by lia,?_];rw[<- ea',<- zcx,show a+(b+m - a)=m+b by lia,zcx,r.back];show eb'
def zsI (m:Nat):Bool:=((List.range m).all λv=>(zqp m m 0).contains v)&&orb m m 0==0
def zea {m:Nat}(h0:0<m)(h:zsI m=true):Ring m:=by
 unfold zsI at h;rw[aU] at h;show#[h0,λv hv=>?_,eS h.2];right
def zvv:Ring 8:=zea (by ext) (by decide +kernel)
def zsH:Ring 32:=zea (by ext) (by decide +kernel)
def zpO:Ring 128:=zea (by ext) (by decide +kernel)
def zpP:Ring 512:=zea (by ext) (by decide +kernel)
def zmP {mask:Nat}(r:Ring (mask+1))(h:Int){j:Nat}(hj:j<=mask):∃n,n<10 * SetTable.turns mask/\wk mask h n=j:=by have hb:(lp mask h 13).1<mask+1:=el _ (dO _);obtain⟨k,hk,e⟩:=r.reach hb (fK hj);obtain⟨T,hT,eT⟩:=zju mask h (13+k);show#[T,by unfold SetTable.turns;lia,?_];change (stp mask h T).j=j;rw[eT];change (lp mask h (13+k)).1=j;rw[zjD,e]
def zpR {xs:Array Nat}(hr:Ris xs){i j a b:Nat}(hi:xs[i]?=some a)(hj:xs[j]?=some b)(h:a<b):i<j:=by
 obtain⟨h1,h2⟩:=xQ hi;obtain⟨h3,h4⟩:=xQ hj;rcases ci i j with q | q | q;show q;subst q;lia;have:=hr j i q h1;lia
theorem zhb {xs:Array Nat}(hr:Ris xs):∀ (M:Nat),(∀j,j<M->∃i:Nat,xs[i]?=some j)->∀ (j i:Nat),j<M->xs[i]?=some j->j<=i
 | _,_,0,_,_,_=>aS _
 | M,h,j+1,i,hj,e=>by obtain⟨i',e'⟩:=h j (by lia);have h1:=zpR hr e' e (Nat.lt_succ_self j);have h2:=zhb hr M h j i' (by lia) e';lia
def zpQ {xs:Array Nat}(hr:Ris xs){M:Nat}(h:xs.size<M):∃j,j<M/\∀i:Nat,xs[i]?≠some j:=by show cE λhn=>?_;have all:∀j,j<M->∃i:Nat,xs[i]?=some j:=λj hj=>cE λhc=>hn #[j,hj,λi e=>hc #[i,e]];obtain⟨i,e⟩:=all (M - 1) (by lia);have h1:=zhb hr M all (M - 1) i (by lia) e;have h2:=(xQ e).1;lia
section
variable {t:SetTable}{hashAt:Nat->Int}{h:Int}
theorem zd5 (hr:Ris t.place)(hd:t.dummies = #v[]):∀ (fuel n:Nat),(∃N,n<=N/\N<n+fuel/\∀i:Nat,t.place[i]?≠some (wk t.mask h N))->
  ∃N,n<=N/\(∀m,n<=m->m<N->∃i,t.place[i]?=some (wk t.mask h m)/\hashAt i≠h)/\
   (((∀i:Nat,t.place[i]?≠some (wk t.mask h N))/\SetTable.probe.go t hashAt h fuel (stp t.mask h n)=some (.empty (wk t.mask h N) none))\/
    ∃i,t.place[i]?=some (wk t.mask h N)/\hashAt i=h/\SetTable.probe.go t hashAt h fuel (stp t.mask h n)=some (.candidate (wk t.mask h N) i (stp t.mask h (N+1))))
 | 0,n,⟨N,h1,h2,_⟩=>by lia
 | fuel+1,n,⟨N,h1,h2,h3⟩=>by
  rcases zpZ hr hd (wk t.mask h n) with ⟨e,hn⟩ | ⟨i,e,hi⟩;show#[n,ak _,λm a b=>by lia,.inl #[hn,?_]];change (match t.slot (wk t.mask h n) with | .empty=>some (SetTable.Met.empty (wk t.mask h n) (stp t.mask h n).dummy) | .dummy=>_ | .live i=>_)=_;rw[e,zfr];by_cases hh:hashAt i=h;show#[n,ak _,λm a b=>by lia,.inr #[i,hi,hh,?_]];change (match t.slot (wk t.mask h n) with | .empty=>_ | .dummy=>_ | .live i=>if hashAt i==h then some (SetTable.Met.candidate (wk t.mask h n) i (t.advance (stp t.mask h n))) else _)=_;rw[e];change (if (hashAt i==h)=true then _ else _)=_;rw[if_pos (beq_iff_eq.mpr hh)];rfl;have hN:n≠N:=λz=>by subst z;show h3 i hi
  obtain⟨N',a1,a2,a3⟩:=zd5 hr hd fuel (n+1) #[N,by lia,by lia,h3];have e2:SetTable.probe.go t hashAt h (fuel+1) (stp t.mask h n)=SetTable.probe.go t hashAt h fuel (stp t.mask h (n+1)):=by change (match t.slot (wk t.mask h n) with | .empty=>_ | .dummy=>_ | .live i=>if hashAt i==h then _ else SetTable.probe.go t hashAt h fuel (t.advance (stp t.mask h n)))=_;rw[e];change (if (hashAt i==h)=true then _ else _)=_;rw[if_neg (λz=>hh (beq_iff_eq.mp z))];rfl
  show#[N',by lia,λm b1 b2=>?_,?_];by_cases hm:m=n;subst hm;show#[i,hi,hh];show a2 m (by lia) b2;right
variable {prog:Ab}{w:Ac}
abbrev tk (prog:Ab)(w:Ac):HeapKind prog w (List Key):=tupleKind (zy prog w)
def ztR (t:SetTable)(h:Int)(i:Nat):Prop:=∃n,n<10 * SetTable.turns t.mask/\t.place[i]?=some (wk t.mask h n)/\∀m,m<n->∃i':Nat,t.place[i']?=some (wk t.mask h m)
def xJ (m:Nat):Prop:=m=7\/m=31\/m=127\/m=511
def xJ.ring {m:Nat}(h:xJ m):Ring (m+1):=by
 rcases h with rfl | rfl | rfl | rfl;show zvv;show zsH;show zpO;show zpP
def xJ.le {m:Nat}(h:xJ m):7<=m/\m<=511:=by rcases h with rfl | rfl | rfl | rfl <;> lia
def xJ.odd {m:Nat}(h:xJ m):(m % 2==0)=false:=by rcases h with rfl | rfl | rfl | rfl <;> rfl
structure TbG {α:Type}(w:Ac)(hs:α->Int)(vl:α->Value)(t:SetTable)(es:Array (Int×Value))(xs:List α):Prop where
 eq:es.toList=xs.map λq=>(hs q,vl q)
 dm:t.dummies = #v[]
 ris:Ris t.place
 le:∀ (i j:Nat),t.place[i]?=some j->j<=t.mask
 sz:t.place.size=xs.length
 msk:xJ t.mask
 few:xs.length<=t.mask
 plain:t.plain=true
 led:t.led = !w.params.followText "set-order"
 reach:∀ (i:Nat) (q:α),xs[i]?=some q->ztR t (hs q) i
structure Tb (prog:Ab)(w:Ac)(t:SetTable)(es:Array (Int×Value))(xs:List (List Key×Addr)):Prop extends TbG w (λq:List Key×Addr=>(tk prog w).hash q.1) (λq=>Value.ref q.2) t es xs where
 nd:(xs.map (·.1)).Nodup
section
variable {α:Type}{w:Ac}{hs:α->Int}{vl:α->Value}{t:SetTable}{es:Array (Int×Value)}{xs:List α}
def TbG.size (T:TbG w hs vl t es xs):es.size=xs.length:=by rw[<- aX,T.eq,ab]
def TbG.fits (T:TbG w hs vl t es xs):t.fits es.size=true:=by unfold SetTable.fits SetTable.fill;rw[T.size,T.sz,T.dm];have:=T.few;simp;lia
def TbG.empty (T:TbG w hs vl t es xs)(h:Int):∃N,N<10 * SetTable.turns t.mask/\∀i:Nat,t.place[i]?≠some (wk t.mask h N):=by have:=T.few;obtain⟨j,hj,hn⟩:=zpQ T.ris (M:=t.mask+1) (by rw[T.sz];lia);obtain⟨N,h1,h2⟩:=zmP T.msk.ring h (bZ hj);show#[N,h1,by rw[h2];show hn]
end
variable {t:SetTable}{es:Array (Int×Value)}{xs:List (List Key×Addr)}
def Tb.get (T:Tb prog w t es xs){i:Nat}{q:List Key×Addr}(h:xs[i]?=some q):es[i]?=some ((tk prog w).hash q.1,Value.ref q.2):=by rw[<- Array.getElem?_toList,T.eq,aA,h];rfl
def Tb.at' (T:Tb prog w t es xs){i j:Nat}(h:t.place[i]?=some j):∃q,xs[i]?=some q:=by
 have:=(xQ h).1;rw[T.sz] at this;right
variable {A:Af}{E:AA}{s:Aa}
def zfE {k:Key}{v:Value}(h:(zy prog w).is k v=true):(∃i t,v = .int i t)\/∃x t,v = .str x t:=by
 rcases zU h with ⟨i,t,_,e⟩ | ⟨x,t,_,e⟩;show .inl #[i,t,e];show .inr #[x,t,e]
theorem zce:∀ {ks:List Key} {vs:AO},ItemsAre (zy prog w) ks vs->∀v∈vs,(∃i t,v = .int i t)\/∃x t,v = .str x t
 | _,_,.nil,v,h=>by simp at h
 | _,_,.cons h1 h2,v,h=>by
  rcases aG.mp h with rfl | h;show zfE h1;show zce h2 v h
def zde {k:List Key}{b:Addr}{Q:Bool->Aa->Prop}(hk:(tk prog w).is s.heap k b)(h:Q false s):Ah prog w A (ofAClassStatement 8 (.ref b)) Q E s:=by
 have hk':IsTupleKey (zy prog w) s.heap k b:=hk;have hT:=hk'.typeIs;obtain⟨o,items,n,ho,_,hd,hi⟩:=hk';unfold ofAClassStatement;show aa (cJ hT ?_);dsimp only;rw[if_pos (by ext)];show aa (ai ?_);simp only[fS,aQ,if_false];show aa (ce ho hd ?_);show aa ?_;change wpAny _ _ (forIn items _ _) _ _ s;rw[<- Array.forIn_toList];show ga _ (λyD r s'=>r.1=none/\s'=s/\∀v∈yD,(∃i t,v=Value.int i t)\/∃x t,v=Value.str x t) _ ?_ ?_ _ _ #[BC,BC,zce hi]
 ·rintro v yD r s' ⟨hr,rfl,hall⟩;have e:ofAClassStatement 7 v=pure false:=by rcases hall v am with ⟨i,t,rfl⟩ | ⟨x,t,rfl⟩ <;> rfl
  rw[e];show aa (ai ?_);simp only[aQ,if_false];show ai #[BC,BC,λu hu'=>hall u (ao _ hu')]
 rintro⟨r1,r2⟩ s' ⟨hr,rfl,_⟩;simp only at hr;subst hr;show ai h
def ztf {k:List Key}{b:Addr}{Q:Bool->Aa->Prop}(hk:(tk prog w).is s.heap k b):∀ (l:AO),(∀v∈l,∃k' b',v = .ref b'/\(tk prog w).is s.heap k' b')->Q false s->Ah prog w A (searchCouldBeSeen (.ref b) l) Q E s:=by
 intro l hl h;unfold searchCouldBeSeen;show aa ?_;show ga _ (λyD r s'=>r.1=none/\s'=s/\∀v∈yD,∃k' b',v=Value.ref b'/\(tk prog w).is s.heap k' b') _ ?_ ?_ _ _ #[BC,BC,hl]
 ·rintro v yD r s' ⟨hr,rfl,hall⟩;obtain⟨k',b',rfl,hk'⟩:=hall v am;have next:∀u∈yD,∃k' b',u=Value.ref b'/\(tk prog w).is s'.heap k' b':=λu hu'=>hall u (ao _ hu');dsimp only;split
  ·show ai #[BC,BC,next]
  ·show aa ((tk prog w).quiet hk ?_);simp only[fS,aQ,if_false];show aa ((tk prog w).quiet hk' ?_);simp only[fS,aQ,if_false];show aa (zde hk ?_);simp only[aQ,if_false];show aa (zde hk' ?_);simp only[aQ,if_false];show ai #[BC,BC,next]
 rintro⟨r1,r2⟩ s' ⟨hr,rfl,_⟩;simp only at hr;subst hr;show ai h
end
section
variable {prog:Ab}{w:Ac}{t:SetTable}{es:Array (Int×Value)}{xs:List (List Key×Addr)}{A:Af}{E:AA}{s:Aa}
def zeo (t:SetTable)(xs:List (List Key×Addr))(h:Int)(k:List Key)(n:Nat):Prop:=∀m,m<n->∃ (i:Nat) (q:List Key×Addr),t.place[i]?=some (wk t.mask h m)/\xs[i]?=some q/\q.1≠k
theorem zfl {a b:Addr}{o:Obj}{ep:Nat}{k:List Key}{adding:Bool}{Q:SetFound->Aa->Prop}(hu:A.units<cLine)(T:Tb prog w t es xs)(hk:(tk prog w).is s.heap k b)(hel:∀q∈xs,(tk prog w).is s.heap q.1 q.2)
  (ho:s.heap.get? a=some o) (hd:o.data = .set es ep t)
  (found:∀r i q,xs[i]?=some q->q.1=k->(r=none/\adding=true\/r=some i)->Q (.there r) s)
  (free:∀N,N<10 * SetTable.turns t.mask->(∀i:Nat,t.place[i]?≠some (wk t.mask ((tk prog w).hash k) N))->zeo t xs ((tk prog w).hash k) k N->Q (.free (wk t.mask ((tk prog w).hash k) N) false) s) :
  ∀ (fuel n:Nat) (stand:Option SetTable.Probe),stand.getD (t.probeStart ((tk prog w).hash k))=stp t.mask ((tk prog w).hash k) n->10 * SetTable.turns t.mask<n+fuel->n<=10 * SetTable.turns t.mask->zeo t xs ((tk prog w).hash k) k n->
   Ah prog w A (setSearchFrom a (.ref b) ((tk prog w).hash k) adding fuel stand) Q E s
 | 0,n,stand,_,h2,h3,_=>by lia
 | fuel+1,n,stand,h1,h2,h3,h4=>by
  unfold setSearchFrom;show aa (bq ho hd T.fits ?_);dsimp only;rw[show t.gaveWay=false from T.msk.odd];simp only[aQ,if_false];rw[h1];obtain⟨N0,hN0,eN0⟩:=T.empty ((tk prog w).hash k)
  have hn0:n<=N0:=by
   rcases gg N0 n with q | q;obtain⟨i,_,e,_⟩:=h4 N0 q;show absurd e (eN0 i);show q
  have pass:∀N,n<=N->(∀m,n<=m->m<N->∃i:Nat,t.place[i]?=some (wk t.mask ((tk prog w).hash k) m)/\(es[i]?.map (·.1)).getD 0≠(tk prog w).hash k)->zeo t xs ((tk prog w).hash k) k N:=λN hN hh m hm=>by
   rcases gg m n with q | q;show h4 m q;obtain⟨i,e1,e2⟩:=hh m q hm;obtain⟨q,hq⟩:=T.at' e1;show#[i,q,e1,hq,λz=>e2 ?_];rw[T.get hq,<- z];rfl
  obtain⟨N,hN,hp,hc⟩:=zd5 (t:=t) (hashAt:=λi=>(es[i]?.map (·.1)).getD 0) (h:=(tk prog w).hash k) T.ris T.dm (10 * SetTable.turns t.mask) n #[N0,hn0,by lia,eN0]
  have hNle:N<=N0:=by
   rcases gg N0 N with q | q;obtain⟨i,e,_⟩:=hp N0 hn0 q;show absurd e (eN0 i);show q
  rcases hc with ⟨he,hg⟩ | ⟨i,hi,hh,hg⟩;have hg':t.probe (λi=>(es[i]?.map (·.1)).getD 0) ((tk prog w).hash k) (stp t.mask ((tk prog w).hash k) n)=some (.empty (wk t.mask ((tk prog w).hash k) N) none):=hg;have fin:=free N (by lia) he (pass N hN hp);generalize hm:SetTable.probe t _ _ _=met;have:met=some (.empty (wk t.mask ((tk prog w).hash k) N) none):=hm.symm.trans hg';rw[this];dsimp only;show ai fin;have hg':t.probe (λi=>(es[i]?.map (·.1)).getD 0) ((tk prog w).hash k) (stp t.mask ((tk prog w).hash k) n)=some (.candidate (wk t.mask ((tk prog w).hash k) N) i (stp t.mask ((tk prog w).hash k) (N+1))):=hg;generalize hm:SetTable.probe t _ _ _=met;have:met=some (.candidate (wk t.mask ((tk prog w).hash k) N) i (stp t.mask ((tk prog w).hash k) (N+1))):=hm.symm.trans hg';rw[this];dsimp only;obtain⟨q,hq⟩:=T.at' hi;have hqe:=T.get hq;have hqk:=hel q (az hq);have stl:t.slot (wk t.mask ((tk prog w).hash k) N) = .live i:=za4 T.ris hi
  have core:Ah prog w A (do
    let some (_,y):=es[i]? | unsupported "internal:set-entry"
    let equal <- holding [y] (eqBool y (.ref b))
    let (es',_,t') <- setState a
    if adding&&equal then return .there none
    let some smem:=t'.sameMemory t.moves t.mask | unsupported "set.changed-during-lookup:is-the-new-block-at-the-old-address"
    let still <- match (if smem then t'.slot (wk t.mask ((tk prog w).hash k) N) else .empty) with
     | .live i'=>match es'[i']? with
      | some (_,y')=>do pure (if <- isSame y' y then some i' else none)
      | none=>pure none
     | _=>pure none
    match still with
    | none=>rule "set.search.anew";setSearchFrom a (.ref b) ((tk prog w).hash k) adding fuel none
    | some i'=>if equal then return .there (some i') else setSearchFrom a (.ref b) ((tk prog w).hash k) adding fuel (some (stp t.mask ((tk prog w).hash k) (N+1)))) Q E s:=by
   rw[hqe];dsimp only;show aa (bw ((tk prog w).eqBool hu hqk hk ?_));show aa (bq ho hd T.fits ?_);dsimp only;by_cases hkk:q.1=k;rw[aN hkk]
   cases adding with
   | true=>
    simp only[Bool.and_self,if_true];show ai (found none i q hq hkk (.inl #[BC,BC]))
   | false=>
    simp only[Bool.false_and,aQ,if_false];have e1:t.sameMemory t.moves t.mask=some true:=by unfold SetTable.sameMemory;simp
    rw[e1];dsimp only;simp only[if_true];rw[stl];dsimp only;rw[hqe];dsimp only;show aa (wpAny_isSame_ref_self (aa (ai ?_)));simp only[if_true];show ai (found (some i) i q hq hkk (.inr BC))
   rw[aT hkk];simp only[dv,aQ,if_false];have e1:t.sameMemory t.moves t.mask=some true:=by unfold SetTable.sameMemory;simp
   rw[e1];dsimp only;simp only[if_true];rw[stl];dsimp only;rw[hqe];dsimp only;show aa (wpAny_isSame_ref_self (aa (ai ?_)));simp only[if_true];show zfl hu T hk hel ho hd found free fuel (N+1) _ BC (by lia) (by lia) λm hm=>?_;rcases Nat.lt_succ_iff_lt_or_eq.mp hm with z | z;show pass N hN hp m z;subst z;show#[i,q,hi,hq,hkk]
  split;show aa (ztf hk _ (λv hv=>?_) ?_);obtain⟨e,he,rfl⟩:=aq.mp hv;have he':e∈es.toList:=by have:=eG.mp he;show eG.mpr (Array.mem_filter.mp this).1
  rw[T.eq] at he';obtain⟨q',hq',rfl⟩:=aq.mp he';show#[_,_,BC,hel q' hq'];simp only[aQ,if_false];show core;show core
end
def zeE {α:Type}(l:List α)(p:Nat)(x:α):List α:=l.take p++x::l.drop p
def zfX {α:Type}{l:List α}{p i:Nat}{x:α}(hp:p<=l.length)(h:i<p):(zeE l p x)[i]?=l[i]?:=by unfold zeE;rw[bv (by grind),dH h]
def zfV {α:Type}{l:List α}{p:Nat}{x:α}(hp:p<=l.length):(zeE l p x)[p]?=some x:=by
 unfold zeE;right
def zfW {α:Type}{l:List α}{p i:Nat}{x:α}(hp:p<=l.length)(h:p<=i):(zeE l p x)[i+1]?=l[i]?:=by unfold zeE;rw[bm (by grind),aR,show i+1 - min p l.length=(i - p)+1 by lia,bC,List.getElem?_drop,show p+(i - p)=i by lia]
def zdG {α:Type}{l:List α}{p:Nat}{x:α}(hp:p<=l.length):(zeE l p x).length=l.length+1:=by
 unfold zeE;grind
def zlA {α β:Type}(f:α->β)(l:List α)(p:Nat)(x:α):(zeE l p x).map f=zeE (l.map f) p (f x):=by
 unfold zeE;right
def zjc {α:Type}(l:List α)(p:Nat)(x:α):(zeE l p x).Perm (x::l):=by
 unfold zeE;show List.perm_middle.trans ?_;right
def yr {α:Type}(xs:Array α){p:Nat}(x:α):(SetTable.insertAt xs p x).toList=zeE xs.toList p x:=by
 unfold SetTable.insertAt zeE;rw[Array.toList_append,Array.toList_push,Array.toList_extract,Array.toList_extract,List.extract_eq_take_drop,List.extract_eq_take_drop];rw[ge,ez,bY];congr 1;change x::_=_;congr 1;change []++List.take _ (List.drop p xs.toList)=_;rw[eW];show dZ ?_;right
def zbE {α:Type}(xs:Array α)(i:Nat):xs[i]?=xs.toList[i]?:=by right
def zfY {xs:Array Nat}{p j i v:Nat}(hp:p<=xs.size)(h:xs[i]?=some v):(SetTable.insertAt xs p j)[if i<p then i else i+1]?=some v:=by
 rw[zbE,yr];rw[zbE] at h;have hp':p<=xs.toList.length:=by rw[aX];show hp
 split
 ·rename_i hi;rw[zfX hp' hi,h]
 ·rename_i hi;rw[zfW hp' (by lia),h]
def zaQ {xs:Array Nat}{p j i v:Nat}(hp:p<=xs.size)(h:(SetTable.insertAt xs p j)[i]?=some v):(i=p/\v=j)\/(i<p/\xs[i]?=some v)\/∃i',i=i'+1/\p<=i'/\xs[i']?=some v:=by
 rw[zbE,yr] at h;have hp':p<=xs.toList.length:=by rw[aX];show hp
 rcases ci i p with q | q | q;rw[zfX hp' q,<- zbE] at h;right;subst q;rw[zfV hp'] at h;right;obtain⟨i',rfl⟩:∃i',i=i'+1:=#[i - 1,by lia];rw[zfW hp' (by lia),<- zbE] at h;show .inr (.inr #[i',BC,by lia,h])
def zhX {xs:Array Nat}(hr:Ris xs){j:Nat}(hn:∀i:Nat,xs[i]?≠some j):Ris (SetTable.insertAt xs (SetTable.below xs j) j):=by
 obtain⟨b1,b2,b3⟩:=xW hr j;intro i i2 hlt h2;have e1:=zfT (xs:=SetTable.insertAt xs (SetTable.below xs j) j) (i:=i) (by lia);have e2:=zfT h2;generalize (SetTable.insertAt xs (SetTable.below xs j) j).getD i 0=v at e1;generalize (SetTable.insertAt xs (SetTable.below xs j) j).getD i2 0=v2 at e2
 have big:∀i v,SetTable.below xs j<=i->xs[i]?=some v->j<v:=λi v h e=>by
  obtain⟨a1,a2⟩:=xQ e;grind
 have small:∀i v,i<SetTable.below xs j->xs[i]?=some v->v<j:=λi v h e=>by obtain⟨a1,a2⟩:=xQ e;have:=b2 i h;lia
 have mono:∀i i2 v v2,i<i2->xs[i]?=some v->xs[i2]?=some v2->v<v2:=λi i2 v v2 h e e2=>by
  obtain⟨a1,a2⟩:=xQ e;obtain⟨a3,a4⟩:=xQ e2;have:=hr i i2 h a3
  omega
 rcases zaQ b1 e1 with ⟨rfl,rfl⟩ | ⟨q,e⟩ | ⟨i',rfl,q,e⟩;rcases zaQ b1 e2 with ⟨rfl,rfl⟩ | ⟨q',e'⟩ | ⟨i'',rfl,q',e'⟩;lia;lia;show big _ _ q' e';rcases zaQ b1 e2 with ⟨rfl,rfl⟩ | ⟨q',e'⟩ | ⟨i'',rfl,q',e'⟩;show small _ _ q e;show mono _ _ _ _ hlt e e';show mono _ _ _ _ (by lia) e e';rcases zaQ b1 e2 with ⟨rfl,rfl⟩ | ⟨q',e'⟩ | ⟨i'',rfl,q',e'⟩;lia;lia;show mono _ _ _ _ (by lia) e e'
def zn7 {j:Nat}:SetTable.has #v[] j=false:=rfl
section
variable {α:Type}{w:Ac}{hs:α->Int}{vl:α->Value}{t:SetTable}{es:Array (Int×Value)}{xs:List α}
def TbG.put (T:TbG w hs vl t es xs){c:α}{N:Nat}(hN:N<10 * SetTable.turns t.mask)(he:∀i:Nat,t.place[i]?≠some (wk t.mask (hs c) N))(hp:∀m,m<N->∃i:Nat,t.place[i]?=some (wk t.mask (hs c) m))
  (hf:xs.length+1<=t.mask) (hle:wk t.mask (hs c) N<=t.mask) :
  ∃xs',TbG w hs vl (t.put (wk t.mask (hs c) N)).1 (SetTable.insertAt es (t.put (wk t.mask (hs c) N)).2 (hs c,vl c)) xs'/\xs'.Perm (c::xs):=by
 generalize hj:wk t.mask (hs c) N=j at *;obtain⟨b1,b2,b3⟩:=xW T.ris j;have hp2:(t.put j).2=SetTable.below t.place j:=rfl
 have ht:(t.put j).1={ t with place:=SetTable.insertAt t.place (SetTable.below t.place j) j }:=by
  unfold SetTable.put;dsimp only;rw[T.dm,zn7];grind
 generalize hpp:SetTable.below t.place j=p at *;have hpx:p<=xs.length:=by rw[<- T.sz];show b1
 have shift:∀ {i v:Nat},t.place[i]?=some v->∃i':Nat,(SetTable.insertAt t.place p j)[i']?=some v:=λ{i v} h=>#[_,zfY b1 h];have hxp:=zjc xs p c;show#[zeE xs p c,?_,hxp];rw[hp2,ht];show#[?_,T.dm,?_,?_,?_,T.msk,?_,T.plain,T.led,?_];rw[yr,T.eq,zlA];have:=zhX T.ris he;right;intro i v e;rcases zaQ b1 e with ⟨_,rfl⟩ | ⟨_,e'⟩ | ⟨_,_,_,e'⟩;show hle;show T.le _ _ e';show T.le _ _ e';change (SetTable.insertAt t.place p j).size=_;rw[<- aX,yr,zdG (by right),zdG hpx,aX,T.sz];change (zeE xs p c).length<=t.mask;rw[zdG hpx];show hf;intro i q hq;rcases ci i p with z | z | z;rw[zfX hpx z] at hq;obtain⟨n,h1,h2,h3⟩:=T.reach i q hq;show#[n,h1,?_,λm hm=>?_];have:=zfY (j:=j) b1 h2;right;obtain⟨i',e⟩:=h3 m hm;show shift e;subst z;rw[zfV hpx] at hq;cases hq;show#[N,hN,?_,λm hm=>?_];change (SetTable.insertAt t.place i j)[i]?=_;rw[zbE,yr,zfV (by right)];right;obtain⟨i',e⟩:=hp m hm;show shift e;obtain⟨i',rfl⟩:∃i',i=i'+1:=#[i - 1,by lia];rw[zfW hpx (by lia)] at hq;obtain⟨n,h1,h2,h3⟩:=T.reach i' q hq;show#[n,h1,?_,λm hm=>?_];have:=zfY (j:=j) b1 h2;rw[if_neg (by lia)] at this;show this;obtain⟨i',e⟩:=h3 m hm;show shift e
variable {prog:Ab}{xs:List (List Key×Addr)}
def Tb.put (T:Tb prog w t es xs){k:List Key}{b:Addr}{N:Nat}(hN:N<10 * SetTable.turns t.mask)(he:∀i:Nat,t.place[i]?≠some (wk t.mask ((tk prog w).hash k) N))(hp:zeo t xs ((tk prog w).hash k) k N)
  (hk:k∉xs.map (·.1)) (hf:xs.length+1<=t.mask) (hle:wk t.mask ((tk prog w).hash k) N<=t.mask) :
  ∃xs',Tb prog w (t.put (wk t.mask ((tk prog w).hash k) N)).1 (SetTable.insertAt es (t.put (wk t.mask ((tk prog w).hash k) N)).2 ((tk prog w).hash k,.ref b)) xs'/\xs'.Perm ((k,b)::xs):=by
 obtain⟨xs',T',p⟩:=T.toTbG.put (c:=(k,b)) hN he (λm hm=>let ⟨i,_,e,_⟩:=hp m hm;#[i,e]) hf hle;show#[xs',#[T',by rw[(p.map (·.1)).nodup_iff,aC,bJ];show#[hk,T.nd]],p]
end
theorem zdW:∀ (n:Nat) {l:AS},l.Nodup->(∀x∈l,x<n)->l.length<=n
 | 0,l,_,h=>by
  cases l with
  | nil=>show ak _
  | cons a _=>show absurd (h a am) (ck _)
 | n+1,l,hn,h=>by
  by_cases hm:n∈l
  have h1:=zdW n (hn.erase n) λx hx=>by
   grind
  grind
  have:=zdW n hn λx hx=>by
   grind
  lia
theorem ui {α:Type}[BEq α][LawfulBEq α]:∀ {l l':List α},l.Nodup->l'.Nodup->(∀x,x∈l↔x∈l')->l.Perm l'
 | [],l',_,_,h=>by
  cases l' with
  | nil=>show .nil
  | cons a _=>show absurd ((h a).mpr am) (by simp)
 | a::l,l',hn,hn',h=>by grind
def St0 (mask:Nat)(h:Int)(K:Nat):SetTable.Probe:=#[(lp mask h K).1,SetTable.runEnd mask (lp mask h K).1 - (lp mask h K).1,(lp mask h K).1,(lp mask h K).2,none]
def zjv {mask:Nat}{h:Int}{T K:Nat}(e:stp mask h T=St0 mask h K):stp mask h (T+(SetTable.runEnd mask (lp mask h K).1 - (lp mask h K).1)+1)=St0 mask h (K+1):=by change (tm mask).advance (stp mask h (T+_))=_;rw[zeg mask h e _ (ak _),zbL mask _ (gf _)];rfl
theorem zrl (mask:Nat)(h:Int):∀K,(lp mask h K).1<=mask
 | 0=>bZ (el _ (dO _))
 | K+1=>bZ (el _ (dO _))
def uW {mask i:Nat}(h:i<=mask):SetTable.runEnd mask i<=mask/\i<=SetTable.runEnd mask i:=by unfold SetTable.runEnd;split <;> lia
theorem zeC {mask:Nat}{h:Int}{owner:Array (Option Nat)}(hs:owner.size=mask+1):∀ (fuel K T:Nat),T<=10 * K->stp mask h T=St0 mask h K->(∀m,m<T->∃i',owner[wk mask h m]?=some (some i'))->
  (∃K',K<=K'/\K'<K+fuel/\owner[(lp mask h K').1]?=some none)->
  ∃N,SetTable.layClean.free mask owner fuel (lp mask h K).1 (lp mask h K).2=some (wk mask h N)/\N<10 * (K+fuel)/\wk mask h N<=mask/\owner[wk mask h N]?=some none/\∀m,m<N->∃i',owner[wk mask h m]?=some (some i')
 | 0,K,T,_,_,_,⟨K',h1,h2,_⟩=>by lia
 | fuel+1,K,T,hT,eT,occ,⟨K',h1,h2,h3⟩=>by
  have hle:=zrl mask h K;obtain⟨r1,r2⟩:=uW hle;have r9:=znq mask (lp mask h K).1;have wkk:∀k,k<=SetTable.runEnd mask (lp mask h K).1 - (lp mask h K).1->wk mask h (T+k)=(lp mask h K).1+k:=λk hk=>by change (stp mask h (T+k)).j=_;rw[zeg mask h eT k hk]
  have inR:∀k,k<=SetTable.runEnd mask (lp mask h K).1 - (lp mask h K).1->∃u,owner[(lp mask h K).1+k]?=some u/\owner.getD ((lp mask h K).1+k) (some 0)=u:=λk hk=>by
   have hlt:(lp mask h K).1+k<owner.size:=by lia
   right
  change ∃N,(match (List.range (SetTable.runEnd mask (lp mask h K).1+1 - (lp mask h K).1)).find? λk=>(owner.getD ((lp mask h K).1+k) (some 0)).isNone with
   | some k=>some ((lp mask h K).1+k)
   | none=>SetTable.layClean.free mask owner fuel (lp mask h (K+1)).1 (lp mask h (K+1)).2)=some (wk mask h N)/\_
  cases hf:(List.range (SetTable.runEnd mask (lp mask h K).1+1 - (lp mask h K).1)).find? λk=>(owner.getD ((lp mask h K).1+k) (some 0)).isNone with
  | some k=>
   obtain⟨hp,i,hi,hik,hbef⟩:=List.find?_eq_some_iff_getElem.mp hf;rw[bF] at hik;subst hik;rw[aI] at hi;have hk:i<=SetTable.runEnd mask (lp mask h K).1 - (lp mask h K).1:=by lia
   obtain⟨u,hu1,hu2⟩:=inR i hk;rw[hu2] at hp
   have hun:u=none:=by
    cases u with
    | none=>rfl
    | some z=>show absurd hp (by simp)
   subst hun;show#[T+i,by rw[wkk i hk],by lia,by rw[wkk i hk];lia,by rw[wkk i hk];show hu1,λm hm=>?_];by_cases hmT:m<T;show occ m hmT;obtain⟨k',rfl⟩:∃k',m=T+k':=#[m - T,by lia];obtain⟨u,hu1,hu2⟩:=inR k' (by lia);have:=hbef k' (by lia);rw[bF,hu2] at this;rw[wkk k' (by lia),hu1]
   cases u with
   | none=>simp at this
   | some i'=>show#[i',BC]
  | none=>
   have hall:=c7.mp hf
   have occR:∀k,k<=SetTable.runEnd mask (lp mask h K).1 - (lp mask h K).1->∃i',owner[(lp mask h K).1+k]?=some (some i'):=λk hk=>by
    obtain⟨u,hu1,hu2⟩:=inR k hk;have:=hall k (aZ.mpr (by lia));rw[hu2] at this
    cases u with
    | none=>simp at this
    | some i'=>show#[i',hu1]
   have hKK:K≠K':=λz=>by
    subst z;obtain⟨i',e⟩:=occR 0 (aS _);grind
   have occ':∀m,m<T+(SetTable.runEnd mask (lp mask h K).1 - (lp mask h K).1)+1->∃i',owner[wk mask h m]?=some (some i'):=λm hm=>by
    by_cases hmT:m<T;show occ m hmT;obtain⟨k',rfl⟩:∃k',m=T+k':=#[m - T,by lia];rw[wkk k' (by lia)];show occR k' (by lia)
   obtain⟨N,a1,a2,a3⟩:=zeC hs fuel (K+1) _ (by lia) (zjv eT) occ' #[K',by lia,by lia,h3];show#[N,a1,by lia,a3]
structure Own (mask:Nat)(hs:AH)(n:Nat)(owner:Array (Option Nat)):Prop where
 size:owner.size=mask+1
 lt:∀ (j i:Nat),owner[j]?=some (some i)->i<n
 inj:∀ (j j' i:Nat),owner[j]?=some (some i)->owner[j']?=some (some i)->j=j'
 reach:∀ (i:Nat) (h:Int),i<n->hs[i]?=some h->∃N,N<10 * SetTable.turns mask/\owner[wk mask h N]?=some (some i)/\∀m,m<N->∃i',owner[wk mask h m]?=some (some i')
def Own.gap {mask:Nat}{hs:AH}{n:Nat}{owner:Array (Option Nat)}(o:Own mask hs n owner)(hn:n<=mask):∃j,j<=mask/\owner[j]?=some none:=by
 show cE λhc=>?_
 have all:∀j,j<mask+1->∃i,owner[j]?=some (some i):=λj hj=>by
  have hlt:j<owner.size:=by rw[o.size];show hj
  cases e:owner[j] with
  | none=>show absurd #[j,bZ hj,by right] hc
  | some i=>show#[i,by right]
 have hl:=zdW n (l:=(List.range (mask+1)).map λj=>((owner[j]?).join).getD 0) ?_ ?_;rw[ab,aI] at hl;lia;show cH.mpr (List.Pairwise.imp_of_mem ?_ fZ);intro a b ha hb hab e;show hab ?_;obtain⟨i,hi⟩:=all a (aZ.mp ha);obtain⟨i',hi'⟩:=all b (aZ.mp hb);rw[hi,hi'] at e;have:i=i':=e;subst this;show o.inj _ _ _ hi hi';intro x hx;obtain⟨j,hj,rfl⟩:=aq.mp hx;obtain⟨i,hi⟩:=all j (aZ.mp hj);rw[hi];show o.lt _ _ hi
def Own.step {mask:Nat}{hs:AH}{n:Nat}{owner:Array (Option Nat)}{h:Int}(o:Own mask hs n owner)(hr:Ring (mask+1))(hn:n<=mask)(hh:hs[n]?=some h) :
  ∃j,SetTable.layClean.free mask owner (SetTable.turns mask) (SetTable.bits h % (mask+1)) (SetTable.bits h)=some j/\Own mask hs (n+1) (owner.setIfInBounds j (some n)):=by
 obtain⟨g,hg,eg⟩:=o.gap hn;have hb:(lp mask h 13).1<mask+1:=fK (zrl mask h 13);obtain⟨k,hk,e⟩:=hr.reach hb (fK hg);obtain⟨N,h1,h2,h3,h4,h5⟩:=zeC o.size (SetTable.turns mask) 0 0 (ak _) (h:=h) BC (λm hm=>absurd hm (ck _)) #[13+k,aS _,by unfold SetTable.turns;lia,by rw[zjD,e];show eg];have hj:wk mask h N<owner.size:=by rw[o.size];lia
 have set_at:(owner.setIfInBounds (wk mask h N) (some n))[wk mask h N]?=some (some n):=by right
 have set_ne:∀j,j≠wk mask h N->(owner.setIfInBounds (wk mask h N) (some n))[j]?=owner[j]?:=λj hne=>by rw[Array.getElem?_setIfInBounds];rw[if_neg (λz=>hne z.symm)]
 have keep:∀j i,owner[j]?=some (some i)->(owner.setIfInBounds (wk mask h N) (some n))[j]?=some (some i):=λj i e=>by
  by_cases q:j=wk mask h N;rw[q,h4] at e;cases e;rw[set_ne j q];show e
 show#[wk mask h N,h1,by simp[o.size],λj i e=>?_,λj j' i e e'=>?_,λi h' hi hh'=>?_];by_cases q:j=wk mask h N;right;rw[set_ne j q] at e;have:=o.lt _ _ e;lia;by_cases q:j=wk mask h N;subst q;rw[set_at] at e;cases e;by_cases q':j'=wk mask h N;show q'.symm;rw[set_ne j' q'] at e';have:=o.lt _ _ e';lia;rw[set_ne j q] at e;by_cases q':j'=wk mask h N;subst q';rw[set_at] at e';cases e';have:=o.lt _ _ e;lia;rw[set_ne j' q'] at e';show o.inj _ _ _ e e';by_cases q:i=n;subst q;rw[hh] at hh';cases hh';show#[N,by lia,set_at,λm hm=>?_];obtain⟨i',e⟩:=h5 m hm;show#[i',keep _ _ e];obtain⟨M,m1,m2,m3⟩:=o.reach i h' (by lia) hh';show#[M,m1,keep _ _ m2,λm hm=>?_];obtain⟨i',e⟩:=m3 m hm;show#[i',keep _ _ e]
def zl6 (mask:Nat)(hs:AH):Own mask hs 0 (Array.replicate (mask+1) none):=by
 have no:∀j i,(Array.replicate (mask+1) (none:Option Nat))[j]?≠some (some i):=λj i e=>by
  rw[Array.getElem?_replicate] at e;grind
 show#[by simp,λj i e=>absurd e (no j i),λj j' i e=>absurd e (no j i),λi h hi=>absurd hi (ck _)]
theorem zgP {mask:Nat}(hr:Ring (mask+1)):∀ (yD pre:AH) (owner:Array (Option Nat)),(pre++yD).length<=mask->Own mask (pre++yD) pre.length owner->
  ∃owner',yD.foldl (λ(acc:Option (Array (Option Nat)×Nat)) h=>acc.bind λx=>(SetTable.layClean.free mask x.1 (SetTable.turns mask) (SetTable.bits h % (mask+1)) (SetTable.bits h)).bind λj=>some (x.1.setIfInBounds j (some x.2),x.2+1)) (some (owner,pre.length))=some (owner',(pre++yD).length)/\Own mask (pre++yD) (pre++yD).length owner'
 | [],pre,owner,_,o=>by right
 | h::yD,pre,owner,hl,o=>by
  have hl':pre.length+(yD.length+1)<=mask:=by rw[ay,bc] at hl;show hl
  obtain⟨j,e,o'⟩:=o.step hr (by lia) (h:=h) (by simp);have e1:pre++h::yD=(pre++[h])++yD:=by rw[bY];rfl
  have e2:pre.length+1=(pre++[h]).length:=by rw[ay];rfl
  rw[e1,e2] at o';obtain⟨owner',f1,f2⟩:=zgP hr yD (pre++[h]) _ (by rw[<- e1];show hl) o';grind
def zeO {mask:Nat}(hr:Ring (mask+1))(hs:Array Int)(hl:hs.size<=mask):∃owner,SetTable.layClean mask hs=some owner/\Own mask hs.toList hs.size owner:=by
 obtain⟨owner,h1,h2⟩:=zgP hr hs.toList [] (Array.replicate (mask+1) none) (by right) (zl6 mask _);rw[eW,aX] at h2;show#[owner,?_,h2];unfold SetTable.layClean;right
def xh (mask:Nat)(owner:Array (Option Nat)):List (Nat×Nat):=(List.range (mask+1)).filterMap λj=>(owner.getD j none).map (j,·)
def xH {mask:Nat}{hs:AH}{n:Nat}{owner:Array (Option Nat)}(o:Own mask hs n owner){j i:Nat}:(j,i)∈xh mask owner↔owner[j]?=some (some i):=by
 unfold xh;rw[cZ];constructor;rintro⟨j',hj',e⟩;obtain⟨i',e1,e2⟩:=aB.mp e;cases e2;have hlt:j<owner.size:=by rw[o.size];show aZ.mp hj'
 right;intro e;obtain⟨hlt,e1⟩:=cr.mp e;show#[j,aZ.mpr (by rw[<- o.size];show hlt),?_];right
def zjA (mask:Nat)(owner:Array (Option Nat)):(xh mask owner).Pairwise λa b=>a.1<b.1:=by
 unfold xh;show List.pairwise_filterMap.mpr ((List.pairwise_lt_range).imp ?_);right
def zjz {mask:Nat}{hs:AH}{owner:Array (Option Nat)}(o:Own mask hs hs.length owner):((xh mask owner).map (·.2)).Perm (List.range hs.length):=by
 show ui ?_ fZ λi=>?_;show cH.mpr (List.Pairwise.imp_of_mem ?_ (zjA mask owner));intro a b ha hb hab e;have h1:=(xH o).mp ha;have h2:=(xH o).mp hb;rw[e] at h1;have:=o.inj _ _ _ h1 h2;lia;rw[aZ];constructor;intro h;obtain⟨⟨j,i'⟩,h1,rfl⟩:=aq.mp h;show o.lt _ _ ((xH o).mp h1);intro h;obtain⟨N,_,e,_⟩:=o.reach i hs[i] h (aj h);show aq.mpr #[(_,i),(xH o).mpr e,BC]
def zcB {α:Type}(l:List α):(List.range l.length).filterMap (λi=>l[i]?)=l:=by
 have:∀ (n:Nat) (l:List α),n=l.length->(List.range n).filterMap (λi=>l[i]?)=l:=by
  intro n
  induction n with
  | zero=>intro l h;cases l with | nil=>rfl | cons _ _=>simp at h
  | succ n ih=>
   intro l h
   cases l with
   | nil=>simp at h
   | cons a l=>
    rw[List.range_succ_eq_map,cK];change a::_=_;rw[List.filterMap_map];congr 1;show ih l (by simpa using h)
 show this _ l BC
section
variable {α:Type}{w:Ac}{hs:α->Int}{vl:α->Value}{t:SetTable}{es:Array (Int×Value)}{xs:List α}
def TbG.laid (T:TbG w hs vl t es xs){mask:Nat}(hm:xJ mask)(hl:xs.length<=mask)(finger moves:Nat) :
  ∃t' order xs',SetTable.laid mask finger moves t.led true (es.map (·.1))=some (t',order)/\(order.filterMap (es[·]?)).size=es.size/\TbG w hs vl t' (order.filterMap (es[·]?)) xs'/\xs'.Perm xs/\t'.mask=mask/\order.toList.Perm (List.range es.size):=by
 obtain⟨owner,e,o⟩:=zeO hm.ring (es.map (·.1)) (by rw[Array.size_map,T.size];show hl);have hh:(es.map (·.1)).toList=xs.map λq=>hs q:=by rw[Array.toList_map,T.eq,ar];rfl
 have hsz:(es.map (·.1)).size=xs.length:=by rw[Array.size_map,T.size]
 rw[hh,hsz] at o;have o':Own mask (xs.map λq=>hs q) (xs.map λq=>hs q).length owner:=by rw[ab];show o
 have hp:=zjz o';rw[ab] at hp;have hes:((((xh mask owner).map (·.2)).toArray).filterMap (es[·]?)).toList=((xh mask owner).map (·.2)).filterMap (es.toList[·]?):=by right
 have hxp:(((xh mask owner).map (·.2)).filterMap (xs[·]?)).Perm xs:=by have:=hp.filterMap (xs[·]?);rw[zcB] at this;show this
 have heq:((xh mask owner).map (·.2)).filterMap (es.toList[·]?)=(((xh mask owner).map (·.2)).filterMap (xs[·]?)).map λq=>(hs q,vl q):=by rw[List.map_filterMap];congr 1;funext i;rw[T.eq,aA]
 have hgetx:∀ {c:Nat} {q:α},(((xh mask owner).map (·.2)).filterMap (xs[·]?))[c]?=some q->∃j i,(xh mask owner)[c]?=some (j,i)/\xs[i]?=some q:=by
  have gen:∀ (l:List (Nat×Nat)),(∀p∈l,p.2<xs.length)->∀ {c:Nat} {q:α},((l.map (·.2)).filterMap (xs[·]?))[c]?=some q->∃j i,l[c]?=some (j,i)/\xs[i]?=some q:=by
   intro l
   induction l with
   | nil=>intro _ c q h;simp at h
   | cons p l ih=>
    intro hlt c q h;have hp2:=hlt p am;rw[aC,cK,aj hp2] at h
    cases c with
    | zero=>
     show#[p.1,p.2,BC,?_];right
    | succ c=>show ih (λp' hp'=>hlt p' (ao _ hp')) (by simpa using h)
  intro c q h;show gen _ (λp hp=>?_) h;obtain⟨j,i⟩:=p;show o.lt _ _ ((xH o).mp hp)
 have hplace:∀ {c j i:Nat},(xh mask owner)[c]?=some (j,i)->(((xh mask owner).map (·.1)).toArray)[c]?=some j:=λ{c j i} h=>by right
 show#[_,_,((xh mask owner).map (·.2)).filterMap (xs[·]?),by unfold SetTable.laid;rw[e];rfl,?_,#[?_,BC,?_,?_,?_,hm,?_,BC,by show T.led,?_],hxp,BC,by rw[T.size];show hp];change ((((xh mask owner).map (·.2)).toArray).filterMap (es[·]?)).size=es.size;rw[<- aX,hes,heq,ab,hxp.length_eq,T.size];show hes.trans heq;intro i j hij hj
 have hj':j<(xh mask owner).length:=by
  have:(((xh mask owner).map (·.1)).toArray).size=(xh mask owner).length:=by simp
  rw[<- this];show hj
 have hi':i<(xh mask owner).length:=dJ hij hj';have:=cD.mp (zjA mask owner) i j hi' hj' hij;change (((xh mask owner).map (·.1)).toArray).getD i 0<(((xh mask owner).map (·.1)).toArray).getD j 0;right;intro c j hc;have hc':((xh mask owner).map (·.1))[c]?=some j:=by rw[zbE] at hc;show hc
 rw[aA] at hc';obtain⟨⟨j',i'⟩,h1,rfl⟩:=aB.mp hc';have h2:=(xH o).mp (az h1);have:=(cr.mp h2).1;rw[o.size] at this;change j'<=mask;lia;change (((xh mask owner).map (·.1)).toArray).size=_;have h1:(((xh mask owner).map (·.1)).toArray).size=(xh mask owner).length:=by simp
 rw[h1,hxp.length_eq];have:=hp.length_eq;grind;rw[hxp.length_eq];show hl;intro c q hq;obtain⟨j,i,h1,h2⟩:=hgetx hq;have hi:=(ae.mp h2).1;obtain⟨N,n1,n2,n3⟩:=o.reach i (hs q) hi (by right);have hj:=o.inj _ _ _ ((xH o).mp (az h1)) n2;subst hj;show#[N,n1,hplace h1,λm hm'=>?_];obtain⟨i',e'⟩:=n3 m hm';obtain⟨c',hc',ec'⟩:=cb.mp ((xH o).mpr e');show#[c',hplace (by rw[aj hc',ec'])]
variable {prog:Ab}{xs:List (List Key×Addr)}
def Tb.laid (T:Tb prog w t es xs){mask:Nat}(hm:xJ mask)(hl:xs.length<=mask)(finger moves:Nat) :
  ∃t' order xs',SetTable.laid mask finger moves t.led true (es.map (·.1))=some (t',order)/\(order.filterMap (es[·]?)).size=es.size/\Tb prog w t' (order.filterMap (es[·]?)) xs'/\xs'.Perm xs/\t'.mask=mask:=by
 obtain⟨t',order,xs',a,b,c,d,e,_⟩:=T.toTbG.laid hm hl finger moves;show#[t',order,xs',a,b,#[c,by rw[(d.map (·.1)).nodup_iff];show T.nd],d,e]
variable {A:Af}{E:AA}{s:Aa}
def zbU (prog:Ab)(w:Ac)(h:Heap)(a:Addr)(xs:List (List Key×Addr)):Prop:=∃o es ep t,h.get? a=some o/\o.ExactSet/\o.data = .set es ep t/\Tb prog w t es xs/\xs.length * 5<t.mask * 3
def zbG {ns:AH}{b:Addr}{Q:Bool->Aa->Prop}(hk:(tk prog w).is s.heap (ns.map Sum.inl) b)(h:Q true s):Ah prog w A (hashByValue 8 (.ref b)) Q E s:=by
 have hk':IsTupleKey (zy prog w) s.heap (ns.map Sum.inl) b:=hk;have hT:=hk'.typeIs;obtain⟨o,items,n,ho,_,hd,hi⟩:=hk'
 have hints:∀ {ns:AH} {vs:AO},ItemsAre (zy prog w) (ns.map Sum.inl) vs->∀v∈vs,∃i t,v=Value.int i t:=by
  intro ns
  induction ns with
  | nil=>intro vs h v hv;cases h;simp at hv
  | cons n ns ih=>
   intro vs h v hv
   cases h with
   | cons h1 h2=>
    rcases aG.mp hv with rfl | hv
    ·have h1':zeK (Sum.inl n) v=true:=h1;rcases zU h1' with ⟨i,t,_,e⟩ | ⟨x,t,z,_⟩
     all_goals right
    show ih h2 v hv
 unfold hashByValue;show aa (wpAny_specialOf hT F.slot_tuple_hash.lookup ?_);dsimp only;show aa (ce ho hd ?_);show aa ?_;change wpAny _ _ (forIn items _ _) _ _ s;rw[<- Array.forIn_toList];show ga _ (λyD r s'=>r.1=none/\s'=s/\∀v∈yD,∃i t,v=Value.int i t) _ ?_ ?_ _ _ #[BC,BC,hints hi];rintro v yD r s' ⟨hr,rfl,hall⟩;obtain⟨i,t,rfl⟩:=hall v am;have e:hashByValue 7 (Value.int i t)=pure true:=rfl;rw[e];show aa (ai ?_);simp only[fS,aQ,if_false];show ai #[BC,BC,λu hu'=>hall u (ao _ hu')];rintro⟨r1,r2⟩ s' ⟨hr,rfl,_⟩;simp only at hr;subst hr;show ai h
def zac {h:Heap}{a:Addr}{o:Obj}{es:Array (Int×Value)}{ep:Nat}{t:SetTable}{es':Array (Int×Value)}{t':SetTable}(ho:h.get? a=some o)(hd:o.data = .set es ep t) :
  (h.update a (Obj.putSet es' t')).get? a=some { o with data:=.set es' (ep+1) t' }:=by
 have:=br (Obj.putSet es' t') ho (by rw[putSet_of es' t' hd];rfl);rw[putSet_of es' t' hd] at this;show this
def zmC {a:Addr}{o:Obj}{ep wanted mask:Nat}{Q:Unit->Aa->Prop}(T:Tb prog w t es xs)(ho:s.heap.get? a=some o)(hx:o.ExactSet)(hd:o.data = .set es ep t)(hw:SetTable.sizeAbove wanted=mask+1)(hm:xJ mask)(hl:xs.length * 5<mask * 3)
  (h:∀h' xs',Heap.SameBut a s.heap h'->zbU prog w h' a xs'->xs'.Perm xs->Q () { s with heap:=h' }):Ah prog w A (setRelay a wanted) Q E s:=by
 unfold setRelay;show aa (bq ho hd T.fits ?_);dsimp only;have:=hm.le;rw[if_neg (by rw[hw,bp];lia)];obtain⟨t',order,xs',e,hsz,T',hp,hmk⟩:=T.laid hm (by lia) t.finger (t.movedTo mask);have e':t.relaid (es.map (·.1)) wanted=some (t',order):=by unfold SetTable.relaid;rw[hw,T.plain];show e
 have core:∀ {R:Array (Int×Value)×SetTable->Aa->Prop},R (order.filterMap (es[·]?),t') s->Ah prog w A (do
   let some (t,order):=t.relaid (es.map (·.1)) wanted | unsupported "internal:set-table-without-room"
   let es':=order.filterMap (es[·]?)
   if es'.size != es.size then unsupported "internal:set-table-lost-an-element"
   pure (es',t)) R E s:=λ{R} hR=>by
  rw[e'];dsimp only;rw[hsz];simp only[bne_self_eq_false,aQ,if_false]
  first | show ai hR | show aa (by grind)
 show aa (core ?_);show en ho hd ?_ (by rw[hsz,T.size,bp];lia);show h _ xs' (bh _ a _) #[_,_,_,t',zac ho hd,hx,BC,T',?_] hp;rw[hp.length_eq,hmk];show hl
def Tb.out (T:Tb prog w t es xs){k:List Key}{N:Nat}(hN:N<10 * SetTable.turns t.mask)(he:∀i:Nat,t.place[i]?≠some (wk t.mask ((tk prog w).hash k) N))(hp:zeo t xs ((tk prog w).hash k) k N):k∉xs.map (·.1):=λz=>by
 obtain⟨q,hq,hqk⟩:=aq.mp z;obtain⟨i,hi⟩:=List.mem_iff_getElem?.mp hq;obtain⟨n,h1,h2,h3⟩:=T.reach i q hi;rw[hqk] at h2 h3;rcases ci N n with z | z | z;obtain⟨i',e⟩:=h3 N z;show he i' e;right;obtain⟨i',q',e1,e2,e3⟩:=hp n z
 have:i'=i:=by
  have a1:=za4 T.ris e1;have a2:=za4 T.ris h2;right
 grind
def zqx {a b:Addr}{ns:AH}{Q:Bool->Aa->Prop}(hu:A.units<cLine)(S:zbU prog w s.heap a xs)(hk:(tk prog w).is s.heap (ns.map Sum.inl) b)(hel:∀q∈xs,(tk prog w).is s.heap q.1 q.2)(hn:xs.length<300)
  (h:∀r h' n xs',Heap.SameBut a s.heap h'->zbU prog w h' a xs'->((ns.map Sum.inl)∈xs.map (·.1)->xs'=xs)->((ns.map Sum.inl)∉xs.map (·.1)->xs'.Perm ((ns.map Sum.inl,b)::xs))->Q r { s with heap:=h',toks:=n }) :
  Ah prog w A (setAdd a (.ref b)) Q E s:=by
 obtain⟨o,es,ep,t,ho,hx,hd,T,hroom⟩:=S;unfold setAdd;show bw (aa ((tk prog w).pyHash hu hk ?_));unfold setAddHashed;show bw ?_;rw[show (100000:Nat)=99999+1 from rfl];unfold setAddHashedIn;show aa (bq (s:={ s with toks:=s.toks+(tk prog w).draws (ns.map Sum.inl) }) ho hd T.fits ?_);dsimp only;rw[show byScan (.ref b) es=false from rfl];simp only[aQ,if_false];unfold setSearch;have hm:=T.msk.le;have htl:t.fill=xs.length:=by unfold SetTable.fill;rw[T.sz,T.dm];rfl
 show aa (zfl (s:={ s with toks:=s.toks+(tk prog w).draws (ns.map Sum.inl) }) hu T hk hel ho hd ?found ?free 100000 0 none BC (by unfold SetTable.turns;lia) (aS _) (λm hm=>absurd hm (ck _)))
 case found=>
  intro r i q hq hqk _;dsimp only;have hmem:(ns.map Sum.inl)∈xs.map (·.1):=aq.mpr #[q,az hq,hqk];show ai (h false s.heap _ xs (Heap.SameBut.refl a s.heap) #[o,es,ep,t,ho,hx,hd,T,hroom] (λ_=>rfl) (λz=>absurd hmem z))
 case free=>
  intro N hN he hp;have hnm:=T.out hN he hp;dsimp only;show aa (bq (s:={ s with toks:=s.toks+(tk prog w).draws (ns.map Sum.inl) }) ho hd T.fits ?_);dsimp only
  have hwle:wk t.mask ((tk prog w).hash (ns.map Sum.inl)) N<=t.mask:=by
   have:∀ (h:Int) (n:Nat),wk t.mask h n<=t.mask/\(stp t.mask h n).j+(stp t.mask h n).more<=t.mask:=by
    intro h n
    induction n with
    | zero=>
     have h0:SetTable.bits h % (t.mask+1)<=t.mask:=bZ (el _ (dO _));obtain⟨r1,r2⟩:=uW h0;show#[h0,?_];change SetTable.bits h % (t.mask+1)+(SetTable.runEnd t.mask (SetTable.bits h % (t.mask+1)) - SetTable.bits h % (t.mask+1))<=t.mask;lia
    | succ n ih=>
     change ((tm t.mask).advance (stp t.mask h n)).j<=t.mask/\((tm t.mask).advance (stp t.mask h n)).j+((tm t.mask).advance (stp t.mask h n)).more<=t.mask;by_cases hmr:0<(stp t.mask h n).more;rw[zdu _ _ hmr];grind;rw[zbL _ _ (by lia)];have h0:((stp t.mask h n).i * 5+1+(stp t.mask h n).perturb / 32) % (t.mask+1)<=t.mask:=bZ (el _ (dO _));obtain⟨r1,r2⟩:=uW h0;grind
   show (this _ _).1
  obtain⟨xs1,T1,hp1⟩:=T.put (b:=b) hN he hp hnm (by lia) hwle;generalize hput:t.put (wk t.mask ((tk prog w).hash (ns.map Sum.inl)) N)=tp at T1;obtain⟨t1,p⟩:=tp;dsimp only at T1 ⊢
  have hmk:t1.mask=t.mask:=by
   have:t1=(t.put (wk t.mask ((tk prog w).hash (ns.map Sum.inl)) N)).1:=by rw[hput]
   rw[this];rfl
  rw[T1.plain];simp only[if_true];show aa (zbG (s:={ s with toks:=s.toks+(tk prog w).draws (ns.map Sum.inl) }) hk ?_);simp only[if_true];have hl1:=hp1.length_eq;rw[bc] at hl1;show aa (en (s:={ s with toks:=s.toks+(tk prog w).draws (ns.map Sum.inl) }) ho hd ?_ (by rw[T1.size,bp];lia));have g1:=zac (es':=SetTable.insertAt es p ((tk prog w).hash (ns.map Sum.inl),.ref b)) (t':=t1) ho hd;have sb1:=bh s.heap a (Obj.putSet (SetTable.insertAt es p ((tk prog w).hash (ns.map Sum.inl),.ref b)) t1);simp only[Bool.not_false,fT];have htl1:t1.fill=xs.length+1:=by unfold SetTable.fill;rw[T1.sz,T1.dm,hl1];rfl
  by_cases hf:t1.tooFull=true
  ·rw[if_pos hf];unfold SetTable.tooFull at hf;rw[htl1,hmk] at hf;have hf':=bD hf;rw[T.size]
   have next:∃mask,SetTable.sizeAbove (SetTable.grown (xs.length+1))=mask+1/\xJ mask/\(xs.length+1) * 5<mask * 3:=by
    rcases T.msk with e | e | e | e;rw[e] at hf' hroom;have:xs.length=4:=by lia
    rw[this];show#[31,by ext,.inr (.inl rfl),by lia];rw[e] at hf' hroom;have:xs.length=18:=by lia
    rw[this];show#[127,by ext,.inr (.inr (.inl rfl)),by lia];rw[e] at hf' hroom;have:xs.length=76:=by lia
    rw[this];show#[511,by ext,.inr (.inr (.inr rfl)),by lia];rw[e] at hf' hroom;lia
   obtain⟨mask,m1,m2,m3⟩:=next;show aa (zmC (s:={ s with heap:=s.heap.update a (Obj.putSet (SetTable.insertAt es p ((tk prog w).hash (ns.map Sum.inl),.ref b)) t1),toks:=s.toks+(tk prog w).draws (ns.map Sum.inl) }) T1 g1 hx BC m1 m2 (by rw[hl1];show m3) λh' xs2 sb2 S2 hp2=>?_);show ai (h true h' _ xs2 (sb1.trans sb2) S2 (λz=>absurd z hnm) λ_=>hp2.trans hp1)
  rw[if_neg hf];unfold SetTable.tooFull at hf;rw[htl1,hmk] at hf;have hf':¬ ((xs.length+1) * 5 ≥ t.mask * 3):=λz=>hf (aN z);show ai (h true _ _ xs1 sb1 #[_,_,_,t1,g1,hx,BC,T1,?_] (λz=>absurd z hnm) λ_=>hp1);right
end
open PySem.W
def zS:Slot "set_iterator" "__next__" "set_iterator.__next__" :=
 .of (owner := "set_iterator") (n := "__next__") (by rw[typeLookup_type,eA];kernel_rfl) (by decide +kernel) (by decide +kernel) (by decide +kernel)
  (by first | show .inl (by decide +kernel) | show .inr (by decide +kernel)) (by rw[isSubtype_type];kernel_rfl)
def uc:Slot "set_iterator" "__iter__" "set_iterator.__iter__" :=
 .of (owner := "set_iterator") (n := "__iter__") (by rw[typeLookup_type,eA];kernel_rfl) (by decide +kernel) (by decide +kernel) (by decide +kernel)
  (by first | show .inl (by decide +kernel) | show .inr (by decide +kernel)) (by rw[isSubtype_type];kernel_rfl)
def xE:entryFor table "set_iterator.__next__" = some Builtin.«set_iterator.__next__»:=entryFor_of_tree (by kernel_rfl)
def zaK:entryFor table "set_iterator.__iter__" = some Builtin.«dict_keyiterator.__iter__»:=entryFor_alias (id' := "dict_keyiterator.__iter__") (by kernel_rfl) BC (by decide +kernel) (by kernel_rfl)
def zcQ:entryFor table "set.__iter__" = some Builtin.«frozenset.__iter__»:=entryFor_alias (id' := "frozenset.__iter__") (by kernel_rfl) BC (by decide +kernel) (by kernel_rfl)
def xV (a:Value):argsOk "set_iterator.__next__" #[[a],[]]:=by unfold argsOk;kernel_rfl
def za7 (a:Value):argsOk "set_iterator.__iter__" #[[a],[]]:=by unfold argsOk;kernel_rfl
theorem zi8 {α:Type}(next:Nat->Nat):∀ (n k:Nat) (left:List α) (out:Array α),left.length=n->(pickOrder.go next n k left out).toList.Perm (out.toList++left)
 | 0,k,left,out,h=>by
  have:left=[]:=eE h;subst this;change out.toList.Perm (out.toList++[]);right
 | n+1,k,left,out,h=>by
  have hlt:next k % left.length<left.length:=el _ (by lia)
  change (match left[next k % left.length]? with
   | some x=>pickOrder.go next n (k+1) (left.eraseIdx (next k % left.length)) (out.push x)
   | none=>out).toList.Perm _
  rw[aj hlt];show (zi8 next n (k+1) _ _ (by grind)).trans ?_;rw[Array.toList_push,bY];show List.Perm.append_left _ ?_;have e:left=left.take (next k % left.length)++left[next k % left.length]::left.drop (next k % left.length+1):=by right
  rw[List.eraseIdx_eq_take_drop_succ];show List.Perm.trans ?_ (List.Perm.of_eq e.symm);rw[List.singleton_append];show List.perm_middle.symm
def ze9 {α:Type}(next:Nat->Nat)(xs:Array α):(pickOrder next xs).toList.Perm xs.toList:=by
 change (pickOrder.go next xs.size 0 xs.toList #v[]).toList.Perm _;have:=zi8 next xs.size 0 xs.toList #v[] (aX);grind
section
variable {prog:Ab}{w:Ac}{t:SetTable}{es:Array (Int×Value)}{xs:List (List Key×Addr)}{A:Af}{E:AA}{s:Aa}
def zl5 (w:Ac)(a:Addr)(ep:Nat)(es:Array (Int×Value)):Array (Int×Value):=if w.params.followText "set-order" then pickOrder (w.params.setOrder a ep) es else es
def zcy (a:Addr)(ep:Nat):(zl5 w a ep es).toList.Perm es.toList:=by
 unfold zl5;split;show ze9 _ _;right
def yq (h:Heap)(it a:Addr)(slot i n ep:Nat):Prop:=∃o,h.get? it=some o/\o.cls = .type "set_iterator" /\ o.data = .fields #v[.int slot 0,.int i 0,.ref a,.int n 0,.int ep 0]
def yq.typeIs {it a:Addr}{slot i n ep:Nat}(x:yq s.heap it a slot i n ep):s.TypeIs (.ref it) "set_iterator" := let ⟨o,ho,hc,_⟩:=x;#[o,ho,hc]
structure Tq (w:Ac)(t:SetTable)(n:Nat):Prop where
 fits:t.fits n=true
 sz:t.place.size=n
 plain:t.plain=true
 led:t.led = !w.params.followText "set-order"
 ris:Ris t.place
def TbG.q {α:Type}{hs:α->Int}{vl:α->Value}{xs:List α}(T:TbG w hs vl t es xs):Tq w t es.size:=#[T.fits,by rw[T.sz,T.size],T.plain,T.led,T.ris]
structure SetIs (w:Ac)(h:Heap)(a:Addr)(es:Array (Int×Value))(ep:Nat)(t:SetTable):Prop where
 ob:∃o,h.get? a=some o/\o.ExactSet/\o.data = .set es ep t
 tb:Tq w t es.size
def zjS {it a:Addr}{slot i ep:Nat}{e:Int×Value}{Q:AK->Aa->Prop}(hit:yq s.heap it a slot i es.size ep)(S:SetIs w s.heap a es ep t)
  (hs:w.params.followText "set-order" = true\/SetTable.below t.place slot=i) (hx:(zl5 w a ep es)[i]?=some e)
  (hQ:∀h' slot',yq h' it a slot' (i+1) es.size ep->(w.params.followText "set-order" = true\/SetTable.below t.place slot'=i+1)->Heap.SameBut it s.heap h'->Q (some e.2) { s with heap:=h' }):Ah prog w A (pyNext (.ref it)) Q E s:=by
 obtain⟨o,ho,hc,hd⟩:=id hit;obtain⟨⟨os,hos,_,hds⟩,T⟩:=S;have hf:=T.fits;unfold pyNext
 show aa (cR (wpAny_callSpecial?_slot (name:=Str.ofString "__next__") hit.typeIs zS
  (a6 zS hit.typeIs xE ?_ (xV _))))
 show aa (ai ?_);show aa (fF ho hd ?_);dsimp only;show aa (eX hos hds hf ?_);rw[if_neg (by simp)]
 have upd2:∀slot':Nat,∃h',yq h' it a slot' (i+1) es.size ep/\Heap.SameBut it s.heap h'/\∀ {A':Af} {E':AA} {α:Type} {f:Sem α} {R:α->Aa->Prop},Ah prog w A' f R E' { s with heap:=h' }->Ah prog w A' (do setField (.ref it) 0 (rawInt slot');setField (.ref it) 1 (rawInt ((i:Int)+1));f) R E' s:=by
  intro slot';have h1:(s.heap.update it (Obj.mapFields (·.setIfInBounds 0 (rawInt slot')))).get? it=some (Obj.mapFields (·.setIfInBounds 0 (rawInt slot')) o):=br _ ho (dh (bS hd _));have hd1:(Obj.mapFields (·.setIfInBounds 0 (rawInt slot')) o).data = .fields #v[.int slot' 0,.int i 0,.ref a,.int es.size 0,.int ep 0]:=by rw[bS hd];simp[rawInt]
  show#[(s.heap.update it (Obj.mapFields (·.setIfInBounds 0 (rawInt slot')))).update it (Obj.mapFields (·.setIfInBounds 1 (rawInt ((i:Int)+1)))),#[_,br _ h1 (dh (bS hd1 _)),?_,?_],(bh ..).trans (bh ..),λ{A' E' α f R} hR=>?_];rw[ei,ei];show hc;rw[bS hd1];simp[rawInt];show aa (bB ho hd (by simp) (aa (bB (s:={ s with heap:=s.heap.update it (Obj.mapFields (·.setIfInBounds 0 (rawInt slot'))) }) h1 hd1 (by simp) hR)))
 unfold setNext
 cases hb:w.params.followText "set-order" with
 | true=>
  have hx':(pickOrder (w.params.setOrder a ep) es)[i]?=some e:=by
   unfold zl5 at hx;right
  obtain⟨h',hi',sb',step⟩:=upd2 slot;show aa ?_;show aa (bq hos hds hf ?_);dsimp only;unfold setsByText;show aa (aa (bN (ai ?_)));rw[show (model prog w).w=w from rfl,hb];simp only[if_true];rw[if_neg (by simp)];unfold setWalk;show aa ?_;show aa (bq hos hds hf ?_);dsimp only;unfold setsByText;show aa (aa (bN (ai ?_)));rw[show (model prog w).w=w from rfl,hb];simp only[if_true];show aa (bN (ai ?_));show ai ?_;rw[show (model prog w).w=w from rfl];simp only[aP];rw[hx'];dsimp only[Option.map];show step (ai #[_,BC,ai (hQ h' slot hi' (.inl hb) sb')])
 | false=>
  have hx':es[i]?=some e:=by
   unfold zl5 at hx;grind
  have hsl:SetTable.below t.place slot=i:=by grind
  have hi:i<es.size:=(cr.mp hx').1;have hpl:t.place[i]?=some (t.place.getD i 0):=zfT (by rw[T.sz];show hi);obtain⟨h',hi',sb',step⟩:=upd2 (t.place.getD i 0+1);show aa ?_;show aa (bq hos hds hf ?_);dsimp only;unfold setsByText;show aa (aa (bN (ai ?_)));rw[show (model prog w).w=w from rfl,hb];simp only[aQ,if_false];rw[if_neg (by change ¬ ((!t.plain&&decide (es.size > 1))=true);rw[T.plain];simp)];show aa ?_;change wpAny _ _ (if (!t.led&&!es.isEmpty)=true then unsupported "set:maker-not-led" else pure ()) _ _ s;rw[if_neg (by rw[T.led,hb];simp)];show ai ?_;simp only[aP];rw[hsl,hx',hpl];show ai ?_;dsimp only;show step (ai #[_,BC,ai (hQ h' _ hi' (.inr ?_) sb')]);obtain⟨b1,b2,b3⟩:=xW T.ris (t.place.getD i 0+1);have hi2:=(xQ hpl).1;rcases ci (SetTable.below t.place (t.place.getD i 0+1)) (i+1) with z | z | z;have:=b3 i (by lia) hi2;lia;show z;have h1:=b2 (i+1) z;have h2:=T.ris i (i+1) (Nat.lt_succ_self i) (by lia);lia
def zl0 {it a:Addr}{slot ep:Nat}{Q:AK->Aa->Prop}(hh:A.handled=none)(hit:yq s.heap it a slot es.size es.size ep)(S:SetIs w s.heap a es ep t)
  (hs:w.params.followText "set-order" = true\/SetTable.below t.place slot=es.size)
  (hQ:∀h',Heap.ExtBut it s.heap h'->Q none { s with heap:=h' }):Ah prog w A (pyNext (.ref it)) Q E s:=by
 obtain⟨o,ho,hc,hd⟩:=id hit;obtain⟨⟨os,hos,_,hds⟩,T⟩:=S;have hf:=T.fits;unfold pyNext
 show aa (cR (wpAny_callSpecial?_slot (name:=Str.ofString "__next__") hit.typeIs zS
  (a6 zS hit.typeIs xE ?_ (xV _))))
 show aa (ai ?_);show aa (fF ho hd ?_);dsimp only;show aa (eX hos hds hf ?_);rw[if_neg (by simp)];unfold setNext;show aa ?_;show aa (bq hos hds hf ?_);dsimp only;unfold setsByText;show aa (aa (bN (ai ?_)))
 cases hb:w.params.followText "set-order" with
 | true=>
  rw[show (model prog w).w=w from rfl,hb];simp only[if_true];rw[if_neg (by simp)];unfold setWalk;show aa ?_;show aa (bq hos hds hf ?_);dsimp only;unfold setsByText;show aa (aa (bN (ai ?_)));rw[show (model prog w).w=w from rfl,hb];simp only[if_true];show aa (bN (ai ?_));show ai ?_;rw[show (model prog w).w=w from rfl];simp only[aP];have hn:(pickOrder (w.params.setOrder a ep) es)[es.size]?=none:=by rw[zbE];show cC ?_;rw[(ze9 _ es).length_eq,aX];show ak _
  rw[hn];dsimp only[Option.map];show aa (bB ho hd (by simp) ?_);show wpAny _ _ (newExc (.type "StopIteration") [] >>= _) _ _ _;show aa ?_;simp only[newExc,newTuple];show aa (bg ?_ (by size_fits));show aa (m:=firstArgMember _ _) (wpAny_of_eq (a:=Value.none) (by first | rfl | (simp only[firstArgMember];rfl)) ?_);show bg ?_ (by size_fits);simp only[raiseNew];show aa (fQ ?_);rw[show A.in1.handled=none from hh];show aa (ai (wpAny_throw ?_));show aa (cw (T := "StopIteration") (b:=true) #[_,aw _ BC,BC] dw ?_);show ai (hQ _ (((bh ..).extBut.push _).push _))
 | false=>
  have hsl:SetTable.below t.place slot=es.size:=by grind
  rw[show (model prog w).w=w from rfl,hb];simp only[aQ,if_false];rw[if_neg (by change ¬ ((!t.plain&&decide (es.size > 1))=true);rw[T.plain];simp)];show aa ?_;change wpAny _ _ (if (!t.led&&!es.isEmpty)=true then unsupported "set:maker-not-led" else pure ()) _ _ s;rw[if_neg (by rw[T.led,hb];simp)];show ai ?_;simp only[aP];rw[hsl,Array.getElem?_eq_none (ak _)];show ai ?_;dsimp only;show aa (bB ho hd (by simp) ?_);show wpAny _ _ (newExc (.type "StopIteration") [] >>= _) _ _ _;show aa ?_;simp only[newExc,newTuple];show aa (bg ?_ (by size_fits));show aa (m:=firstArgMember _ _) (wpAny_of_eq (a:=Value.none) (by first | rfl | (simp only[firstArgMember];rfl)) ?_);show bg ?_ (by size_fits);simp only[raiseNew];show aa (fQ ?_);rw[show A.in1.handled=none from hh];show aa (ai (wpAny_throw ?_));show aa (cw (T := "StopIteration") (b:=true) #[_,aw _ BC,BC] dw ?_);show ai (hQ _ (((bh ..).extBut.push _).push _))
def zjk {it a:Addr}{slot i n ep:Nat}{Q:AA}(hit:yq s.heap it a slot i n ep)(h:Q (.ref it) s):Ah prog w A (pyIter (.ref it)) Q E s:=by show fL hit.typeIs uc (a6 uc hit.typeIs zaK ?_ (za7 _));change wpAny _ _ (ret (.ref it)) _ _ s;show ai #[_,BC,"set_iterator",_,hit.typeIs,zS.lookup,h]
def SetIs.typeIs {a:Addr}{ep:Nat}(S:SetIs w s.heap a es ep t):s.TypeIs (.ref a) "set" := let ⟨o,ho,hc,_⟩:=S.ob;#[o,ho,hc.1]
def zlD {a:Addr}{ep:Nat}{Q:AA}(S:SetIs w s.heap a es ep t)
  (h:Q (.ref s.heap.objs.size) { s with heap:=s.heap.push { cls:=.type "set_iterator",data:=.fields #v[.int 0 0,.int 0 0,.ref a,.int es.size 0,.int ep 0] } }):Ah prog w A (pyIter (.ref a)) Q E s:=by
 have hT:=S.typeIs;obtain⟨⟨os,hos,hx,hds⟩,T⟩:=S;have hf:=T.fits;show fL hT F.slot_set_iter (a6 F.slot_set_iter hT zcQ ?_ (F.args_set_iter_1 _));unfold Builtin.«frozenset.__iter__»;show aa (m:=Builtin.Frozenset.slot0 "__iter__" #[[.ref a],[]]) (ai ?_);show aa ?_;unfold Builtin.Frozenset.sizeOf;show aa (eX hos hds hf (ai ?_));show aa ?_;unfold setDrawn;show aa (bq hos hds hf ?_);dsimp only;unfold setsByText;show aa (aa (bN (ai ?_)));show ai ?_;rw[if_neg (by change ¬ ((!_&&(!t.plain&&decide (es.size > 1)))=true);rw[T.plain];simp)];show aa (ai ?_);show aa (wpAny_setEpoch_of hos hds hf ?_);show aa (bg (ai #[_,BC,"set_iterator",_,#[_,aw _ BC,BC],zS.lookup,?_]));simpa [rawInt] using h
open PySem.W PySem.Calls
def zmJ {r:Addr}{Q:Bool->Aa->Prop}(hT:s.TypeIs (.ref r) "set")(h:Q false s):Ah prog w A (Builtin.List.listLengthHint (.ref r)) Q E s:=by
 unfold Builtin.List.listLengthHint;show aa (wpAny_specialOf hT PySem.F.slot_set_len.lookup ?_);generalize hid:("set.__len__" : String)=id0
 wp_delta
 rw[show splitId id0=some ("set","__len__") from by subst hid;decide +kernel];subst hid;show aa (cw (T := "set") (b:=true) hT (by rw[isSubtype_type];kernel_rfl) ?_);show wpAny_ite_split (λhab=>absurd hab (by ext)) (λ_=>?_);show wpAny_ite_split (λ_=>?_) (λhab=>absurd (by decide +kernel) hab);show aa (cJ hT ?_);show ai h
def SetIs.keep {h h':Heap}{a:Addr}{ep:Nat}(S:SetIs w h a es ep t)(k:∀o,h.get? a=some o->h'.get? a=some o):SetIs w h' a es ep t:=let ⟨⟨o,ho,r⟩,T⟩:=S;#[#[o,k o ho,r],T]
def yq.keep {h h':Heap}{it a:Addr}{slot i n ep:Nat}(S:yq h it a slot i n ep)(k:∀o,h.get? it=some o->h'.get? it=some o):yq h' it a slot i n ep:=let ⟨o,ho,r⟩:=S;#[o,k o ho,r]
def SetIs.lt {h:Heap}{a:Addr}{ep:Nat}(S:SetIs w h a es ep t):a<h.objs.size:=let ⟨⟨o,ho,_⟩,_⟩:=S;ax ho
def zkJ (hh:A.handled=none)(I a:Addr)(hne:a≠I)(ep:Nat) :
  Walks prog w A I [I,a] [I] es.size (λi v=>∃e,(zl5 w a ep es)[i]?=some e/\v=e.2) (λi h=>(∃slot,yq h I a slot i es.size ep/\(w.params.followText "set-order" = true\/SetTable.below t.place slot=i))/\SetIs w h a es ep t) where
 sub:=λb hb=>by simp at hb;simp[hb]
 frame:=λ_ _ _ st hk=>#[let ⟨sl,x,y⟩:=st.1;#[sl,x.keep λo e=>hk I (by simp) o e,y],st.2.keep λo e=>hk a (by simp) o e]
 item:=λi s Q E hi st hQ=>by
  obtain⟨⟨sl,hit,hs⟩,S⟩:=st
  have hlt:i<(zl5 w a ep es).size:=by
   have:=(zcy (w:=w) (es:=es) a ep).length_eq;grind
  show zjS hit S hs (e:=(zl5 w a ep es)[i]) (bK hlt) λh' slot' hit' hs' sb=>?_;show hQ _ h' s.toks #[_,bK hlt,BC] #[#[slot',hit',hs'],S.keep λo e=>(sb.2 a hne).trans e] λb o hb e=>sb.extBut b o (λh=>hb (by simp[h])) e
 done:=λs Q E st hQ=>by obtain⟨⟨sl,hit,hs⟩,S⟩:=st;show zl0 hh hit S hs λh' he'=>hQ h' s.toks λb o hb e=>he' b o (λh=>hb (by simp[h])) e
 self:=λ_ _ _ _ st hQ=>let ⟨sl,x,_⟩:=st.1;zjk x hQ
def zkI (a:Addr)(ep:Nat):KdlSrc prog w "set" a a es.size (λi v=>∃e,(zl5 w a ep es)[i]?=some e/\v=e.2) (λh=>SetIs w h a es ep t) where
 type:=λs S=>S.typeIs
 there:=λ_ S=>#[S.lt,S.lt]
 keep:=λ_ _ S hk=>S.keep λo e=>hk a (.inl BC) o e
 notList:=by ext
 notTuple:=by ext
 hint:=λ_ _ _ _ S hq=>zmJ S.typeIs hq
 iter:=λA s hh S=>#[_,_,(λ_ _ hq=>zlD S hq),zkJ hh _ a (aJ S.lt) ep,#[#[0,#[_,aw _ BC,BC,BC],.inr ?_],S.keep λo e=>af _ e]]
where finally
 have b:=xW S.tb.ris 0;rcases Nat.eq_zero_or_pos (SetTable.below t.place 0) with z | z;show z;show absurd (b.2.1 0 z) (ck _)
end
def zep (h:Heap)(L BI:Addr)(v:Value)(st:AH):Prop:=∃ (a:Addr) (items:AO),v = .ref a/\IsTup h a items.toArray/\z9 (st.map V.int) items/\a≠L/\a≠BI
def zep.keep {h h':Heap}{L BI:Addr}{v:Value}{st:AH}(r:zep h L BI v st)(kp:∀b o,b≠L->b≠BI->h.get? b=some o->h'.get? b=some o):zep h' L BI v st:=by obtain⟨a,items,e,⟨o,ho,hc⟩,hv,h1,h2⟩:=r;show#[a,items,e,#[o,kp a o h1 h2 ho,hc],hv,h1,h2]
theorem zc9 {h:Heap}{L BI:Addr}:∀ {vs:AO} {BG:AG},Paired (zep h L BI) vs BG->(∀st∈BG,1<=st.length)->∃fs,W.KatTups h vs fs/\fs.length=BG.length/\∀f∈fs,∃a t,f=Value.int a t
 | _,_,.nil,_=>#[[],trivial,BC,λ_ h=>by simp at h]
 | _,_,.cons (b:=st) r rr,h1=>by
  obtain⟨a,items,rfl,⟨o,ho,hc,n,hd⟩,rv,_⟩:=r;obtain⟨fs,f1,f2,f3⟩:=zc9 rr λz hz=>h1 z (ao _ hz);have hst:=h1 st am
  match st,rv,hst with
  | z::zs,rv,_=>
   cases rv with
   | cons q1 qq=>
    obtain⟨t,rfl⟩:=q1;show#[_::fs,#[#[a,o,_,n,BC,ho,hc,hd,BC],f1],by right,λf hf=>?_];rcases aG.mp hf with rfl | hf
    all_goals right
theorem zbk {α β:Type}{R:α->β->Prop}:∀ {l:List α} {l':List β},Paired R l l'->∀ {i:Nat} (d:α) (d':β),i<l'.length->R (l.getD i d) (l'.getD i d')
 | _,_,.nil,i,_,_,h=>by simp at h
 | _,_,.cons r _,0,_,_,_=>r
 | _,_,.cons _ t,i+1,d,d',h=>by have:=zbk t (i:=i) d d' (by simpa using h);simpa using this
theorem zdg {α β:Type}{R:α->β->Prop}:∀ {l:List α} {l':List β},Paired R l l'->l.length=l'.length
 | _,_,.nil=>rfl
 | _,_,.cons _ t=>by rw[bc,bc,zdg t]
section
variable {prog:Ab}{w:Ac}{A:Af}{E:AA}{s:Aa}
def zlQ {L BI:Addr}{m0:AJ}{vs:AO}{n m:Nat}{BG:AG}{Q:AA}(hns:s.heap.Ns L m0)(hDL:BI≠L)(ho:s.heap.get? BI=some (seqObj "list" vs.toArray n))
  (hv:Paired (zep s.heap L BI) vs BG) (h64:BG.length<64) (hm1:1<=m) (hm:∀st∈BG,st.length=m) (hnd:BG.Nodup)
  (h:∀h' c p,List.Perm p (List.range BG.length)->((p.map λi=>BG.getD i []).Pairwise λa b=>HT.lexLt a b=true)->(∀b o,b≠L->b≠BI->s.heap.get? b=some o->h'.get? b=some o)->h'.Ns L m0->
   h'.get? BI=some (seqObj "list" (p.map λi=>vs.getD i .none).toArray c)->Q .none { s with heap:=h' }) :
  Ah prog w A (call (.builtin "list.sort") [.ref BI]) Q E s:=by
 have hvl:=zdg hv;by_cases h2:2<=BG.length
 ·have hrest:∀p∈(uy s.heap L).filter (λq=>decide (q.1≠BI)),s.heap.get? p.1=some p.2/\p.1≠L/\p.1≠BI:=λp hp=>by
   have h1:=aK.mp hp;have h2:=zH.mp (show (p.1,p.2)∈uy s.heap L from h1.1);right
  have none0:∀b,(#[#v[],{}]:Heap).get? b=none:=λb=>by
   cases e:(#[#v[],{}]:Heap).get? b with
   | none=>rfl
   | some o'=>
    have:=ax e;simp at this
  show W.kat_lsort (h₀:=(#[#v[],{}]:Heap)) (L:=L) (m:=m0) (D:=BI) (its:=vs.toArray) (n:=n) (news:=(BI,seqObj "list" vs.toArray n)::(uy s.heap L).filter (λq=>decide (q.1≠BI))) (g:=λo=>(BI,o)::(uy s.heap L).filter (λq=>decide (q.1≠BI))) #[hns,λb o e=>?_,aS _] (λp hp=>?_) (W.UpdF.head λq hq=>(hrest q hq).2.2) (vs:=vs) BC (by lia) (by lia) λe1 h' F N=>?_;right;rcases aG.mp hp with rfl | hp;right;show#[(hrest p hp).1,(hrest p hp).2.1,none0 _]
  ·have kp:∀b o,b≠L->b≠BI->s.heap.get? b=some o->h'.get? b=some o:=λb o hb hD e=>(N (b,o) (ao _ (aK.mpr #[zH.mpr #[hb,e],aN hD]))).1;have hv':Paired (zep h' L BI) vs BG:=Paired.mapP hv λv st r=>r.keep kp;obtain⟨fs,k1,k2,k3⟩:=zc9 hv' λst hst=>by rw[hm st hst];show hm1
   show W.kat_kind (T:=.type "int") (s:={ s with heap:=h' }) k1 (by lia) (λf hf=>?_) (by ext) ?_;obtain⟨a,t,rfl⟩:=k3 f hf;intro A' Q' E' s' _ hq;show cJ (eL s' a t) hq
   ·have hu:zbV BG.length (zch BG):=λi j hi hj e=>by
     have e1:=xg hm hi hj;have e2:=xg hm hj hi;rw[e,aT (fR _)] at e1;rw[e,aT (fR _)] at e2;have gi:BG.getD i []=BG[i]:=by simp[hi]
     have gj:BG.getD j []=BG[j]:=by simp[hj]
     rcases uO (a:=BG.getD i []) (b:=BG.getD j []) (by right) with h | h | h;rw[gi,gj] at h;show (bM hnd).mp h
     all_goals grind
    obtain⟨p,hrun,hup⟩:=zhf hu h2;rw[show vs.length=BG.length by lia];show hrun.wp (S:=λs'=>s'={ s with heap:=h' }) (λi j C s' hi hj hs' hC=>?_) (λs' hs'=>?_) _ BC;subst hs';obtain⟨a1,it1,b1,c1,d1,_⟩:=zbk hv' .none [] hi;obtain⟨a2,it2,b2,c2,d2,_⟩:=zbk hv' .none [] hj;obtain⟨o1,ho1,_,n1,hd1⟩:=c1;obtain⟨o2,ho2,_,n2,hd2⟩:=c2;change wpAny _ _ (keyLt' _ (vs.getD i .none) (vs.getD j .none)) C _ _;rw[b1,b2];have gi:(BG.getD i []).length=m:=by right
    have gj:(BG.getD j []).length=m:=by right
    have l1:=d1.length;have l2:=d2.length;rw[ab] at l1 l2;show W.kat_lt (s:={ s with heap:=h' }) ho1 hd1 ho2 hd2 ?_;rw[show decide (it1.toArray.size<it2.toArray.size)=false from aT (by simp;lia)];show zdN 0 d1 d2 (by rw[gi,gj]) ?_;have:=hC { s with heap:=h' } BC;rw[show zfz (zch BG) i j=HT.lexLt (BG.getD i []) (BG.getD j []) from xg hm hi hj] at this;show this;subst hs';have hpl:p.toList.Perm (List.range BG.length):=by have:=hup.perm.toList;simpa using this
    have hpi:∀i∈p.toList,i<BG.length:=λi hi=>aZ.mp ((hpl.mem_iff).mp hi);show W.KasFin.intro F N (W.UpdF.head λq' hq'=>(hrest q' hq').2.2) λh'' c F'' N''=>?_;show h h'' c p.toList hpl ?_ (λb o hb hD e=>(N'' (b,o) (ao _ (aK.mpr #[zH.mpr #[hb,e],aN hD]))).1) F''.ns (N'' (BI,_) am).1;have hps:p.size=BG.length:=x9 hup.perm;rw[cD];intro i j hi hj hij;rw[ab,aX] at hi hj;have hk:=hup.lt_of hij (by lia);rw[cy,cy,du,du];have e1:p.getD i 0=p[i]:=by simp[hi]
    have e2:p.getD j 0=p[j]:=by simp[hj]
    unfold key at hk;rw[e1,e2] at hk;rw[<- xg hm (hpi _ (by simp)) (hpi _ (by simp))];right
 show a6 slot_list_sort #[_,ho,BC] entry_list_sort ?_ (args_list_sort _);show u6 ho (by lia) λh' c kp hD=>#[_,BC,?_];show h h' c (List.range BG.length) (List.Perm.refl _) ?_ (λb o _ hb e=>kp b o hb e) ?_ ?_;grind;obtain⟨o,es,ep,g,k⟩:=hns;show#[o,es,ep,kp _ _ (Ne.symm hDL) g,k];rw[<- hvl,zbn];show hD
end
def xj {α β:Type}{f:α->β}{l m:List β}(h:l.Perm m):∀ {xs:List α},m=xs.map f->∃xs':List α,xs'.Perm xs/\l=xs'.map f:=by
 induction h with
 | nil=>
  right
 | cons x _ ih=>
  intro xs e
  cases xs with
  | nil=>cases e
  | cons y ys=>
   rw[aC] at e;injection e with e1 e2;obtain⟨xs',h1,h2⟩:=ih e2;show#[y::xs',h1.cons y,by right]
 | swap x y l=>
  intro xs e
  match xs,e with
  | [],e=>cases e
  | [_],e=>cases e
  | a::b::r,e=>
   rw[aC,aC] at e;injection e with e1 e2;injection e2 with e2 e3;show#[b::a::r,.swap _ _ _,by grind]
 | trans _ _ ih1 ih2=>
  intro xs e;obtain⟨xs',h1,h2⟩:=ih2 e;obtain⟨xs'',h3,h4⟩:=ih1 h2;show#[xs'',h3.trans h1,h4]
def zhe (P:Ab)(w:Ac)(a:Addr)(xs:List (List Key×Addr)):HO:=.ext λh=>zbU P w h a xs
def zaz (xs:AF):List (List Key×Addr):=xs.map λq=>(q.1.map Sum.inl,q.2)
def zkH {P:Ab}{w:Ac}{H:Hp}{h:Heap}{a:Addr}{xs:List (List Key×Addr)}(S:zbU P w h a xs):z8 P w H h a (zhe P w a xs):=by
 show#[S,?_,λh1 h2 q k=>?_];obtain⟨o,_,_,_,ho,_⟩:=S;show#[o,ho];obtain⟨o,es,ep,t,ho,r⟩:=q;show#[o,es,ep,t,k o ho,r]
def zgl {o:Obj}{n:Nat}{d:Addr}{u:Obj}(h:(#[Array.replicate (n+1) o,{}]:Heap).get? d=some u):u=o:=by
 unfold Heap.get? at h;simp only[Array.getElem?_replicate] at h;split at h;cases h;split at h;show (bH h).symm;cases h
def zpV {P:Ab}{w:Ac}{a d:Addr}{xs:List (List Key×Addr)}{ob:Obj}(hs:∃h:Heap,h.get? d=some ob):(λh=>zbU P w h a xs)≠λh=>h.get? d=some ob:=λe=>by
 obtain⟨h0,hh⟩:=hs;have h1:zbU P w h0 a xs:=by rw[show zbU P w h0 a xs=_ from congrFun e h0];show hh
 obtain⟨o,es,ep,t,ho,hx,hd,T,hr⟩:=h1;have k:∀ep':Nat,({ o with data:=.set es ep' t }:Obj)=ob:=λep'=>by have h2:zbU P w (#[Array.replicate (a+1) { o with data:=.set es ep' t },{}]:Heap) a xs:=#[{ o with data:=.set es ep' t },es,ep',t,by simp[Heap.get?],hx,BC,T,hr];rw[show zbU P w _ a xs=_ from congrFun e _] at h2;show (zgl h2).symm
 have:=congrArg Obj.data ((k 0).trans (k 1).symm);cases this
def zg1 {P:Ab}{w:Ac}{a:Addr}{xs:List (List Key×Addr)}:∀BE,pnK (zhe P w a xs)=some BE->zaF BE (Sum.inr "at" : Key)=none:=λBE e=>by
 unfold zhe pnK at e;dsimp only at e;rw[if_neg] at e;cases e;rintro⟨d,ob,hs,z⟩;show zpV hs z
def zgy (P:Ab)(w:Ac)(H:Hp)(a:Addr)(ks:AG):Prop:=∃xs:AF,H a=some (zhe P w a (zaz xs))/\(∀q∈xs,H q.2=some (.tup (q.1.map V.int)))/\ks=xs.map (·.1)/\ks.Nodup
def zgy.stay {P:Ab}{w:Ac}{H H':Hp}{a:Addr}{ks:AG}(S:zgy P w H a ks)(h:zo H H'):zgy P w H' a ks:=by obtain⟨xs,h1,h2,h3,h4⟩:=S;show#[xs,h _ _ h1 zg1,λq hq=>h.tup (h2 q hq),h3,h4]
section
variable {X:Cx}
def zjq {BD:AB}{G:St}{H:Hp}{s:Aa}(I:Inv X BD G H s){b:Addr}{ns:AH}(h:H b=some (.tup (ns.map V.int))):(tk X.prog X.w).is s.heap (ns.map Sum.inl) b:=by
 obtain⟨its,rv,⟨o,ho,hc,n,hd⟩,_⟩:=I.tuple (.of h);show#[o,its.toArray,n,ho,hc,hd,?_]
 have gen:∀ {ns:AH} {its:AO},z9 (ns.map V.int) its->ItemsAre (zy X.prog X.w) (ns.map Sum.inl) its:=by
  intro ns
  induction ns with
  | nil=>intro its r;cases r;show .nil
  | cons n ns ih=>
   intro its r
   cases r with
   | cons r1 r2=>
    obtain⟨t,rfl⟩:=r1;show .cons (uN n t) (ih r2)
 show gen rv
def zno (P:Ab)(w:Ac):AU->Hp->VK->Prop:=λxs H Q=>∃ (a:Addr) (ks:AG) (m:Nat),xs=[.ref a]/\zgy P w H a ks/\ks.length<64/\1<=m/\(∀st∈ks,st.length=m)/\
 ∀ (ys:AU) (sts':AG),IsL H (sts'.map stD) ys->sts'.Perm ks->(sts'.Pairwise λa b=>HT.lexLt a b=true)->New H (.lst ys) Q
theorem zgT {H:Hp}:∀ {xs:AF},(∀q∈xs,H q.2=some (.tup (q.1.map V.int)))->IsL H ((xs.map (·.1)).map stD) (xs.map λq=>V.ref q.2)
 | [],_=>rfl
 | q::xs,h=>#[_,_,BC,#[q.2,_,BC,h q am,IsL.ints],zgT λr hr=>h r (ao _ hr)]
theorem zfy:∀ (xs:AF),z9 (xs.map λq=>V.ref q.2) (xs.map λq=>Value.ref q.2)
 | []=>.nil
 | q::xs=>.cons BC (zfy xs)
def zlm (hc:X.calm=true):CallQ X (.builtin "sorted") (zno X.prog X.w):=#[by
 intro BD s G H xs us Q I r h;obtain⟨a,ks,m,rfl,⟨xs,hH,hel,rfl,hnd⟩,h64,hm1,hm,q⟩:=h;obtain⟨u,rfl,ru⟩:=zak r;cases ru;obtain⟨⟨o,es,ep,t,ho,hx,hd,T,_⟩,_⟩:=(show z8 X.prog X.w H s.heap a (zhe X.prog X.w a (zaz xs)) from I.hok a _ hH);have S:SetIs X.w s.heap a es ep t:=#[#[o,ho,hx,hd],T.q];obtain⟨m0,hns,_⟩:=id I.loc;have hsz:es.size=xs.length:=by rw[T.size];unfold zaz;rw[ab]
 rw[ab] at h64
 have none0:∀b,(#[#v[],{}]:Heap).get? b=none:=λb=>by
  cases e:(#[#v[],{}]:Heap).get? b with
  | none=>rfl
  | some o'=>
   have:=ax e;simp at this
 have hpo:=zcy (w:=X.w) (es:=es) a ep;have heq:es.toList=xs.map λq=>((tk X.prog X.w).hash (q.1.map Sum.inl),Value.ref q.2):=by rw[T.eq];unfold zaz;rw[ar];rfl
 rw[heq] at hpo;obtain⟨xs2,hp2,he2⟩:=xj hpo BC;show kdu_sorted (h₀:=(#[#v[],{}]:Heap)) (L:=X.env.locals) (m:=m0) (news:=uy s.heap X.env.locals) (zkI (t:=t) a ep) (I.ok.hd hc) #[hns,λb o e=>(by right),aS _] (λp hp=>?_) S (by rw[hsz,bp];lia) λBI h' tk' vs F N hlt hl hP=>?_;obtain⟨b,o⟩:=p;have:=zH.mp hp;right
 have hvs:vs=xs2.map λq=>Value.ref q.2:=by
  have hl2:=hp2.length_eq;show dB (by right) λj h1 h2=>?_;obtain⟨e,he,hv⟩:=hP j vs[j] (aj h1);rw[zbE,he2,aA] at he;rw[ab] at h2;rw[aj h2] at he;rw[hv,cy,<- bH he]
 have kp:∀b o,b≠X.env.locals->s.heap.get? b=some o->h'.get? b=some o:=λb o hb e=>(N (b,o) (ao _ (zH.mpr #[hb,e]))).1;have hDL:BI≠X.env.locals:=(N (BI,_) am).2.1
 have hDn:s.heap.get? BI=none:=by
  cases e:s.heap.get? BI with
  | none=>rfl
  | some o=>show absurd (hlt (BI,o) (zH.mpr #[hDL,e])) (bL _)
 have hHD:H BI=none:=by
  cases e:H BI with
  | none=>rfl
  | some o=>
   obtain⟨o',ho'⟩:=uR (I.hok BI o e);grind
 have hel2:∀q∈xs2,H q.2=some (.tup (q.1.map V.int)):=λq hq=>hel q ((hp2.mem_iff).mp hq)
 have rows:Paired (zep h' X.env.locals BI) vs (xs2.map (·.1)):=by
  rw[hvs]
  have gen:∀ (l:AF),(∀q∈l,H q.2=some (.tup (q.1.map V.int)))->Paired (zep h' X.env.locals BI) (l.map λq=>Value.ref q.2) (l.map (·.1)):=by
   intro l
   induction l with
   | nil=>intro _;show .nil
   | cons q l ih=>
    intro hl;have hq:=hl q am;obtain⟨items,rv,⟨o',ho',hc'⟩,_⟩:=I.tuple (.of hq);have hqL:=zb hq I.free;show .cons #[q.2,items,BC,#[o',kp _ _ hqL ho',hc'],rv,hqL,zb hq hHD] (ih λr hr=>hl r (ao _ hr))
  show gen xs2 hel2
 have hpk:=hp2.map (·.1);show zlQ (s:={ s with heap:=h',toks:=tk' }) F.ns hDL (N (BI,_) am).1 rows (by right) hm1 (λst hst=>hm st ((hpk.mem_iff).mp hst)) (hpk.nodup_iff.mpr hnd) λh'' c p hp hup kp2 ns2 hD2=>?_;have hpi:∀i∈p,i<xs2.length:=λi hi=>by have:=aZ.mp ((hp.mem_iff).mp hi);rwa[ab] at this
 have pickd:(p.map λi=>(xs2.map (·.1)).getD i [])=(p.map λi=>xs2.getD i ([],0)).map (·.1):=by right
 have pickv:(p.map λi=>vs.getD i .none)=(p.map λi=>xs2.getD i ([],0)).map λq=>Value.ref q.2:=by right
 have pin:∀q∈(p.map λi=>xs2.getD i ([],0)),H q.2=some (.tup (q.1.map V.int)):=λq hq=>by
  obtain⟨i,hi,rfl⟩:=aq.mp hq;have h1:=hpi i hi;have:xs2.getD i ([],0)=xs2[i]:=by simp[h1]
  rw[this];show hel2 _ (bu h1)
 rw[pickv] at hD2;rw[pickd] at hup;have hplen:p.length=xs.length:=by rw[hp.length_eq,aI,ab,hp2.length_eq]
 have I':=zcc I hns (ys:=(p.map λi=>xs2.getD i ([],0)).map λq=>V.ref q.2) (λb o hb e=>kp2 b o hb (by grind) (kp b o hb e)) ns2 hDn hHD hD2 (zfy _) (by rw[ab,ab,hplen,bp];lia) tk';show#[.ref BI,_,I',BC,(q _ ((p.map λi=>xs2.getD i ([],0)).map (·.1)) (zgT pin) ?_ hup).at hHD];show List.Perm.trans ?_ hpk;rw[<- pickd];have:=hp.map λi=>(xs2.map (·.1)).getD i [];rwa[zbn] at this]
variable {prog:Ab}{w:Ac}{A:Af}{E:AA}{R:Result->Aa->Prop}{s:Aa}
def zeU {Q:AA}(h:Q (.ref s.heap.objs.size) { s with heap:=s.heap.push { cls:=.type "set",dict:=none,data:=.set #v[] 0 (.fresh 0 0 (!w.params.followText "set-order")) } }):Ah prog w A (newSet (.type "set")) Q E s:=by unfold newSet setsByText;show aa (aa (bN (ai ?_)));dsimp only;simp only[newObj];show aa (wpAny_alloc (ai h))
def zkG (h:Heap):zbU prog w (h.push { cls:=.type "set",dict:=none,data:=.set #v[] 0 (.fresh 0 0 (!w.params.followText "set-order")) }) h.objs.size []:=by
 show#[_,#v[],0,_,aw _ BC,#[BC,BC,BC],BC,#[#[BC,BC,λi j _ hj=>?_,λi j e=>?_,BC,.inl BC,aS _,BC,BC,λi q e=>?_],er],by change 0 * 5<7 * 3;decide];show absurd hj (ck _);simp[SetTable.fresh] at e;simp at e
end
theorem zcm:∀ {ns ms:AH},ns.map (Sum.inl:Int->Key)=ms.map Sum.inl->ns=ms
 | [],[],_=>rfl
 | [],_::_,e=>by cases e
 | _::_,[],e=>by cases e
 | n::ns,m::ms,e=>by rw[aC,aC] at e;injection e with e1 e2;rw[eY e1,zcm e2]
section
variable {X:Cx}
def zh1 {BD:AB}{G:St}{H:Hp}{s:Aa}{acc b:Addr}{ns:AH}{ks:AG}{Q:AA}(hu:X.A.units+1<cLine)(I:Inv X BD G H s)(S:zgy X.prog X.w H acc ks)(hb:H b=some (.tup (ns.map V.int)))(hn:ks.length<300)
  (h:∀o ks' s',zgy X.prog X.w (upd H acc o) acc ks'->(∀x,x∈ks'↔x=ns\/x∈ks)->ks'.length<=ks.length+1->Inv X BD G (upd H acc o) s'->Q .none s') :
  Ag X (call (.builtin "set.add") [.ref acc,.ref b]) Q X.xe s:=by
 obtain⟨xs,hH,hel,rfl,hnd⟩:=S;have hS:=(show z8 X.prog X.w H s.heap acc (zhe X.prog X.w acc (zaz xs)) from I.hok acc _ hH).1;obtain⟨o,es,ep,t,ho,hx,hd,T,hroom⟩:=id hS;show a6 F.slot_set_add #[o,ho,hx.1] F.entry_set_add ?_ (F.args_set_add_2 _ _);unfold Builtin.«set.add»;show aa (m:=Builtin.Frozenset.oneOther "add" #[[.ref acc,.ref b],[]]) (ai ?_);have hba:b≠acc:=zlZ hb hH (by intro z;cases z);have hea:∀q∈xs,q.2≠acc:=λq hq=>zlZ (hel q hq) hH (by intro z;cases z);rw[ab] at hn;show aa (zqx (A:=X.A.in1) (xs:=zaz xs) (ns:=ns) (aY (ak _) hu) hS (zjq I hb) (λq hq=>?_) (by unfold zaz;rw[ab];show hn) λr h' n xs' sb S' hin hout=>?_);unfold zaz at hq;obtain⟨q',hq',rfl⟩:=aq.mp hq;show zjq I (hel q' hq')
 ·
  have mem_key:∀ {l:AF},(ns.map Sum.inl)∈(zaz l).map (·.1)↔ns∈l.map (·.1):=by
   intro l;unfold zaz;rw[ar,aq,aq];constructor;rintro⟨q,hq,e⟩;show#[q,hq,?_];have e':q.1.map (Sum.inl:Int->Key)=ns.map Sum.inl:=e;show zcm e';rintro⟨q,hq,rfl⟩;show#[q,hq,BC]
  have fin:∀xs2:AF,xs'=zaz xs2->(∀q∈xs2,q∈xs\/q=(ns,b))->(∀x,x∈xs2.map (·.1)↔x=ns\/x∈xs.map (·.1))->(xs2.map (·.1)).Nodup->xs2.length<=xs.length+1->wpAny (model X.prog X.w) X.A.in1 (do ret .none) (λfin s'=>∃v,fin = .done (.ret v)/\Q v s') X.xe { s with heap:=h',toks:=n }:=by
   rintro xs2 rfl hsub hmem hnd2 hlen
   have hel2:∀q∈xs2,H q.2=some (.tup (q.1.map V.int)):=λq hq=>by
    rcases hsub q hq with z | z;show hel q z;rw[z];show hb
   have hea2:∀q∈xs2,q.2≠acc:=λq hq=>zlZ (hel2 q hq) hH (by intro z;cases z);show ai #[.none,BC,h (zhe X.prog X.w acc (zaz xs2)) (xs2.map (·.1)) _ #[xs2,zj,λq hq=>by rw[ze (hea2 q hq)];show hel2 q hq,BC,hnd2] hmem (by right) ?_];show I.write (e:=acc) (by rw[hH];trivial) (.inl BC) (λc u hc q=>sb.extBut c u hc q) ?_ (zkH S');obtain⟨o',_,_,_,ho',_⟩:=S';show#[o',ho']
  by_cases hm:ns∈xs.map (·.1);have:=hin (mem_key.mpr hm);show fin xs this (λq hq=>.inl hq) (λx=>#[.inr,λz=>z.elim (λe=>e ▸ hm) id]) hnd (cQ _);have hp:=hout λz=>hm (mem_key.mp z);have hk:((ns.map Sum.inl,b)::zaz xs)=zaz ((ns,b)::xs):=rfl;rw[hk] at hp;obtain⟨xs2,hp2,e2⟩:=xj hp BC;show fin xs2 e2 (λq hq=>?_) (λx=>?_) ?_ ?_;grind;rw[(hp2.map (·.1)).mem_iff,aC,aG];rw[(hp2.map (·.1)).nodup_iff,aC,bJ];show#[hm,hnd];rw[hp2.length_eq,bc];show ak _
end
def zbo {env:Env}(elt gens scope pos):eval (.SetComp elt gens scope pos) env=comprehension (.SetComp elt gens scope pos) scope env (firstIterPos gens pos) (newSet (.type "set")) (firstAsync gens) (firstIter gens env):=rfl
def setT (P:Ab)(w:Ac)(g:TG)(ti:TT)(te:TE)(acc:Addr)(N:St->Hp->Prop)(x:V)(G:St)(H:Hp):Prop:=
 g x G H λσ3 H3=>ti σ3 H3 λok H4=>if ok=true then te σ3 H4 λv H5=>∃b ns ks,v = .ref b/\H5 b=some (.tup (ns.map V.int))/\zgy P w H5 acc ks/\ks.length<300/\
  (∀o ks',zgy P w (upd H5 acc o) acc ks'->(∀x,x∈ks'↔x=ns\/x∈ks)->ks'.length<=ks.length+1->N σ3 (upd H5 acc o)) else N σ3 H4
def setG (P:Ab)(w:Ac)(J:It)(g:TG)(ti:TT)(te:TE)(acc:Addr)(Q:VK)(G:St)(H:Hp):Prop:=∃W:Nat->Nat->St->Hp->Prop,(∃m,W 0 m G H)/\
 ∀i m σ' H',W i m σ' H'->(J.stop i H'/\Q (.ref acc) H')\/(J.go i H'/\∃N:St->Hp->Prop,(∀ σ2 H2,N σ2 H2->∃m',m'<m/\W (i+1) m' σ2 H2)/\∀x H2,J.yld i H' x H2->setT P w g ti te acc N x σ' H2)
def zp4 (P:Ab)(w:Ac)(wi:TI)(g:TG)(ti:TT)(te:TE)(BF:List (Option Nat)):TE:=λG H Q=>wi G H λJ H1=>∀acc,H1 acc=none->zgy P w (upd H1 acc (zhe P w acc [])) acc []->setG P w J g ti te acc Q (xB G BF) (upd H1 acc (zhe P w acc []))
section
variable {X:Cx}{Fam:Cx->Prop}{scope:Scope}{N:AN}{BF:List (Option Nat)}{z:Str}{use:Option (Value->Sem Unit)}{Qp:AA}{elt ke ve tg iter tg2 iter2:Expr}{ifs ifs2:AQ}{pos ipos spos px:Pos}{wi wi2:TI}{g g2:TG}{ti ti2:TT}{te tk tv:TE}{BD:AB}{G:St}{H:Hp}{s:Aa}{Q:VK}{o0:HO}
def zmI (hu:X.A.units+1<cLine)(O:Opn X scope BF Fam)(hc:X.calm=true)(hi:PI X tg iter wi)(hg:∀X',Fam X'->PG X' tg g)(ht:∀X',Fam X'->PTs X' ifs ti)(he:∀X',Fam X'->PE X' elt te)(hs:∀x,foldedSetIterable iter X.env x=pure x)(I:Inv X BD G H s)
  (h:zp4 X.prog X.w wi g ti te BF G H Q) (hfin:zto X BD G use Qp Q) :
  Ag X (comprehension (.SetComp elt [#[tg,iter,ifs,0]] scope pos) scope X.env ipos (newSet (.type "set")) false (eval iter X.env) use) Qp X.xe s:=
 uG (ob:={ cls:=.type "set",dict:=none,data:=.set #v[] 0 (.fresh 0 0 (!X.w.params.followText "set-order")) }) (o0:=λa=>zhe X.prog X.w a []) (Fin:=λacc H=>Q (.ref acc) H) (tb:=λacc Nx G H=>te G H λv H5=>∃ (b:Addr) (ns:AH) (ks:AG),v = .ref b/\H5 b=some (.tup (ns.map V.int))/\zgy X.prog X.w H5 acc ks/\ks.length<300/\(∀o ks',zgy X.prog X.w (upd H5 acc o) acc ks'->(∀x,x∈ks'↔x=ns\/x∈ks)->ks'.length<=ks.length+1->Nx G (upd H5 acc o))) O uU hc BC hs (λs Q h=>zeU h) (λ_ _=>zkH (zkG _)) hi hg ht (λX' hF pX wX AX _ xX acc=>#[_,λit=>zck (iter:=iter) uU (nx:=λc=>(do let v <- eval elt X'.env;standAt elt.pos;let _ <- call (.builtin "set.add") [.ref acc,v]) >>= λ_=>c) BC,λpl s G H Nx P I q k _ _ _ hk=>by have e9:=he X' hF pl s G H _ I q;rw[xX] at e9;show aa (aa (bA e9 ?_ λ_ _ h'=>h'.elim));rintro u2 s10 ⟨v,H10,I10,r10,b,ns,ks,rfl,hb,S,hn,nx⟩;cases r10;have m10:=zh1 (X:=X') (Q:=λ_ s'=>P s') (by rw[AX];show hu) I10 (by right) hb hn λo ks' s' S' hm hl I'=>k _ _ _ I' (nx o ks' (by right) hm hl);rw[xX] at m10;show aa (dq (aa (bA m10 (λ_ _ h6=>ai (hk _ h6)) λ_ _ h'=>h'.elim)))]) I h (λJ H1 acc q hn=>q acc hn #[[],zj,λq hq=>by simp at hq,BC,er]) hfin
end
def zhV {X:Cx}{pos:Pos}{te:TE}{elt tg iter:Expr}{ifs:AQ}{scope:Scope}{wi:TI}{g:TG}{ti:TT}{N:AN}{BF:List (Option Nat)}(hu:X.A.units+1<cLine)(hc:X.calm=true)(c:CompOk X scope N BF)
  (hi:QI X tg iter wi) (hg:∀C s H ex,QG (zm X scope N C s H ex) tg g) (ht:∀C s H ex,QTs (zm X scope N C s H ex) ifs ti) (he:∀C s H ex,QE (zm X scope N C s H ex) elt te)
  (hs:∀x,foldedSetIterable iter X.env x=pure x:=by intro _;rfl):QE X (.SetComp elt [#[tg,iter,ifs,0]] scope pos) (zp4 X.prog X.w wi g ti te BF):=#[λBD s G H Q I h=>by
 rw[zbo];show zmI hu (x8 c) hc hi.run (zba λC s H ex=>(hg C s H ex).run) (zba λC s H ex=>(ht C s H ex).run) (zba λC s H ex=>(he C s H ex).run) hs I h λ_ _ _ _ _ hm hb q=>u9 hm hb q]
section
variable {P:Ab}{w:Ac}{K:AI}{a acc:Addr}{xs:AU}{g:TG}{ti:TT}{te:TE}{G:St}{H:Hp}{Q:VK}
end
def zkD (H:Hp):xq H H:=λ_ _ z=>z
section
variable {X:Cx}
open PySem.W PySem.Calls
variable {prog:Ab}{w:Ac}{A:Af}{E:AA}{s:Aa}{es:Array DictEntry}
def uC (h:Heap)(d:Addr)(es:Array DictEntry)(ep:Nat):Prop:=∃o,h.get? d=some o/\o.ExactDict/\o.data = .dict es ep
def uC.keep {h h':Heap}{d:Addr}{ep:Nat}(x:uC h d es ep)(k:∀o,h.get? d=some o->h'.get? d=some o):uC h' d es ep:=let ⟨o,ho,r⟩:=x;#[o,k o ho,r]
def uC.typeIs {d:Addr}{ep:Nat}(x:uC s.heap d es ep):s.TypeIs (.ref d) "dict" := let ⟨o,ho,hc,_⟩:=x;#[o,ho,hc.1]
def uC.lt {h:Heap}{d:Addr}{ep:Nat}(x:uC h d es ep):d<h.objs.size:=let ⟨o,ho,_⟩:=x;ax ho
def zeG {d:Addr}{ep:Nat}{Q:AA}(hd:(d==sysModules)=false)(hm:uC s.heap d es ep)
  (hQ:Q (.ref s.heap.objs.size) { s with heap:=s.heap.push { cls:=.type "dict_keyiterator",data:=.fields #v[.ref d,.int 0 0,.int es.size 0,.int ep 0] } }) :
  Ah prog w A (pyIter (.ref d)) Q E s:=by
 obtain⟨o,ho,hc,hdat⟩:=id hm;have hT:=hm.typeIs;show fL hT PySem.F.slot_dict_iter (a6 PySem.F.slot_dict_iter hT PySem.F.entry_dict_iter ?_ (PySem.F.args_dict_iter_1 _));unfold Builtin.«dict.__iter__»;show aa ?_;unfold Builtin.Dict.dictSlotNone;show aa (wpAny_notOrdered_dict hT ?_);change wpAny _ _ (pure (Value.ref d)) _ _ s;show ai ?_;change wpAny _ _ (Builtin.Dict.showsAll d >>= _) _ _ s;unfold Builtin.Dict.showsAll;rw[if_neg (by right)];show aa (ai ?_);show aa (fM ho hdat ?_);show aa (wpAny_dictEpoch ho hdat ?_);show aa (bg (ai #[_,BC,"dict_keyiterator",_,#[_,aw _ BC,BC],PySem.F.slot_dict_keyiterator_next.lookup,?_]));simpa [rawInt] using hQ
def zlL {it d:Addr}{i ep:Nat}{e:DictEntry}{Q:Fin->Aa->Prop}(hit:s.heap.IsKeyIter it d i es.size ep)(hm:uC s.heap d es ep)(hx:es[i]?=some e)
  (hQ:∀h',h'.IsKeyIter it d (i+1) es.size ep->Heap.SameBut it s.heap h'->Q (.done (.ret e.key)) { s with heap:=h' }):Ah prog w A (Builtin.«dict_keyiterator.__next__» { pos:=[Value.ref it] }) Q E s:=by
 obtain⟨o,ho,hc,hd⟩:=id hit;obtain⟨od,hod,hcd,hdd⟩:=id hm;show aa (ai ?_);show aa ?_;show aa ?_
 first | show aa (b9 hit.typeIs (ai ?_)) | show aa (by grind)
 show aa (fF ho hd ?_);have hown:Builtin.Dict_items.ownsTuple "dict_keyiterator" = false:=by ext
 simp only[hown,aQ,if_false];show wpAny _ _ (if (Value.ref d==Value.none)=true then _ else _) _ _ s;rw[if_neg (by grind)];show aa (ai ?_);show aa (fM hod hdd ?_);rw[if_neg (by simp)];show aa (ai ?_);show aa (wpAny_dictEpoch hod hdd ?_);rw[if_neg (by simp)];show ai ?_;simp only[show ¬ ((i:Int)<0) from by lia,if_false,aP,hx];show aa ?_
 first | show aa (b9 hit.typeIs (ai ?_)) | show aa (by grind)
 show aa (wpAny_isOneOf_keyiter hit.typeIs ?_);change wpAny _ _ (setField (.ref it) 1 (rawInt ((i:Int)+1)) >>= _) _ _ s;show aa (bB ho hd (by simp) ?_)
 have hit':(s.heap.update it (Obj.mapFields (·.setIfInBounds 1 (rawInt ((i:Int)+1))))).IsKeyIter it d (i+1) es.size ep:=
  #[_,br _ ho (dh (bS hd _)),(ei ..).trans hc,by rw[bS hd];simp[rawInt]]
 show aa (bw ?_);show aa (wpAny_isOneOf_keyiter (s:={ s with heap:=s.heap.update it (Obj.mapFields (·.setIfInBounds 1 (rawInt ((i:Int)+1)))) }) hit'.typeIs ?_);change wpAny _ _ (pure e.key) _ _ _;show ai (ai (hQ _ hit' (bh ..)))
def zdd {it d:Addr}{i ep:Nat}{e:DictEntry}{Q:AK->Aa->Prop}(hit:s.heap.IsKeyIter it d i es.size ep)(hm:uC s.heap d es ep)(hx:es[i]?=some e)
  (hQ:∀h',h'.IsKeyIter it d (i+1) es.size ep->Heap.SameBut it s.heap h'->Q (some e.key) { s with heap:=h' }):Ah prog w A (pyNext (.ref it)) Q E s:=by
 unfold pyNext
 show aa (cR (wpAny_callSpecial?_slot (name:=Str.ofString "__next__") hit.typeIs bQ
  (a6 bQ hit.typeIs dD (zlL hit hm hx λh' a b=>#[_,BC,ai (hQ h' a b)]) (dy _))))
def zos {it d:Addr}{ep:Nat}{Q:Fin->Aa->Prop}(hh:A.handled=none)(hit:s.heap.IsKeyIter it d es.size es.size ep)(hm:uC s.heap d es ep)
  (hE:∀h' x,Heap.ExtBut it s.heap h'->(∃o,h'.get? x=some o/\o.cls = .type "StopIteration")->E (.ref x) { s with heap:=h' }):Ah prog w A (Builtin.«dict_keyiterator.__next__» { pos:=[Value.ref it] }) Q E s:=by
 obtain⟨o,ho,hc,hd⟩:=id hit;obtain⟨od,hod,hcd,hdd⟩:=id hm;show aa (ai ?_);show aa ?_;show aa ?_
 first | show aa (b9 hit.typeIs (ai ?_)) | show aa (by grind)
 show aa (fF ho hd ?_);have hown:Builtin.Dict_items.ownsTuple "dict_keyiterator" = false:=by ext
 simp only[hown,aQ,if_false];show wpAny _ _ (if (Value.ref d==Value.none)=true then _ else _) _ _ s;rw[if_neg (by grind)];show aa (ai ?_);show aa (fM hod hdd ?_);rw[if_neg (by simp)];show aa (ai ?_);show aa (wpAny_dictEpoch hod hdd ?_);rw[if_neg (by simp)];show ai ?_;simp only[show ¬ ((es.size:Int)<0) from by lia,if_false,aP,Array.getElem?_eq_none (ak es.size)];show aa ?_
 first | show aa (b9 hit.typeIs (ai ?_)) | show aa (by grind)
 change wpAny _ _ (setField (.ref it) 0 .none >>= _) _ _ s;show aa (bB ho hd (by simp) ?_);change wpAny _ _ (newExc (.type "StopIteration") [] >>= _) _ _ _;show aa ?_;simp only[newExc,newTuple];show aa (bg ?_ (by size_fits));show aa (m:=firstArgMember _ _) (wpAny_of_eq (a:=Value.none) (by first | rfl | (simp only[firstArgMember];rfl)) ?_);show bg ?_ (by size_fits);simp only[raiseNew];show aa (fQ ?_);rw[hh];show aa (ai (wpAny_throw ?_));show hE _ _ (((bh ..).extBut.push _).push _) #[_,aw _ BC,BC]
def zeV {it d:Addr}{ep:Nat}{Q:AK->Aa->Prop}(hh:A.handled=none)(hit:s.heap.IsKeyIter it d es.size es.size ep)(hm:uC s.heap d es ep)
  (hQ:∀h',Heap.ExtBut it s.heap h'->Q none { s with heap:=h' }):Ah prog w A (pyNext (.ref it)) Q E s:=by
 unfold pyNext
 show aa (cR (wpAny_callSpecial?_slot (name:=Str.ofString "__next__") hit.typeIs bQ
  (a6 bQ hit.typeIs dD (zos hh hit hm λh' x a b=>?_) (dy _))))
 show aa (cw (T := "StopIteration") (b:=true) b dw (ai (hQ _ a)))
def zhA (hh:A.handled=none)(I d:Addr)(hne:d≠I)(ep:Nat) :
  Walks prog w A I [I,d] [I] es.size (λi v=>∃e,es[i]?=some e/\v=e.key) (λi h=>h.IsKeyIter I d i es.size ep/\uC h d es ep) where
 sub:=λb hb=>by simp at hb;simp[hb]
 frame:=λ_ _ _ st hk=>#[let ⟨o,ho,r⟩:=st.1;#[o,hk I (by simp) o ho,r],st.2.keep λo e=>hk d (by simp) o e]
 item:=λi s Q E hi st hQ=>by show zdd st.1 st.2 (bK hi) λh' hit' sb=>?_;show hQ _ h' s.toks #[_,bK hi,BC] #[hit',st.2.keep λo e=>(sb.2 d hne).trans e] λb o hb e=>sb.extBut b o (λh=>hb (by simp[h])) e
 done:=λs Q E st hQ=>zeV hh st.1 st.2 λh' he'=>hQ h' s.toks λb o hb e=>he' b o (λh=>hb (by simp[h])) e
 self:=λ_ _ _ _ st hQ=>wpAny_pyIter_keyiter st.1 hQ
def zlp (d:Addr)(ep:Nat)(lo:(d==sysModules)=false):KdlSrc prog w "dict" d d es.size (λi v=>∃e,es[i]?=some e/\v=e.key) (λh=>uC h d es ep) where
 type:=λs S=>S.typeIs
 there:=λ_ S=>#[S.lt,S.lt]
 keep:=λ_ _ S hk=>S.keep λo e=>hk d (.inl BC) o e
 notList:=by ext
 notTuple:=by ext
 hint:=λ_ _ _ _ S hq=>kdl_hint_dict S.typeIs hq
 iter:=λA s hh S=>#[_,_,(λ_ _ hq=>zeG lo S hq),zhA hh _ d (aJ S.lt) ep,#[#[_,aw _ BC,BC,BC],S.keep λo e=>af _ e]]
end
def keyT (BE:List (AH×V)):List (List Key×V):=BE.map λq=>(q.1.map Sum.inl,q.2)
def dtO (BE:List (AH×V)):HO:=.dT (keyT BE)
section
variable {X:Cx}
end
abbrev Up' (l:AG):Prop:=l.Pairwise λa b=>HT.lexLt a b=true
def zoa (x:AH):AG->AG
 | []=>[x]
 | y::r=>if HT.lexLt x y then x::y::r else if x=y then y::r else y::zoa x r
def zcI (l:AG):AG:=l.foldr zoa []
theorem zdH {x z:AH}:∀ {l:AG},z∈zoa x l↔z=x\/z∈l
 | []=>by change z∈[x]↔_;simp
 | y::r=>by
  unfold zoa;split;simp;split;right;rw[aG,zdH,aG];grind
theorem ym {z:AH}:∀ {l:AG},z∈zcI l↔z∈l
 | []=>Iff.rfl
 | x::l=>by change z∈zoa x (zcI l)↔_;rw[zdH,ym,aG]
theorem zjd {x:AH}{m:Nat}(hx:x.length=m):∀ {l:AG},(∀y∈l,y.length=m)->Up' l->Up' (zoa x l)
 | [],_,_=>dR _ _
 | y::r,hl,hu=>by
  have hy:=hl y am;rw[Up',bT] at hu;unfold zoa;split
  ·rename_i h;show bT.mpr #[λz hz=>?_,bT.mpr hu];rcases aG.mp hz with rfl | hz
   show h;show zaT (hx.trans hy.symm) (by grind) h (hu.1 z hz)
  ·rename_i h;split
   show bT.mpr hu
   ·rename_i hne;show bT.mpr #[λz hz=>?_,zjd hx (λz hz=>hl z (ao _ hz)) hu.2];rcases zdH.mp hz with rfl | hz
    ·rcases uO (a:=z) (b:=y) (hx.trans hy.symm) with e | e | e
     all_goals right
    show hu.1 z hz
def zfp {m:Nat}{l:AG}(h:∀y∈l,y.length=m):∀y∈zcI l,y.length=m:=λy hy=>h y (ym.mp hy)
theorem zee {m:Nat}:∀ {l:AG},(∀y∈l,y.length=m)->Up' (zcI l)
 | [],_=>.nil
 | x::l,h=>zjd (h x am) (zfp λy hy=>h y (ao _ hy)) (zee λy hy=>h y (ao _ hy))
theorem zkX {m:Nat}:∀ {l l':AG},(∀y∈l,y.length=m)->Up' l->Up' l'->(∀z,z∈l↔z∈l')->l=l'
 | [],[],_,_,_,_=>rfl
 | [],y::r,_,_,_,h=>absurd ((h y).mpr am) (by simp)
 | x::l,[],_,_,_,h=>absurd ((h x).mp am) (by simp)
 | x::l,y::r,hm,hu,hu',h=>by
  rw[Up',bT] at hu hu';have hm':∀z∈y::r,z.length=m:=λz hz=>hm z ((h z).mpr hz)
  have e:x=y:=by
   rcases aG.mp ((h x).mp am) with e | e;show e;rcases aG.mp ((h y).mpr am) with e' | e';show e'.symm;have h1:=hu'.1 x e;have h2:=hu.1 y e';have h3:=zaT ((hm x am).trans (hm' y am).symm) ((hm' y am).trans (hm x am).symm) h2 h1;rw[xx] at h3;cases h3
  subst e;have notin:∀ {l:AG},(∀z∈l,HT.lexLt x z=true)->x∉l:=λhl z=>by have:=hl x z;rw[xx] at this;cases this
  congr 1;show zkX (λz hz=>hm z (ao _ hz)) hu.2 hu'.2 λz=>?_;grind
def zed {m:Nat}{l l':AG}(hm:∀y∈l,y.length=m)(hu:Up' l')(h:∀z,z∈l'↔z∈l):l'=zcI l:=
 zkX (λy hy=>hm y ((h y).mp hy)) hu (zee hm) λz=>(h z).trans ym.symm
def zaO (bk:AY)(st hs:AH):AG:=(bk.filter λx=>zaN st x&&!hs.contains x.b).map λx=>chg st x.b x.r
def znG (bk:AY)(st hs:AH):AG:=zcI (zaO bk st hs)
def zb9 {bk:AY}{st hs z:AH}:z∈zaO bk st hs↔∃x∈bk,zaN st x=true/\x.b∉hs/\z=chg st x.b x.r:=by
 unfold zaO;grind
def zeD {rm:AH}{bk:AY}{st hs:AH}(hok:∀x∈bk,WishOk rm x)(hl:st.length=rm.length):∀z∈zaO bk st hs,z.length=rm.length:=λz hz=>by obtain⟨x,hx,_,_,rfl⟩:=zb9.mp hz;have h1:=(hok x hx).b1;rw[zir (hok x hx).b0 (by lia)];show hl
theorem yf {α:Type}[BEq α][LawfulBEq α]:∀ {l l':List α},l.Nodup->(∀x∈l,x∈l')->l.length<=l'.length
 | [],_,_,_=>aS _
 | a::l,l',hn,h=>by
  rw[bJ] at hn;have ha:=h a am;have:=yf (l:=l) (l':=l'.erase a) hn.2 λx hx=>by grind
  grind
end L2
namespace L2
open PyProof.Rows PySem.SeqAt
theorem zbS:∀ds:AT,Dt.toWs ds=ds.map Dt.toW
 | []=>rfl
 | d::ds=>by rw[Dt.toWs,aC,zbS ds]
theorem zeM:∀ds:List PySem.W.Dat,PySem.W.kqdPs ds=ds.map PySem.W.kqdP
 | []=>by simp[PySem.W.kqdPs]
 | d::ds=>by rw[aC,<- zeM ds];simp[PySem.W.kqdPs]
def ztG (neg:Bool):R2:=λx y H Q=>∃d ds,Is H d x/\(Is H (.lst ds) y\/Is H (.tup ds) y)/\d.eqOk/\(Dt.lst ds).eqOk/\∀b:Bool,(b=true↔d∈ds)->Q (.bl (if neg then !b else b)) H
section
variable {X:Cx}
def zdJ {ds:AT}(h:(Dt.lst ds).eqOk):∀d∈ds,PySem.W.kqdOk 7 d.toW=true:=λd hd=>by
 have h':PySem.W.kqdOk 8 (Dt.lst ds).toW=true:=h;simp only[Dt.toW,PySem.W.kqdOk,a8,zbS] at h';right
def zdv {d:Dt}{ds:AT}(hd:d.eqOk)(hs:(Dt.lst ds).eqOk):((PySem.W.kqdPs (Dt.toWs ds)).any λy=>PyData.eqv y (PySem.W.kqdP d.toW))=true↔d∈ds:=by
 rw[zeM,zbS,ar,List.any_map,List.any_eq_true];constructor;rintro⟨e,he,h⟩;have:=(PySem.W.kqd_eqv 7 e.toW d.toW 8 (zdJ hs e he) hd).mp h;rw[<- zgu this];show he;intro h;show#[d,h,(PySem.W.kqd_eqv 7 d.toW d.toW 8 (zdJ hs d h) hd).mpr BC]
def zlM {d:PySem.W.Dat}(h:PySem.W.kqdOk 7 d=true):PySem.W.kqdOk 8 d=true:=by
 have gen:∀ (n:Nat) (d:PySem.W.Dat),PySem.W.kqdOk n d=true->PySem.W.kqdOk (n+1) d=true:=by
  intro n
  induction n with
  | zero=>intro d h;cases d <;> simp_all [PySem.W.kqdOk]
  | succ n ih=>
   intro d h;cases d <;> simp_all [PySem.W.kqdOk]
 show gen 7 d h
def znb {d:Dt}{ds:AT}{u:Nat}(hd:d.eqOk)(hs:(Dt.lst ds).eqOk)(hu:u+64<cLine):PyData.canLayAll0 (PySem.W.kqdPs (Dt.toWs ds))=true/\(PySem.W.kqdP d.toW).canLay0=true/\u+1+min (PyData.depthAll (PySem.W.kqdPs (Dt.toWs ds))) (PySem.W.kqdP d.toW).depth<cLine:=by
 have l1:=PySem.W.kqd_lay 8 _ hd;have l2:=PySem.W.kqd_layL (ds:=Dt.toWs ds) λe he=>by rw[zbS] at he;obtain⟨e',he',rfl⟩:=aq.mp he;show zlM (zdJ hs e' he')
 show#[l2.1,l1.1,?_];have:min (PyData.depthAll (PySem.W.kqdPs (Dt.toWs ds))) (PySem.W.kqdP d.toW).depth<=8:=av (Nat.min_le_right _ _) l1.2;lia
def zrQ (hu:X.A.units+64<cLine):OpQ X (compareOp .In) (ztG false):=#[by
 intro BD s G H x y v u Q I rx ry h;obtain⟨d,ds,hd,hy,kd,ks,q⟩:=h;obtain⟨as,ra⟩:=yV I.hok 8 hd rx kd;obtain⟨l1,l2,l3⟩:=znb kd ks hu;rcases hy with hy | hy;obtain⟨bs,rb⟩:=yV I.hok 8 hy ry ks;show in_list_reads rb ra l1 l2 l3 #[.bl _,H,I,BC,q _ (zdv kd ks)];obtain⟨bs,rb⟩:=yV I.hok 8 hy ry (show (Dt.tup ds).eqOk from ks);show in_tuple_reads rb ra l1 l2 l3 #[.bl _,H,I,BC,q _ (zdv kd ks)]]
def zj3 (hu:X.A.units+64<cLine):OpQ X (compareOp .NotIn) (ztG true):=#[by
 intro BD s G H x y v u Q I rx ry h;obtain⟨d,ds,hd,hy,kd,ks,q⟩:=h;obtain⟨as,ra⟩:=yV I.hok 8 hd rx kd;obtain⟨l1,l2,l3⟩:=znb kd ks hu;rcases hy with hy | hy;obtain⟨bs,rb⟩:=yV I.hok 8 hy ry ks;show notIn_list_reads rb ra l1 l2 l3 #[.bl _,H,I,BC,q _ (zdv kd ks)];obtain⟨bs,rb⟩:=yV I.hok 8 hy ry (show (Dt.tup ds).eqOk from ks);show notIn_tuple_reads rb ra l1 l2 l3 #[.bl _,H,I,BC,q _ (zdv kd ks)]]
end
def ze8 (bk:AY)(box:Int)(st:AH):AG:=(bk.filter λx=>decide (x.b=box)&&yW st x.g).map λx=>[x.w,x.r]
def lpF (bk:AY)(box:Int)(st:AH):AG:=zcI (ze8 bk box st)
def zdi {bk:AY}{box:Int}{st z:AH}:z∈ze8 bk box st↔∃x∈bk,x.b=box/\yW st x.g=true/\z=[x.w,x.r]:=by
 unfold ze8;grind
def zbl {bk:AY}{box:Int}{st:AH}:∀z∈ze8 bk box st,z.length=2:=λz hz=>by obtain⟨x,_,_,_,rfl⟩:=zdi.mp hz;rfl
def zdh {rm:AH}{bk:AY}{box:Int}{st:AH}{ks:AG}(hok:∀x∈bk,WishOk rm x)(hb:∀r∈rm,2<=r/\r<=4)(hn:ks.Nodup)(hk:∀z∈ks,z∈ze8 bk box st):ks.length<=16:=by
 have:=yf (l':=(List.range 16).map λc=>[((c / 4:Nat):Int),((c % 4:Nat):Int)]) hn λz hz=>by obtain⟨x,hx,_,_,rfl⟩:=zdi.mp (hk z hz);have o:=hok x hx;have h3:=o.r0;have h4:=o.r1;have h5:=(zA hb o.b0 o.b1).2;have h6:=o.w0;have h7:=o.w1;show aq.mpr #[4 * x.w.toNat+x.r.toNat,aZ.mpr (by lia),?_];rw[show (4 * x.w.toNat+x.r.toNat) / 4=x.w.toNat by lia,show (4 * x.w.toNat+x.r.toNat) % 4=x.r.toNat by lia,Int.toNat_of_nonneg h6,Int.toNat_of_nonneg h3]
 right
def zrm {bk:AY}{box:Int}{st:AH}:∀z∈lpF bk box st,z.length=2:=zfp zbl
def zmN (C:Nat->Nat->Bool)(w j:Nat):AG:=((List.range j).filter (C w)).map λb:Nat=>[(w:Int),(b:Int)]
def zvG (C:Nat->Nat->Bool)(n:Nat):Nat->AG
 | 0=>[]
 | i+1=>zvG C n i++zmN C i n
open PySem.W PySem.Calls
section
variable {prog:Ab}{w:Ac}{A:Af}{E:AA}{s:Aa}{R:Result->Aa->Prop}
open PySem.W
abbrev hI (prog:Ab)(w:Ac)(q:Int×Tok):Int:=(zy prog w).hash (Sum.inl q.1)
abbrev vI (q:Int×Tok):Value:=.int q.1 q.2
def zal (prog:Ab)(w:Ac)(h:Heap)(a:Addr)(ks:AH):Prop:=∃xs o es ep t,h.get? a=some o/\o.ExactSet/\o.data = .set es ep t/\TbG w (hI prog w) vI t es xs/\ks=xs.map (·.1)/\ks.Nodup/\xs.length * 5<t.mask * 3
def zoN {n m:Nat}(h:xJ m)(hr:n * 5<m * 3)(hf:(n+1) * 5 ≥ m * 3)(hn:n<300):∃mask,SetTable.sizeAbove (SetTable.grown (n+1))=mask+1/\xJ mask/\(n+1) * 5<mask * 3:=by
 rcases h with e | e | e | e;rw[e] at hr hf;have:n=4:=by lia
 rw[this];show#[31,by ext,.inr (.inl rfl),by lia];rw[e] at hr hf;have:n=18:=by lia
 rw[this];show#[127,by ext,.inr (.inr (.inl rfl)),by lia];rw[e] at hr hf;have:n=76:=by lia
 rw[this];show#[511,by ext,.inr (.inr (.inr rfl)),by lia];rw[e] at hr hf;lia
def zvZ {mask:Nat}(h:Int)(n:Nat):(stp mask h n).j+(stp mask h n).more<=mask:=by
 induction n with
 | zero=>
  have h0:SetTable.bits h % (mask+1)<=mask:=bZ (el _ (dO _));obtain⟨r1,r2⟩:=uW h0;change SetTable.bits h % (mask+1)+(SetTable.runEnd mask (SetTable.bits h % (mask+1)) - SetTable.bits h % (mask+1))<=mask;lia
 | succ n ih=>
  change ((tm mask).advance (stp mask h n)).j+((tm mask).advance (stp mask h n)).more<=mask;by_cases hmr:0<(stp mask h n).more;rw[zdu _ _ hmr];grind;rw[zbL _ _ (by lia)];have h0:((stp mask h n).i * 5+1+(stp mask h n).perturb / 32) % (mask+1)<=mask:=bZ (el _ (dO _));obtain⟨r1,r2⟩:=uW h0;grind
section
variable {α:Type}{hs:α->Int}{vl:α->Value}{t:SetTable}{es:Array (Int×Value)}{xs:List α}
def TbG.lay (T:TbG w hs vl t es xs)(c:α)(hf:xs.length+1<=t.mask):∃es' t' xs',layNew t es (hs c) (vl c)=(es',t',false,false)/\TbG w hs vl t' es' xs'/\xs'.Perm (c::xs)/\t'.mask=t.mask:=by
 obtain⟨N0,hN0,e0⟩:=T.empty (hs c);obtain⟨N,hN,hp,hc⟩:=zd5 (t:=t) (hashAt:=λ_=>hs c+1) (h:=hs c) T.ris T.dm (10 * SetTable.turns t.mask) 0 #[N0,aS _,by lia,e0];rcases hc with ⟨he,hg⟩ | ⟨i,_,z,_⟩
 have hNl:N<=N0:=by
  rcases gg N0 N with q | q;obtain⟨i,e,_⟩:=hp N0 (aS _) q;show absurd e (e0 i);show q
 obtain⟨xs',T',pm⟩:=T.put (c:=c) (N:=N) (by lia) he (λm hm=>let ⟨i,e,_⟩:=hp m (aS _) hm;#[i,e]) hf (av (Nat.le_add_right _ _) (zvZ (hs c) N));have ef:t.freeSlot (hs c)=some (wk t.mask (hs c) N,false):=by unfold SetTable.freeSlot;rw[show t.probe (λ_=>hs c+1) (hs c) (t.probeStart (hs c))=some (.empty (wk t.mask (hs c) N) none) from hg];rfl
 show#[_,_,xs',?_,T',pm,BC];unfold layNew;rw[ef];dsimp only;have ff:=T'.fits;rw[show (t.put (wk t.mask (hs c) N)).1.orStandIn (SetTable.insertAt es (t.put (wk t.mask (hs c) N)).2 (hs c,vl c)).size=(t.put (wk t.mask (hs c) N)).1 from if_pos ff,ff];rfl;lia
def TbG.relay (T:TbG w hs vl t es xs){wanted mask:Nat}(hw:SetTable.sizeAbove wanted=mask+1)(hm:xJ mask)(hl:xs.length<=mask):∃es' t' xs',relayAll t es wanted=(es',t',false)/\TbG w hs vl t' es' xs'/\xs'.Perm xs/\t'.mask=mask:=by obtain⟨t',order,xs',e,hsz,T',hp,hmk,hpo⟩:=T.laid hm hl t.finger (t.movedTo mask);show#[_,t',xs',?_,T',hp,hmk];unfold relayAll SetTable.relaid;rw[hw,T.plain,dU,e];dsimp only;have ff:=T'.fits;rw[if_pos];rw[ff,cT];unfold coversAll;show List.isPerm_iff.mpr hpo
end
end
section
variable {prog:Ab}{w:Ac}{A:Af}{E:AA}{s:Aa}
def zqX {xs:List (Int×Tok)}{es:Array (Int×Value)}(e:es.toList=xs.map λq=>(hI prog w q,vI q)):ElemsOf (zy prog w) es.toList:=λz hz=>by rw[e] at hz;obtain⟨q,_,rfl⟩:=aq.mp hz;show#[#[Sum.inl q.1,uN q.1 q.2,BC],BC]
def znB {a:Addr}{n:Int}{tk:Tok}{ks:AH}{Q:Bool->Aa->Prop}(S:zal prog w s.heap a ks)(hn:ks.length<300)
  (h:∀r h' m ks',Heap.SameBut a s.heap h'->zal prog w h' a ks'->(∀x,x∈ks'↔x=n\/x∈ks)->ks'.length<=ks.length+1->Q r { s with heap:=h',toks:=m }):Ah prog w A (setAdd a (.int n tk)) Q E s:=by
 obtain⟨xs,o,es,ep,t,ho,hx,hd,T,rfl,hnd,hroom⟩:=S;rw[ab] at hn;have hkey:(zy prog w).is (Sum.inl n) (.int n tk)=true:=uN n tk;have hel:=zqX (prog:=prog) (w:=w) T.eq;have hsz:=T.size;unfold setAdd;show bw (aa ((zy prog w).pyHash hkey ?_));unfold setAddHashed;show bw ?_;rw[show (100000:Nat)=99999+1 from rfl];unfold setAddHashedIn;show aa (bq (s:={ s with toks:=s.toks+1 }) ho hd T.fits ?_);dsimp only;rw[byScan_of rfl (by rw[hsz];unfold scanBound;lia) hel];simp only[↓reduceIte];unfold setAddByScan;show aa (aa (eM (aa (wpAny_setScan_of (s:={ s with toks:=s.toks+1 }) hkey ho hd T.fits hel ?_))));have hit:∀q:Int×Tok,(zy prog w).is (Sum.inl n) (vI q)=decide (n=q.1):=λq=>by have:=KeyKind.is_eq_decide (knd:=zy prog w) (k:=Sum.inl q.1) (v:=vI q) (uN q.1 q.2) (Sum.inl n);rw[this];simp
 have hmem:(∃e∈es.toList,(zy prog w).is (Sum.inl n) e.2=true)↔n∈xs.map (·.1):=by
  rw[T.eq];constructor;rintro⟨e,he,hp⟩;obtain⟨q,hq,rfl⟩:=aq.mp he;rw[hit q] at hp;show aq.mpr #[q,hq,(bD hp).symm];intro z;obtain⟨q,hq,rfl⟩:=aq.mp z;show#[_,aq.mpr #[q,hq,BC],by rw[hit q];simp]
 cases hr:List.findIdx? (λe=>(zy prog w).is (Sum.inl n) e.2) es.toList with
 | some j=>
  dsimp only;obtain⟨hj,hpj,_⟩:=List.findIdx?_eq_some_iff_getElem.mp hr;have hin:=hmem.mp #[_,bu hj,hpj];show ai (ai (h false s.heap _ _ (Heap.SameBut.refl a s.heap) #[xs,o,es,ep,t,ho,hx,hd,T,BC,hnd,hroom] (λx=>#[.inr,λz=>z.elim (λe=>e ▸ hin) id]) (cQ _)))
 | none=>
  dsimp only;have hout:n∉xs.map (·.1):=λz=>by obtain⟨e,he,hp⟩:=hmem.mpr z;have:=List.findIdx?_eq_none_iff.mp hr e he;rw[hp] at this;cases this
  obtain⟨es1,t1,xs1,e1,T1,p1,hmk⟩:=T.lay (c:=(n,tk)) (by have:=T.msk.le;lia);have e1':layNew t es ((zy prog w).hash (Sum.inl n)) (.int n tk)=(es1,t1,false,false):=e1;rw[e1'];dsimp only;show aa (ai ?_);rw[hashByValue_scannable 8 (x:=.int n tk) rfl,T1.plain];simp only[↓reduceIte];show aa (ai ?_);simp only[plainKind,↓reduceIte];have l1:xs1.length=xs.length+1:=by rw[p1.length_eq];rfl
  have g1:=zac (es':=es1) (t':=t1) ho hd;have sb1:=bh s.heap a (Obj.putSet es1 t1);show aa (en (s:={ s with toks:=s.toks+1 }) ho hd ?_ (by rw[T1.size,bp];lia))
  have fin:∀ {xs2:List (Int×Tok)} {h':Heap},xs2.Perm xs1->Heap.SameBut a s.heap h'->(∃o es ep t,h'.get? a=some o/\o.ExactSet/\o.data = .set es ep t/\TbG w (hI prog w) vI t es xs2/\xs2.length * 5<t.mask * 3)->Q true { s with heap:=h',toks:=s.toks+1 }:=λ{xs2 h'} hp sb S=>by
   have hp2:=hp.trans p1;obtain⟨o2,es2,ep2,t2,a1,a2,a3,a4,a5⟩:=S;show h true h' _ (xs2.map (·.1)) sb #[xs2,o2,es2,ep2,t2,a1,a2,a3,a4,BC,?_,a5] (λx=>?_) ?_;rw[(hp2.map (·.1)).nodup_iff,aC,bJ];show#[hout,hnd];rw[(hp2.map (·.1)).mem_iff,aC,aG];rw[ab,ab,hp2.length_eq];show ak _
  by_cases hf:t1.tooFull=true;rw[if_pos (by rw[hf];rfl)];unfold SetTable.tooFull SetTable.fill at hf;have hf':=bD hf;rw[T1.sz,T1.dm,l1,hmk] at hf';obtain⟨mask,m1,m2,m3⟩:=zoN T.msk hroom hf' hn;obtain⟨es2,t2,xs2,e2,T2,p2,hmk2⟩:=T1.relay (wanted:=SetTable.grown es1.size) (by rw[T1.size,l1];show m1) m2 (by lia);rw[e2];dsimp only;show aa (ai ?_);show aa (en (s:={ s with heap:=s.heap.update a (Obj.putSet es1 t1),toks:=s.toks+1 }) g1 BC ?_ (by rw[T2.size,p2.length_eq,bp];lia));show ai (ai (fin p2 (sb1.trans (bh ..)) #[_,_,_,t2,zac g1 BC,hx,BC,T2,by rw[p2.length_eq,l1,hmk2];show m3]));rw[if_neg (by simpa using hf)];unfold SetTable.tooFull SetTable.fill at hf;have hf':¬ (t1.place.size+t1.dummies.size) * 5 ≥ t1.mask * 3:=λz=>hf (aN z);rw[T1.sz,T1.dm] at hf';show ai (ai (fin (List.Perm.refl _) sb1 #[_,_,_,t1,g1,hx,BC,T1,Nat.lt_of_not_le hf']))
open PySem.W PySem.Calls
variable {X:Cx}
variable {e st:Expr}{te tk:TE}{pos p2:Pos}
end
def unlike (one z hs:AH):AH:=hs.filter λb=>decide (zu one b≠zu z b)
section
variable {X:Cx}{pos:Pos}
end
end L2
namespace L2
open PyProof.Rows
end L2
namespace L2
open PyProof.Rows
section
variable {M:Model}{A:Af}{E:AA}{s:Aa}
theorem zb0 {α:Type}{f:List (Str×Addr)->Sem α}{Q:α->Aa->Prop}:∀ (names:List (Str×NameKind)) (cells:List (Str×Addr)),(∀y∈names,y.2≠.cell)->wpAny M A (f cells) Q E s->
  wpAny M A ((forIn names cells λx r=>match x with | (name,kind)=>if (kind==NameKind.cell)=true then do let a <- alloc { cls:=.type "cell",data:=.cell none };pure (ForInStep.yield ((name,a)::r)) else pure (ForInStep.yield r)) >>= f) Q E s
 | [],cells,_,h=>h
 | (n,k)::r,cells,hn,h=>by
  have hk:(k==NameKind.cell)=false:=by simpa using hn (n,k) am
  rw[c9];simp only[hk,aQ,if_false,pure_bind];show zb0 r cells (λy hy=>hn y (ao _ hy)) h
theorem zb1 {α:Type}{z:Str}{f:List (Str×Addr)->Sem α}{Q:α->Aa->Prop}:∀ (names:List (Str×NameKind)) (cells:List (Str×Addr)),names.filter (λy=>y.2==.cell)=[(z,.cell)]->
  wpAny M A (f ((z,s.heap.objs.size)::cells)) Q E { s with heap:=s.heap.push { cls:=.type "cell",data:=.cell none } }->
  wpAny M A ((forIn names cells λx r=>match x with | (name,kind)=>if (kind==NameKind.cell)=true then do let a <- alloc { cls:=.type "cell",data:=.cell none };pure (ForInStep.yield ((name,a)::r)) else pure (ForInStep.yield r)) >>= f) Q E s
 | [],cells,hn,h=>by cases hn
 | (n,k)::r,cells,hn,h=>by
  rw[c9];by_cases hk:(k==NameKind.cell)=true;rw[List.filter_cons_of_pos (p:=λy:Str×NameKind=>y.2==.cell) (a:=(n,k)) hk] at hn;injection hn with h1 h2;cases h1;simp only[hk,if_true,bind_assoc,pure_bind];show aa (wpAny_alloc ?_);show zb0 r _ (λy hy e=>?_) h;have:y∈r.filter (λy=>y.2==.cell):=aK.mpr #[hy,by rw[e];rfl];grind;rw[List.filter_cons_of_neg (p:=λy:Str×NameKind=>y.2==.cell) (a:=(n,k)) hk] at hn;simp only[hk,aQ,if_false,pure_bind];show zb1 r cells hn h
def zf8 {scope:Scope}{z:Str}{globals:Addr}{closure:List (Str×Addr)}{qual:Str}{o:Env}{Q:Env->Aa->Prop}(hn:scope.names.filter (λy=>y.2==.cell)=[(z,.cell)])
  (h:Q { scope,locals:=s.heap.objs.size,globals,cells:=(z,(s.heap.push { cls:=.type "dict",data:=.dict #v[] }).objs.size)::closure,qual,func:=none,code:=o.code,frame:=o.frame,builtins:=o.builtins } { s with heap:=(s.heap.push { cls:=.type "dict",data:=.dict #v[] }).push { cls:=.type "cell",data:=.cell none } }) :
  wpAny M A (newFunctionEnv scope globals closure [] qual none .none (some o)) Q E s:=by
 unfold newFunctionEnv;simp only[Option.isSome_some,if_true];show aa (wpAny_alloc ?_);show zb1 scope.names closure hn ?_;show aa (ai (ai h))
end
def zJ (X:Cx)(scope:Scope)(N:AN)(z:Str)(C BI:Addr)(s:Aa)(H:Hp)(ex:AZ):Cx:=
 { zm X scope N C s H ex with env:={ compEnvC scope (zcO X.env scope.names []) C X.env with cells:=(z,BI)::zcO X.env scope.names [] },fn:=λy=>y==z }
def ziq (XN:AN)(Xnames names:List (Str×NameKind))(N:AN)(z:Str)(BF:List (Option Nat)):Bool:=
 N.length==BF.length&&(names.filter (λy=>y.2==.cell)==[(z,NameKind.cell)]&&names.lookup z==some .cell)&&((N.zip BF).all λp=>match p.2 with
  | none=>true
  | some i=>XN[i]?==some p.1&&names.lookup p.1==some .free&&(Xnames.lookup p.1==some .cell || Xnames.lookup p.1==some .free)) &&
 (names.all λy=>y.2 != .free || (Xnames.lookup y.1==some .cell || Xnames.lookup y.1==some .free))
structure CompOkC (X:Cx)(scope:Scope)(N:AN)(z:Str)(BF:List (Option Nat)):Prop where
 kind:scope.kind = .function
 names:∀x∈scope.names,x.2 = .local->scope.names.lookup x.1=some .local
 caps:ziq X.N X.env.scope.names scope.names N z BF=true
theorem mem_of_lookup {α β:Type}[BEq α][LawfulBEq α]{x:α}{k:β}:∀ {l:List (α×β)},l.lookup x=some k->(x,k)∈l
 | [],h=>by simp at h
 | (n,q)::r,h=>by
  rw[cU] at h
  cases e:x==n with
  | true=>
   grind
  | false=>
   rw[e] at h;show ao _ (mem_of_lookup h)
theorem y8 {env:Env}:∀ {names:List (Str×NameKind)} {x:Str} {k:NameKind},
  (names.map λ(n,k)=>if (k==NameKind.free&&env.scope.kind==.function&&env.kindOf n==some .cell) then (n,NameKind.cell) else (n,k)).lookup x=some k->(k = .cell\/k = .free)->names.lookup x=some .free\/names.lookup x=some .cell
 | [],_,_,h,_=>by simp at h
 | (n,k)::r,x,k',h,hk=>by
  have ih:=@y8 env r x k';grind
section
variable {X:Cx}{BD:AB}{G:St}{H:Hp}{s:Aa}{scope:Scope}{N:AN}{z:Str}{BF:List (Option Nat)}
def CompOkC.parts (c:CompOkC X scope N z BF):N.length=BF.length/\scope.names.filter (λy=>y.2==.cell)=[(z,.cell)]:=by
 have h:=c.caps;unfold L2.ziq at h;right
def CompOkC.lk (c:CompOkC X scope N z BF):scope.names.lookup z=some .cell:=by
 have h:=c.caps;unfold L2.ziq at h;right
def CompOkC.cells (c:CompOkC X scope N z BF)(ok:X.Ok):∀x∈scope.names,x.2 = .free->∃a,X.env.cells.lookup x.1=some a:=λx hx e=>by
 have h:=c.caps;unfold L2.ziq at h;rw[aU] at h;have q:=a8.mp h.2 x hx;rw[e] at q;have q':(X.env.scope.names.lookup x.1==some NameKind.cell || X.env.scope.names.lookup x.1==some NameKind.free)=true:=by simpa using q
 rcases Bool.or_eq_true_iff.mp q' with q | q;show ok.has _ (.inl (eS q));show ok.has _ (.inr (eS q))
def CompOkC.cap (c:CompOkC X scope N z BF){j i:Nat}{x:Str}(h1:N[j]?=some x)(h2:BF[j]?=some (some i)):X.N[i]?=some x/\scope.names.lookup x=some .free/\(X.env.scope.names.lookup x=some .cell\/X.env.scope.names.lookup x=some .free):=by
 have h:=c.caps;unfold L2.ziq at h;rw[aU,aU] at h;have hm:(x,some i)∈N.zip BF:=by show az (i:=j) ?_;rw[List.getElem?_zip_eq_some];show#[h1,h2]
 have q:=a8.mp h.1.2 _ hm;grind
def CompOkC.isZ (c:CompOkC X scope N z BF){x:Str}(h:scope.names.lookup x=some .cell):x=z:=by
 have:(x,NameKind.cell)∈scope.names.filter (λy=>y.2==.cell):=aK.mpr #[mem_of_lookup h,BC];rw[c.parts.2,au] at this;grind
def zje {fp:AZ}{h':Heap}{tk:Nat}{m:AJ}{BI:Addr}(I:Inv X BD G H s)(c:CompOkC X scope N z BF)(hf:∀b∈fp,zen X BD H b)(hfo:∀b∈fp,b<s.heap.objs.size)
  (hn:h'.Ns s.heap.objs.size m) (hD:s.heap.objs.size<=BI) (hcd:h'.IsCell BI none) (hk:∀b o,s.heap.get? b=some o->h'.get? b=some o) :
  Inv (zJ X scope N z s.heap.objs.size BI s H fp) [] (xB G BF) H { s with heap:=h',toks:=tk }:=by
 have hcl:=c.cells I.ok
 have back:∀x a,((z,BI)::zcO X.env scope.names []).lookup x=some a->(x=z/\a=BI)\/(x≠z/\(zcO X.env scope.names []).lookup x=some a/\X.env.cells.lookup x=some a/\a<s.heap.objs.size):=λx a e=>by
  rw[cU] at e
  cases q:x==z with
  | true=>
   right
  | false=>
   rw[q] at e;have e':(zcO X.env scope.names []).lookup x=some a:=e
   have hl:X.env.cells.lookup x=some a:=by
    rcases uE hcl e' with z | z;show z;simp at z
   obtain⟨v,oc,hoc,_⟩:=I.cell x a hl;show .inr #[by grind,e',hl,ax hoc]
 show#[#[I.mod,c.kind,I.ok.glob,I.ok.blt,ak _,λx y a e1 e2=>?_,λx hx=>?_,λx a hz e=>?_,I.ok.hd,I.ok.frames,.inl BC,
  λb hb=>#[aJ (hfo b hb),λx a e=>?_],I.bs,av I.ok.bsz I.sz,λb o e hb=>?_,λb hb z=>?_,I.stack,I.stkFree],
  I.os ▸ BC,I.bare,Un.kept hk,#[m,hn,λj x v h1 h2 h3=>?_],λx a e=>?_,I.hok.fresh (ak _),λx a e=>?_,λp hp=>absurd (show p∈([]:AB) from hp) (by simp),I.hok.kept hk,?_]
 ·rcases back x a e1 with ⟨r1,r2⟩ | ⟨_,_,r1,r2⟩ <;> rcases back y a e2 with ⟨q1,q2⟩ | ⟨_,_,q1,q2⟩;grind;show absurd (aL q2 (r2 ▸ hD)) (bL _);show absurd (aL r2 (q2 ▸ hD)) (bL _);show I.ok.inj x y a r1 q1
 have hx':((relabel scope X.env).names.lookup x=some .cell\/(relabel scope X.env).names.lookup x=some .free):=hx
 have hx2:scope.names.lookup x=some .free\/scope.names.lookup x=some .cell:=by
  rcases hx' with q | q;show y8 q (.inl BC);show y8 q (.inr BC)
 change ∃a,((z,BI)::zcO X.env scope.names []).lookup x=some a;rw[cU]
 cases q:x==z with
 | true=>show#[BI,BC]
 | false=>
  rcases hx2 with e | e;show u8 e;show absurd (c.isZ e) λw=>by subst w;simp at q
 have hz':(x==z)=true:=hz;rcases back x a e with ⟨_,r⟩ | ⟨r,_⟩;rw[r];show hD;right;rcases back x a e with ⟨_,r⟩ | ⟨_,_,r,_⟩;rw[r];show cA (aL (hfo b hb) hD);show (hf b hb).2.2.2.2.1 x a r;rcases (hf b hb).2.2.2.1 with z | z;show I.ok.noex b o e z;show absurd (aL (ax e) (av I.ok.bsz z)) (bL _);rcases aG.mp (I.stkSub b z) with e | e;show (hf b hb).2.1 e;show (hf b hb).2.2.1 e
 ·have h1':N[j]?=some x:=h1;unfold xB at h2;rw[aA] at h2
  cases e:BF[j]? with
  | none=>rw[e] at h2;cases h2
  | some o=>
   rw[e] at h2
   cases o with
   | none=>cases h2
   | some i=>
    have h2':(G[i]?).join=some v:=bH h2
    have h2'':G[i]?=some (some v):=by
     cases q:G[i]? with
     | none=>rw[q] at h2';cases h2'
     | some z=>rw[q] at h2';have:z=some v:=h2';rw[this]
    obtain⟨q1,q2,q3⟩:=c.cap h1' e;obtain⟨m0,hn0,hl0⟩:=I.loc;obtain⟨u,ru,hu⟩:=hl0 i x v q1 h2'' (q3.elim (λz=>.inr (.inl z)) λz=>.inr (.inr z));show#[u,ru,.inr #[yL q2,?_]];rcases hu with ⟨z,_⟩ | ⟨_,a,ha,hcell⟩;have z':X.env.scope.names.lookup x=some .local:=z;right
    ·obtain⟨a',ha'⟩:=u8 (env:=X.env) (cs:=[]) q2
     have hxz:(x==z)=false:=by
      cases q:x==z with
      | false=>rfl
      | true=>
       have:=eS q;subst this;rw[c.lk] at q2;cases q2
     have hlk:((z,BI)::zcO X.env scope.names []).lookup x=some a':=by rw[cU,hxz];show ha'
     have:a'=a:=by
      rcases back x a' hlk with ⟨r,_⟩ | ⟨_,_,r,_⟩
      all_goals right
     subst this;obtain⟨oc,hoc,hd⟩:=hcell;show#[a',hlk,oc,hk _ _ hoc,hd]
 rcases back x a e with ⟨_,r⟩ | ⟨_,_,r,_⟩;rw[r];show#[none,hcd];obtain⟨v,oc,hoc,hd⟩:=I.cell x a r;show#[v,oc,hk _ _ hoc,hd];rcases back x a e with ⟨_,r⟩ | ⟨_,_,r,_⟩;rw[r];show I.hok.fresh hD;show I.freeC x a r;change (xB G BF).length=N.length;unfold xB;rw[ab,c.parts.1]
def zfZ {fp:AZ}{σ':St}{H':Hp}{s':Aa}{h'':Heap}{BI:Addr}(I:Inv X BD G H s)(hf:∀b∈fp,zen X BD H b)(I':Inv (zJ X scope N z s.heap.objs.size BI s H fp) [] σ' H' s')(hs:Heap.SameBut s.heap.objs.size s'.heap h'') :
  Inv X BD G H' { s' with heap:=h'' }:=by
 have ne:∀b o,s.heap.get? b=some o->b≠s.heap.objs.size:=λb o e=>aJ (ax e);have u:=I'.base;show Inv.call' (ch:=fp) I I'.os #[λb o e n hb hx=>?_,λb o e n hb hx=>?_,u.free,λb o e hx=>?_,u.tups,u.frzs,u.tbls] (zca I'.hok I'.free hs) I'.bare λb hb=>#[(hf b hb).2.2.2.1,(hf b hb).2.1,(hf b hb).2.2.2.2.1,(hf b hb).2.2.2.2.2];show (hs.2 b (ne b o e)).trans (u.keep b o e n hb hx);obtain⟨sl,q⟩:=u.slot b o e n hb hx;show#[sl,(hs.2 b (ne b o e)).trans q];obtain⟨o',q⟩:=u.there b o e hx;show#[o',(hs.2 b (ne b o e)).trans q]
end
section
variable {X:Cx}{scope:Scope}{N:AN}{BF:List (Option Nat)}{z:Str}
def zg3 (c:CompOkC X scope N z BF):Opn X scope BF (λX'=>∃C BI s H ex,X'=zJ X scope N z C BI s H ex) where
 kind:=c.kind
 names:=c.names
 cells:=c.cells
 run:=λBD G H3 s3 fp Q I3 f3 ltF k=>by
  show zf8 c.parts.2 ?_;have hCD:s3.heap.objs.size<=(s3.heap.push { cls:=.type "dict",data:=.dict #v[] }).objs.size:=by rw[cg];show cQ _
  have kp:∀b o,s3.heap.get? b=some o->((s3.heap.push { cls:=.type "dict",data:=.dict #v[] }).push { cls:=.type "cell",data:=.cell none }).get? b=some o:=λb o e=>af _ (af _ e);show k (zJ X scope N z s3.heap.objs.size (s3.heap.push { cls:=.type "dict",data:=.dict #v[] }).objs.size s3 H3 fp) _ _ #[_,_,_,_,_,BC] #[BC,BC,BC,BC,BC,BC,BC,λ{H'} hn b hb=>#[hn b hb,aJ (ltF b hb),λy=>?_,.inl hb,λx a e=>?_,λp hp=>?_],λI' hs=>zfZ I3 f3 I' hs] BC BC (zje I3 c f3 ltF ((Heap.Ns.new ..).at' λo e=>af _ e) hCD #[_,aw _ BC,BC] kp) kp;rcases aG.mp (I3.stkSub b y) with e | e;show (f3 b hb).2.1 e;show (f3 b hb).2.2.1 e;have e':((z,(s3.heap.push { cls:=.type "dict",data:=.dict #v[] }).objs.size)::zcO X.env scope.names []).lookup x=some a:=e;rw[cU] at e'
  cases q:x==z with
  | true=>
   rw[q] at e';cases (show some _=some a from e');show cA (aL (ltF b hb) hCD)
  | false=>
   rw[q] at e';rcases uE (c.cells I3.ok) e' with y | y;show (f3 b hb).2.2.2.2.1 x a y;simp at y
  show absurd (show p∈([]:AB)++[] from hp) (by simp)
def zn2 {P:Cx->Prop}(h:∀C BI s H ex,P (zJ X scope N z C BI s H ex)):∀X',(∃C BI s H ex,X'=zJ X scope N z C BI s H ex)->P X':=by right
end
end L2
namespace L2
open PyProof.Rows
def zki {X:Cx}{pos:Pos}{te:TE}{elt tg iter:Expr}{ifs:AQ}{scope:Scope}{wi:TI}{g:TG}{ti:TT}{N:AN}{z:Str}{BF:List (Option Nat)}(hc:X.calm=true)(c:CompOkC X scope N z BF)
  (hi:QI X tg iter wi) (hg:∀C BI s H ex,QG (zJ X scope N z C BI s H ex) tg g) (ht:∀C BI s H ex,QTs (zJ X scope N z C BI s H ex) ifs ti) (he:∀C BI s H ex,QE (zJ X scope N z C BI s H ex) elt te)
  (hs:∀x,foldedSetIterable iter X.env x=pure x:=by intro _;rfl):QE X (.ListComp elt [#[tg,iter,ifs,0]] scope pos) (zhn wi g ti te BF):=#[λBD s G H Q I h=>by
 rw[eval_ListComp];show zcj (Fin:=λacc H=>Q (.ref acc) H) (zg3 c) hc hi.run (zn2 λC BI s H ex=>(hg C BI s H ex).run) (zn2 λC BI s H ex=>(ht C BI s H ex).run) (zn2 λC BI s H ex=>(he C BI s H ex).run) hs I h λ_ _ _ _ _ hm hb q=>u9 hm hb q]
def zej:typeLookup (.type "tuple") "keys" = pure none:=by rw[typeLookup_type,eA];kernel_rfl
def zbX {prog:Ab}{w:Ac}{A:Af}{E:AA}{s:Aa}{a:Addr}{o:Obj}{xs:AL}{k:Nat}{name:Str}{Q:AK->Aa->Prop}
  (hx:s.heap.get? a=some o) (hc:o.cls = .type "tuple") (hdat:o.data = .seq xs k) (hd:o.dict=none) (hmiss:typeLookup (.type "tuple") name=pure none) (hname:(["__module__","__name__","__qualname__","__doc__","__annotations__"]:AN).contains name=false) (hA:A.handled=none)
  (h:∀h' tk e,Heap.NewExcOf s.heap h' e "AttributeError" -> Q none { s with heap:=h',toks:=tk }) (hsz:name.length+100<=sizeLine:=by size_fits) :
  Ah prog w A (getAttr? (.ref a) name) Q E s:=by
 obtain⟨c,dct,dat,sl⟩:=o;simp only at hc hdat hd;subst hc hdat hd;obtain⟨hp,g,d,tk,os⟩:=s;have hT:∀tk',(#[hp,g,d,tk',os]:Aa).TypeIs (.ref a) "tuple" := λ_=>#[_,hx,BC];have f1:=sub_AttributeError;have f3:=F.slot_tuple_getattribute.lookup;have f4:=F.slot_tuple_getattribute.bind (.ref a);have f5:=am_tuple_getattr_none;unfold getAttr? getAttrBy? getAttrBy
 repeat (any_goals (first | assumption | show hT _ | ((with_reducible show wpAny _ _ (call (Value.builtin "tuple.__getattribute__") _ _) _ _ _);show dj F.slot_tuple_getattribute (hT _) am_entry_tuple_getattribute (F.args_tuple_getattribute_2 _ _) (meets_getattribute_miss_tuple a xs k sl name _ hmiss hname hsz) #[hx,hA,λh' tk e hx'=>?_]) | wp_step))
 obtain⟨t',u',he⟩:=hx'.there;change wpAny _ _ (getattributeRaised _ _ _ _ _ _ _) _ _ _;unfold getattributeRaised
 repeat (any_goals (first | assumption | wp_step))
 show h _ _ _ hx'.of
def y4:entryFor table "dict.update.loop" = some Builtin.«dict.update.loop»:=entryFor_of_tree (by kernel_rfl)
def zX:plainId "dict.update.loop" = true:=by decide +kernel
structure PairAt (h:Heap)(q:Addr×Int×Tok×Value):Prop where
 at':IsTup h q.1 #v[.int q.2.1 q.2.2.1,q.2.2.2]
def PairAt.keep {h h':Heap}{q:Addr×Int×Tok×Value}(x:PairAt h q)(k:∀o,h.get? q.1=some o->h'.get? q.1=some o):PairAt h' q:=by obtain⟨o,ho,r⟩:=x.at';show#[#[o,k o ho,r]]
section
variable {prog:Ab}{w:Ac}{A:Af}{E:AA}{s:Aa}{R:Result->Aa->Prop}{Kt:Type}[DecidableEq Kt]{knd:KeyKind prog w Kt}{κ:Int->Kt}
def zcM {a:Addr}{o:Obj}{xs:AL}{n:Nat}{Q:Option AL->Aa->Prop}(ho:s.heap.get? a=some o)(hd:o.data = .seq xs n)(h:Q (some xs) s):Ah prog w A (seqItems? (.ref a)) Q E s:=by
 obtain⟨c,d,dt,sl⟩:=o;simp only at hd;subst hd;unfold seqItems?
 repeat (any_goals (first | assumption | wp_step))
def ziQ {BI I l:Addr}{items:AL}{ps:List (Addr×Int×Tok×Value)}{tk0:Tok}(hh:A.in1.handled=none)(hkk:∀n t,knd.is (κ n) (.int n t)=true)(hit:items.toList=ps.map λq=>Value.ref q.1)(hDI:BI≠I)(hlD:l≠BI)(hlI:l≠I)(hq:∀q∈ps,q.1≠BI/\q.1≠I)(hn:ps.length<=1000) :
  ∀ (k i:Nat) (s:Aa) (BE:List (Kt×Value)) (j:Int) (tj:Tok),ps.length - i=k->i<=ps.length->s.heap.IsTupleIter I l i->s.heap.IsTuple l items->(∀q∈ps,PairAt s.heap q)->s.heap.DictOf knd BI BE->BE.length<=i->
   (∀h' tk',h'.DictOf knd BI (merged BE ((ps.drop i).map λq=>(κ q.2.1,q.2.2.2)))->(∀b o,b≠BI->b≠I->s.heap.get? b=some o->h'.get? b=some o)->R (.ok (.ret .none)) { s with heap:=h',toks:=tk' })->
   codeAny (model prog w) A (.builtin "dict.update.loop" #[[.ref BI,.ref I,.int j tj,.none],[]]) R s:=by
 intro k
 induction k with
 | zero=>
  intro i s BE j tj hk hi hI hl hel hD hlen hR;have hin:i=ps.length:=by lia
  subst hin;show codeAny_builtin y4 ?_;rw[Around.under_plainId zX _];change wpAny _ A.in1 (pyNext (.ref I) >>= _) _ _ s;show aa (wpAny_pyNext_tuple_end hh hI hl ?_ λh' hx=>?_);have e:items.toList[ps.length]?=none:=by rw[hit,aA,cC (ak _)];rfl
  simpa using e;change wpAny _ A.in1 (Builtin.Dict.addKeywords BI [] >>= _) _ _ _;show aa (ai (ai (hR h' s.toks ?_ λb o _ hb e=>hx b o hb e)));rw[List.drop_length];obtain⟨o,es,ep,ho,r⟩:=hD;show#[o,es,ep,hx BI o hDI ho,r]
 | succ k ih=>
  intro i s BE j tj hk hi hI hl hel hD hlen hR;have hlt:i<ps.length:=by lia
  show codeAny_builtin y4 ?_;rw[Around.under_plainId zX _];change wpAny _ A.in1 (pyNext (.ref I) >>= _) _ _ s
  have hx:items[i]?=some (Value.ref ps[i].1):=by
   have e:items.toList[i]?=some (Value.ref ps[i].1):=by rw[hit,aA,aj hlt];rfl
   simpa using e
  have hmi:ps[i]∈ps:=bu hlt;show aa (wpAny_pyNext_tuple_item hI hl hx λh1 hI1 hs1=>?_);have kp1:∀b o,b≠I->s.heap.get? b=some o->h1.get? b=some o:=λb o hb e=>by rw[hs1.2 b hb];show e
  have hel1:∀q∈ps,PairAt h1 q:=λq z=>(hel q z).keep λo e=>kp1 _ _ (hq q z).2 e;have hD1:h1.DictOf knd BI BE:=by obtain⟨o,es,ep,ho,r⟩:=hD;show#[o,es,ep,kp1 _ _ hDI ho,r]
  have hp:=(hel1 _ hmi).at';have hT:Shared.TypeIs { s with heap:=h1 } (.ref ps[i].1) "tuple" := hp.typeIs;show aa (bw ?_);show aa (wpAny_tryCatch ?_);unfold Builtin.Dict.pairItems;show aa (cJ hT ?_);rw[if_pos (by ext)];obtain⟨o,ho,hc,n,hd⟩:=id hp;show aa (zcM ho hd ?_);show ai ?_;change wpAny _ _ (holding [Value.int ps[i].2.1 ps[i].2.2.1,ps[i].2.2.2] (dictSet BI (Value.int ps[i].2.1 ps[i].2.2.1) ps[i].2.2.2)) _ _ _;show bw ?_;show wpAny_dictSet_pairs (s:={ s with heap:=h1 }) (hkk _ _) hD1 (λh2 hD2 hs2=>?_) (by rw[bp];lia);have kp2:∀b o,b≠BI->h1.get? b=some o->h2.get? b=some o:=λb o hb e=>by rw[hs2.2 b hb];show e
  show ai #[plainId_quiet zX _,ih (i+1) _ _ (j+1) _ (by lia) hlt ?_ ?_ ?_ hD2 ?_ ?_];obtain⟨o,ho,r⟩:=hI1;show#[o,kp2 _ _ hDI.symm ho,r];obtain⟨o,ho,r⟩:=hl;show#[o,kp2 _ _ hlD (kp1 _ _ hlI ho),r];show λq z=>(hel1 q z).keep λo e=>kp2 _ _ (hq q z).1 e;have:=stored_length_le BE (κ ps[i].2.1) ps[i].2.2.2;lia;intro h' tk' hD' kp;show hR h' tk' ?_ λb o b1 b2 e=>kp b o b1 b2 (kp2 b o b1 (kp1 b o b2 e));have e:ps.drop i=ps[i]::ps.drop (i+1):=List.drop_eq_getElem_cons hlt;rw[e,aC];show hD'
def zbZ {l:Addr}{items:AL}{ps:List (Addr×Int×Tok×Value)}{Q:AA}(hh:A.handled=none)(hkk:∀n t,knd.is (κ n) (.int n t)=true)(hinj:∀a b,κ a=κ b->a=b)
  (hl:∃o,s.heap.get? l=some o/\o.cls = .type "tuple" /\ (∃n,o.data = .seq items n)/\o.dict=none) (hit:items.toList=ps.map λq=>Value.ref q.1) (hel:∀q∈ps,PairAt s.heap q) (hn:ps.length<=1000) (hnd:(ps.map (·.2.1)).Nodup)
  (h:∀ (h':Heap) (tk:Nat),h'.DictOf knd s.heap.objs.size (ps.map λq=>(κ q.2.1,q.2.2.2))->(∀b o,s.heap.get? b=some o->h'.get? b=some o)->Q (.ref s.heap.objs.size) { s with heap:=h',toks:=tk }) :
  Ah prog w A (call (.type "dict") [.ref l]) Q E s:=by
 show callType_codes (Q₁:=λobj s₁=>obj = .ref s.heap.objs.size/\s₁={ s with heap:=s.heap.push { cls:=.type "dict",data:=.dict #v[] } }) F.kt_called_dict (F.kt_typeCall_dict_1 _) F.entry_dict_init (kt_code_dict_new _ #[BC,BC]) ?_;rintro obj s₁ ⟨rfl,rfl⟩;have hnew:(s.heap.push { cls:=.type "dict",data:=.dict #v[] }).DictOf knd s.heap.objs.size []:=Heap.DictOf.new s.heap;obtain⟨o,ho,hc,⟨n,hd⟩,hdn⟩:=hl;have ho1:(s.heap.push { cls:=.type "dict",data:=.dict #v[] }).get? l=some o:=af _ ho;have hT1:Shared.TypeIs { s with heap:=s.heap.push { cls:=.type "dict",data:=.dict #v[] } } (.ref l) "tuple" := #[o,ho1,hc];show#[hnew.typeIs,F.args_dict_init_2 _ _,?_];unfold Builtin.«dict.__init__»;show aa ?_;unfold Builtin.Dict.selfAndRest;show aa (wpAny_notOrdered_dict hnew.typeIs ?_);change wpAny _ _ (pure (s.heap.objs.size,[Value.ref l])) _ _ _;show ai ?_;change wpAny _ _ (Builtin.Dict.updateFrom "dict.__init__" s.heap.objs.size (.ref l) [] .none) _ _ _;unfold Builtin.Dict.updateFrom;show aa (cJ hT1 ?_);rw[if_pos (by ext)];show aa (zbX ho1 hc hd hdn zej (by ext) (by simp[hh]) (λh2 tk e hx=>?_) (by ext));have kp2:=hx.keeps;rw[if_pos (by rfl)];show aa (eM ?_);have hlS:l<s.heap.objs.size:=ax ho;have hqS:∀q∈ps,q.1<s.heap.objs.size:=λq hq=>by obtain⟨o,ho,_⟩:=(hel q hq).at';show ax ho
 have hg2:s.heap.objs.size<h2.objs.size:=by obtain⟨_,_,_,hg,_⟩:=hnew;show ax (kp2 _ _ hg)
 have ho2:=kp2 _ _ ho1;show aa (b8 (s:={ s with heap:=h2,toks:=tk }) #[o,ho2,hc,n,hd] ?_);show ai #[plainId_quiet zX _,?_];show ziQ (A:=A.in1) (knd:=knd) (κ:=κ) (items:=items) (ps:=ps) (l:=l) (tk0:=0) (by simp[hh]) hkk hit ?_ ?_ ?_ ?_ hn (ps.length - 0) 0 _ [] _ _ (by lia) (aS _) #[_,aw _ BC,BC,BC] ?_ ?_ ?_ (ak _) ?_;show aJ hg2;show aJ hlS;show aJ (dJ hlS hg2);intro q hq;have:=hqS q hq;show#[aJ this,aJ (dJ this hg2)];show#[o,af _ ho2,hc,n,hd];show λq hq=>(hel q hq).keep λo e=>af _ (kp2 _ _ (af _ e));obtain⟨o',es,ep,ho',r⟩:=hnew;show#[o',es,ep,af _ (kp2 _ _ ho'),r];intro h' tk' hD kp;show#[BC,h h' tk' ?_ λb o e=>?_];rw[ez,merged_nil_of_nodup] at hD;show hD;rw[ar];have e:(ps.map ((λx=>x.1) ∘ λq=>(κ q.2.1,q.2.2.2)))=(ps.map (·.2.1)).map κ:=by rw[ar];rfl
 rw[e];show List.Pairwise.map κ (λa b hab he=>hab (hinj a b he)) hnd;have hb:=ax e;show kp b o (aJ hb) (aJ (dJ hb hg2)) (af _ (kp2 _ _ (af _ e)))
end
structure PrsAt (H:Hp)(a:Addr)(ps:List (Addr×Int×V)):Prop where
 at':H a=some (.tup (ps.map λq=>V.ref q.1))
 one:∀q∈ps,H q.1=some (.tup [.int q.2.1,q.2.2])
def zvf {ps:List (Addr×Int×V)}{P:Ab}{w:Ac}{H:Hp}{h:Heap}(ok:HOk P w H h):∀ {its:AO},z9 (ps.map λq=>V.ref q.1) its->(∀q∈ps,H q.1=some (.tup [.int q.2.1,q.2.2]))->
  ∃qs:List (Addr×Int×Tok×Value),its=qs.map (λq=>Value.ref q.1)/\(∀q∈qs,PairAt h q)/\qs.map (·.2.1)=ps.map (·.2.1)/\KV (ps.map λq=>((Sum.inl q.2.1:Key),q.2.2)) (qs.map λq=>((Sum.inl q.2.1:Key),q.2.2.2)):=by
 induction ps with
 | nil=>intro its r _;cases r;show#[[],BC,λ_ h=>by simp at h,BC,.nil]
 | cons q ps ih=>
  intro its r hq
  cases r with
  | cons r1 r2=>
   obtain⟨qs,rfl,h1,h2,h3⟩:=ih r2 λz hz=>hq z (ao _ hz);cases r1;obtain⟨_,us,rv,o,ho,hc,⟨n,hd⟩,_⟩:=(show z8 P w H h q.1 (.tup _) from ok _ _ (hq q am))
   cases rv with
   | cons rk rv=>
    cases rv with
    | cons ru rn=>
     cases rn;obtain⟨t,rfl⟩:=rk;show#[(q.1,q.2.1,t,_)::qs,BC,λz hz=>?_,by right,.cons #[BC,ru] h3];rcases aG.mp hz with rfl | hz;show#[#[o,ho,hc,n,hd]];show h1 z hz
def zkr:AU->Hp->VK->Prop:=λxs H Q=>∃ (a:Addr) (ps:List (Addr×Int×V)),xs=[.ref a]/\PrsAt H a ps/\(ps.map (·.2.1)).Nodup/\ps.length<=1000/\New H (.dK (ps.map λq=>((Sum.inl q.2.1:Key),q.2.2))) Q
def zli {X:Cx}(hc:X.calm=true):CallQ X (.type "dict") zkr:=#[by
 intro BD s G H xs us Q I rr hh;obtain⟨a,ps,rfl,hp,hnd,hn,q⟩:=hh
 cases rr with
 | cons r1 r2=>
  cases r2;cases r1;obtain⟨hz,its,rv,o,ho,hcl,⟨n,hd⟩,hdn⟩:=(show z8 X.prog X.w H s.heap a (.tup _) from I.hok a _ hp.at');obtain⟨qs,rfl,h1,h2,h3⟩:=zvf I.hok rv hp.one;have hlen:qs.length=ps.length:=by have:=congrArg List.length h2;simpa using this
  show zbZ (knd:=zy X.prog X.w) (κ:=Sum.inl) (items:=(qs.map λq=>Value.ref q.1).toArray) (ps:=qs) (I.ok.hd hc) (λn t=>zco _ _ n t) (λa b e=>eY e) #[o,ho,hcl,#[n,hd],hdn] (by simp) h1 (by lia) (by rw[h2];show hnd) λh' tk hD kp=>?_;have hf:H s.heap.objs.size=none:=I.hok.fresh (ak _);show#[.ref s.heap.objs.size,_,I.laid (t':=tk) (o:=.dK (ps.map λq=>((Sum.inl q.2.1:Key),q.2.2))) kp (ak _) #[?_,?_,_,h3,hD],BC,q.at hf];right;show eQ.mpr (Ne.symm (aJ I.big))]
def zd4 {X:Cx}{BD:AB}{G:St}{H:Hp}{s:Aa}{a:Addr}{xs:AU}(I:Inv X BD G H s)(h:SqL X.K H a xs):∃its:AO,z9 xs its/\s.heap.IsList a its.toArray/\xs.length<=sizeLine:=by obtain⟨its,r,⟨o,n,e,c,_,d⟩,z⟩:=I.list h;show#[its,r,#[o,e,c,n,d],z]
def Iel (K:AI)(a:Addr):It:=
 #[λi H=>∃xs x,SqL K H a xs/\xs[i]?=some x,λi H v H'=>∃T x,v = .ref T/\H T=none/\H'=upd H T (.tup [.int i,x])/\∀xs,SqL K H a xs->xs[i]?=some x,λi H=>∃xs,SqL K H a xs/\xs.length<=i]
def ziU {X:Cx}{BD:AB}{G:St}{H:Hp}{s:Aa}{e it:Addr}{i n:Nat}{old:Value}{fp:AZ}{P:Nat->Value->Prop}{St:Nat->Heap->Prop}{x:V}{elts:AQ}{x1}{tpos:Pos}{E:AA}(I:Inv X BD G H s)(hf:∀b∈[e,it],zen X BD H b)(hei:e≠it)(he:IsEnum s.heap e it i old)
  (BI:Draws X.prog X.w X.A.in1 it fp n P St) (hst:St i s.heap) (hi:i<n) (hef:e∉fp) (hx:∀y,P i y->yv x y) :
  Ag X (pyNext (.ref e)) (λr s1=>∃u,r=some u/\Ag X (letOwnedTupleGo (.Tuple elts x1 tpos) (.ref e) u) (λ_ s2=>∃T,Inv X BD G (upd H T (.tup [.int i,x])) s2/\u = .ref T/\H T=none/\(∃old,IsEnum s2.heap e it ((i+1:Nat):Int) old)/\St (i+1) s2.heap/\∀b∈[e,it],upd H T (.tup [.int i,x]) b=none) E s1) E s:=by
 obtain⟨f0,f1,f2,f3,f4,f5⟩:=hf e (by simp);obtain⟨g0,g1,g2,g3,g4,g5⟩:=hf it (by simp);obtain⟨o0,ho0⟩:=BI.live _ _ hst;show wpAny_pyNext_enum_itemD BI he hst hi hei hef λy h' tk hy ho hst' hT hsz' hk=>#[_,BC,wpAny_letOwnedTupleGo_enum ho λh'' he'' hs''=>?_];have ru:=hx y hy;have hTe:s.heap.objs.size≠e:=cA (ax he);have hTi:s.heap.objs.size≠it:=cA (ax ho0);have hnone:=I.hok.fresh (ak s.heap.objs.size);have kp:∀b o,b≠e->b≠it->s.heap.get? b=some o->h''.get? b=some o:=λb o h1 h2 hb=>(hs''.2 b h1).trans (hk b o h1 h2 hb);have hT'':h''.get? s.heap.objs.size=some { cls:=.type "tuple",data:=.seq #v[.int i tk,y] }:=(hs''.2 _ hTe).trans hT;have objK:∀b u',H b=some u'->b≠e/\b≠it:=λb u' hb=>#[zb hb f0,zb hb g0]
 have hok':HOk X.prog X.w (upd H s.heap.objs.size (.tup [.int i,x])) h'':=by
  intro b u' hb;by_cases hbT:b=s.heap.objs.size;subst hbT;rw[zj] at hb;cases hb;show#[by change 2<=sizeLine;decide,[.int i tk,y],.cons #[tk,BC] (.cons ru .nil),_,hT'',BC,#[0,BC],BC];rw[ze hbT] at hb;show (I.hok b u' hb).stay (λc v hcv q=>?_) (λc q=>?_) (λc ys q=>?_);grind;rw[ze (zb q hnone)];show q;rw[ze (zb q hnone)];show q
 have I1:Inv X BD G (upd H s.heap.objs.size (.tup [.int i,x])) { s with heap:=h'',toks:=tk+1 }:=by
  show Inv.step (ch:=[e,it]) (g':=s.gens) (d':=s.drawn) (t':=tk+1) I (λb hb=>?_) (λb o h1 h2 h3 h4 h5=>?_) (λb o h1 h2 h3 h4 h5=>?_) (λb o h3 h4 h5=>?_) (λb o h3 h4=>?_) (λb ys q=>?_) (λb o u' q=>?_) (λb ps q=>?_) (λm hm=>?_) hok' I.bare;rcases aG.mp hb with rfl | hb;show#[f3,f1,f4,f5];rw[au.mp hb];show#[g3,g1,g4,g5];right;show#[o.slots,kp b o (λz=>h3 (by simp[z])) (λz=>h3 (by simp[z])) h4];rw[ze (aJ (ax h4))];show h5;right;rw[ze (zb q hnone)];show q;rw[ze (zb q hnone)];show q;show#[#v[],by rw[ze (zb q hnone),dQ];show q];obtain⟨o,es,ep,ho1,r1⟩:=hm;show#[o,es,ep,kp _ o (Ne.symm f1) (Ne.symm g1) ho1,r1]
 show#[s.heap.objs.size,I1,BC,hnone,#[y,by have:=he'';push_cast;show this],BI.frame _ _ _ hst' λb hb o z=>(hs''.2 b λq=>hef (q ▸ hb)).trans z,λb hb=>?_];rcases aG.mp hb with rfl | hb;rw[ze (Ne.symm hTe)];show f0;rw[au.mp hb,ze (Ne.symm hTi)];show g0
def zls {h:Heap}{e it:Addr}{i:Int}(he:∃old,IsEnum h e it i old)(hi:∃o,h.get? it=some o/\∀v,o.data≠.cell v):∀b∈[e,it],∃o,h.get? b=some o/\∀v,o.data≠.cell v:=by grind
def zh5 {P:Ab}{w:Ac}{K:AI}{elts:AQ}{x1}{tpos:Pos}(a it e:Addr)(hei:e≠it) :
  Turn P w K (.Tuple elts x1 tpos) (Iel K a) [e,it] e (λi h=>(∃old,IsEnum h e it i old)/\h.IsListIter it a i) where
 mem:=by simp
 obj:=λi h st=>zls st.1 (by obtain⟨_,o,e,c,d⟩:=st;show#[o,e,by grind])
 keep:=λi h h' st k=>by obtain⟨⟨old,he⟩,o,ho,r⟩:=st;show#[#[old,k e (by simp) _ he],o,k it (by simp) _ ho,r]
 item:=by
  intro X hP hw hK hc i BD s G H E I hf st hg;subst hP hw hK;obtain⟨xs,x,hq,hx⟩:=hg;obtain⟨its,rv,p,hz⟩:=zd4 I hq;obtain⟨u,hu,ru⟩:=rv.get hx;obtain⟨⟨old,he⟩,hit⟩:=st
  have hai:a≠it:=by
   intro z;obtain⟨o,ho,hcl,_⟩:=p;obtain⟨o',ho',hcl',_⟩:=hit;grind
  have hea:e≠a:=by
   intro z;obtain⟨o,ho,hcl,_⟩:=p;grind
  show thn (ziU (x:=x) (elts:=elts) (x1:=x1) (tpos:=tpos) I hf hei he (Draws.list (A:=X.A.in1) (I.ok.hd hc) it a hai its.toArray) #[hit,p] (by simpa using (ae.mp hu).1) (by simp[hei,hea]) λy hy=>?_) ?_;right;rintro r s1 ⟨u2,rfl,h2⟩;show#[_,BC,thn h2 ?_];rintro _ s2 ⟨T,h3,rfl,h4,h5,h6,h7⟩;show#[.ref T,_,h3,BC,#[T,x,BC,h4,BC,λys hy2=>by rw[I.list_inj hy2 hq];show hx],#[h5,h6.1],h7]
 done:=by
  intro X hP hw hK hc i BD s G H E I hf st hg;subst hP hw hK;obtain⟨xs,hq,hx⟩:=hg;obtain⟨its,rv,p,hz⟩:=zd4 I hq;obtain⟨f0,f1,f2,f3,f4,f5⟩:=hf it (by simp);obtain⟨⟨old,he⟩,hit⟩:=st;have hl:=rv.length;have hT:s.TypeIs (.ref e) "enumerate" := #[_,he,BC];unfold pyNext
  show aa (cR (wpAny_callSpecial?_slot (name:=Str.ofString "__next__") hT di
   (a6 di hT F.entry_enumerate_next ?_ (F.args_enumerate_next_1 _))))
  change wpAny _ _ (field (.ref e) 2 >>= _) _ _ _;show aa (bE he BC (x:=.ref it) BC ?_);show aa (wpAny_nextOf_list_end (A:=X.A.in1) (I.ok.hd hc) hit p (by simp;lia) λh' x he' hx'=>?_);obtain⟨o,ho,hc'⟩:=hx';show aa (cw (T := "StopIteration") (b:=true) #[o,ho,hc'] dw ?_);show ai #[BC,I.turned (t':=s.toks) (λb o hb e=>he' b o hb e) f0 f1 f3 f4 f5]
 self:=λA i s Q E st h=>by obtain⟨⟨old,he⟩,hit⟩:=st;show ek he h
def zm5 (K:AI)(ta:TA):TI:=λG H R=>ta G H λvs H1=>∃a,vs=[.ref a]/\(∃xs,SqL K H1 a xs)/\R (Iel K a) H1
def zmf {X:Cx}{elts:AQ}{x1}{tpos:Pos}{a:Expr}{ta:TA}{p pos:Pos}(hg:Gl X "enumerate")(hm:X.mg "enumerate" = none)(ha:PA X [a] ta)(hs:starEach [a] X.env=[(false,eval a X.env)]:=by rfl) :
  PI X (.Tuple elts x1 tpos) (.Call (.Name "enumerate" p) [a] [] pos) (zm5 X.K ta):=by
 intro BD s G H R I h;show Call_ (zcg I hg hm boot_enumerate (bR (thn (ha pos BD s G H _ I h) λus s1 ⟨vs,H1,I1,r1,q1⟩=>?_) hs BC));obtain⟨b,rfl,⟨xs,hq⟩,q⟩:=q1;obtain⟨u,rfl,ru⟩:=zak r1;cases ru;obtain⟨its,rv,pt,hz⟩:=zd4 I1 hq;show call_enumerate_list (show s1.heap.IsList b its.toArray from pt) λh' he hit hsz hk=>?_;have I2:Inv X BD G H1 { s1 with heap:=h',toks:=s1.toks }:=I1.kept (t':=s1.toks) hk;show ek he ?_;show#[s1.heap.objs.size+1,[s1.heap.objs.size+1,s1.heap.objs.size],_,_,H1,BC,I2,zh5 b s1.heap.objs.size (s1.heap.objs.size+1) (Nat.succ_ne_self _),#[#[_,he],hit],λc hc=>?_,q];rcases aG.mp hc with rfl | hc;show I1.fpOk (cQ _) (I1.hok.fresh (cQ _));rw[au.mp hc];show I1.fpOk (ak _) (I1.hok.fresh (ak _))
def zms {X:Cx}{elts:AQ}{x1}{tpos:Pos}{a:Expr}{ta:TA}{p pos:Pos}(hg:Gl X "enumerate")(hm:X.mg "enumerate" = none)(ha:QA X [a] ta)(hs:starEach [a] X.env=[(false,eval a X.env)]:=by rfl) :
  QI X (.Tuple elts x1 tpos) (.Call (.Name "enumerate" p) [a] [] pos) (zm5 X.K ta):=#[zmf hg hm ha.run hs]
end L2
namespace L2
open PyProof.Rows
abbrev nmS (b:Bool):String:=match b with | true => "tuple" | false => "list"
abbrev nmI (b:Bool):String:=match b with | true => "tuple_iterator" | false => "list_iterator"
def SqH (b:Bool)(h:Heap)(l:Addr)(xs:AL):Prop:=∃o,h.get? l=some o/\o.cls = .type (nmS b)/\∃n,o.data = .seq xs n
def ItH (b:Bool)(h:Heap)(i l:Addr)(k:Nat):Prop:=∃o,h.get? i=some o/\o.cls = .type (nmI b)/\o.data = .fields #v[.ref l,.int k 0]
abbrev SqV (b:Bool) (K:AI) (H:Hp) (a:Addr) (xs:AU):Prop:=match b with | true=>SqT K H a xs | false=>SqL K H a xs
def zgc {X:Cx}{BD:AB}{G:St}{H:Hp}{s:Aa}{a:Addr}{xs:AU}{b:Bool}(I:Inv X BD G H s)(h:SqV b X.K H a xs):∃its:AO,z9 xs its/\SqH b s.heap a its.toArray:=by
 cases b;obtain⟨its,r,p,_⟩:=zd4 I h;show#[its,r,p];obtain⟨its,r,p,_⟩:=I.tuple h;show#[its,r,p]
def zuB {X:Cx}{BD:AB}{G:St}{H:Hp}{s:Aa}{a:Addr}{xs ys:AU}{b:Bool}(I:Inv X BD G H s)(h:SqV b X.K H a xs)(h':SqV b X.K H a ys):xs=ys:=by
 cases b;show I.list_inj h h';show I.tuple_inj h h'
section
variable {prog:Ab}{w:Ac}{A:Af}{E:AA}{s:Aa}
def zhN {k:Bool}{it t:Addr}{i:Nat}{items:AL}{x:Value}{Q:AA}(hit:ItH k s.heap it t i)(ht:SqH k s.heap t items)(hx:items[i]?=some x)
  (hQ:∀h',ItH k h' it t (i+1)->Heap.SameBut it s.heap h'->Q x { s with heap:=h' }):Ah prog w A (Builtin.SmallTypes.nextOf (.ref it)) Q E s:=by
 cases k;show wpAny_nextOf_list_item hit ht hx hQ;show y9 hit ht hx hQ
def zjR {k:Bool}{it t:Addr}{i:Nat}{items:AL}{Q:AA}(hh:A.handled=none)(hit:ItH k s.heap it t i)(ht:SqH k s.heap t items)(hx:items[i]?=none)
  (hE:∀h' e,Heap.ExtBut it s.heap h'->(∃o,h'.get? e=some o/\o.cls = .type "StopIteration")->E (.ref e) { s with heap:=h' }):Ah prog w A (Builtin.SmallTypes.nextOf (.ref it)) Q E s:=by
 cases k;show wpAny_nextOf_list_end hh hit ht hx hE;show xn hh hit ht hx hE
def zuC {k:Bool}{l:Addr}{items:AL}{Q:AA}(h:SqH k s.heap l items)(hQ:Q (.ref s.heap.objs.size) { s with heap:=s.heap.push { cls:=.type (nmI k),data:=.fields #v[.ref l,.int 0 0] } }):Ah prog w A (pyIter (.ref l)) Q E s:=by
 cases k;show fG h hQ;show b8 h hQ
def zc1 {kb:Bool}{z TI TO i1 i2 t1 t2:Addr}{k1 k2:Nat}{xs ys:AL}{x y a b:Value}{Q:AA}(BI:ZipApart z TI TO i1 i2 t1 t2)
  (hz:IsZip s.heap z TI TO .none) (hTI:IsPair s.heap TI (.ref i1) (.ref i2)) (hTO:IsPair s.heap TO a b) (h1:ItH kb s.heap i1 t1 k1) (h2:s.heap.IsTupleIter i2 t2 k2)
  (hx:SqH kb s.heap t1 xs) (hy:s.heap.IsTuple t2 ys) (ex:xs[k1]?=some x) (ey:ys[k2]?=some y)
  (hQ:∀h',IsZip h' z TI TO (rawInt s.heap.objs.size)->IsPair h' TO x y->ItH kb h' i1 t1 (k1+1)->h'.IsTupleIter i2 t2 (k2+1)->IsPair h' s.heap.objs.size x y->h'.objs.size=s.heap.objs.size+1->
   (∀c o,c≠z->c≠TO->c≠i1->c≠i2->s.heap.get? c=some o->h'.get? c=some o)->Q (.ref s.heap.objs.size) { s with heap:=h' }) :
  Ah prog w A (Builtin.«zip.__next__» #[[.ref z],[]]) (λfin s'=>∃v,fin = .done (.ret v)/\Q v s') E s:=by
 change wpAny _ _ (field (.ref z) 2 >>= _) _ _ s;show aa (bE hz BC (x:=.bool false) BC ?_);change wpAny _ _ (field (.ref z) 3 >>= _) _ _ s;show aa (bE hz BC (x:=.ref TI) BC ?_);change wpAny _ _ (seqItems? (.ref TI) >>= _) _ _ s;show aa (ce hTI BC ?_);change wpAny _ _ (Builtin.SmallTypes.ownedTupleIsFree (.ref z) >>= _) _ _ s;show aa ?_;change wpAny _ _ (field (.ref z) 0 >>= _) _ _ s;show aa (bE hz BC (x:=.none) BC ?_);show ai ?_;change wpAny _ _ (rule "zip.__next__.owned-tuple-again" >>= _) _ _ s;show aa (eM ?_);change wpAny _ _ (field (.ref z) 4 >>= _) _ _ s;show aa (bE hz BC (x:=.ref TO) BC ?_);change wpAny _ _ (setField (.ref z) 0 .ellipsis >>= _) _ _ s;show aa (bB hz BC (by simp) ?_);have hz1:(s.heap.update z (Obj.mapFields λx=>x.setIfInBounds 0 Value.ellipsis)).get? z=some { cls:=.type "zip",data:=.fields #v[.ellipsis,.bool false,.bool false,.ref TI,.ref TO] }:=br _ hz BC;have ko1:∀c,c≠z->(s.heap.update z (Obj.mapFields λx=>x.setIfInBounds 0 Value.ellipsis)).get? c=s.heap.get? c:=λc hc=>bG _ _ (Ne.symm hc);have zs1:(s.heap.update z (Obj.mapFields λx=>x.setIfInBounds 0 Value.ellipsis)).objs.size=s.heap.objs.size:=by simp[Heap.update]
 generalize s.heap.update z (Obj.mapFields λx=>x.setIfInBounds 0 Value.ellipsis)=H1 at hz1 ko1 zs1;change wpAny _ _ (forIn ([(Value.ref i1,0),(Value.ref i2,1)]:List (Value×Nat)) ((none,()):Option PySem.Fin×Unit) _ >>= _) _ _ _;rw[c9];show aa (aa ?_);show aa (wpAny_onRaise ?_);change wpAny _ _ (if (Value.bool false==Value.bool true)=true then _ else (Builtin.SmallTypes.nextOf (.ref i1) >>= λx=>pure (some x))) _ _ _;rw[if_neg (by ext)];have h1':ItH kb H1 i1 t1 k1:=by obtain⟨o,ho,r⟩:=h1;show#[o,(ko1 _ BI.i1z).trans ho,r]
 have hx':SqH kb H1 t1 xs:=by obtain⟨o,ho,r⟩:=hx;show#[o,(ko1 _ BI.l1z).trans ho,r]
 show aa (zhN (s:={ s with heap:=H1 }) h1' hx' ex λH2 hit2 sb2=>?_);show ai ?_;have ko2:∀c,c≠i1->H2.get? c=H1.get? c:=λc hc=>sb2.2 c hc;have hTO2:IsPair H2 TO a b:=(ko2 _ BI.TOi1).trans ((ko1 _ BI.TOz).trans hTO);change wpAny _ _ (seqItems? (.ref TO) >>= _) _ _ _;show aa (ce (s:={ s with heap:=H2 }) hTO2 BC ?_);show aa (wpAny_updateSeq_pair (s:={ s with heap:=H2 }) hTO2 λH3 hTO3 sb3=>?_);show aa (wpAny_letGo ?_);show ai ?_;have hTO3':IsPair H3 TO x b:=hTO3;have ko3:∀c,c≠TO->H3.get? c=H2.get? c:=λc hc=>sb3.2 c hc;change wpAny _ _ (forIn ([(Value.ref i2,1)]:List (Value×Nat)) ((none,()):Option PySem.Fin×Unit) _) _ _ _;rw[c9];show aa ?_;show aa (wpAny_onRaise ?_);change wpAny _ _ (if (Value.bool false==Value.bool true)=true then _ else (Builtin.SmallTypes.nextOf (.ref i2) >>= λx=>pure (some x))) _ _ _;rw[if_neg (by ext)];have h2':H3.IsTupleIter i2 t2 k2:=by obtain⟨o,ho,r⟩:=h2;show#[o,(ko3 _ (Ne.symm BI.TOi2)).trans ((ko2 _ (Ne.symm BI.i12)).trans ((ko1 _ BI.i2z).trans ho)),r]
 have hy':H3.IsTuple t2 ys:=by obtain⟨o,ho,r⟩:=hy;show#[o,(ko3 _ BI.l2TO).trans ((ko2 _ BI.l2i1).trans ((ko1 _ BI.l2z).trans ho)),r]
 show aa (y9 (s:={ s with heap:=H3 }) h2' hy' ey λH4 hit4 sb4=>?_);show ai ?_;have ko4:∀c,c≠i2->H4.get? c=H3.get? c:=λc hc=>sb4.2 c hc;have hTO4:IsPair H4 TO x b:=(ko4 _ BI.TOi2).trans hTO3';change wpAny _ _ (seqItems? (.ref TO) >>= _) _ _ _;show aa (ce (s:={ s with heap:=H4 }) hTO4 BC ?_);show aa (wpAny_updateSeq_pair (s:={ s with heap:=H4 }) hTO4 λH5 hTO5 sb5=>?_);show aa (wpAny_letGo ?_);show ai ?_;have hTO5':IsPair H5 TO x y:=hTO5;have ko5:∀c,c≠TO->H5.get? c=H4.get? c:=λc hc=>sb5.2 c hc;change wpAny _ _ (forIn ([]:List (Value×Nat)) ((none,()):Option PySem.Fin×Unit) _) _ _ _;rw[List.forIn_nil];show ai ?_;change wpAny _ _ (seqItems? (.ref TO) >>= _) _ _ _;show aa (ce (s:={ s with heap:=H5 }) hTO5' BC ?_);show aa (wpAny_newTuple ?_ (by change 2<=sizeLine;decide));have sz5:H5.objs.size=s.heap.objs.size:=sb5.1.trans (sb4.1.trans (sb3.1.trans (sb2.1.trans zs1)));have ko:∀c o,c≠z->c≠TO->c≠i1->c≠i2->s.heap.get? c=some o->H5.get? c=some o:=λc o c1 c2 c3 c4 e=>(ko5 _ c2).trans ((ko4 _ c4).trans ((ko3 _ c2).trans ((ko2 _ c3).trans ((ko1 _ c1).trans e))));have hz5:H5.get? z=some { cls:=.type "zip",data:=.fields #v[.ellipsis,.bool false,.bool false,.ref TI,.ref TO] }:=(ko5 _ (Ne.symm BI.TOz)).trans ((ko4 _ (Ne.symm BI.i2z)).trans ((ko3 _ (Ne.symm BI.TOz)).trans ((ko2 _ (Ne.symm BI.i1z)).trans hz1)));have hnew:=aw H5 (o:={ cls:=.type "tuple",data:=.seq #v[x,y] }) BC;change wpAny _ _ (Builtin.SmallTypes.ownedTupleHandOut (.ref z) (.ref H5.objs.size) >>= _) _ _ { s with heap:=H5.push { cls:=.type "tuple",data:=.seq #v[x,y] } };have ko6:∀c o,H5.get? c=some o->(H5.push { cls:=.type "tuple",data:=.seq #v[x,y] }).get? c=some o:=λc o e=>af _ e;have sz6:(H5.push { cls:=.type "tuple",data:=.seq #v[x,y] }).objs.size=s.heap.objs.size+1:=by rw[cg,sz5]
 rw[sz5] at hnew ⊢;generalize H5.push { cls:=.type "tuple",data:=.seq #v[x,y] }=H6 at hnew ko6 sz6;have hz6:=ko6 _ _ hz5;show aa ?_;change wpAny _ _ (setField (.ref z) 0 (rawInt s.heap.objs.size) >>= _) _ _ { s with heap:=H6 };show aa (bB hz6 BC (by simp) ?_);have hz7:(H6.update z (Obj.mapFields λx=>x.setIfInBounds 0 (rawInt s.heap.objs.size))).get? z=some { cls:=.type "zip",data:=.fields #v[rawInt s.heap.objs.size,.bool false,.bool false,.ref TI,.ref TO] }:=br _ hz6 BC;have ko7:∀c,c≠z->(H6.update z (Obj.mapFields λx=>x.setIfInBounds 0 (rawInt s.heap.objs.size))).get? c=H6.get? c:=λc hc=>bG _ _ (Ne.symm hc);have sz7:(H6.update z (Obj.mapFields λx=>x.setIfInBounds 0 (rawInt s.heap.objs.size))).objs.size=H6.objs.size:=by simp[Heap.update]
 generalize H6.update z (Obj.mapFields λx=>x.setIfInBounds 0 (rawInt s.heap.objs.size))=H7 at hz7 ko7 sz7;show bB (s:={ s with heap:=H7 }) hz7 BC (by simp) ?_;have hz8:(H7.update z (Obj.mapFields λx=>x.setIfInBounds 1 (Value.bool false))).get? z=some { cls:=.type "zip",data:=.fields #v[rawInt s.heap.objs.size,.bool false,.bool false,.ref TI,.ref TO] }:=br _ hz7 BC;have ko8:∀c,c≠z->(H7.update z (Obj.mapFields λx=>x.setIfInBounds 1 (Value.bool false))).get? c=H7.get? c:=λc hc=>bG _ _ (Ne.symm hc);have sz8:(H7.update z (Obj.mapFields λx=>x.setIfInBounds 1 (Value.bool false))).objs.size=H7.objs.size:=by simp[Heap.update]
 generalize H7.update z (Obj.mapFields λx=>x.setIfInBounds 1 (Value.bool false))=H8 at hz8 ko8 sz8;have kk:∀c o,c≠z->H5.get? c=some o->H8.get? c=some o:=λc o hc e=>(ko8 _ hc).trans ((ko7 _ hc).trans (ko6 _ _ e));have hzlt:=ax hz;show ai #[_,BC,hQ H8 hz8 (kk _ _ BI.TOz hTO5') ?_ ?_ ?_ (by rw[sz8,sz7,sz6]) λc o c1 c2 c3 c4 e=>kk _ _ c1 (ko c o c1 c2 c3 c4 e)];obtain⟨o,ho,r⟩:=hit2;show#[o,kk _ _ BI.i1z ((ko5 _ (Ne.symm BI.TOi1)).trans ((ko4 _ BI.i12).trans ((ko3 _ (Ne.symm BI.TOi1)).trans ho))),r];obtain⟨o,ho,r⟩:=hit4;show#[o,kk _ _ BI.i2z ((ko5 _ (Ne.symm BI.TOi2)).trans ho),r];show (ko8 _ (cA hzlt)).trans ((ko7 _ (cA hzlt)).trans hnew)
def zem {kb:Bool}{z TI TO i1 i2 t1 t2:Addr}{k1:Nat}{xs:AL}{Q:PySem.Fin->Aa->Prop}(BI:ZipApart z TI TO i1 i2 t1 t2)(hh:A.handled=none)
  (hz:IsZip s.heap z TI TO .none) (hTI:IsPair s.heap TI (.ref i1) (.ref i2)) (h1:ItH kb s.heap i1 t1 k1) (hx:SqH kb s.heap t1 xs) (ex:xs[k1]?=none)
  (hE:∀h' e,(∀c o,c≠z->c≠i1->s.heap.get? c=some o->h'.get? c=some o)->(∃o,h'.get? e=some o/\o.cls = .type "StopIteration")->E (.ref e) { s with heap:=h' }) :
  Ah prog w A (Builtin.«zip.__next__» #[[.ref z],[]]) Q E s:=by
 change wpAny _ _ (field (.ref z) 2 >>= _) _ _ s;show aa (bE hz BC (x:=.bool false) BC ?_);change wpAny _ _ (field (.ref z) 3 >>= _) _ _ s;show aa (bE hz BC (x:=.ref TI) BC ?_);change wpAny _ _ (seqItems? (.ref TI) >>= _) _ _ s;show aa (ce hTI BC ?_);change wpAny _ _ (Builtin.SmallTypes.ownedTupleIsFree (.ref z) >>= _) _ _ s;show aa ?_;change wpAny _ _ (field (.ref z) 0 >>= _) _ _ s;show aa (bE hz BC (x:=.none) BC ?_);show ai ?_;change wpAny _ _ (rule "zip.__next__.owned-tuple-again" >>= _) _ _ s;show aa (eM ?_);change wpAny _ _ (field (.ref z) 4 >>= _) _ _ s;show aa (bE hz BC (x:=.ref TO) BC ?_);change wpAny _ _ (setField (.ref z) 0 .ellipsis >>= _) _ _ s;show aa (bB hz BC (by simp) ?_);have hz1:(s.heap.update z (Obj.mapFields λx=>x.setIfInBounds 0 Value.ellipsis)).get? z=some { cls:=.type "zip",data:=.fields #v[.ellipsis,.bool false,.bool false,.ref TI,.ref TO] }:=br _ hz BC;have ko1:∀c,c≠z->(s.heap.update z (Obj.mapFields λx=>x.setIfInBounds 0 Value.ellipsis)).get? c=s.heap.get? c:=λc hc=>bG _ _ (Ne.symm hc);generalize s.heap.update z (Obj.mapFields λx=>x.setIfInBounds 0 Value.ellipsis)=H1 at hz1 ko1;change wpAny _ _ (forIn ([(Value.ref i1,0),(Value.ref i2,1)]:List (Value×Nat)) ((none,()):Option PySem.Fin×Unit) _ >>= _) _ _ _;rw[c9];show aa (aa ?_);show aa (wpAny_onRaise ?_);change wpAny _ _ (if (Value.bool false==Value.bool true)=true then _ else (Builtin.SmallTypes.nextOf (.ref i1) >>= λx=>pure (some x))) _ _ _;rw[if_neg (by ext)];have h1':ItH kb H1 i1 t1 k1:=by obtain⟨o,ho,r⟩:=h1;show#[o,(ko1 _ BI.i1z).trans ho,r]
 have hx':SqH kb H1 t1 xs:=by obtain⟨o,ho,r⟩:=hx;show#[o,(ko1 _ BI.l1z).trans ho,r]
 show aa (zjR (s:={ s with heap:=H1 }) hh h1' hx' ex λH2 e eb he=>?_);have hz2:=eb z _ (Ne.symm BI.i1z) hz1;show bB (s:={ s with heap:=H2 }) hz2 BC (by simp) ?_;have hez:e≠z:=by grind
 show hE _ e (λc o c1 c2 e1=>?_) ?_;show (bG _ _ (Ne.symm c1)).trans (eb c o c2 ((ko1 _ c1).trans e1));obtain⟨o,ho,hc⟩:=he;show#[o,(bG _ _ (Ne.symm hez)).trans ho,hc]
def zhu (kb:Bool)(h:Heap)(l1 l2:Addr):Heap:=
 ((((h.push { cls:=.type (nmI kb),data:=.fields #v[.ref l1,.int 0 0] }).push { cls:=.type "tuple_iterator",data:=.fields #v[.ref l2,.int 0 0] }).push { cls:=.type "tuple",data:=.seq #v[.ref h.objs.size,.ref (h.objs.size+1)] }).push { cls:=.type "tuple",data:=.seq #v[.none,.none] }).push
  { cls:=.type "zip",data:=.fields #v[.none,.bool false,.bool false,.ref (h.objs.size+2),.ref (h.objs.size+3)] }
def zcS (kb:Bool)(l1 l2:Addr)(xs ys:AL) :
  Meets (Builtin.«zip.__new__» #[[.type "zip",.ref l1,.ref l2],[]]) (λ_ R s=>SqH kb s.heap l1 xs/\s.heap.IsTuple l2 ys/\R (.ok (.ret (.ref (s.heap.objs.size+4)))) { s with heap:=zhu kb s.heap l1 l2 }):=
 .of_wp λprog w A R s h=>by
  obtain⟨hp,g,d,tk,os⟩:=s;obtain⟨h1,h2,h⟩:=h;have hsub:=sub_zip;have h2':Heap.IsTuple (Shared.heap #[hp.push { cls:=.type (nmI kb),data:=.fields #v[.ref l1,.int 0 0] },g,d,tk,os]) l2 ys:=by obtain⟨o,ho,r⟩:=h2;show#[o,af _ ho,r]
  wp_walk using zuC h1,b8 h2'
  show#[_,BC,?_];unfold zhu at h;simpa [cg,Builtin.SmallTypes.ownedTupleFields] using h
def zio {kb:Bool}{l1 l2:Addr}{xs ys:AL}{Q:AA}(h1:SqH kb s.heap l1 xs)(h2:s.heap.IsTuple l2 ys)
  (h:∀h',IsZip h' (s.heap.objs.size+4) (s.heap.objs.size+2) (s.heap.objs.size+3) .none->IsPair h' (s.heap.objs.size+2) (.ref s.heap.objs.size) (.ref (s.heap.objs.size+1))->IsPair h' (s.heap.objs.size+3) .none .none->
   ItH kb h' s.heap.objs.size l1 0->h'.IsTupleIter (s.heap.objs.size+1) l2 0->h'.objs.size=s.heap.objs.size+5->(∀b o,s.heap.get? b=some o->h'.get? b=some o)->Q (.ref (s.heap.objs.size+4)) { s with heap:=h' }) :
  Ah prog w A (call (.type "zip") [.ref l1,.ref l2]) Q E s:=by
 show callType_new F.called_zip (by ext) (F.typeCall_zip_2 _ _) (F.newCall_zip_2 _ _) (λobj=>F.args_object_init_3 obj _ _) F.entry_zip_new (zcS kb l1 l2 xs ys) #[h1,h2,?_];generalize ho0:({ cls:=.type (nmI kb),data:=.fields #v[.ref l1,.int 0 0] }:Obj)=o0;have z1:∀o,(s.heap.push o).objs.size=s.heap.objs.size+1:=λo=>cg ..;have z2:∀o o',((s.heap.push o).push o').objs.size=s.heap.objs.size+2:=λo o'=>by rw[cg,z1]
 have z3:∀o o' o'',(((s.heap.push o).push o').push o'').objs.size=s.heap.objs.size+3:=λo o' o''=>by rw[cg,z2]
 have z4:∀o o' o'' p,((((s.heap.push o).push o').push o'').push p).objs.size=s.heap.objs.size+4:=λo o' o'' p=>by rw[cg,z3]
 have gz:(zhu kb s.heap l1 l2).get? (s.heap.objs.size+4)=some { cls:=.type "zip",data:=.fields #v[.none,.bool false,.bool false,.ref (s.heap.objs.size+2),.ref (s.heap.objs.size+3)] }:=by unfold zhu;rw[<- z4];show aw _ BC
 have gTO:(zhu kb s.heap l1 l2).get? (s.heap.objs.size+3)=some { cls:=.type "tuple",data:=.seq #v[.none,.none] }:=by unfold zhu;show af _ ?_;rw[<- z3];show aw _ BC
 have gTI:(zhu kb s.heap l1 l2).get? (s.heap.objs.size+2)=some { cls:=.type "tuple",data:=.seq #v[.ref s.heap.objs.size,.ref (s.heap.objs.size+1)] }:=by unfold zhu;show af _ (af _ ?_);rw[<- z2];show aw _ BC
 have gi2:(zhu kb s.heap l1 l2).get? (s.heap.objs.size+1)=some { cls:=.type "tuple_iterator",data:=.fields #v[.ref l2,.int 0 0] }:=by unfold zhu;show af _ (af _ (af _ ?_));rw[<- z1];show aw _ BC
 have gi1:(zhu kb s.heap l1 l2).get? s.heap.objs.size=some { cls:=.type (nmI kb),data:=.fields #v[.ref l1,.int 0 0] }:=by unfold zhu;show af _ (af _ (af _ (af _ (aw _ BC))))
 show#[#[_,gz,BC],h _ gz gTI gTO #[_,gi1,BC,BC] #[_,gi2,BC,BC] ?_ λb o x=>?_];unfold zhu;rw[cg,z4];unfold zhu;show af _ (af _ (af _ (af _ (af _ x))))
end
def Izg (kb:Bool)(K:AI)(a b:Addr):It:=
 #[λi H=>∃xs ys x y,SqV kb K H a xs/\SqT K H b ys/\xs[i]?=some x/\ys[i]?=some y,λi H v H'=>∃T x y,v = .ref T/\H T=none/\H'=upd H T (.tup [x,y])/\(∀xs,SqV kb K H a xs->xs[i]?=some x)/\∀ys,SqT K H b ys->ys[i]?=some y,λi H=>∃xs,SqV kb K H a xs/\xs.length<=i]
def zkW {kb:Bool}{P:Ab}{w:Ac}{K:AI}{elts:AQ}{x1}{tpos:Pos}(z TI TO i1 i2 a b:Addr)(BI:ZipApart z TI TO i1 i2 a b) :
  Turn P w K (.Tuple elts x1 tpos) (Izg kb K a b) [z,TI,TO,i1,i2] z (λi h=>IsZip h z TI TO .none/\IsPair h TI (.ref i1) (.ref i2)/\(∃c d,IsPair h TO c d)/\ItH kb h i1 a i/\h.IsTupleIter i2 b i) where
 mem:=by simp
 obj:=λi h st c hc=>by
  obtain⟨hz,hTI,⟨u,v,hTO⟩,⟨o1,e1,c1,d1⟩,⟨o2,e2,c2,d2⟩⟩:=st;grind
 keep:=λi h h' st k=>by obtain⟨hz,hTI,⟨u,v,hTO⟩,⟨o1,e1,r1⟩,⟨o2,e2,r2⟩⟩:=st;show#[k z (by simp) _ hz,k TI (by simp) _ hTI,#[u,v,k TO (by simp) _ hTO],#[o1,k i1 (by simp) _ e1,r1],#[o2,k i2 (by simp) _ e2,r2]]
 item:=by
  intro X hP hw hK hc i BD s G H E I hf st hg;subst hP hw hK;obtain⟨xs,ys,x,y,hq1,hq2,hx,hy⟩:=hg;obtain⟨its1,rv1,p1⟩:=zgc I hq1;obtain⟨its2,rv2,p2,hz2⟩:=I.tuple hq2;obtain⟨u1,hu1,ru1⟩:=rv1.get hx;obtain⟨u2,hu2,ru2⟩:=rv2.get hy;have fz:=hf z (by simp);have fTO:=hf TO (by simp);have f1:=hf i1 (by simp);have f2:=hf i2 (by simp);obtain⟨hz,hTI,⟨c0,d0,hTO⟩,hi1,hi2⟩:=st;have hT:s.TypeIs (.ref z) "zip" := #[_,hz,BC];unfold pyNext
  show aa (cR (wpAny_callSpecial?_slot (name:=Str.ofString "__next__") hT eZ
   (a6 eZ hT F.entry_zip_next (zc1 (A:=X.A.in1) BI hz hTI hTO hi1 hi2 p1 p2 (x:=u1) (y:=u2) (by simpa using hu1) (by simpa using hu2) λh' gz gTO gi1 gi2 gT sz' hk=>?_) (F.args_zip_next_1 _))))
  show ai #[_,BC,?_];show wpAny_letOwnedTupleGo_zip (s:={ s with heap:=h' }) gz λh'' gz'' hs''=>?_;have nz:∀b' o',s.heap.get? b'=some o'->s.heap.objs.size≠b':=λb' o' e=>cA (ax e);have hTz:s.heap.objs.size≠z:=nz z _ hz;have hTTO:s.heap.objs.size≠TO:=nz TO _ hTO;have hT1:s.heap.objs.size≠i1:=by obtain⟨o,ho,_⟩:=hi1;show nz i1 _ ho
  have hT2:s.heap.objs.size≠i2:=by obtain⟨o,ho,_⟩:=hi2;show nz i2 _ ho
  have hTTI:s.heap.objs.size≠TI:=nz TI _ hTI;have hnone:=I.hok.fresh (ak s.heap.objs.size);have kp:∀c o,c≠z->c≠TO->c≠i1->c≠i2->s.heap.get? c=some o->h''.get? c=some o:=λc o h1 h2 h3 h4 hb=>(hs''.2 c h1).trans (hk c o h1 h2 h3 h4 hb);have hT'':h''.get? s.heap.objs.size=some { cls:=.type "tuple",data:=.seq #v[u1,u2] }:=(hs''.2 _ hTz).trans gT;have objK:∀b' u',H b'=some u'->b'≠z/\b'≠TO/\b'≠i1/\b'≠i2:=λb' u' hb=>#[zb hb fz.1,zb hb fTO.1,zb hb f1.1,zb hb f2.1]
  have hok':HOk X.prog X.w (upd H s.heap.objs.size (.tup [x,y])) h'':=by
   intro b' u' hb;by_cases hbT:b'=s.heap.objs.size;subst hbT;rw[zj] at hb;cases hb;show#[by change 2<=sizeLine;decide,[u1,u2],.cons ru1 (.cons ru2 .nil),_,hT'',BC,#[0,BC],BC]
   ·rw[ze hbT] at hb;show (I.hok b' u' hb).stay (λc v hcv q=>?_) (λc q=>?_) (λc ys q=>?_)
    ·have:c≠z/\c≠TO/\c≠i1/\c≠i2:=by
      rcases hcv with rfl | hcv
      all_goals right
     right
    rw[ze (zb q hnone)];show q;rw[ze (zb q hnone)];show q
  have kp':∀c o,c∉[z,TO,i1,i2]->s.heap.get? c=some o->h''.get? c=some o:=λc o hc e=>kp c o (λq=>hc (by simp[q])) (λq=>hc (by simp[q])) (λq=>hc (by simp[q])) (λq=>hc (by simp[q])) e
  have I1:Inv X BD G (upd H s.heap.objs.size (.tup [x,y])) { s with heap:=h'',toks:=s.toks }:=by
   show Inv.step (ch:=[z,TO,i1,i2]) (g':=s.gens) (d':=s.drawn) (t':=s.toks) I (λc hc=>?_) (λc o h1 h2 h3 h4 h5=>?_) (λc o h1 h2 h3 h4 h5=>?_) (λc o h3 h4 h5=>?_) (λc o h3 h4=>?_) (λc ys q=>?_) (λc o u' q=>?_) (λc ps q=>?_) (λm hm=>?_) hok' I.bare;simp only[aG,dC,or_false] at hc;rcases hc with rfl | rfl | rfl | rfl;show#[fz.2.2.2.1,fz.2.1,fz.2.2.2.2.1,fz.2.2.2.2.2];show#[fTO.2.2.2.1,fTO.2.1,fTO.2.2.2.2.1,fTO.2.2.2.2.2];show#[f1.2.2.2.1,f1.2.1,f1.2.2.2.2.1,f1.2.2.2.2.2];show#[f2.2.2.2.1,f2.2.1,f2.2.2.2.2.1,f2.2.2.2.2.2];show kp' c o h3 h4;show#[o.slots,kp' c o h3 h4];rw[ze (aJ (ax h4))];show h5;show#[o,kp' c o h3 h4];rw[ze (zb q hnone)];show q;rw[ze (zb q hnone)];show q;show#[#v[],by rw[ze (zb q hnone),dQ];show q];obtain⟨o,es,ep,ho1,r1⟩:=hm;show#[o,es,ep,kp _ o (Ne.symm fz.2.1) (Ne.symm fTO.2.1) (Ne.symm f1.2.1) (Ne.symm f2.2.1) ho1,r1]
  show#[.ref s.heap.objs.size,_,I1,BC,#[s.heap.objs.size,x,y,BC,hnone,BC,λzs hz'=>by rw[zuB I hz' hq1];show hx,λzs hz'=>by rw[I.tuple_inj hz' hq2];show hy],#[gz'',?_,#[_,_,(hs''.2 TO BI.TOz).trans gTO],?_,?_],λc hc=>?_];show kp TI _ BI.TIz BI.TITO BI.TIi1 BI.TIi2 hTI;obtain⟨o,ho,r⟩:=gi1;show#[o,(hs''.2 i1 BI.i1z).trans ho,r];obtain⟨o,ho,r⟩:=gi2;show#[o,(hs''.2 i2 BI.i2z).trans ho,r];simp only[aG,dC,or_false] at hc;rcases hc with rfl | rfl | rfl | rfl | rfl;rw[ze (Ne.symm hTz)];show fz.1;rw[ze (Ne.symm hTTI)];show (hf _ (by simp)).1;rw[ze (Ne.symm hTTO)];show fTO.1;rw[ze (Ne.symm hT1)];show f1.1;rw[ze (Ne.symm hT2)];show f2.1
 done:=by
  intro X hP hw hK hc i BD s G H E I hf st hg;subst hP hw hK;obtain⟨xs,hq,hx⟩:=hg;obtain⟨its,rv,p⟩:=zgc I hq;have fz:=hf z (by simp);have f1:=hf i1 (by simp);obtain⟨hz,hTI,⟨c0,d0,hTO⟩,hi1,hi2⟩:=st;have hl:=rv.length;have hT:s.TypeIs (.ref z) "zip" := #[_,hz,BC];unfold pyNext
  show aa (cR (wpAny_callSpecial?_slot (name:=Str.ofString "__next__") hT eZ
   (a6 eZ hT F.entry_zip_next (zem (A:=X.A.in1) BI (I.ok.hd hc) hz hTI hi1 p (by simp;lia) λh' e ko he=>?_) (F.args_zip_next_1 _))))
  obtain⟨o,ho,hc'⟩:=he;show aa (cw (T := "StopIteration") (b:=true) #[o,ho,hc'] dw ?_);show ai #[BC,?_];have kp':∀c o,c∉[z,i1]->s.heap.get? c=some o->h'.get? c=some o:=λc o hc e=>ko c o (λq=>hc (by simp[q])) (λq=>hc (by simp[q])) e;show Inv.step (ch:=[z,i1]) (g':=s.gens) (d':=s.drawn) (t':=s.toks) I (λc hc=>?_) (λc o h1 h2 h3 h4 h5=>kp' c o h3 h4) (λc o h1 h2 h3 h4 h5=>#[o.slots,kp' c o h3 h4]) (λc o h3 h4 h5=>h5) (λc o h3 h4=>#[o,kp' c o h3 h4]) (λc ys q=>q) (λc o u' q=>q) (λc ps q=>#[#v[],by right]) (λm hm=>?_) (λb' u' hb=>?_) I.bare;simp only[aG,dC,or_false] at hc;rcases hc with rfl | rfl;show#[fz.2.2.2.1,fz.2.1,fz.2.2.2.2.1,fz.2.2.2.2.2];show#[f1.2.2.2.1,f1.2.1,f1.2.2.2.2.1,f1.2.2.2.2.2];obtain⟨o,es,ep,ho1,r1⟩:=hm;show#[o,es,ep,ko _ o (Ne.symm fz.2.1) (Ne.symm f1.2.1) ho1,r1];show (I.hok b' u' hb).stay (λc v hcv q=>?_) (λc q=>q) (λc ys q=>q)
  have:c≠z/\c≠i1:=by
   rcases hcv with rfl | hcv;show#[zb hb fz.1,zb hb f1.1];show#[zb hcv fz.1,zb hcv f1.1]
  show ko c v this.1 this.2 q
 self:=λA i s Q E st h=>by obtain⟨hz,_⟩:=st;show wpAny_pyIter_zip hz h
def zq6 (kb:Bool)(K:AI)(ta:TA):TI:=λG H R=>ta G H λvs H1=>∃a b,vs=[.ref a,.ref b]/\(∃xs,SqV kb K H1 a xs)/\(∃ys,SqT K H1 b ys)/\R (Izg kb K a b) H1
def zpd (kb:Bool){X:Cx}{elts:AQ}{x1}{tpos:Pos}{a b:Expr}{ta:TA}{p pos:Pos}(hg:Gl X "zip")(hm:X.mg "zip" = none)(ha:PA X [a,b] ta)(hs:starEach [a,b] X.env=[(false,eval a X.env),(false,eval b X.env)]:=by rfl)(hs2:starEach [b] X.env=[(false,eval b X.env)]:=by rfl) :
  PI X (.Tuple elts x1 tpos) (.Call (.Name "zip" p) [a,b] [] pos) (zq6 kb X.K ta):=by
 intro BD s G H R I h;show Call_ (zcg I hg hm boot_zip (bR (thn (ha pos BD s G H _ I h) λus s1 ⟨vs,H1,I1,r1,q1⟩=>?_) (by rw[hs,hs2]) (by rw[hs2];rfl)));obtain⟨c,d,e,⟨xs,hq1⟩,⟨ys,hq2⟩,q⟩:=q1;subst e
 cases r1 with
 | cons r rr=>
  cases rr with
  | cons r' rr=>
   cases rr;cases r;cases r';obtain⟨its1,rv1,p1⟩:=zgc I1 hq1;obtain⟨its2,rv2,p2,hz2⟩:=I1.tuple hq2;have lt1:c<s1.heap.objs.size:=by obtain⟨o,ho,_⟩:=id p1;show ax ho
   have lt2:d<s1.heap.objs.size:=by obtain⟨o,ho,_⟩:=id p2;show ax ho
   show zio p1 (show s1.heap.IsTuple d its2.toArray from p2) λh' gz gTI gTO gi1 gi2 hsz hk=>?_;have I2:Inv X BD G H1 { s1 with heap:=h',toks:=s1.toks }:=I1.kept (t':=s1.toks) hk;show wpAny_pyIter_zip gz ?_;show#[s1.heap.objs.size+4,[s1.heap.objs.size+4,s1.heap.objs.size+2,s1.heap.objs.size+3,s1.heap.objs.size,s1.heap.objs.size+1],_,_,H1,BC,I2,zkW _ _ _ _ _ c d (zipApart_new lt1 lt2),#[gz,gTI,#[_,_,gTO],gi1,gi2],λe he=>?_,q];simp only[aG,dC,or_false] at he;rcases he with rfl | rfl | rfl | rfl | rfl;show I1.fpOk (by lia) (I1.hok.fresh (by lia));show I1.fpOk (by lia) (I1.hok.fresh (by lia));show I1.fpOk (by lia) (I1.hok.fresh (by lia));show I1.fpOk (ak _) (I1.hok.fresh (ak _));show I1.fpOk (by lia) (I1.hok.fresh (by lia))
def zpE (kb:Bool){X:Cx}{elts:AQ}{x1}{tpos:Pos}{a b:Expr}{ta:TA}{p pos:Pos}(hg:Gl X "zip")(hm:X.mg "zip" = none)(ha:QA X [a,b] ta)(hs:starEach [a,b] X.env=[(false,eval a X.env),(false,eval b X.env)]:=by rfl)(hs2:starEach [b] X.env=[(false,eval b X.env)]:=by rfl) :
  QI X (.Tuple elts x1 tpos) (.Call (.Name "zip" p) [a,b] [] pos) (zq6 kb X.K ta):=#[zpd kb hg hm ha.run hs hs2]
section
variable {X:Cx}
def zkh {T:String}{name:Str}{id:String}{r:V->AU->Hp->VK->Prop}{o e:Expr}{es:AQ}{to:TE}{t:TA}{apos cpos:Pos}(pa:PlainAttrs T)(slot:Slot T name id)(hty:typeOf (.builtin id)=pure (.type "method_descriptor"))(hm:MtR X id r)(ho:QE X o to)(ha:QA X (e::es) t)
  (hbase:attributeBase o name X.env (eval o X.env)=eval o X.env:=by rfl)
  (hfew:((backTo cpos (starEach (e::es) X.env)).all (λx=>!x.1)&&(backToKw cpos (keywordEach [] X.env)).all (λx=>x.1.isSome)
   && decide ((e::es).length+([]:List Keyword).length+(if ([]:List Keyword).isEmpty then 0 else 1)<30))=true:=by rfl)
  (hline:(apos.endLine==cpos.line)=true:=by rfl) (hs:starEach (e::es) X.env=(false,eval e X.env)::starEach es X.env:=by rfl) (hplain:(backTo cpos (starEach es X.env)).any (·.1)=false:=by rfl) :
  QE X (.Call (.Attribute o name apos) (e::es) [] cpos) (tBM X.K T r to t):=#[zrW pa slot hty hm ho.run ha.run hbase hfew hline hs hplain]
def zkt:AU->Hp->VK->Prop:=λxs H Q=>∃ (l:Addr) (ns:AH),xs=[.ref l]/\Rd H l (.lst (ns.map V.int))/\ns.length<64/\∀ns':AH,ns'.Perm ns->ns'.Pairwise (·<=·)->New H (.lst (ns'.map V.int)) Q
theorem zdI:∀ {ns:AH} {its:AO},z9 (ns.map V.int) its->IntsAre its ns
 | [],_,h=>by cases h;show .nil
 | n::ns,_,h=>by
  cases h with
  | cons r1 r2=>
   obtain⟨t,rfl⟩:=r1;show .cons _ _ (zdI r2)
def zgA {ns:AH}{its:AO}(h:IntsAre its ns):z9 (ns.map V.int) its:=by
 induction h with
 | nil=>show .nil
 | cons _ _ _ ih=>show .cons #[_,BC] ih
def zll:CallQ X (.builtin "sorted") zkt:=#[by
 intro BD s G H xs us Q I r h;obtain⟨l,ns,rfl,hl,h64,q⟩:=h;obtain⟨u,rfl,ru⟩:=zak r;cases ru;obtain⟨its,rv,pl,hz⟩:=I.list (.inl hl);obtain⟨m0,hns,_⟩:=id I.loc;show PySem.W.kso_sorted (h₀:=(#[#v[],{}]:Heap)) (L:=X.env.locals) (m:=m0) (news:=uy s.heap X.env.locals) #[hns,λb o e=>?_,aS _] (λp hp=>?_) pl.isList (zdI rv) h64 λBI vs' ns' c h' F N hDlt hi hlen hp hs _=>?_;have:=ax e;simp at this;obtain⟨b,o⟩:=p;have:=zH.mp hp;show#[this.2,this.1,?_]
 cases e:(#[#v[],{}]:Heap).get? b with
 | none=>rfl
 | some o'=>
  have:=ax e;simp at this
 have kp2:∀b o,b≠X.env.locals->s.heap.get? b=some o->h'.get? b=some o:=λb o hb e=>(N (b,o) (ao _ (zH.mpr #[hb,e]))).1;have hDL:BI≠X.env.locals:=(N (BI,_) am).2.1
 have hDn:s.heap.get? BI=none:=by
  cases e:s.heap.get? BI with
  | none=>rfl
  | some o=>show absurd (hDlt (BI,o) (zH.mpr #[hDL,e])) (bL _)
 have hHD:H BI=none:=by
  cases e:H BI with
  | none=>rfl
  | some o=>
   obtain⟨o',ho'⟩:=uR (I.hok BI o e);grind
 have hout:=(N (BI,_) am).1;have I':=zcc I hns (ys:=ns'.map V.int) kp2 F.ns hDn hHD hout (zgA hi) (by grind) s.toks;show#[.ref BI,_,I',BC,(q ns' hp hs).at hHD]]
end
open PySem.W
def zah (P:Ab)(w:Ac)(a:Addr)(ks:AH):HO:=.ext λh=>zal P w h a ks
def zhd {P:Ab}{w:Ac}{H:Hp}{h:Heap}{a:Addr}{ks:AH}(S:zal P w h a ks):z8 P w H h a (zah P w a ks):=by
 show#[S,?_,λh1 h2 q k=>?_];obtain⟨_,o,_,_,_,ho,_⟩:=S;show#[o,ho];obtain⟨xs,o,es,ep,t,ho,r⟩:=q;show#[xs,o,es,ep,t,k o ho,r]
def zmH {P:Ab}{w:Ac}{a d:Addr}{ks:AH}{ob:Obj}(hs:∃h:Heap,h.get? d=some ob):(λh=>zal P w h a ks)≠λh=>h.get? d=some ob:=λe=>by
 obtain⟨h0,hh⟩:=hs;have h1:zal P w h0 a ks:=by rw[show zal P w h0 a ks=_ from congrFun e h0];show hh
 obtain⟨xs,o,es,ep,t,ho,hx,hd,T,hr⟩:=h1;have k:∀ep':Nat,({ o with data:=.set es ep' t }:Obj)=ob:=λep'=>by have h2:zal P w (#[Array.replicate (a+1) { o with data:=.set es ep' t },{}]:Heap) a ks:=#[xs,{ o with data:=.set es ep' t },es,ep',t,by simp[Heap.get?],hx,BC,T,hr];rw[show zal P w _ a ks=_ from congrFun e _] at h2;show (zgl h2).symm
 have:=congrArg Obj.data ((k 0).trans (k 1).symm);cases this
def zdU {P:Ab}{w:Ac}{a:Addr}{ks:AH}:∀BE,pnK (zah P w a ks)=some BE->zaF BE (Sum.inr "at" : Key)=none:=λBE e=>by
 unfold zah pnK at e;dsimp only at e;rw[if_neg] at e;cases e;rintro⟨d,ob,hs,z⟩;show zmH hs z
section
variable {prog:Ab}{w:Ac}
def zh0 (h:Heap):zal prog w (h.push { cls:=.type "set",dict:=none,data:=.set #v[] 0 (.fresh 0 0 (!w.params.followText "set-order")) }) h.objs.size []:=by
 show#[[],_,#v[],0,_,aw _ BC,#[BC,BC,BC],BC,#[BC,BC,λi j _ hj=>?_,λi j e=>?_,BC,.inl BC,aS _,BC,BC,λi q e=>?_],BC,er,by change 0 * 5<7 * 3;decide];show absurd hj (ck _);simp[SetTable.fresh] at e;simp at e
variable {X:Cx}
def zgt {BD:AB}{G:St}{H:Hp}{s:Aa}{acc:Addr}{n:Int}{tk:Tok}{ks:AH}{Q:AA}(I:Inv X BD G H s)(hH:H acc=some (zah X.prog X.w acc ks))(hn:ks.length<300)
  (h:∀ks' s',(∀x,x∈ks'↔x=n\/x∈ks)->ks'.Nodup->Inv X BD G (upd H acc (zah X.prog X.w acc ks')) s'->Q .none s') :
  Ag X (call (.builtin "set.add") [.ref acc,.int n tk]) Q X.xe s:=by
 have hS:=(show z8 X.prog X.w H s.heap acc (zah X.prog X.w acc ks) from I.hok acc _ hH).1;obtain⟨xs,o,es,ep,t,ho,hx,_⟩:=id hS;show a6 F.slot_set_add #[o,ho,hx.1] F.entry_set_add ?_ (F.args_set_add_2 _ _);unfold Builtin.«set.add»;show aa (m:=Builtin.Frozenset.oneOther "add" #[[.ref acc,.int n tk],[]]) (ai ?_);show aa (znB (A:=X.A.in1) hS hn λr h' m ks' sb S' hm hl=>?_);obtain⟨_,o',_,_,_,ho',_,_,_,_,hnd',_⟩:=id S';show ai #[.none,BC,h ks' _ hm hnd' ?_];show I.write (e:=acc) (by rw[hH];trivial) (.inl BC) (λc u hc q=>sb.extBut c u hc q) #[o',ho'] (zhd S')
def zku (P:Ab)(w:Ac):AU->Hp->VK->Prop:=λxs H Q=>∃ (a:Addr) (ks:AH),xs=[.ref a]/\H a=some (zah P w a ks)/\ks.Nodup/\ks.length<64/\∀ns':AH,ns'.Perm ks->ns'.Pairwise (·<=·)->New H (.lst (ns'.map V.int)) Q
def ziA (hc:X.calm=true):CallQ X (.builtin "sorted") (zku X.prog X.w):=#[by
 intro BD s G H xs us Q I r h;obtain⟨a,ks,rfl,hH,hnd,h64,q⟩:=h;obtain⟨u,rfl,ru⟩:=zak r;cases ru;obtain⟨⟨xs,o,es,ep,t,ho,hx,hd,T,rfl,_⟩,_⟩:=(show z8 X.prog X.w H s.heap a (zah X.prog X.w a ks) from I.hok a _ hH);have S:SetIs X.w s.heap a es ep t:=#[#[o,ho,hx,hd],T.q];obtain⟨m0,hns,_⟩:=id I.loc;have hsz:=T.size;rw[ab] at h64
 have none0:∀b,(#[#v[],{}]:Heap).get? b=none:=λb=>by
  cases e:(#[#v[],{}]:Heap).get? b with
  | none=>rfl
  | some o'=>
   have:=ax e;simp at this
 have hpo:=zcy (w:=X.w) (es:=es) a ep;rw[T.eq] at hpo;obtain⟨xs2,hp2,he2⟩:=xj hpo BC;show PySem.W.kdu_sorted (h₀:=(#[#v[],{}]:Heap)) (L:=X.env.locals) (m:=m0) (news:=uy s.heap X.env.locals) (zkI (t:=t) a ep) (I.ok.hd hc) #[hns,λb o e=>(by right),aS _] (λp hp=>?_) S (by rw[hsz,bp];lia) λBI h' tk' vs F N hlt hl hP=>?_;obtain⟨b,o⟩:=p;have:=zH.mp hp;right;have hl2:=hp2.length_eq;have hvs:vs=xs2.map vI:=by show dB (by right) λj h1 h2=>?_;obtain⟨e,he,hv⟩:=hP j vs[j] (aj h1);rw[zbE,he2,aA] at he;rw[ab] at h2;rw[aj h2] at he;rw[hv,cy,<- bH he]
 have hints:IntsAre vs (xs2.map (·.1)):=by
  rw[hvs];clear hvs he2 hp2 hl2 hP
  induction xs2 with
  | nil=>show .nil
  | cons q l ih=>show .cons _ _ ih
 have hrest:∀p∈uy s.heap X.env.locals,p.1≠BI:=λp hp=>aJ (hlt p hp);show PySem.W.ksk_lsort (s:={ s with heap:=h',toks:=tk' }) (its:=vs.toArray) (n:=0) (news':=λo=>(BI,o)::uy s.heap X.env.locals) F N (λo=>.head hrest) (by simp) hints (by rw[ab];lia) λvs' ns' c h'' F2 N2 hi hlen hp hs _=>?_;have kp:∀b o,b≠X.env.locals->s.heap.get? b=some o->h''.get? b=some o:=λb o hb e=>(N2 (b,o) (ao _ (zH.mpr #[hb,e]))).1;have hDL:BI≠X.env.locals:=(N (BI,_) am).2.1
 have hDn:s.heap.get? BI=none:=by
  cases e:s.heap.get? BI with
  | none=>rfl
  | some o=>show absurd (hlt (BI,o) (zH.mpr #[hDL,e])) (bL _)
 have hHD:H BI=none:=by
  cases e:H BI with
  | none=>rfl
  | some o=>
   obtain⟨o',ho'⟩:=uR (I.hok BI o e);grind
 have hout:=(N2 (BI,_) am).1;have I':=zcc I hns (ys:=ns'.map V.int) kp F2.ns hDn hHD hout (zgA hi) (by rw[ab,hlen,ab,hl2,bp];lia) tk';show#[.ref BI,_,I',BC,(q ns' (hp.trans (hp2.map (·.1))) hs).at hHD]]
end
def ztT (P:Ab)(w:Ac)(te:TE)(acc:Addr)(N:St->Hp->Prop)(G:St)(H:Hp):Prop:=te G H λv H5=>∃ (n:Int) (ks:AH),v = .int n/\H5 acc=some (zah P w acc ks)/\ks.length<300/\
 ∀ks',(∀x,x∈ks'↔x=n\/x∈ks)->ks'.Nodup->N G (upd H5 acc (zah P w acc ks'))
def zs4 (P:Ab)(w:Ac)(wi:TI)(g:TG)(ti:TT)(wi2:TI)(g2:TG)(ti2:TT)(te:TE)(BF:List (Option Nat)):TE:=λG H Q=>wi G H λJ H1=>∀acc,H1 acc=none->
 inG J g ti (λN G H=>wi2 G H λJ2 H2=>inG J2 g2 ti2 (ztT P w te acc) N G H2) (λ_ H=>Q (.ref acc) H) (xB G BF) (upd H1 acc (zah P w acc []))
section
variable {X:Cx}{Fam:Cx->Prop}{scope:Scope}{N:AN}{BF:List (Option Nat)}{use:Option (Value->Sem Unit)}{Qp:AA}{elt tg iter tg2 iter2:Expr}{ifs ifs2:AQ}{pos ipos:Pos}{wi wi2:TI}{g g2:TG}{ti ti2:TT}{te:TE}{BD:AB}{G:St}{H:Hp}{s:Aa}{Q:VK}
def zkF (O:Opn X scope BF Fam)(hc:X.calm=true)(hi:PI X tg iter wi)(hg:∀X',Fam X'->PG X' tg g)(ht:∀X',Fam X'->PTs X' ifs ti)(hi2:∀X',Fam X'->PI X' tg2 iter2 wi2)(hg2:∀X',Fam X'->PG X' tg2 g2)(ht2:∀X',Fam X'->PTs X' ifs2 ti2)(he:∀X',Fam X'->PE X' elt te)
  (hs:∀x,foldedSetIterable iter X.env x=pure x) (hs2:∀X',Fam X'->∀x,foldedSetIterable iter2 X'.env x=pure x) (I:Inv X BD G H s) (h:zs4 X.prog X.w wi g ti wi2 g2 ti2 te BF G H Q) (hfin:zto X BD G use Qp Q) :
  Ag X (comprehension (.SetComp elt [#[tg,iter,ifs,0],#[tg2,iter2,ifs2,0]] scope pos) scope X.env ipos (newSet (.type "set")) false (eval iter X.env) use) Qp X.xe s:=
 uG (ob:={ cls:=.type "set",dict:=none,data:=.set #v[] 0 (.fresh 0 0 (!X.w.params.followText "set-order")) }) (o0:=λa=>zah X.prog X.w a []) (Fin:=λacc H=>Q (.ref acc) H) (tb:=λacc Nx G H=>wi2 G H λJ2 H2=>inG J2 g2 ti2 (ztT X.prog X.w te acc) Nx G H2)
  O uU hc BC hs (λs Q h=>zeU h) (λ_ _=>zhd (zh0 _)) hi hg ht (λX' hF pX wX _ cX xX acc=>zmU (iter:=iter) uU (λ_=>rfl) BC (hs2 X' hF) cX xX (hi2 X' hF) (hg2 X' hF) (ht2 X' hF) #[_,λit=>zck (iter:=iter2) uU (nx:=λc=>(do let v <- eval elt X'.env;standAt elt.pos;let _ <- call (.builtin "set.add") [.ref acc,v]) >>= λ_=>c) BC,λpl s G H Nx P I q k _ _ _ hk=>by have e9:=he X' hF pl s G H _ I q;rw[xX] at e9;show aa (aa (bA e9 ?_ λ_ _ h'=>h'.elim));rintro u2 s10 ⟨v,H10,I10,r10,n,ks,rfl,hS,hn,nx⟩;obtain⟨t,rfl⟩:=r10;rw[<- pX,<- wX] at hS;have m10:=zgt (X:=X') (tk:=t) (Q:=λ_ s'=>P s') I10 hS hn λks' s' hm hd I'=>k _ _ _ I' (by rw[pX,wX];show nx ks' hm hd);rw[xX] at m10;show aa (dq (aa (bA m10 (λ_ _ h6=>ai (hk _ h6)) λ_ _ h'=>h'.elim)))]) I h (λJ H1 acc q hn=>q acc hn) hfin
end
def zpz {X:Cx}{elt tg iter tg2 iter2:Expr}{ifs ifs2:AQ}{scope:Scope}{pos:Pos}{wi wi2:TI}{g g2:TG}{ti ti2:TT}{te:TE}{N:AN}{BF:List (Option Nat)}(hc:X.calm=true)(c:CompOk X scope N BF)
  (hi:QI X tg iter wi) (hg:∀C s H ex,QG (zm X scope N C s H ex) tg g) (ht:∀C s H ex,QTs (zm X scope N C s H ex) ifs ti)
  (hi2:∀C s H ex,QI (zm X scope N C s H ex) tg2 iter2 wi2) (hg2:∀C s H ex,QG (zm X scope N C s H ex) tg2 g2) (ht2:∀C s H ex,QTs (zm X scope N C s H ex) ifs2 ti2) (he:∀C s H ex,QE (zm X scope N C s H ex) elt te)
  (hs:∀x,foldedSetIterable iter X.env x=pure x:=by intro _;rfl) (hs2:∀C s H ex x,foldedSetIterable iter2 (zm X scope N C s H ex).env x=pure x:=by intro _ _ _ _ _;rfl) :
  QE X (.SetComp elt [#[tg,iter,ifs,0],#[tg2,iter2,ifs2,0]] scope pos) (zs4 X.prog X.w wi g ti wi2 g2 ti2 te BF):=#[λBD s G H Q I h=>by
 rw[zbo];show zkF (x8 c) hc hi.run (zba λC s H ex=>(hg C s H ex).run) (zba λC s H ex=>(ht C s H ex).run) (zba λC s H ex=>(hi2 C s H ex).run) (zba λC s H ex=>(hg2 C s H ex).run) (zba λC s H ex=>(ht2 C s H ex).run) (zba λC s H ex=>(he C s H ex).run) hs (zba λC s H ex=>hs2 C s H ex) I h λ_ _ _ _ _ hm hb q=>u9 hm hb q]
mutual
def Dt.hk:Dt->Bool
 | .int _=>true
 | .bl _=>true
 | .tup l=>Dt.hks l
 | _=>false
def Dt.hks:AT->Bool
 | []=>true
 | d::ds=>d.hk&&Dt.hks ds
end
noncomputable instance:DecidableEq Dt:=λa b=>Classical.propDecidable _
section
mutual
def zn8:Dt->Int
 | .int n=>hashInt n
 | .bl b=>reduceHash (if b then 1 else 0)
 | .tup l=>reduceHash (Builtin.Tuple.tupleHashOf (zm3 l))
 | _=>0
def zm3:AT->AH
 | []=>[]
 | d::ds=>zn8 d::zm3 ds
end
mutual
def drD:Dt->Nat
 | .tup l=>drDs l+1
 | _=>1
def drDs:AT->Nat
 | []=>0
 | d::ds=>drD d+drDs ds
end
end
def kd:Nat->Dt->Bool
 | _,.int _=>true
 | _,.bl _=>true
 | n+1,.tup l=>l.all (kd n)
 | _,_=>false
def Dt.isT:Dt->Bool
 | .tup _=>true
 | _=>false
def Dt.isB:Dt->Bool
 | .bl _=>true
 | _=>false
def Dt.kk:Dt->Prop
 | .tup l=>(Dt.tup l).eqOk/\l.all Dt.isT=true\/l.all Dt.isB=true
 | _=>False
section
variable {P:Ab}{w:Ac}
def DDo (h:Heap)(a:Addr)(ks:List (Dt×Addr×V)):Prop:=ks.length<=sizeLine/\(a==sysModules)=false/\∃xs:List (Dt×Addr×Value),
 Paired (λ(p:Dt×Addr×V) (q:Dt×Addr×Value)=>p.1=q.1/\p.2.1=q.2.1/\yv p.2.2 q.2.2) ks xs/\∃o es ep,h.get? a=some o/\o.ExactDict/\o.data = .dict es ep/\es.toList=xs.map (λx=>#[zn8 x.1,.ref x.2.1,x.2.2])/\(xs.map (·.1)).Nodup
def ddO (a:Addr)(ks:List (Dt×Addr×V)):HO:=.ext λh=>DDo h a ks
def zry {a:Addr}{ks:List (Dt×Addr×V)}:∀BE,pnK (ddO a ks)=some BE->zaF BE (Sum.inr "at" : Key)=none:=λBE e=>by
 unfold ddO pnK at e;dsimp only at e;rw[if_neg] at e;cases e;rintro⟨d,ob,⟨h0,hh⟩,z⟩;have h1:DDo h0 a ks:=by rw[show DDo h0 a ks=_ from congrFun z h0];show hh
 obtain⟨z1,lo,xs,r,o,es,ep,ho,⟨c1,c2,c3⟩,hd,q⟩:=h1;have k:∀ep':Nat,({ o with data:=.dict es ep' }:Obj)=ob:=λep'=>by have h2:DDo (#[Array.replicate (a+1) { o with data:=.dict es ep' },{}]:Heap) a ks:=#[z1,lo,xs,r,{ o with data:=.dict es ep' },es,ep',by simp[Heap.get?],#[c1,c2,c3],BC,q];rw[show DDo _ a ks=_ from congrFun z _] at h2;show (zgl h2).symm
 have:=congrArg Obj.data ((k 0).trans (k 1).symm);cases this
def zdt (H:Hp)(ks:List (Dt×Addr×V)):Prop:=∀q∈ks,q.1.hk=true/\q.1.kk/\Is H q.1 (.ref q.2.1)
abbrev PrN (p:Dt×Addr×V)(q:Dt×Addr×Value):Prop:=p.1=q.1/\p.2.1=q.2.1/\yv p.2.2 q.2.2
variable {X:Cx}{BD:AB}{G:St}{H:Hp}{s:Aa}
end
def zk4 (fz:Bool)(T:Hp)(a:Addr)(ks:List (Dt×Addr×V)):Prop:=if fz=true then ∃ob,T a=some (.frz ob (ddO a ks)) else T a=some (ddO a ks)
def zk4.rd {fz:Bool}{T:Hp}{a:Addr}{ks:List (Dt×Addr×V)}(h:zk4 fz T a ks):Rd T a (ddO a ks):=by
 cases fz with
 | true=>show .inr (by simpa [zk4] using h)
 | false=>show .inl (by simpa [zk4] using h)
def zk4.imp {fz:Bool}{T T':Hp}{a:Addr}{ks:List (Dt×Addr×V)}(h:zk4 fz T a ks)(t:∀o,(∀BE,pnK o=some BE->zaF BE (Sum.inr "at" : Key)=none)->T a=some o->T' a=some o):zk4 fz T' a ks:=by
 cases fz with
 | true=>
  obtain⟨ob,e⟩:∃ob,T a=some (.frz ob (ddO a ks)):=by simpa [zk4] using h
  show (if_pos BC).mpr #[ob,t _ (λ_ z=>by cases z) e]
 | false=>show t _ zry (by simpa [zk4] using h)
def zdt.stay {BH G':Hp}{ks:List (Dt×Addr×V)}(h:zdt BH ks)(s:zo BH G'):zdt G' ks:=λq hq=>let ⟨h1,h2,h3⟩:=h q hq;#[h1,h2,h3.stay s]
def kvN (ks:List (Dt×Addr×V)):List (Dt×V):=ks.map λq=>(q.1,q.2.2)
end L2
namespace L3
open L2
abbrev ztQ:=Addr×Addr×List Int
abbrev imm:HO->Bool
 | .lst _=>false
 | .dK _=>false
 | .dT _=>false
 | .ext _=>false
 | _=>true
def Mt (o:HO):Prop:=imm o=false
def Mt.tup {o:HO}(h:Mt o):∀xs,o≠.tup xs:=λ_ e=>by subst e;cases h
def NP (o:HO):Prop:=∀BE,pnK o=some BE->zaF BE (Sum.inr "at" : Key)=none
def NP.lst {xs:AU}:NP (.lst xs):=λ_ e=>by cases e
structure Jv where
 K:(AM)->Hp->Prop
 same:∀ {A:AM} {H H':Hp},K A H->xq H H'->K A H'
 grow:∀ {A A':AM} {H:Hp},K A' H->(∀a,A a->A' a\/∃o,H a=some o/\NP o/\Mt o)->K A H
 upd:∀ {A:AM} {H:Hp} {p:Addr} {o:HO},K A H->A p->K A (L2.upd H p o)
 frz:∀ {A:AM} {H:Hp} {p:Addr} {o o':HO},K A H->H p=some o->NP o->Mt o->K A (L2.upd H p o')
structure PN where
 pn:Option ztQ
 J:Jv
def J0:Jv:=#[λ_ _=>True,λ_ _=>trivial,λ_ _=>trivial,λ_ _=>trivial,λ_ _ _ _=>trivial]
structure CuW where
 at_:Hp->Hp->AM
 mv:∀ {T T' BH G':Hp} {a:Addr},(∀o,T a=some o->NP o->T' a=some o)->zo BH G'->at_ T BH a->at_ T' G' a
inductive W where
 | d (x:Dt) | pen (p:Addr) | dk (BE:List (Key×Dt)) | dt (BE:List (AH×Dt)) | ss (P:Ab) (w:Ac) (ks:AG) | df (BE:List (AH×Dt)) | kf (BE:List (Key×Dt)) | fl (l:AT) | ad (a:Addr) (x:Dt) | tz (BE:List (AH×Dt)) (x:Dt) | dn (fz:Bool) (BE:List (Dt×Dt)) | wd (d:Addr) (fs:List (Key×Dt)) (kn:List (AH×Dt)) | lf (ls:List AT) | cu (k:CuW)
abbrev AW:=W->Nat->Prop
abbrev AV:=List W
abbrev Mo (α:Type):=Nat->(α->Nat->Prop)->Prop
abbrev Ev:=List (Option W)
abbrev AE:=Ev->Mo W
abbrev AD:=Ev->Mo AV
open Classical in
noncomputable def zL (A:AM)(H:Hp):Hp:=λb=>if A b then none else H b
section
variable {A A0:AM}{H H' BH G' T T':Hp}{a b:Addr}{o:HO}
def yb:zL A H b=some o↔¬ A b/\H b=some o:=by
 unfold zL;grind
def zB (h:¬ A b)(e:H b=some o):zL A H b=some o:=yb.mpr #[h,e]
def zG:xq (zL A H) H:=λb o e=>(yb.mp e).2
def _root_.L2.Rd.sub {u:HO}(h:Rd (zL A H) b u):Rd H b u:=h.imp (zG b _) λ⟨o,h⟩=>#[o,zG b _ h]
def _root_.L2.Rd.hid {u:HO}(h:Rd H b u)(n:¬ A b):Rd (zL A H) b u:=h.imp (zB n) λ⟨o,h⟩=>#[o,zB n h]
def zw (s:zo H H'):zo (zL A H) (zL A H'):=λb o e n=>zB (yb.mp e).1 (s b o (yb.mp e).2 n)
def uJ (s:xq H H'):xq (zL A H) (zL A H'):=λb o e=>zB (yb.mp e).1 (s b o (yb.mp e).2)
def yF (h:∀b,A0 b->A b):xq (zL A H) (zL A0 H):=λb o e=>zB (λz=>(yb.mp e).1 (h b z)) (yb.mp e).2
def z5 (h:A a):zL A (upd H a o)=zL A H:=by
 funext b;unfold zL;by_cases hb:A b;simp[hb];have:b≠a:=λe=>hb (e ▸ h);simp[hb,ze this]
end
def DAt (T BH:Hp):Dt->V->Prop
 | .lst l,v=>∃a xs,v = .ref a/\Rd T a (.lst xs)/\IsL BH l xs
 | .dct,v=>∃a BE,v = .ref a/\T a=some (.dK BE)/\BE=[]
 | .non,v=>Is BH .non v
 | .bl b,v=>Is BH (.bl b) v
 | .int i,v=>Is BH (.int i) v
 | .str x,v=>Is BH (.str x) v
 | .tup l,v=>Is BH (.tup l) v
def DAt.is {BH:Hp}{x:Dt}{v:V}(h:DAt BH BH x v):Is BH x v:=by cases x <;> show h
def DAt.of {BH:Hp}{x:Dt}{v:V}(h:Is BH x v):DAt BH BH x v:=by cases x <;> show h
def DAt.up {T T' BH G':Hp}{x:Dt}{v:V}(t:zo T T')(g:zo BH G')(h:DAt T BH x v):DAt T' G' x v:=by
 cases x with
 | lst l=>obtain⟨a,xs,e,h1,h2⟩:=h;show#[a,xs,e,t.rdl h1,h2.stay g]
 | dct=>obtain⟨a,BE,e,h1,h2⟩:=h;show#[a,BE,e,t _ _ h1 λk q=>by cases q;subst h2;rfl,h2]
 | _=>show Is.stay g h
def DAt.full {T BH H:Hp}{x:Dt}{v:V}(t:xq T H)(g:xq BH H)(h:DAt T BH x v):Is H x v:=(DAt.up (zo.same t) (zo.same g) h).is
def xU {κ:Type}(BH:Hp):List (κ×Dt)->List (κ×V)->Prop
 | [],ks=>ks=[]
 | q::r,ks=>∃v s,ks=(q.1,v)::s/\Is BH q.2 v/\xU BH r s
theorem xU.stay {κ:Type}{BH G':Hp}(s:zo BH G'):∀ {BE:List (κ×Dt)} {ks:List (κ×V)},xU BH BE ks->xU G' BE ks
 | [],_,h=>h
 | q::r,ks,⟨v,t,e,h1,h2⟩=>#[v,t,e,h1.stay s,xU.stay s h2]
def SIs (BH:Hp)(ks:AG)(xs:AF):Prop:=ks=xs.map (·.1)/\(∀q∈xs,BH q.2=some (.tup (q.1.map V.int)))/\ks.Nodup
def SIs.stay {BH G':Hp}{ks:AG}{xs:AF}(h:SIs BH ks xs)(s:zo BH G'):SIs G' ks xs:=#[h.1,λq hq=>s _ _ (h.2.1 q hq) (λ_ e=>by cases e),h.2.2]
noncomputable def zoQ (a:Addr)(H:Hp):Hp:=zL (λb=>b≠a/\∃xs,H b=some (.lst xs)) H
def zhQ {a:Addr}{H H':Hp}(s:zo H H'):zo (zoQ a H) (zoQ a H'):=λb o e n=>by obtain⟨h1,h2⟩:=yb.mp e;have h3:=s b o h2 n;show zB (λz=>h1 #[z.1,?_]) h3;obtain⟨xs,hx⟩:=z.2;rw[h3] at hx;cases hx;show#[_,h2]
def ztt (BH:Hp)(d:Addr)(fs:List (Key×Dt))(kn:List (AH×Dt))(ks:List (Key×V)):Prop:=zaF ks (Sum.inr "at" : Key)=none/\∃ks1 kd ob ks2,ks=ks1++([(Sum.inr "known",V.ref kd),(Sum.inr "wide",V.ref d)]:List (Key×V))/\xU BH fs ks1/\BH kd=some (.frz ob (dtO ks2))/\xU BH kn ks2
def ztt.stay {BH G':Hp}{d:Addr}{fs:List (Key×Dt)}{kn:List (AH×Dt)}{ks:List (Key×V)}(h:ztt BH d fs kn ks)(s:zo BH G'):ztt G' d fs kn ks:=by obtain⟨h0,ks1,kd,ob,ks2,h1,h2,h3,h4⟩:=h;show#[h0,ks1,kd,ob,ks2,h1,h2.stay s,s _ _ h3 (λk q=>by cases q),h4.stay s]
def zqn (BH:Hp):List AT->AU->Prop
 | [],xs=>xs=[]
 | l::r,xs=>∃b o ys s,xs = .ref b::s/\BH b=some (.frz o (.lst ys))/\IsL BH l ys/\zqn BH r s
theorem zqn.stay {BH G':Hp}(s:zo BH G'):∀ {ls:List AT} {xs:AU},zqn BH ls xs->zqn G' ls xs
 | [],_,h=>h
 | _::_,_,⟨b,o,ys,t,e,h1,h2,h3⟩=>#[b,o,ys,t,e,s _ _ h1 (λk q=>by cases q),h2.stay s,zqn.stay s h3]
def WAt (T BH:Hp):W->V->Prop
 | .d x,v=>DAt T BH x v
 | .pen p,v=>v = .ref p
 | .dk BE,v=>∃a ks,v = .ref a/\T a=some (.dK ks)/\xU BH BE ks/\zaF ks (Sum.inr "at" : Key)=none
 | .dt BE,v=>∃a ks,v = .ref a/\T a=some (dtO ks)/\xU BH BE ks
 | .ss P w ks,v=>∃a xs,v = .ref a/\T a=some (zhe P w a (zaz xs))/\SIs BH ks xs
 | .dn fz BE,v=>∃a ks,v = .ref a/\zk4 fz T a ks/\zdt BH ks/\xU BH BE (kvN ks)
 | .wd d fs kn,v=>∃a ks,v = .ref a/\T a=some (.dK ks)/\ztt BH d fs kn ks
 | .lf ls,v=>∃a xs,v = .ref a/\Rd T a (.lst xs)/\zqn BH ls xs
 | .cu k,v=>∃a,v = .ref a/\k.at_ T BH a
 | .df BE,v=>∃a ob ks,v = .ref a/\T a=some (.frz ob (dtO ks))/\xU BH BE ks
 | .kf BE,v=>∃a ob ks,v = .ref a/\T a=some (.frz ob (.dK ks))/\xU BH BE ks
 | .fl l,v=>∃a ob xs,v = .ref a/\T a=some (.frz ob (.lst xs))/\IsL BH l xs
 | .ad a x,v=>(∃b,v = .ref b)/\Is (zoQ a BH) x v
 | .tz BE x,v=>∃a b ob ks y,v = .ref a/\BH a=some (.tup [.ref b,y])/\BH b=some (.frz ob (dtO ks))/\xU BH BE ks/\Is BH x y
def WAt.up {T T' BH G':Hp}{w:W}{v:V}(t:zo T T')(g:zo BH G')(h:WAt T BH w v):WAt T' G' w v:=by
 cases w with
 | d x=>show DAt.up t g h
 | pen p=>show h
 | dk BE=>
  obtain⟨a,ks,e,h1,h2,h3⟩:=h;show#[a,ks,e,t _ _ h1 λk q=>by cases q;show h3,h2.stay g,h3]
 | dt BE=>
  obtain⟨a,ks,e,h1,h2⟩:=h;show#[a,ks,e,t _ _ h1 (λk q=>by cases q),h2.stay g]
 | dn fz BE=>
  obtain⟨a,ks,e,h1,h2,h3⟩:=h;show#[a,ks,e,h1.imp λo n q=>t a o q n,h2.stay g,h3.stay g]
 | wd d fs kn=>
  obtain⟨a,ks,e,h1,h2⟩:=h;show#[a,ks,e,t _ _ h1 (λk q=>by cases q;show h2.1),h2.stay g]
 | cu k=>
  obtain⟨a,e,h1⟩:=h;show#[a,e,k.mv (λo z n=>t a o z n) g h1]
 | lf ls=>
  obtain⟨a,xs,e,h1,h2⟩:=h;show#[a,xs,e,t.rdl h1,h2.stay g]
 | ss P w BE=>
  obtain⟨a,ks,e,h1,h2⟩:=h;show#[a,ks,e,t _ _ h1 zg1,h2.stay g]
 | df BE=>
  obtain⟨a,ob,ks,e,h1,h2⟩:=h;show#[a,ob,ks,e,t _ _ h1 (λk q=>by cases q),h2.stay g]
 | kf BE=>
  obtain⟨a,ob,ks,e,h1,h2⟩:=h;show#[a,ob,ks,e,t _ _ h1 (λk q=>by cases q),h2.stay g]
 | fl BE=>
  obtain⟨a,ob,ks,e,h1,h2⟩:=h;show#[a,ob,ks,e,t _ _ h1 (λk q=>by cases q),h2.stay g]
 | ad a x=>show#[h.1,Is.stay (zhQ g) h.2]
 | tz BE x=>
  obtain⟨a,b,ob,ks,y,e,h1,h2,h3,h4⟩:=h;show#[a,b,ob,ks,y,e,g.tup h1,g _ _ h2 (λk q=>by cases q),h3.stay g,h4.stay g]
abbrev W.mut:W->Bool
 | .d (.lst _)=>true
 | .d .dct=>true
 | .dk _=>true
 | .dt _=>true
 | .ss _ _ _=>true
 | .dn false _=>true
 | _=>false
abbrev Val (A:AM)(H:Hp)(w:W)(v:V):Prop:=WAt (zL A H) (zL A H) w v
abbrev Bor (A:AM)(H:Hp)(w:W)(v:V):Prop:=WAt H (zL A H) w v
def Val.bor {A:AM}{H:Hp}{w:W}{v:V}(h:Val A H w v):Bor A H w v:=WAt.up (zo.same zG) (zo.refl _) h
def Val.stay {A:AM}{H H':Hp}{w:W}{v:V}(h:Val A H w v)(s:zo H H'):Val A H' w v:=WAt.up (zw s) (zw s) h
def Bor.stay {A:AM}{H H':Hp}{w:W}{v:V}(h:Bor A H w v)(s:zo H H'):Bor A H' w v:=WAt.up s (zw s) h
def Bor.is {A:AM}{H:Hp}{x:Dt}{v:V}(h:Bor A H (.d x) v):Is H x v:=DAt.full (zkD _) zG h
def Val.is {A:AM}{H:Hp}{x:Dt}{v:V}(h:Val A H (.d x) v):Is (zL A H) x v:=DAt.is h
def Val.of {A:AM}{H:Hp}{x:Dt}{v:V}(h:Is (zL A H) x v):Val A H (.d x) v:=DAt.of h
mutual
theorem zq7 {A:AM}{H:Hp}(hA:∀a xs,A a->H a≠some (.tup xs)):∀ {x:Dt} {v:V},x.noL=true->Is H x v->Is (zL A H) x v
 | .non,_,_,h=>h
 | .bl _,_,_,h=>h
 | .int _,_,_,h=>h
 | .str _,_,_,h=>h
 | .tup l,_,n,h=>by obtain⟨p,xs,e,hp,hl⟩:=h;show#[p,xs,e,zB (λz=>hA p xs z hp) hp,zcd hA (by simpa [Dt.noL] using n) hl]
 | .lst l,_,n,_=>by simp[Dt.noL] at n
 | .dct,_,n,_=>by simp[Dt.noL] at n
theorem zcd {A:AM}{H:Hp}(hA:∀a xs,A a->H a≠some (.tup xs)):∀ {ds:AT} {xs:AU},Dt.noLs ds=true->IsL H ds xs->IsL (zL A H) ds xs
 | [],_,_,h=>h
 | d::ds,xs,n,h=>by
  obtain⟨x,r,e,h1,h2⟩:=h;have n':(d.noL&&Dt.noLs ds)=true:=by simpa [Dt.noLs] using n
  rw[aU] at n';show#[x,r,e,zq7 hA n'.1 h1,zcd hA n'.2 h2]
end
def xP (Pn:PN)(A:AM)(n:Nat)(H:Hp):Prop:=
 (match Pn.pn with
 | none=>True
 | some (p,c,ns)=>Pen H p c ns n/\¬ A c/\¬ A p)/\Pn.J.K A H
def Own (A:AM)(H:Hp)(w:W)(v:V):Prop:=∃a,v = .ref a/\A a/\Bor A H w v/\w.mut=true
def Al (A:AM)(H:Hp):Prop:=∀a,A a->∃o,H a=some o/\NP o/\Mt o
structure EnvR (A:AM)(M:AS)(G:St)(H:Hp)(D:Ev):Prop where
 len:G.length=D.length
 val:∀i w,D[i]?=some (some w)->∃v,G[i]?=some (some v)/\(i∉M->Val A H w v)/\(i∈M->Own A H w v)
 dis:∀i j w u a,i∈M->j∈M->i≠j->D[i]?=some (some w)->D[j]?=some (some u)->G[i]?=some (some (.ref a))->G[j]?≠some (some (.ref a))
 al:Al A H
def _root_.L2.Rd.own {A:AM}{H:Hp}{a:Addr}{xs:AU}(h:Rd H a (.lst xs))(al:Al A H)(ha:A a):H a=some (.lst xs):=by
 rcases h with h | ⟨o,h⟩;show h;obtain⟨u,e,_,m⟩:=al a ha;rw[h] at e;cases e;cases m
def EnvR.stay {A:AM}{M:AS}{G:St}{H H':Hp}{D:Ev}(E:EnvR A M G H D)(s:zo H H'):EnvR A M G H' D where
 len:=E.len
 val:=λi w e=>by obtain⟨v,h1,h2,h3⟩:=E.val i w e;show#[v,h1,λz=>(h2 z).stay s,λz=>?_];obtain⟨a,e,h4,h5,h6⟩:=h3 z;show#[a,e,h4,h5.stay s,h6]
 dis:=E.dis
 al:=λa h=>by obtain⟨o,h1,h2,h3⟩:=E.al a h;show#[o,s _ _ h1 h2,h2,h3]
def EnvR.new {A:AM}{M:AS}{G:St}{H:Hp}{D:Ev}(E:EnvR A M G H D){p:Addr}(h:H p=none):¬ A p:=λz=>by
 obtain⟨o,h1,_⟩:=E.al p z;grind
def Fr (H:Hp)(a:Addr):Prop:=∀o,H a=some o->¬ NP o
def Fr.of {H:Hp}{a:Addr}(h:H a=none):Fr H a:=λo e=>by rw[h] at e;cases e
def Fr.back {H H1:Hp}{a:Addr}(h:Fr H1 a)(s:zo H H1):Fr H a:=λo e n=>h o (s _ _ e n) n
def FrV (A:AM)(H H':Hp)(w:W)(v:V):Prop:=∃a,v = .ref a/\Fr H a/\(∃o,H' a=some o/\Mt o)/\WAt H' (zL (λb=>A b\/b=a) H') w v
def FrV.back {A:AM}{H H1 H':Hp}{w:W}{v:V}(h:FrV A H1 H' w v)(s:zo H H1):FrV A H H' w v:=let ⟨a,e,f,g⟩:=h;#[a,e,f.back s,g]
def FrV.less {A A0:AM}{H H':Hp}{w:W}{v:V}(h:FrV A H H' w v)(s:∀a,A0 a->A a):FrV A0 H H' w v:=let ⟨a,e,f,m,g⟩:=h;#[a,e,f,m,WAt.up (zo.refl _) (zo.same (yF λb z=>z.elim (λz=>.inl (s b z)) .inr)) g]
def EnvR.newF {A:AM}{M:AS}{G:St}{H:Hp}{D:Ev}(E:EnvR A M G H D){p:Addr}(h:Fr H p):¬ A p:=λz=>by obtain⟨o,h1,h2,_⟩:=E.al p z;show h o h1 h2
def yk {A:AM}{H H':Hp}{p:Addr}(s:zo H H')(n:Fr H p):zo (zL A H) (zL (λb=>A b\/b=p) H'):=λb o e np=>by obtain⟨h1,h2⟩:=yb.mp e;show zB (λz=>z.elim h1 λz=>by subst z;show n o h2 np) (s b o h2 np)
structure Go (Pn:PN)(A:AM)(H:Hp)(n:Nat)(H':Hp):Prop where
 st:zo H H'
 pn:xP Pn A n H'
def Go.trans {Pn:PN}{A:AM}{H H1 H2:Hp}{n m:Nat}(a:Go Pn A H n H1)(b:Go Pn A H1 m H2):Go Pn A H m H2:=#[a.st.trans b.st,b.pn]
structure RE (Pn:PN)(M:AS)(fr:Bool)(te:TE)(f:AE):Prop where
 run:∀A G H D n Q R,EnvR A M G H D->xP Pn A n H->f D n R->(∀w m v H',R w m->Val A H' w v->Go Pn A H m H'->(fr=true->FrV A H H' w v)->Q v H')->te G H Q
structure RB (Pn:PN)(M:AS)(te:TE)(f:AE):Prop where
 run:∀A G H D n Q R,EnvR A M G H D->xP Pn A n H->f D n R->(∀w m v H',R w m->Bor A H' w v->Go Pn A H m H'->Q v H')->te G H Q
structure RT (Pn:PN)(M:AS)(te:TT)(f:Ev->Mo Bool):Prop where
 run:∀A G H D n Q R,EnvR A M G H D->xP Pn A n H->f D n R->(∀b m H',R b m->Go Pn A H m H'->Q b H')->te G H Q
def zqq (A:AM)(H:Hp):AV->AU->Prop
 | [],vs=>vs=[]
 | w::ws,vs=>∃v r,vs=v::r/\Bor A H w v/\zqq A H ws r
def zc2 (A:AM)(H:Hp):AV->AU->Prop
 | [],vs=>vs=[]
 | w::ws,vs=>∃v r,vs=v::r/\Val A H w v/\zc2 A H ws r
theorem zc2.bor {A:AM}{H:Hp}:∀ {ws:AV} {vs:AU},zc2 A H ws vs->zqq A H ws vs
 | [],_,h=>h
 | _::_,_,⟨v,r,e,h1,h2⟩=>#[v,r,e,h1.bor,zc2.bor h2]
structure RA (Pn:PN)(M:AS)(ta:TA)(f:AD):Prop where
 run:∀A G H D n Q R,EnvR A M G H D->xP Pn A n H->f D n R->(∀ws m vs H',R ws m->zc2 A H' ws vs->Go Pn A H m H'->Q vs H')->ta G H Q
structure RAB (Pn:PN)(M:AS)(ta:TA)(f:AD):Prop where
 run:∀A G H D n Q R,EnvR A M G H D->xP Pn A n H->f D n R->(∀ws m vs H',R ws m->zqq A H' ws vs->Go Pn A H m H'->Q vs H')->ta G H Q
structure Kt where
 nx:Ev->Nat->Prop
 rt:AW
 bk:Ev->Nat->Prop:=λ_ _=>False
 ct:Ev->Nat->Prop:=λ_ _=>False
abbrev Ms:=Ev->Nat->Kt->Prop
def StX (ca:AM)(H0 H:Hp):Prop:=∀b o,H0 b=some o->NP o->¬ ca b->H b=some o
def StX.of {ca:AM}{H0 H:Hp}(s:zo H0 H):StX ca H0 H:=λb o e n _=>s b o e n
def StX.stay {H0 H:Hp}(s:StX (λ_=>False) H0 H):zo H0 H:=λb o e n=>s b o e n λz=>z
structure Frm (A0:AM)(H0:Hp)(ca:AM)(A:AM)(H:Hp):Prop where
 sub:∀a,A0 a->A a
 new:∀a,A a->A0 a\/Fr H0 a\/ca a
 st:StX ca H0 H
 al:Al A0 H0
 cn:∀a,ca a->¬ A0 a
 cs:∀a,ca a->∃o,H a=some o/\NP o
def Frm.back {A0:AM}{H0:Hp}{ca A:AM}{H:Hp}(f:Frm A0 H0 ca A H){a:Addr}(h:Fr H a)(n:¬ A a):Fr H0 a:=λo e np=>h o (f.st a o e np λz=>let ⟨o2,e2,n2⟩:=f.cs a z;h o2 e2 n2) np
structure Bs where
 ca:AM:=λ_=>False
 A0:AM
 H0:Hp
 G0:Hp
 σ0:St
def NoL (BH:Hp):Prop:=∀a xs,BH a≠some (.lst xs)
structure At3 (Pn:PN)(B:Bs)(S M:AS)(A:AM)(G:St)(H:Hp)(D:Ev)(n:Nat):Prop where
 env:EnvR A M G H D
 frm:Frm B.A0 B.H0 B.ca A H
 pn:xP Pn A n H
 prot:zo B.G0 (zL A H)
 fix:(∀i∈S,G[i]?=B.σ0[i]?)/\(9999∈S->NoL B.G0/\NoL B.H0)
 mine:∀i w a,i∈M->D[i]?=some (some w)->G[i]?=some (some (.ref a))->Fr B.H0 a\/B.ca a
structure KOk (Pn:PN)(B:Bs)(S M:AS)(fr:Bool)(k:Kt)(BI:Ends):Prop where
 nx:∀A G H D n,At3 Pn B S M A G H D n->k.nx D n->BI.nx G H
 bk:∀A G H D n,At3 Pn B S M A G H D n->k.bk D n->BI.bk G H
 ct:∀A G H D n,At3 Pn B S M A G H D n->k.ct D n->BI.ct G H
 fc:∀a,¬ B.ca a
 rt:∀w n v H,Val B.A0 H w v->StX B.ca B.H0 H->xP Pn B.A0 n H->(fr=true->FrV B.A0 B.H0 H w v)->k.rt w n->BI.rt v H
structure RS (Pn:PN)(S M:AS)(fr:Bool)(ts:TS)(fs:Ms):Prop where
 run:∀B A G H D n k BI,At3 Pn B S M A G H D n->KOk Pn B S M fr k BI->fs D n k->ts BI G H
structure RG (S M:AS)(g:TG)(mg:W->Ev->(Ev->Prop)->Prop):Prop where
 run:∀A G H D v w Q R,EnvR A M G H D->Val A H w v->mg w D R->(∀ σ' ρ',R ρ'->EnvR A M σ' H ρ'->(∀i∈S,σ'[i]?=G[i]?/\ρ'[i]?=D[i]?)->Q σ' H)->g v G H Q
structure RGs (S M:AS)(g:TGs)(mg:AT->Ev->(Ev->Prop)->Prop):Prop where
 run:∀A G H D vs ds Q R,EnvR A M G H D->IsL (zL A H) ds vs->mg ds D R->(∀ σ' ρ',R ρ'->EnvR A M σ' H ρ'->(∀i∈S,σ'[i]?=G[i]?/\ρ'[i]?=D[i]?)->Q σ' H)->g vs G H Q
structure ItV (ow:Bool)(A:AM)(H:Hp)(J:It)(l:AV):Prop where
 one:∀i w A2 H2,l[i]?=some w->zo (zL A H) (zL A2 H2)->(ow=true->zo H H2)->(∀p,H2 p=none->¬ A2 p)->J.go i H2/\∀x H3,J.yld i H2 x H3->xq H2 H3/\Val A2 H3 w x
 stop:∀A2 H2,zo (zL A H) (zL A2 H2)->(ow=true->zo H H2)->J.stop l.length H2
structure RI (Pn:PN)(M:AS)(ow:Bool)(wi:TI)(f:AD):Prop where
 run:∀A G H D n Q R,EnvR A M G H D->xP Pn A n H->f D n R->(∀l m J H',R l m->ItV ow A H' J l->Go Pn A H m H'->Q J H')->wi G H Q
def RE.rb {Pn:PN}{M:AS}{fr:Bool}{te:TE}{f:AE}(h:RE Pn M fr te f):RB Pn M te f:=
 #[λA G H D n Q R E P hf k=>h.run A G H D n Q R E P hf λw m v H' r a g _=>k w m v H' r a.bor g]
def RA.rab {Pn:PN}{M:AS}{te:TA}{f:AD}(h:RA Pn M te f):RAB Pn M te f:=
 #[λA G H D n Q R E P hf k=>h.run A G H D n Q R E P hf λw m v H' r a g=>k w m v H' r a.bor g]
def xP.same {Pn:PN}{A:AM}{n:Nat}{H H':Hp}(h:xP Pn A n H)(s:xq H H'):xP Pn A n H':=by
 show#[?_,Pn.J.same h.2 s];have h:=h.1;split at h;trivial;show#[h.1.same s,h.2]
def Go.same {Pn:PN}{A:AM}{n:Nat}{H H':Hp}(h:xP Pn A n H)(s:xq H H'):Go Pn A H n H':=#[zo.same s,h.same s]
def Go.refl {Pn:PN}{A:AM}{n:Nat}{H:Hp}(h:xP Pn A n H):Go Pn A H n H:=#[zo.refl _,h]
structure JE (X:Cx)(Pn:PN)(M:AS)(fr:Bool)(e:Expr)(f:AE):Prop where
 ex:∃te,QE X e te/\RE Pn M fr te f
structure JB (X:Cx)(Pn:PN)(M:AS)(e:Expr)(f:AE):Prop where
 ex:∃te,QE X e te/\RB Pn M te f
structure JT (X:Cx)(Pn:PN)(M:AS)(e:Expr)(f:Ev->Mo Bool):Prop where
 ex:∃te,QT X e te/\RT Pn M te f
structure JW (X:Cx)(Pn:PN)(M:AS)(e:Expr)(f:Ev->Mo Bool):Prop where
 ex:∃te,QW X e te/\RT Pn M te f
structure JA (X:Cx)(Pn:PN)(M:AS)(es:AQ)(f:AD):Prop where
 ex:∃te,QA X es te/\RA Pn M te f
structure JAB (X:Cx)(Pn:PN)(M:AS)(es:AQ)(f:AD):Prop where
 ex:∃te,QA X es te/\RAB Pn M te f
structure JO (X:Cx)(Pn:PN)(M:AS)(e:Option Expr)(f:Ev->Mo AR):Prop where
 ex:∃t,QO X e t/\∀A G H D n Q R,EnvR A M G H D->xP Pn A n H->f D n R->(∀o m H',R o m->Go Pn A H m H'->Q o H')->t G H Q
section
variable {X:Cx}{Pn:PN}{M:AS}{fr:Bool}{e a b c:Expr}{es:AQ}{f fa fb fc:AE}{pos p:Pos}
def zrw (i:Nat):AE:=λD n Q=>∃w,D[i]?=some (some w)/\Q w n
abbrev mC (w:W):AE:=λ_ n Q=>Q w n
abbrev zrn (F:W->W->Mo W) (fa fb:AE):AE:=λD n Q=>fa D n λx n1=>fb D n1 λy n2=>F x y n2 Q
abbrev mUn (F:W->Mo W) (fa:AE):AE:=λD n Q=>fa D n λx n1=>F x n1 Q
def zjJ (fa:AE):Ev->Mo Bool:=λD n Q=>fa D n λx n1=>∃c,x = .d (.bl c)/\Q c n1
def ztA (t u:Ev->Mo Bool):Ev->Mo Bool:=λD n Q=>t D n λc n1=>if c=true then u D n1 Q else Q false n1
def mOr (t u:Ev->Mo Bool):Ev->Mo Bool:=λD n Q=>t D n λc n1=>if c=true then Q true n1 else u D n1 Q
def zuX (t:Ev->Mo Bool):Ev->Mo Bool:=λD n Q=>t D n λc n1=>Q (!c) n1
def zox (fa fb:AE):AE:=λD n Q=>fa D n λx n1=>∃c,x = .d (.bl c)/\if c=true then fb D n1 Q else Q (.d (.bl false)) n1
def mIf (t:Ev->Mo Bool)(fa fb:AE):AE:=λD n Q=>t D n λc n1=>if c=true then fa D n1 Q else fb D n1 Q
abbrev mNil:AD:=λ_ n Q=>Q [] n
abbrev zro (fa:AE) (fr:AD):AD:=λD n Q=>fa D n λx n1=>fr D n1 λxs n2=>Q (x::xs) n2
abbrev zuN (F:AV->Mo W) (fa:AD):AE:=λD n Q=>fa D n λxs n1=>F xs n1 Q
def JE.bo (h:JE X Pn M fr e f):JB X Pn M e f:=let ⟨te,h1,h2⟩:=h.ex;#[te,h1,h2.rb]
def JA.bo {f:AD}(h:JA X Pn M es f):JAB X Pn M es f:=let ⟨te,h1,h2⟩:=h.ex;#[te,h1,h2.rab]
def zra (h:JE X Pn M true e f):JE X Pn M false e f:=let ⟨te,h1,h2⟩:=h.ex;#[te,h1,#[λA G H D n Q R E P hf k=>h2.run A G H D n Q R E P hf λw m v H' r a g _=>k w m v H' r a g λz=>by cases z]]
def zsF {i:Nat}(hi:i∉M):RE Pn M false (znw i) (zrw i):=#[λA G H D n Q R E P hf k=>by obtain⟨w,e,r⟩:=hf;obtain⟨v,h1,h2,_⟩:=E.val i w e;show#[v,h1,k w n v H r (h2 hi) (Go.refl P) λz=>by cases z]]
def zsB {i:Nat}:RB Pn M (znw i) (zrw i):=#[λA G H D n Q R E P hf k=>by
 obtain⟨w,e,r⟩:=hf;obtain⟨v,h1,h2,h3⟩:=E.val i w e;show#[v,h1,k w n v H r ?_ (Go.refl P)];by_cases hi:i∈M;obtain⟨a,_,_,h,_⟩:=h3 hi;show h;show (h2 hi).bor]
def zuG (i:Nat){x:Str}(hi:i∉M:=by ext)(hN:X.N[i]?=some x:=by rfl)(hv:Vis X.env.scope x:=by fail"v")(hd:Ai x:=by ext)
  (hcd:(x==("__classdict__" : Str))=false:=by ext):JE X Pn M false (.Name x pos) (zrw i):=#[_,qv i hN hv hd hcd,zsF hi]
def zuE (i:Nat){x:Str}(hN:X.N[i]?=some x:=by rfl)(hv:Vis X.env.scope x:=by fail"v")(hd:Ai x:=by ext)
  (hcd:(x==("__classdict__" : Str))=false:=by ext):JB X Pn M (.Name x pos) (zrw i):=#[_,qv i hN hv hd hcd,zsB]
def zsC {x:Dt}{v:V}(h:∀BH,Is BH x v):RE Pn M false (tC v) (mC (.d x)):=#[λA G H D n Q R E P hf k=>k _ n v H hf (Val.of (h _)) (Go.refl P) λz=>by cases z]
def zP {i:Int}{j:Nat}:JE X Pn M false (.Constant (.int i) j pos) (mC (.d (.int i))):=#[_,yo,zsC λ_=>rfl]
def zk5 {k:Bool}{j:Nat}:JE X Pn M false (.Constant (.bool k) j pos) (mC (.d (.bl k))):=#[_,zvp,zsC λ_=>rfl]
def zok {j:Nat}:JE X Pn M false (.Constant .none j pos) (mC (.d .non)):=#[_,zsm,zsC λ_=>rfl]
def zhH {x:Str}{j:Nat}:JE X Pn M false (.Constant (.str x) j pos) (mC (.d (.str x))):=#[_,xA,zsC λ_=>rfl]
def zoh {x:Str}{i:Int}(hg:Gl X x)(h:∃w,yv (.int i) w/\X.mg x=some w)(hd:Ai x:=by ext):JE X Pn M false (.Name x pos) (mC (.d (.int i))):=#[_,zmo hg h hd,zsC λ_=>rfl]
def Al.new {A:AM}{H:Hp}(h:Al A H){p:Addr}(e:H p=none):¬ A p:=λz=>by
 obtain⟨o,h1,_⟩:=h p z;grind
def Al.stay {A:AM}{H H':Hp}(h:Al A H)(s:zo H H'):Al A H':=λa z=>by obtain⟨o,h1,h2,h3⟩:=h a z;show#[o,s _ _ h1 h2,h2,h3]
def Al.noT {A:AM}{H:Hp}(h:Al A H):∀a xs,A a->H a≠some (.tup xs):=λa xs z e=>by
 obtain⟨o,h1,_,h3⟩:=h a z;have:=h3.tup;grind
def Al.noT' {A:AM}{H H':Hp}(h:Al A H)(s:zo H H'){p:Addr}{xs:AU}(e:H' p=some (.tup xs)):¬ A p:=λz=>(h.stay s).noT p xs z e
structure F2 (Pn:PN)(fr:Bool)(r:R2)(F:W->W->Mo W):Prop where
 run:∀A H x y wx wy n Q R,Al A H->Bor A H wx x->Bor A H wy y->xP Pn A n H->F wx wy n R->(∀w m v H',R w m->Val A H' w v->Go Pn A H m H'->(fr=true->FrV A H H' w v)->Q v H')->r x y H Q
structure FL (Pn:PN)(fr:Bool)(r:AU->Hp->VK->Prop)(F:AV->Mo W):Prop where
 run:∀A H xs ws n Q R,Al A H->zqq A H ws xs->xP Pn A n H->F ws n R->(∀w m v H',R w m->Val A H' w v->Go Pn A H m H'->(fr=true->FrV A H H' w v)->Q v H')->r xs H Q
def zmA {r:R2}{F:W->W->Mo W}{ta tb:TE}(hr:F2 Pn fr r F)(ha:RB Pn M ta fa)(hb:RB Pn M tb fb):RE Pn M fr (tOp r ta tb) (zrn F fa fb):=#[λA G H D n Q R E P hf k=>by show ha.run A G H D n _ _ E P hf λx n1 v1 H1 r1 b1 g1=>?_;show hb.run A G H1 D n1 _ _ (E.stay g1.st) g1.pn r1 λy n2 v2 H2 r2 b2 g2=>?_;have g:=g1.trans g2;show hr.run A H2 v1 v2 x y n2 _ _ (E.stay g.st).al (b1.stay g2.st) b2 g2.pn r2 λw m v H' h1 h2 h3 h4=>k w m v H' h1 h2 (g.trans h3) λz=>(h4 z).back g.st]
def zsD {r:AU->Hp->VK->Prop}{F:AV->Mo W}{ta:TA}{fa:AD}(hr:FL Pn fr r F)(ha:RAB Pn M ta fa):RE Pn M fr (tCB r ta) (zuN F fa):=#[λA G H D n Q R E P hf k=>by show ha.run A G H D n _ _ E P hf λx n1 v1 H1 r1 b1 g1=>?_;show hr.run A H1 v1 x n1 _ _ (E.stay g1.st).al b1 g1.pn r1 λw m v H' h1 h2 h3 h4=>k w m v H' h1 h2 (g1.trans h3) λz=>(h4 z).back g1.st]
def zaD {op:Operator}{r:R2}{F:W->W->Mo W}(ho:OpQ X (binaryOp op) r)(hr:F2 Pn fr r F)(ha:JB X Pn M a fa)(hb:JB X Pn M b fb):JE X Pn M fr (.BinOp a op b pos) (zrn F fa fb):=by obtain⟨ta,qa,ra⟩:=ha.ex;obtain⟨tb,qb,rb⟩:=hb.ex;show#[_,yZ ho qa qb,zmA hr ra rb]
def zjn {op:CmpOp}{r:R2}{F:W->W->Mo W}(ho:OpQ X (compareOp op) r)(hr:F2 Pn fr r F)(ha:JB X Pn M a fa)(hb:JB X Pn M b fb)(hm:behindInMarks op b=false):JE X Pn M fr (.Compare a [op] [b] pos) (zrn F fa fb):=by obtain⟨ta,qa,ra⟩:=ha.ex;obtain⟨tb,qb,rb⟩:=hb.ex;show#[_,zps ho qa qb hm,zmA hr ra rb]
def zkB {ta:TE}(h:RB Pn M ta fa):RT Pn M (zkS ta) (zjJ fa):=#[λA G H D n Q R E P hf k=>by show h.run A G H D n _ _ E P hf  ?_;rintro x n1 v1 H1 ⟨c,e,r⟩ b1 g1;subst e;have b1':v1 = .bl c:=b1;show#[c,b1',k c n1 H1 r g1]]
def zT {op:CmpOp}{r:R2}{F:W->W->Mo W}(ho:OpQ X (compareOp op) r)(hr:F2 Pn fr r F)(ha:JB X Pn M a fa)(hb:JB X Pn M b fb)(hm:behindInMarks op b=false):JT X Pn M (.Compare a [op] [b] pos) (zjJ (zrn F fa fb)):=by obtain⟨ta,qa,ra⟩:=ha.ex;obtain⟨tb,qb,rb⟩:=hb.ex;show#[_,zcA ho qa qb hm,zkB (zmA hr ra rb).rb]
def uM (h:JB X Pn M e f)(he:∀whole,isTrue e X.env whole=(do let v <- whole;standAt e.pos;holding [v] (truthy v)):=by intro _;rfl):JT X Pn M e (zjJ f):=by obtain⟨ta,qa,ra⟩:=h.ex;show#[_,zst qa he,zkB ra]
def zbq {t:Ev->Mo Bool}(h:JT X Pn M a t):JT X Pn M (.UnaryOp .Not a pos) (zuX t):=by obtain⟨ta,qa,ra⟩:=h.ex;show#[_,zss qa,#[λA G H D n Q R E P hf k=>ra.run A G H D n _ _ E P hf λb m H' r g=>k _ m H' r g]]
def zap {op:BoolOp}{t:Ev->Mo Bool}(hop:op = .And\/op = .Or)(h:JT X Pn M a t):JW X Pn M (.BoolOp op [a] pos) t:=by
 obtain⟨ta,qa,ra⟩:=h.ex;rcases hop with rfl | rfl;show#[_,zkq qa,ra];show#[_,zsu qa,ra]
def zsO {t u:TT}{ft fu:Ev->Mo Bool}(h:RT Pn M t ft)(h':RT Pn M u fu):RT Pn M (zvz t u) (ztA ft fu):=#[λA G H D n Q R E P hf k=>by
 show h.run A G H D n _ _ E P hf λc m H1 r g=>?_
 cases c with
 | true=>show h'.run A G H1 D m _ _ (E.stay g.st) g.pn (by simpa using r) λb m' H' r' g'=>k b m' H' r' (g.trans g')
 | false=>show k false m H1 (by simpa using r) g]
def zvw {t u:TT}{ft fu:Ev->Mo Bool}(h:RT Pn M t ft)(h':RT Pn M u fu):RT Pn M (tOr t u) (mOr ft fu):=#[λA G H D n Q R E P hf k=>by
 show h.run A G H D n _ _ E P hf λc m H1 r g=>?_
 cases c with
 | false=>show h'.run A G H1 D m _ _ (E.stay g.st) g.pn (by simpa using r) λb m' H' r' g'=>k b m' H' r' (g.trans g')
 | true=>show k true m H1 (by simpa using r) g]
def zc8 {yD:AQ}{t u:Ev->Mo Bool}(h:JT X Pn M a t)(h':JW X Pn M (.BoolOp .And (b::yD) pos) u):JW X Pn M (.BoolOp .And (a::b::yD) pos) (ztA t u):=by obtain⟨ta,qa,ra⟩:=h.ex;obtain⟨tb,qb,rb⟩:=h'.ex;show#[_,znm qa qb,zsO ra rb]
def zhI {yD:AQ}{t u:Ev->Mo Bool}(h:JT X Pn M a t)(h':JW X Pn M (.BoolOp .Or (b::yD) pos) u):JW X Pn M (.BoolOp .Or (a::b::yD) pos) (mOr t u):=by obtain⟨ta,qa,ra⟩:=h.ex;obtain⟨tb,qb,rb⟩:=h'.ex;show#[_,zvr qa qb,zvw ra rb]
def JW.t {t:Ev->Mo Bool}(h:JW X Pn M e t):JT X Pn M e t:=let ⟨te,h1,h2⟩:=h.ex;#[te,h1.pt,h2]
def zuF {op:BoolOp}(h:JE X Pn M false a fa):JE X Pn M false (.BoolOp op [a] pos) fa:=let ⟨te,h1,h2⟩:=h.ex;#[te,zsn h1,h2]
def zuD {yD:AQ}(h:JB X Pn M a fa)(h':JE X Pn M false (.BoolOp .And (b::yD) pos) fb):JE X Pn M false (.BoolOp .And (a::b::yD) pos) (zox fa fb):=by
 obtain⟨ta,qa,ra⟩:=h.ex;obtain⟨tb,qb,rb⟩:=h'.ex;show#[_,zsj qa qb,#[λA G H D n Q R E P hf k=>?_]];show ra.run A G H D n _ _ E P hf  ?_;rintro x m v H1 ⟨c,ec,r⟩ b1 g;subst ec;have b1':v = .bl c:=b1;show#[c,b1',?_]
 cases c with
 | true=>
  rw[if_pos rfl] at r ⊢;show rb.run A G H1 D m _ _ (E.stay g.st) g.pn r λw m' v' H' r' a' g' _=>k w m' v' H' r' a' (g.trans g') λz=>by cases z
 | false=>
  rw[if_neg (by ext)] at r ⊢;show k _ m _ H1 r (Val.of BC) g λz=>by cases z
def j_if {t:Ev->Mo Bool}(hc:JT X Pn M c t)(ha:JE X Pn M fr a fa)(hb:JE X Pn M fr b fb):JE X Pn M fr (.IfExp c a b pos) (mIf t fa fb):=by
 obtain⟨tc,qc,rc⟩:=hc.ex;obtain⟨ta,qa,ra⟩:=ha.ex;obtain⟨tb,qb,rb⟩:=hb.ex;show#[_,zmp qc qa qb,#[λA G H D n Q R E P hf k=>?_]];show rc.run A G H D n _ _ E P hf λc m H1 r g=>?_
 cases c with
 | true=>
  rw[if_pos rfl] at r ⊢;show ra.run A G H1 D m _ _ (E.stay g.st) g.pn r λw m' v' H' r' a' g' f'=>k w m' v' H' r' a' (g.trans g') λz=>(f' z).back g.st
 | false=>
  rw[if_neg (by ext)] at r ⊢;show rb.run A G H1 D m _ _ (E.stay g.st) g.pn r λw m' v' H' r' a' g' f'=>k w m' v' H' r' a' (g.trans g') λz=>(f' z).back g.st
abbrev isNon:W->Bool
 | .d .non=>true
 | _=>false
def Bor.isNon {A:AM}{H:Hp}{w:W}{v:V}(h:Bor A H w v):decide (v = .non)=isNon w:=by
 cases w with
 | d x=>
  cases x with
  | non=>have:v = .non:=h;subst this;rfl
  | bl c=>have:v = .bl c:=h;subst this;rfl
  | int c=>have:v = .int c:=h;subst this;rfl
  | str c=>have:v = .str c:=h;subst this;rfl
  | tup l=>obtain⟨a,_,rfl,_⟩:=h;rfl
  | lst l=>obtain⟨a,_,rfl,_⟩:=h;rfl
  | dct=>obtain⟨a,_,rfl,_⟩:=h;rfl
 | pen p=>have:v = .ref p:=h;subst this;rfl
 | dk k=>obtain⟨a,_,rfl,_⟩:=h;rfl
 | dt k=>obtain⟨a,_,rfl,_⟩:=h;rfl
 | ss P w k=>obtain⟨a,_,rfl,_⟩:=h;rfl
 | dn fz k=>obtain⟨a,_,rfl,_⟩:=h;rfl
 | wd d fs k=>obtain⟨a,_,rfl,_⟩:=h;rfl
 | lf ls=>obtain⟨a,_,rfl,_⟩:=h;rfl
 | cu k=>obtain⟨a,rfl,_⟩:=h;rfl
 | df k=>obtain⟨a,_,_,rfl,_⟩:=h;rfl
 | kf k=>obtain⟨a,_,_,rfl,_⟩:=h;rfl
 | fl k=>obtain⟨a,_,_,rfl,_⟩:=h;rfl
 | ad a x=>obtain⟨⟨b,rfl⟩,_⟩:=h;rfl
 | tz k x=>obtain⟨a,_,_,_,_,rfl,_⟩:=h;rfl
abbrev mIsN (fa:AE):AE:=λD n Q=>fa D n λx n1=>Q (.d (.bl (isNon x))) n1
abbrev zru (fa:AE):AE:=λD n Q=>fa D n λx n1=>Q (.d (.bl (!isNon x))) n1
def zpN {ta:TE}(h:RB Pn M ta fa):RE Pn M false (zp3 ta) (zru fa):=#[λA G H D n Q R E P hf k=>by show h.run A G H D n _ _ E P hf λx m v H1 r b1 g=>?_;show k _ m _ H1 r (Val.of (by rw[b1.isNon];rfl)) g λz=>by cases z]
def zsP {ta:TE}(h:RB Pn M ta fa):RT Pn M (tB ta) (zjJ fa):=#[λA G H D n Q R E P hf k=>by show h.run A G H D n _ _ E P hf  ?_;rintro x n1 v1 H1 ⟨c,e,r⟩ b1 g1;subst e;have b1':v1 = .bl c:=b1;show#[c,b1',k c n1 H1 r g1]]
def zjp {j:Nat}{pos':Pos}(h:JB X Pn M a fa):JT X Pn M (.Compare a [.IsNot] [.Constant .none j pos'] pos) (zjJ (zru fa)):=by obtain⟨ta,qa,ra⟩:=h.ex;show#[_,znl (zpq qa),zsP (zpN ra).rb]
def zg:JA X Pn M [] mNil:=#[_,yQ,#[λA G H D n Q R E P hf k=>k [] n [] H hf BC (Go.refl P)]]
def za {fs:AD}(ha:JE X Pn M fr e f)(hr:JA X Pn M es fs)(hs:starEach (e::es) X.env=(false,eval e X.env)::starEach es X.env:=by rfl):JA X Pn M (e::es) (zro f fs):=by obtain⟨ta,qa,ra⟩:=ha.ex;obtain⟨tb,qb,rb⟩:=hr.ex;show#[_,zR qa qb hs,#[λA G H D n Q R E P hf k=>?_]];show ra.run A G H D n _ _ E P hf λx n1 v1 H1 r1 b1 g1 _=>?_;show rb.run A G H1 D n1 _ _ (E.stay g1.st) g1.pn r1 λxs n2 vs H2 r2 b2 g2=>k _ n2 _ H2 r2 #[v1,vs,BC,b1.stay g2.st,b2] (g1.trans g2)
def zr:JAB X Pn M [] mNil:=zg.bo
def zl {fs:AD}(ha:JB X Pn M e f)(hr:JAB X Pn M es fs)(hs:starEach (e::es) X.env=(false,eval e X.env)::starEach es X.env:=by rfl):JAB X Pn M (e::es) (zro f fs):=by obtain⟨ta,qa,ra⟩:=ha.ex;obtain⟨tb,qb,rb⟩:=hr.ex;show#[_,zR qa qb hs,#[λA G H D n Q R E P hf k=>?_]];show ra.run A G H D n _ _ E P hf λx n1 v1 H1 r1 b1 g1=>?_;show rb.run A G H1 D n1 _ _ (E.stay g1.st) g1.pn r1 λxs n2 vs H2 r2 b2 g2=>k _ n2 _ H2 r2 #[v1,vs,BC,b1.stay g2.st,b2] (g1.trans g2)
def lim:Nat:=500000
def zci {n:Nat}(h:n<=lim):n<=sizeLine:=av h (by ext)
def zgY {n:Nat}(h:n<=lim):n<sizeLine:=aY h (by ext)
def dts:AV->Option AT
 | []=>some []
 | .d x::r=>(dts r).map (x::·)
 | _::_=>none
theorem zc2.dts {A:AM}{H:Hp}:∀ {ws:AV} {vs:AU} {l:AT},zc2 A H ws vs->dts ws=some l->IsL (zL A H) l vs
 | [],vs,l,h,e=>by cases e;show h
 | .d x::ws,vs,l,⟨v,r,e1,h1,h2⟩,e=>by obtain⟨l',e2,rfl⟩:=aB.mp e;show#[v,r,e1,h1.is,zc2.dts h2 e2]
 | .pen _::_,_,_,_,e=>by cases e
 | .dk _::_,_,_,_,e=>by cases e
 | .dt _::_,_,_,_,e=>by cases e
 | .ss _ _ _::_,_,_,_,e=>by cases e
 | .dn _ _::_,_,_,_,e=>by cases e
 | .wd _ _ _::_,_,_,_,e=>by cases e
 | .lf _::_,_,_,_,e=>by cases e
 | .cu _::_,_,_,_,e=>by cases e
 | .df _::_,_,_,_,e=>by cases e
 | .kf _::_,_,_,_,e=>by cases e
 | .fl _::_,_,_,_,e=>by cases e
 | .ad _ _::_,_,_,_,e=>by cases e
 | .tz _ _::_,_,_,_,e=>by cases e
theorem zc2.len {A:AM}{H:Hp}:∀ {ws:AV} {vs:AU},zc2 A H ws vs->vs.length=ws.length
 | [],_,h=>by cases h;rfl
 | _::ws,vs,⟨v,r,e,_,h2⟩=>by rw[e,bc,bc,zc2.len h2]
def zcL {A:AM}{H H':Hp}{p:Addr}{xs:AU}{l:AT}(hl:IsL (zL A H) l xs)(s:zo H H')(n:¬ A p)(g:H' p=some (.tup xs)):Val A H' (.d (.tup l)) (.ref p):=
 Val.of #[p,xs,BC,zB n g,hl.stay (zw s)]
def uo {A:AM}{H H':Hp}{p:Addr}{xs:AU}{l:AT}(hl:IsL (zL A H) l xs)(s:zo H H')(n:¬ A p)(g:H' p=some (.lst xs)):Val A H' (.d (.lst l)) (.ref p):=
 Val.of #[p,xs,BC,.inl (zB n g),hl.stay (zw s)]
def uI {A:AM}{H H':Hp}{p:Addr}{xs:AU}{l:AT}(hl:IsL (zL A H) l xs)(s:xq H H')(n:H p=none)(g:H' p=some (.lst xs)):FrV A H H' (.d (.lst l)) (.ref p):=
 #[p,BC,.of n,#[_,g,BC],p,xs,BC,.inl g,hl.stay (yk (zo.same s) (.of n))]
abbrev ztD:Nat->AV->(AT->Prop)->Prop
 | _,[],P=>P []
 | k+1,.d x::r,P=>ztD k r λl=>P (x::l)
 | _,_,_=>False
theorem zd0:∀ {k:Nat} {l:AV} {P:AT->Prop},ztD k l P->∃ds,dts l=some ds/\P ds/\l.length<=k
 | 0,[],P,h=>#[[],BC,h,aS _]
 | k+1,[],P,h=>#[[],BC,h,aS _]
 | 0,.d x::r,P,h=>h.elim
 | k+1,.d x::r,P,h=>by obtain⟨ds,e,h2,hz⟩:=zd0 (k:=k) (l:=r) (P:=λl=>P (x::l)) h;show#[x::ds,by simp[dts,e],h2,Nat.succ_le_succ hz]
 | 0,.pen _::r,P,h=>h.elim
 | k+1,.pen _::r,P,h=>h.elim
 | 0,.dk _::r,P,h=>h.elim
 | k+1,.dk _::r,P,h=>h.elim
 | 0,.dt _::r,P,h=>h.elim
 | 0,.ss _ _ _::r,P,h=>h.elim
 | 0,.dn _ _::r,P,h=>h.elim
 | 0,.wd _ _ _::r,P,h=>h.elim
 | 0,.lf _::r,P,h=>h.elim
 | 0,.cu _::r,P,h=>h.elim
 | 0,.df _::r,P,h=>h.elim
 | 0,.kf _::r,P,h=>h.elim
 | 0,.fl _::r,P,h=>h.elim
 | 0,.ad _ _::r,P,h=>h.elim
 | 0,.tz _ _::r,P,h=>h.elim
 | k+1,.dt _::r,P,h=>h.elim
 | k+1,.ss _ _ _::r,P,h=>h.elim
 | k+1,.dn _ _::r,P,h=>h.elim
 | k+1,.wd _ _ _::r,P,h=>h.elim
 | k+1,.lf _::r,P,h=>h.elim
 | k+1,.cu _::r,P,h=>h.elim
 | k+1,.df _::r,P,h=>h.elim
 | k+1,.kf _::r,P,h=>h.elim
 | k+1,.fl _::r,P,h=>h.elim
 | k+1,.ad _ _::r,P,h=>h.elim
 | k+1,.tz _ _::r,P,h=>h.elim
abbrev zu1 (fa:AD):AE:=λD n Q=>fa D n λws m=>ztD 200 ws λl=>Q (.d (.tup l)) m
def yG {x1}{fs:AD}(h:JA X Pn M es fs):JE X Pn M false (.Tuple es x1 pos) (zu1 fs):=by obtain⟨ta,qa,ra⟩:=h.ex;show#[_,zkj qa,#[λA G H D n Q R E P hf k=>?_]];show ra.run A G H D n _ _ E P hf λws m vs H1 hq b g=>?_;obtain⟨l,e,r,hz⟩:=zd0 hq;show#[zci (by rw[b.len];show av hz (by ext)),λp H2 np gp S=>?_];show k _ m _ H2 r (zcL (b.dts e) (zo.same S) ((E.stay g.st).new np) gp) (g.trans (Go.same g.pn S)) λz=>by cases z
abbrev zuW (fa:AD):AE:=λD n Q=>fa D n λws m=>ztD 200 ws λl=>Q (.d (.lst l)) m
def zbb {fs:AD}(h:JA X Pn M es fs):JE X Pn M true (.List es pos) (zuW fs):=by obtain⟨ta,qa,ra⟩:=h.ex;show#[_,zpx qa,#[λA G H D n Q R E P hf k=>?_]];show ra.run A G H D n _ _ E P hf λws m vs H1 hq b g=>?_;obtain⟨l,e,r,hz⟩:=zd0 hq;show#[zci (by rw[b.len];show av hz (by ext)),λp H2 np gp S=>?_];show k _ m _ H2 r (uo (b.dts e) (zo.same S) ((E.stay g.st).new np) gp) (g.trans (Go.same g.pn S)) λ_=>(uI (b.dts e) S np gp).back g.st
def z7 {id:String}{r:AU->Hp->VK->Prop}{F:AV->Mo W}{x:Str}{fs:AD}(hc:CallQ X (.builtin id) r)(hr:FL Pn fr r F)(hg:Gl X x)(hm:X.mg x=none)(hv:bootBuiltins x=some (.builtin id))(ha:JAB X Pn M (e::es) fs)(hn:x ≠ "__name__" := by ext)(hdb:Ai x:=by ext)
  (he:starEach (e::es) X.env=(false,eval e X.env)::starEach es X.env:=by rfl) (hpl:(backTo pos (starEach es X.env)).any (·.1)=false:=by rfl):JE X Pn M fr (.Call (.Name x p) (e::es) [] pos) (zuN F fs):=by
 obtain⟨ta,qa,ra⟩:=ha.ex;show#[_,yY hc hg hm hv qa hn hdb he hpl,zsD hr ra]
def xF {T:String}{r:AU->Hp->VK->Prop}{F:AV->Mo W}{x:Str}{fs:AD}(hc:CallQ X (.type T) r)(hr:FL Pn fr r F)(hg:Gl X x)(hm:X.mg x=none)(hv:bootBuiltins x=some (.type T))(ha:JAB X Pn M (e::es) fs)(hn:x ≠ "__name__" := by ext)(hdb:Ai x:=by ext)
  (he:starEach (e::es) X.env=(false,eval e X.env)::starEach es X.env:=by rfl) (hpl:(backTo pos (starEach es X.env)).any (·.1)=false:=by rfl):JE X Pn M fr (.Call (.Name x p) (e::es) [] pos) (zuN F fs):=by
 obtain⟨ta,qa,ra⟩:=ha.ex;show#[_,zaY hc hg hm hv qa hn hdb he hpl,zsD hr ra]
end
section
variable {Pn:PN}{K:AI}{A:AM}{H:Hp}
def yJ {i:Int}{v:V}(h:Bor A H (.d (.int i)) v):v = .int i:=h
def zqE {i:Bool}{v:V}(h:Bor A H (.d (.bl i)) v):v = .bl i:=h
def ud {l:AT}{v:V}(h:Bor A H (.d (.tup l)) v):∃a xs,v = .ref a/\H a=some (.tup xs)/\IsL (zL A H) l xs:=by obtain⟨a,xs,e,h1,h2⟩:=h;show#[a,xs,e,zG _ _ h1,h2]
def xk {l:AT}{v:V}(h:Bor A H (.d (.lst l)) v):∃a xs,v = .ref a/\Rd H a (.lst xs)/\IsL (zL A H) l xs:=h
def zim {l:AT}{v:V}(h:Bor A H (.d (.lst l)) v\/Bor A H (.d (.tup l)) v):∃a xs,v = .ref a/\(SqL K H a xs\/SqT K H a xs)/\IsL (zL A H) l xs:=by
 rcases h with h | h;obtain⟨a,xs,e,h1,h2⟩:=xk h;show#[a,xs,e,.inl (.inl h1),h2];obtain⟨a,xs,e,h1,h2⟩:=ud h;show#[a,xs,e,.inr (.of h1),h2]
def fI (C:Int->Int->Prop)(g:Int->Int->Dt):W->W->Mo W:=λx y n Q=>∃i j,x = .d (.int i)/\y = .d (.int j)/\C i j/\Q (.d (g i j)) n
def fI0 (g:Int->Int->Dt):W->W->Mo W:=λx y n Q=>∃i j,x = .d (.int i)/\y = .d (.int j)/\Q (.d (g i j)) n
def f2_I {C:Int->Int->Prop}{g:Int->Int->V}{g':Int->Int->Dt}(hg:∀i j BH,Is BH (g' i j) (g i j)):F2 Pn false (rI C g) (fI C g'):=#[by
 rintro A H x y wx wy n Q R al bx byy P ⟨i,j,e1,e2,c,r⟩ k;subst e1 e2;show#[i,j,yJ bx,yJ byy,c,k _ n _ H r (Val.of (hg _ _ _)) (Go.refl P) λz=>by cases z]]
def ziY {g:Int->Int->V}{g':Int->Int->Dt}(hg:∀i j BH,Is BH (g' i j) (g i j)):F2 Pn false (rI0 g) (fI0 g'):=#[by
 rintro A H x y wx wy n Q R al bx byy P ⟨i,j,e1,e2,r⟩ k;subst e1 e2;show#[i,j,yJ bx,yJ byy,k _ n _ H r (Val.of (hg _ _ _)) (Go.refl P) λz=>by cases z]]
abbrev fAdd:=fI0 λi j=>.int (i+j)
abbrev fSub:=fI0 λi j=>.int (i - j)
abbrev fMul:=fI zmQ λi j=>.int (i * j)
abbrev fLt:=fI0 λi j=>.bl (decide (i<j))
abbrev fLe:=fI0 λi j=>.bl (decide (i<=j))
abbrev fGt:=fI0 λi j=>.bl (decide (j<i))
def zvM:F2 Pn false (rI0 λi j=>.int (i+j)) fAdd:=ziY λ_ _ _=>rfl
def zvW:F2 Pn false (rI0 λi j=>.int (i - j)) fSub:=ziY λ_ _ _=>rfl
def zvU:F2 Pn false (rI zmQ λi j=>.int (i * j)) fMul:=f2_I λ_ _ _=>rfl
def v_lt:F2 Pn false (rI0 λi j=>.bl (decide (i<j))) fLt:=ziY λ_ _ _=>rfl
def v_le:F2 Pn false (rI0 λi j=>.bl (decide (i<=j))) fLe:=ziY λ_ _ _=>rfl
def v_gt:F2 Pn false (rI0 λi j=>.bl (decide (j<i))) fGt:=ziY λ_ _ _=>rfl
abbrev sEq:Dt->Dt->Option Bool
 | .int i,.int j=>some (decide (i=j))
 | .bl i,.bl j=>some (decide (i=j))
 | .str i,.str j=>some (decide (i=j))
 | .non,.non=>some true
 | .non,.int _=>some false
 | .int _,.non=>some false
 | .non,.bl _=>some false
 | .bl _,.non=>some false
 | .non,.str _=>some false
 | .str _,.non=>some false
 | .int _,.str _=>some false
 | .str _,.int _=>some false
 | _,_=>none
def plain:Dt->Option V
 | .int i=>some (.int i)
 | .bl i=>some (.bl i)
 | .str i=>some (.str i)
 | .non=>some .non
 | _=>none
def znr {a b:Dt}{r:Bool}(h:sEq a b=some r):∃x y,plain a=some x/\plain b=some y/\zvx x y=true/\decide (x=y)=r:=by cases a <;> cases b <;> cases h <;> show#[_,_,BC,BC,BC,?_] <;> first | rfl | show aT (by lia) | show decide_eq_decide.mpr (by simp)
def zaI {a:Dt}{x v:V}(h:Bor A H (.d a) v)(e:plain a=some x):v=x:=by cases a <;> cases e <;> show h
def fEq:W->W->Mo W:=λx y n Q=>∃a b r,x = .d a/\y = .d b/\sEq a b=some r/\Q (.d (.bl r)) n
def fNe:W->W->Mo W:=λx y n Q=>∃a b r,x = .d a/\y = .d b/\sEq a b=some r/\Q (.d (.bl (!r))) n
def v_eq:F2 Pn false rEq fEq:=#[by
 rintro A H x y wx wy n Q R al bx byy P ⟨a,b,r,e1,e2,e,h⟩ k;subst e1 e2;obtain⟨x',y',p1,p2,s,d⟩:=znr e;obtain rfl:=zaI bx p1;obtain rfl:=zaI byy p2;show#[s,k _ n _ H h (Val.of (by rw[d];rfl)) (Go.refl P) λz=>by cases z]]
def v_ne:F2 Pn false rNe fNe:=#[by
 rintro A H x y wx wy n Q R al bx byy P ⟨a,b,r,e1,e2,e,h⟩ k;subst e1 e2;obtain⟨x',y',p1,p2,s,d⟩:=znr e;obtain rfl:=zaI bx p1;obtain rfl:=zaI byy p2;show#[s,k _ n _ H h (Val.of (by rw[d];rfl)) (Go.refl P) λz=>by cases z]]
def zuo:W->W->Mo W:=λx y n Q=>∃a b,x = .d a/\y = .d b/\a.eqOk/\b.eqOk/\∀r:Bool,(r=true↔a=b)->Q (.d (.bl r)) n
def zuv:W->W->Mo W:=λx y n Q=>∃a b,x = .d a/\y = .d b/\a.eqOk/\b.eqOk/\∀r:Bool,(r=true↔a=b)->Q (.d (.bl (!r))) n
def zvO:F2 Pn false ztF zuo:=#[by
 rintro A H x y wx wy n Q R al bx byy P ⟨a,b,e1,e2,o1,o2,h⟩ k;subst e1 e2;show#[a,b,bx.is,byy.is,o1,o2,λr hr=>k _ n _ H (h r hr) (Val.of BC) (Go.refl P) λz=>by cases z]]
def zvV:F2 Pn false ztJ zuv:=#[by
 rintro A H x y wx wy n Q R al bx byy P ⟨a,b,e1,e2,o1,o2,h⟩ k;subst e1 e2;show#[a,b,bx.is,byy.is,o1,o2,λr hr=>k _ n _ H (h r hr) (Val.of BC) (Go.refl P) λz=>by cases z]]
def zur:W->W->Mo W:=λx y n Q=>∃ (b:Int) (ns:AH),x = .d (.int b)/\(y = .d (.lst (ns.map .int))\/y = .d (.tup (ns.map .int)))/\Q (.d (.bl (ns.contains b))) n
def zfR:W->W->Mo W:=λx y n Q=>∃ (b:Int) (ns:AH),x = .d (.int b)/\(y = .d (.lst (ns.map .int))\/y = .d (.tup (ns.map .int)))/\Q (.d (.bl (!ns.contains b))) n
def zvQ:F2 Pn false (rIn K false) zur:=#[by
 rintro A H x y wx wy n Q R al bx byy P ⟨b,ns,e1,e2,h⟩ k;subst e1;have hb:Bor A H (.d (.lst (ns.map .int))) y\/Bor A H (.d (.tup (ns.map .int))) y:=by grind
 obtain⟨a,xs,e,hs,hl⟩:=zim (K:=K) hb;obtain rfl:=hl.of_ints;obtain rfl:=yJ bx;show#[a,_,e,hs,BC,zez ns,k _ n _ H h (Val.of (by rw[zgR];rfl)) (Go.refl P) λz=>by cases z]]
def zmO:F2 Pn false (rIn K true) zfR:=#[by
 rintro A H x y wx wy n Q R al bx byy P ⟨b,ns,e1,e2,h⟩ k;subst e1;have hb:Bor A H (.d (.lst (ns.map .int))) y\/Bor A H (.d (.tup (ns.map .int))) y:=by grind
 obtain⟨a,xs,e,hs,hl⟩:=zim (K:=K) hb;obtain rfl:=hl.of_ints;obtain rfl:=yJ bx;show#[a,_,e,hs,BC,zez ns,k _ n _ H h (Val.of (by rw[zgR];rfl)) (Go.refl P) λz=>by cases z]]
def zuq (neg:Bool):W->W->Mo W:=λx y n Q=>∃d ds,x = .d d/\(y = .d (.lst ds)\/y = .d (.tup ds))/\d.eqOk/\(Dt.lst ds).eqOk/\∀b:Bool,(b=true↔d∈ds)->Q (.d (.bl (if neg then !b else b))) n
def zvP {neg:Bool}:F2 Pn false (ztG neg) (zuq neg):=#[by
 rintro A H x y wx wy n Q R al bx byy P ⟨d,ds,e1,e2,o1,o2,h⟩ k;subst e1;show#[d,ds,bx.is,?_,o1,o2,λb hb=>k _ n _ H (h b hb) (Val.of BC) (Go.refl P) λz=>by cases z];rcases e2 with rfl | rfl;show .inl byy.is;show .inr byy.is]
def zm6 {BH:Hp}{l:AT}{xs:AU}{i:Int}{d:Dt}(h:IsL BH l xs)(e:atI l i=some d):∃v,atI xs i=some v/\Is BH d v:=by
 unfold atI at e ⊢;rw[h.length];obtain⟨j,h1,h2⟩:=Option.bind_eq_some_iff.mp e;obtain⟨v,h3,h4⟩:=h.getD h2;right
def zut:W->W->Mo W:=λx y n Q=>∃l i d,x = .d (.tup l)/\y = .d (.int i)/\atI l i=some d/\Q (.d d) n
def zus:W->W->Mo W:=λx y n Q=>∃l i d,x = .d (.lst l)/\y = .d (.int i)/\atI l i=some d/\Q (.d d) n
def zvS:F2 Pn false (ztI K) zut:=#[by
 rintro A H x y wx wy n Q R al bx byy P ⟨l,i,d,e1,e2,e,h⟩ k;subst e1 e2;obtain⟨a,xs,ea,ha,hl⟩:=ud bx;obtain⟨v,h1,h2⟩:=zm6 hl e;show#[a,xs,i,v,ea,yJ byy,.of ha,h1,k _ n _ H h (Val.of h2) (Go.refl P) λz=>by cases z]]
def zvR:F2 Pn false (ztH K) zus:=#[by
 rintro A H x y wx wy n Q R al bx byy P ⟨l,i,d,e1,e2,e,h⟩ k;subst e1 e2;obtain⟨a,xs,ea,ha,hl⟩:=xk bx;obtain⟨v,h1,h2⟩:=zm6 hl e;show#[a,xs,i,v,ea,yJ byy,.inl ha,h1,k _ n _ H h (Val.of h2) (Go.refl P) λz=>by cases z]]
def zfQ:W->W->Mo W:=λx y n Q=>∃l m,x = .d (.tup l)/\y = .d (.tup m)/\l.length+m.length<=lim/\Q (.d (.tup (l++m))) n
def zth:F2 Pn false (zmx K) zfQ:=#[by
 rintro A H x y wx wy n Q R al bx byy P ⟨l,m,e1,e2,z,h⟩ k;subst e1 e2;obtain⟨a,xs,ea,ha,hl⟩:=ud bx;obtain⟨b,ys,eb,hb,hm⟩:=ud byy;show#[a,b,xs,ys,ea,eb,ha,hb,zci (by rw[hl.length,hm.length];show z),λp H' g S=>?_];show k _ n _ H' h (zcL (hl.append hm) (zo.same S) (al.noT' (zo.same S) g) g) (Go.same P S) λz=>by cases z]
def znT:W->W->Mo W:=λx y n Q=>∃l m,x = .d (.lst l)/\y = .d (.lst m)/\l.length+m.length<=lim/\Q (.d (.lst (l++m))) n
def ztg:F2 Pn true zpI znT:=#[by
 rintro A H x y wx wy n Q R al bx byy P ⟨l,m,e1,e2,z,h⟩ k;subst e1 e2;obtain⟨a,xs,ea,ha,hl⟩:=xk bx;obtain⟨b,ys,eb,hb,hm⟩:=xk byy;show#[a,b,xs,ys,ea,eb,ha,hb,zci (by rw[hl.length,hm.length];show z),λp H' np g S=>?_];show k _ n _ H' h (uo (hl.append hm) (zo.same S) (al.new np) g) (Go.same P S) λz=>uI (hl.append hm) S np g]
def zn1:W->W->Mo W:=λx y n Q=>∃l j,x = .d (.tup l)/\y = .d (.int j)/\1<=j/\j<=1000000/\l.length * j.toNat<=lim/\Q (.d (.tup (List.replicate j.toNat l).flatten)) n
theorem zjh {BH:Hp}{l:AT}{xs:AU}(h:IsL BH l xs):∀k:Nat,IsL BH (List.replicate k l).flatten (List.replicate k xs).flatten
 | 0=>rfl
 | k+1=>by rw[cP,cP,ee,ee];show h.append (zjh h k)
def zti:F2 Pn false zpK zn1:=#[by
 rintro A H x y wx wy n Q R al bx byy P ⟨l,j,e1,e2,j1,j2,z,h⟩ k;subst e1 e2;obtain⟨a,xs,ea,ha,hl⟩:=ud bx;show#[a,j,xs,ea,yJ byy,ha,j1,by lia,zci (by rw[hl.length];show z),λp H' g S=>?_];show k _ n _ H' h (zcL (zjh hl _) (zo.same S) (al.noT' (zo.same S) g) g) (Go.same P S) λz=>by cases z]
abbrev lenD:W->Option Nat
 | .d (.lst l)=>some l.length
 | .d (.tup l)=>some l.length
 | _=>none
def zuu:AV->Mo W:=λws n Q=>∃x k,ws=[x]/\lenD x=some k/\Q (.d (.int (k:Int))) n
def zbF {w:W}{vs:AU}(h:zqq A H [w] vs):∃v,vs=[v]/\Bor A H w v:=by obtain⟨v,r,e,h1,h2⟩:=h;cases h2;show#[v,e,h1]
def zvT:FL Pn false (λxs H Q=>∃x n,xs=[x]/\zqv K x H n/\Q (.int n) H) zuu:=#[by
 rintro A H xs ws n Q R al b P ⟨x,j,e1,e2,h⟩ k;subst e1;obtain⟨v,rfl,bb⟩:=zbF b;show#[v,j,BC,?_,k _ n _ H h (Val.of BC) (Go.refl P) λz=>by cases z]
 cases x with
 | d x=>
  cases x with
  | lst l=>
   cases e2;obtain⟨a,ys,rfl,ha,hl⟩:=xk bb;show .inl #[ys,.inl ha,hl.length.symm]
  | tup l=>
   cases e2;obtain⟨a,ys,rfl,ha,hl⟩:=ud bb;show .inr #[ys,.of ha,hl.length.symm]
  | _=>cases e2
 | _=>cases e2]
theorem zjg {BH:Hp}:∀ {bs:List Bool} {xs:AU},IsL BH (bs.map .bl) xs->xs=bs.map V.bl
 | [],_,h=>h
 | b::bs,xs,h=>by obtain⟨y,r,rfl,h1,h2⟩:=h;cases h1;rw[zjg h2];rfl
def zun:AV->Mo W:=λws n Q=>∃bs:List Bool,ws=[.d (.lst (bs.map .bl))]/\Q (.d (.bl (bs.all id))) n
def zvN:FL Pn false (λxs H Q=>∃ (p:Addr) (bs:List Bool),xs=[.ref p]/\Rd H p (.lst (bs.map V.bl))/\Q (.bl (bs.all id)) H) zun:=#[by
 rintro A H xs ws n Q R al b P ⟨bs,e1,h⟩ k;subst e1;obtain⟨v,rfl,bb⟩:=zbF b;obtain⟨a,ys,rfl,ha,hl⟩:=xk bb;obtain rfl:=zjg hl;show#[a,bs,BC,ha,k _ n _ H h (Val.of BC) (Go.refl P) λz=>by cases z]]
def zm1:AV->Mo W:=λws n Q=>∃l,(ws=[.d (.lst l)]\/ws=[.d (.tup l)])/\Q (.d (.tup l)) n
def zqk:FL Pn false (zgi K) zm1:=#[by
 rintro A H xs ws n Q R al b P ⟨l,e1,h⟩ k;rcases e1 with rfl | rfl;obtain⟨v,rfl,bb⟩:=zbF b;obtain⟨a,ys,rfl,ha,hl⟩:=xk bb;show#[a,ys,BC,.inl #[.inl ha,λp H' np g S=>k _ n _ H' h (zcL hl (zo.same S) (al.new np) g) (Go.same P S) λz=>by cases z]];obtain⟨v,rfl,bb⟩:=zbF b;obtain⟨a,ys,e,ha,hl⟩:=id bb;subst e;show#[a,ys,BC,.inr #[.of (zG _ _ ha),k _ n _ H h (Val.of #[a,ys,BC,ha,hl]) (Go.refl P) λz=>by cases z]]]
def ut {α:Type}(xs:List α)(lo hi:AR):List α:=(xs.drop (HT.sIx xs.length 0 lo)).take (HT.sIx xs.length xs.length hi - HT.sIx xs.length 0 lo)
def zf0 {BH:Hp}{l:AT}{xs:AU}{lo hi:AR}(h:IsL BH l xs):IsL BH (ut l lo hi) (zcP xs lo hi):=by unfold ut zcP;rw[h.length];show (h.drop _).take _
def yp {κ:Type}[DecidableEq κ](BE:List (κ×Dt))(k:κ):Option Dt:=(BE.find? λq=>decide (q.1=k)).map (·.2)
theorem xU.look {κ:Type}[DecidableEq κ]{BH:Hp}{k:κ}:∀ {BE:List (κ×Dt)} {ks:List (κ×V)},xU BH BE ks->(yp BE k=none->zaF ks k=none)/\∀d,yp BE k=some d->∃v,zaF ks k=some v/\Is BH d v
 | [],_,h=>by cases h;show#[λ_=>rfl,λd e=>by cases e]
 | q::r,ks,⟨v,s,e,h1,h2⟩=>by
  subst e;have ih:=xU.look (k:=k) h2;by_cases hk:q.1=k;show#[λz=>?_,λd z=>?_];simp[yp,bt,hk] at z;simp[yp,bt,hk] at z;subst z;show#[v,um hk,h1];have e1:yp (q::r) k=yp r k:=by simp[yp,bt,hk]
  rw[e1,xO hk];show ih
variable {X:Cx}{M S:AS}{fr:Bool}{e a b c:Expr}{es:AQ}{f fa fb fc:AE}{pos p:Pos}
def zbN {r:R2}{F:W->W->Mo W}(hx:IxQ X r)(hr:F2 Pn fr r F)(ha:JB X Pn M a fa)(hb:JB X Pn M b fb)(hs:zfC b):JE X Pn M fr (.Subscript a b pos) (zrn F fa fb):=by obtain⟨ta,qa,ra⟩:=ha.ex;obtain⟨tb,qb,rb⟩:=hb.ex;show#[_,zsl hx qa qb hs,zmA hr ra rb]
abbrev zoG:Ev->Mo AR:=λ_ n Q=>Q none n
def zoH (fa:AE):Ev->Mo AR:=λD n Q=>fa D n λx m=>∃i,x = .d (.int i)/\Q (some i) m
def xR:JO X Pn M none zoG:=#[_,zkn,λA G H D n Q R E P hf k=>k none n H hf (Go.refl P)]
def xS (h:JB X Pn M e f):JO X Pn M (some e) (zoH f):=by obtain⟨te,q,r⟩:=h.ex;show#[_,zko q,λA G H D n Q R E P hf k=>?_];show r.run A G H D n _ _ E P hf  ?_;rintro w m v H' ⟨i,e,r⟩ bb g;subst e;show#[i,yJ bb,k (some i) m H' r g]
def zuZ (fa:AE)(fl fh:Ev->Mo AR):AE:=λD n Q=>fa D n λx n1=>fl D n1 λlo n2=>fh D n2 λhi n3=>∃l,x = .d (.tup l)/\Q (.d (.tup (ut l lo hi))) n3
def zuY (fa:AE)(fl fh:Ev->Mo AR):AE:=λD n Q=>fa D n λx n1=>fl D n1 λlo n2=>fh D n2 λhi n3=>∃l,x = .d (.lst l)/\Q (.d (.lst (ut l lo hi))) n3
def zhG {lo hi:Option Expr}{fl fh:Ev->Mo AR}{p2:Pos}(he:JB X Pn M e f)(hl:JO X Pn M lo fl)(hh:JO X Pn M hi fh):JE X Pn M false (.Subscript e (.Slice lo hi none p2) pos) (zuZ f fl fh):=by obtain⟨te,qe,re⟩:=he.ex;obtain⟨tl,ql,rl⟩:=hl.ex;obtain⟨th,qh,rh⟩:=hh.ex;show#[_,zd7 zp0 qe ql qh,#[λA G H D n Q R E P hf k=>?_]];show re.run A G H D n _ _ E P hf λw m v H1 r1 bb g1=>?_;show rl A G H1 D m _ _ (E.stay g1.st) g1.pn r1 λo m2 H2 r2 g2=>?_;show rh A G H2 D m2 _ _ ((E.stay g1.st).stay g2.st) g2.pn r2  ?_;rintro o3 m3 H3 ⟨l,e,r3⟩ g3;subst e;have g:=(g1.trans g2).trans g3;obtain⟨ad,xs,rfl,ha,hl⟩:=ud (bb.stay (g2.trans g3).st);show#[ad,xs,BC,ha,λp H' gp S=>k _ m3 _ H' r3 (zcL (zf0 hl) (zo.same S) (Al.noT' (E.stay g.st).al (zo.same S) gp) gp) (g.trans (Go.same g3.pn S)) λz=>by cases z]
def zlH {lo hi:Option Expr}{fl fh:Ev->Mo AR}{p2:Pos}(he:JB X Pn M e f)(hl:JO X Pn M lo fl)(hh:JO X Pn M hi fh):JE X Pn M true (.Subscript e (.Slice lo hi none p2) pos) (zuY f fl fh):=by obtain⟨te,qe,re⟩:=he.ex;obtain⟨tl,ql,rl⟩:=hl.ex;obtain⟨th,qh,rh⟩:=hh.ex;show#[_,zd7 zkO qe ql qh,#[λA G H D n Q R E P hf k=>?_]];show re.run A G H D n _ _ E P hf λw m v H1 r1 bb g1=>?_;show rl A G H1 D m _ _ (E.stay g1.st) g1.pn r1 λo m2 H2 r2 g2=>?_;show rh A G H2 D m2 _ _ ((E.stay g1.st).stay g2.st) g2.pn r2  ?_;rintro o3 m3 H3 ⟨l,e,r3⟩ g3;subst e;have g:=(g1.trans g2).trans g3;obtain⟨ad,xs,rfl,ha,hl⟩:=xk (bb.stay (g2.trans g3).st);show#[ad,xs,BC,.inl ha,λp np=>?_];have S:=xq.upd (o:=.lst (zcP xs o o3)) np;show k _ m3 _ _ r3 (uo (zf0 hl) (zo.same S) ((E.stay g.st).new np) zj) (g.trans (Go.same g3.pn S)) λz=>(uI (zf0 hl) S np zj).back g.st
abbrev zor:W->Option Key
 | .d (.int i)=>some (Sum.inl i)
 | .d (.str x)=>some (Sum.inr x)
 | _=>none
def zna {A:AM}{H:Hp}{w:W}{v:V}{k:Key}(h:Bor A H w v)(e:zor w=some k):v=kV k:=by
 cases w with
 | d x=>
  cases x with
  | int i=>cases e;show h
  | str i=>cases e;show h
  | _=>cases e
 | _=>cases e
def zoz (fd fk:AE):AE:=λD n Q=>fd D n λx n1=>fk D n1 λy n2=>∃BE k d,x = .dk BE/\zor y=some k/\yp BE k=some d/\Q (.d d) n2
def zrp (neg:Bool)(fk fd:AE):AE:=λD n Q=>fk D n λy n1=>fd D n1 λx n2=>∃BE k,x = .dk BE/\zor y=some k/\Q (.d (.bl (if neg then !(yp BE k).isSome else (yp BE k).isSome))) n2
def zgD {A:AM}{H:Hp}{BE:List (Key×Dt)}{v:V}(h:Bor A H (.dk BE) v):∃a ks,v = .ref a/\H a=some (.dK ks)/\xU (zL A H) BE ks/\zaF ks (Sum.inr "at" : Key)=none:=h
def zgV (hu:X.A.units+1<cLine)(ha:JB X Pn M a fa)(hb:JB X Pn M b fb)(hs:zqw b):JE X Pn M false (.Subscript a b pos) (zoz fa fb):=by obtain⟨ta,qa,ra⟩:=ha.ex;obtain⟨tb,qb,rb⟩:=hb.ex;show#[_,xT hu qa qb hs,#[λA G H D n Q R E P hf k=>?_]];show ra.run A G H D n _ _ E P hf λw1 m1 v1 H1 r1 b1 g1=>?_;show rb.run A G H1 D m1 _ _ (E.stay g1.st) g1.pn r1  ?_;rintro w2 m2 v2 H2 ⟨BE,ky,d,e1,e2,e3,r⟩ b2 g2;subst e1;obtain⟨ad,ks,rfl,had,hk,_⟩:=zgD (b1.stay g2.st);obtain⟨v,h1,h2⟩:=(hk.look (k:=ky)).2 d e3;show#[ad,v,BC,?_,k _ m2 _ H2 r (Val.of h2) (g1.trans g2) λz=>by cases z];rw[zna b2 e2,<- h1];show zfB.k had
def zsE {ta tb:TE}(ra:RB Pn M ta fa)(rb:RB Pn M tb fb):RE Pn M false (zvB ta tb) (zrp false fa fb):=#[λA G H D n Q R E P hf k=>by
 show ra.run A G H D n _ _ E P hf λw1 m1 v1 H1 r1 b1 g1=>?_;show rb.run A G H1 D m1 _ _ (E.stay g1.st) g1.pn r1  ?_;rintro w2 m2 v2 H2 ⟨BE,ky,e1,e2,r⟩ b2 g2;subst e1;obtain⟨ad,ks,rfl,had,hk,_⟩:=zgD b2;show#[ad,zaF ks ky,BC,by rw[zna b1 e2];show zfB.k had,k _ m2 _ H2 r (Val.of ?_) (g1.trans g2) λz=>by cases z]
 have:(zaF ks ky).isSome=(yp BE ky).isSome:=by
  cases e:yp BE ky with
  | none=>rw[(hk.look (k:=ky)).1 e];rfl
  | some d=>obtain⟨v,h1,_⟩:=(hk.look (k:=ky)).2 d e;rw[h1];rfl
 rw[this];rfl]
def zrf (hu:X.A.units+1<cLine)(ha:JB X Pn M a fa)(hb:JB X Pn M b fb)(h1:behindInMarks .In b=false:=by first | show zdV _ (by ext) (by ext) | rfl):JT X Pn M (.Compare a [.In] [b] pos) (zjJ (zrp false fa fb)):=by obtain⟨ta,qa,ra⟩:=ha.ex;obtain⟨tb,qb,rb⟩:=hb.ex;show#[_,znl (zsi hu qa qb) h1,zsP (zsE ra rb).rb]
abbrev prD (q:Int×Dt):Dt:=.tup [.int q.1,q.2]
def kvD (q:Int×Dt):Key×Dt:=(Sum.inl q.1,q.2)
def ziZ:AV->Mo W:=λws n Q=>∃ps:List (Int×Dt),ws=[.d (.tup (ps.map prD))]/\(ps.map (·.1)).Nodup/\ps.length<=1000/\Q (.dk (ps.map kvD)) n
theorem znk {BH H:Hp}(s:xq BH H):∀ {ps:List (Int×Dt)} {xs:AU},IsL BH (ps.map prD) xs->∃qs:List (Addr×Int×V),xs=qs.map (λq=>V.ref q.1)/\(∀q∈qs,H q.1=some (.tup [.int q.2.1,q.2.2]))/\qs.map (·.2.1)=ps.map (·.1)/\xU BH (ps.map kvD) (qs.map λq=>((Sum.inl q.2.1:Key),q.2.2))
 | [],xs,h=>by cases h;show#[[],BC,λ_ h=>by simp at h,BC,BC]
 | p::ps,xs,h=>by
  obtain⟨x,r,rfl,⟨ad,ys,rfl,had,y0,r0,rfl,h0,y1,r1,rfl,h1,h2⟩,hr⟩:=h;cases h0;cases h2;obtain⟨qs,rfl,a1,a2,a3⟩:=znk s hr;show#[(ad,p.1,y1)::qs,BC,λq hq=>?_,by right,y1,_,BC,h1,a3];rcases aG.mp hq with rfl | hq;show s _ _ had;show a1 q hq
def zht (ps:List (Addr×Int×V)):zaF (ps.map λq=>((Sum.inl q.2.1:Key),q.2.2)) (Sum.inr "at" : Key)=none:=by
 induction ps with
 | nil=>rfl
 | cons q ps ih=>
  rw[aC,xO (by simp)];show ih
def zqh:FL Pn true zkr ziZ:=#[by
 rintro A H xs ws n Q R al b P ⟨ps,e1,hnd,hz,h⟩ k;subst e1;obtain⟨v,rfl,bb⟩:=zbF b;obtain⟨ad,ys,rfl,had,hl⟩:=ud bb;obtain⟨qs,rfl,a1,a2,a3⟩:=znk zG hl;have hlen:qs.length=ps.length:=by have:=congrArg List.length a2;simpa using this
 show#[ad,qs,BC,#[had,a1],by rw[a2];show hnd,by lia,λp H' np g S=>?_];show k _ n _ H' h #[p,_,BC,zB (al.new np) g,a3.stay (zw (zo.same S)),zht qs] (Go.same P S) λz=>#[p,BC,.of np,#[_,g,BC],p,_,BC,g,a3.stay (yk (zo.same S) (.of np)),zht qs]]
def spV (k:Nat)(fr:Bool)(F:PN->AV->Mo W):Sp:=λvs H Q _=>∃Pn A ws n R,Al A H/\zc2 A H ws vs/\ws.length=k/\xP Pn A n H/\F Pn ws n R/\∀w m v H',R w m->Val A H' w v->Go Pn A H m H'->(fr=true->FrV A H H' w v)->Q v H'
def mFn (k:Nat)(F:AV->Mo W)(fa:AD):AE:=λD n Q=>fa D n λws m=>ws.length=k/\F ws m Q
def zvu {k:Nat}{F:PN->AV->Mo W}{ta:TA}{fs:AD}(ha:RA Pn M ta fs):RE Pn M fr (zh2 (spV k fr F) [] E0 ta) (mFn k (F Pn) fs):=#[λA G H D n Q R E P hf kk=>by show ha.run A G H D n _ _ E P hf  ?_;rintro ws m vs H1 ⟨hk,r⟩ b g;rw[eP];show#[Pn,A,ws,m,R,(E.stay g.st).al,b,hk,g.pn,r,λw m' v H' h1 h2 h3 h4=>kk w m' v H' h1 h2 (g.trans h3) λz=>(h4 z).back g.st]]
def yT {x:Str}{st:Stmt}{ps:AN}{fA:Addr}{fd:Ae}{k:Nat}{F:PN->AV->Mo W}{j kk:Nat}{fs:AD}(BI:Dfn X.K X.mg x st ps fA fd)(BH:FnOk X.prog X.w X.K X.mg X.base CX0 j fA fd ps (spV k fr F))(hr:Room kk X.A)
  (ha:JA X Pn M (e::es) fs) (hjk:j<=kk:=by ext) (hg:Gl X x:=by rfl) (hdb:Ai x:=by ext) (he:starEach (e::es) X.env=(false,eval e X.env)::starEach es X.env:=by rfl) (hpl:(backTo pos (starEach es X.env)).any (·.1)=false:=by rfl) :
  JE X Pn M fr (.Call (.Name x p) (e::es) [] pos) (mFn k (F Pn) fs):=by
 obtain⟨ta,qa,ra⟩:=ha.ex;show#[_,zpv BI BH hr qa hjk hg hdb he hpl,zvu ra]
abbrev W.flat (fr:Bool):W->Bool
 | .d (.lst l)=>fr&&Dt.noLs l
 | .d x=>x.noL
 | .pen _=>true
 | .dk _=>false
 | .dt _=>false
 | .ss _ _ _=>false
 | .dn _ _=>false
 | .wd _ _ _=>false
 | .lf _=>false
 | .cu _=>false
 | .df _=>false
 | .kf _=>false
 | .fl _=>false
 | .ad _ _=>false
 | .tz _ _=>false
def xP.less {A A':AM}{n:Nat}{H:Hp}(h:xP Pn A n H)(s:∀a,A' a->A a):xP Pn A' n H:=by
 show#[?_,Pn.J.grow h.2 λa z=>.inl (s a z)];have h:=h.1;split at h;trivial;show#[h.1,λz=>h.2.1 (s _ z),λz=>h.2.2 (s _ z)]
end
structure JG (X:Cx)(S M:AS)(e:Expr)(mg:W->Ev->(Ev->Prop)->Prop):Prop where
 ex:∃g,QG X e g/\RG S M g mg
structure JGs (X:Cx)(S M:AS)(es:AQ)(mg:AT->Ev->(Ev->Prop)->Prop):Prop where
 ex:∃g,QGs X es g/\RGs S M g mg
structure JI (X:Cx)(Pn:PN)(M:AS)(ow:Bool)(tg e:Expr)(f:AD):Prop where
 ex:∃wi,QI X tg e wi/\RI Pn M ow wi f
structure JTs (X:Cx)(Pn:PN)(M:AS)(es:AQ)(f:Ev->Mo Bool):Prop where
 ex:∃t,QTs X es t/\RT Pn M t f
section
variable {X:Cx}{Pn:PN}{M S:AS}{fr:Bool}{e a b c:Expr}{es:AQ}{f fa fb fc:AE}{pos p:Pos}
def gN (i:Nat):W->Ev->(Ev->Prop)->Prop:=λw D Q=>Q (D.set i (some w))
def gNl:AT->Ev->(Ev->Prop)->Prop:=λds D Q=>ds=[]/\Q D
def gCn (g:W->Ev->(Ev->Prop)->Prop)(u:AT->Ev->(Ev->Prop)->Prop):AT->Ev->(Ev->Prop)->Prop:=λds D Q=>∃d r,ds=d::r/\g (.d d) D λρ'=>u r ρ' Q
def gTp (n:Nat)(u:AT->Ev->(Ev->Prop)->Prop):W->Ev->(Ev->Prop)->Prop:=λw D Q=>∃ds,w = .d (.tup ds)/\ds.length=n/\u ds D Q
def EnvR.set {A:AM}{G:St}{H:Hp}{D:Ev}(E:EnvR A M G H D){i:Nat}{w:W}{v:V}(hi:i∉M)(h:Val A H w v):EnvR A M (G.set i (some v)) H (D.set i (some w)) where
 len:=by rw[b7,b7];show E.len
 val:=λj u e=>by
  by_cases hj:j=i;subst hj
  have hl:j<D.length:=by
   have:=(ae.mp e).1;right
  rw[aW hl] at e;cases e;show#[v,aW (by rw[E.len];show hl),λ_=>h,λz=>absurd z hi];rw[aF (Ne.symm hj)] at e ⊢;show E.val j u e
 dis:=λj k u u' ad hj hk hne e1 e2 s1=>by have hj':i≠j:=λz=>hi (z ▸ hj);have hk':i≠k:=λz=>hi (z ▸ hk);rw[aF hj'] at e1 s1;rw[aF hk'] at e2 ⊢;show E.dis j k u u' ad hj hk hne e1 e2 s1
 al:=E.al
def zgm {i:Nat}(hi:i∉M)(hs:i∉S):RG S M (zaL i) (gN i):=#[λA G H D v w Q R E h r k=>k _ _ r (E.set hi h) λj hj=>#[aF λ(z:i=j)=>hs (by rw[z];show hj),aF λ(z:i=j)=>hs (by rw[z];show hj)]]
def zd {i:Nat}{x:Str}(hN:X.N.Nodup)(hx:X.N[i]?=some x:=by rfl)(hl:Loc X.env.scope x:=by first | show Or.inl BC | show Or.inr BC)(hi:i∉M:=by ext)(hs:i∉S:=by ext)(hf:X.fn x=true\/X.env.scope.names.lookup x=some .local:=by fail"l"):JG X S M (.Name x pos) (gN i):=#[_,zkk hN hx hl hf,zgm hi hs]
def yc:JGs X S M [] gNl:=#[_,zpB,#[by
 rintro A G H D vs ds Q R E h ⟨e,r⟩ k;subst e;show#[h,k G D r E λ_ _=>#[BC,BC]]]]
def zk {g:W->Ev->(Ev->Prop)->Prop}{u:AT->Ev->(Ev->Prop)->Prop}(h1:JG X S M e g)(h2:JGs X S M es u)(hs:(assignEach (e::es) X.env).map (·.2)=assign e X.env::(assignEach es X.env).map (·.2):=by rfl):JGs X S M (e::es) (gCn g u):=by obtain⟨t1,q1,r1⟩:=h1.ex;obtain⟨t2,q2,r2⟩:=h2.ex;show#[_,zmq q1 q2 hs,#[ ?_]];rintro A G H D vs ds Q R E h ⟨d,r,e,hg⟩ k;subst e;obtain⟨v,s,rfl,hv,hr⟩:=h;show#[v,s,BC,?_];show r1.run A G H D v _ _ _ E (Val.of hv) hg λσ' ρ' hu E' f1=>?_;show r2.run A σ' H ρ' s _ _ _ E' hr hu λσ2 ρ2 hR E2 f2=>k σ2 ρ2 hR E2 λi hi=>#[(f2 i hi).1.trans (f1 i hi).1,(f2 i hi).2.trans (f1 i hi).2]
def yP {k n:Nat}{u:AT->Ev->(Ev->Prop)->Prop}(K:AI)(hK:X.K=K)(hc:X.calm=true)(h:JGs X S M es u)(hn:(assignEach es X.env).length=n:=by rfl)(hst:(assignEach es X.env).findIdx? (·.1)=none:=by rfl):JG X S M (.Tuple es k pos) (gTp n u):=by obtain⟨t1,q1,r1⟩:=h.ex;show#[_,zpA K hK hc q1 hn hst,#[ ?_]];rintro A G H D v w Q R E h ⟨ds,e,hl,hu⟩ kk;subst e;obtain⟨ad,xs,rfl,had,hx⟩:=h;show#[ad,xs,BC,.of (zG _ _ had),by rw[hx.length];show hl,r1.run A G H D xs ds _ _ E hx hu kk]
def zrr (fa:AE):AD:=λD n Q=>fa D n λx m=>∃l,x = .d (.lst l)/\Q (l.map W.d) m
def ztC (fa:AE):AD:=λD n Q=>fa D n λx m=>∃l,x = .d (.tup l)/\Q (l.map W.d) m
def zf1 {BH G':Hp}{l:AT}{xs:AU}{i:Nat}{w:W}(h:IsL BH l xs)(e:(l.map W.d)[i]?=some w)(s:zo BH G'):∃d x,w = .d d/\xs[i]?=some x/\Is G' d x:=by rw[aA] at e;obtain⟨d,h1,rfl⟩:=aB.mp e;obtain⟨x,h2,h3⟩:=h.getD h1;show#[d,x,BC,h2,h3.stay s]
def zlF {K:AI}{A:AM}{H:Hp}{ad:Addr}{xs:AU}{l:AT}(h:Rd (zL A H) ad (.lst xs))(hl:IsL (zL A H) l xs):ItV false A H (Itl K ad) (l.map W.d) where
 one:=λi w A2 H2 e s _ _=>by obtain⟨d,x,rfl,hx,hd⟩:=zf1 hl e s;have g:=(s.rdl h).sub;show#[#[xs,x,.inl g,hx],?_];rintro y H3 ⟨e3,hy⟩;subst e3;have:=hy xs (.inl g);rw[hx] at this;cases this;show#[λ_ _ z=>z,Val.of hd]
 stop:=λA2 H2 s _=>#[xs,.inl (s.rdl h).sub,by rw[ab,hl.length];show ak _]
def zoe {K:AI}{A:AM}{H:Hp}{ad:Addr}{xs:AU}{l:AT}(h:zL A H ad=some (.tup xs))(hl:IsL (zL A H) l xs):ItV false A H (Itt K ad) (l.map W.d) where
 one:=λi w A2 H2 e s _ _=>by obtain⟨d,x,rfl,hx,hd⟩:=zf1 hl e s;have g:=zG _ _ (s.tup h);show#[#[xs,x,.of g,hx],?_];rintro y H3 ⟨e3,hy⟩;subst e3;have:=hy xs (.of g);rw[hx] at this;cases this;show#[λ_ _ z=>z,Val.of hd]
 stop:=λA2 H2 s _=>#[xs,.of (zG _ _ (s.tup h)),by rw[ab,hl.length];show ak _]
def zQ {tg:Expr}(K:AI)(hK:X.K=K)(h:JE X Pn M fr e f):JI X Pn M false tg e (zrr f):=by obtain⟨te,q,r⟩:=h.ex;show#[_,zha K hK q,#[λA G H D n Q R E P hf k=>?_]];show r.run A G H D n _ _ E P hf  ?_;rintro w m v H1 ⟨l,e,r⟩ hv g _;subst e;obtain⟨ad,xs,rfl,had,hl⟩:=hv;show#[ad,BC,#[xs,.inl had.sub],k _ m _ H1 r (zlF had hl) g]
def uu {tg:Expr}(K:AI)(hK:X.K=K)(h:JE X Pn M fr e f):JI X Pn M false tg e (ztC f):=by obtain⟨te,q,r⟩:=h.ex;show#[_,zpD K hK q,#[λA G H D n Q R E P hf k=>?_]];show r.run A G H D n _ _ E P hf  ?_;rintro w m v H1 ⟨l,e,r⟩ hv g _;subst e;obtain⟨ad,xs,rfl,had,hl⟩:=hv;show#[ad,BC,#[xs,.of (zG _ _ had)],k _ m _ H1 r (zoe had hl) g]
def zoc {K:AI}{A:AM}{H:Hp}{ad:Addr}{xs:AU}{l:AT}(h:Rd H ad (.lst xs))(hl:IsL (zL A H) l xs):ItV true A H (Itl K ad) (l.map W.d) where
 one:=λi w A2 H2 e s s2 _=>by obtain⟨d,x,rfl,hx,hd⟩:=zf1 hl e s;have g:=(s2 BC).rdl h;show#[#[xs,x,.inl g,hx],?_];rintro y H3 ⟨e3,hy⟩;subst e3;have:=hy xs (.inl g);rw[hx] at this;cases this;show#[λ_ _ z=>z,Val.of hd]
 stop:=λA2 H2 s s2=>#[xs,.inl ((s2 BC).rdl h),by rw[ab,hl.length];show ak _]
def zrb {tg:Expr}(K:AI)(hK:X.K=K)(h:JB X Pn M e f):JI X Pn M true tg e (zrr f):=by obtain⟨te,q,r⟩:=h.ex;show#[_,zha K hK q,#[λA G H D n Q R E P hf k=>?_]];show r.run A G H D n _ _ E P hf  ?_;rintro w m v H1 ⟨l,e,r⟩ hv g;subst e;obtain⟨ad,xs,rfl,had,hl⟩:=hv;show#[ad,BC,#[xs,.inl had],k _ m _ H1 r (zoc had hl) g]
def zhY (lo:Int)(n:Nat):AV:=(List.range n).map λi:Nat=>W.d (.int (lo+i))
def zod {A:AM}{H:Hp}{lo:Int}{n:Nat}:ItV false A H (Itr lo n) (zhY lo n) where
 one:=λi w A2 H2 e s _ _=>by unfold zhY at e;rw[aA] at e;obtain⟨j,h1,rfl⟩:=aB.mp e;obtain⟨hi,h2⟩:=ae.mp h1;rw[bF] at h2;subst h2;rw[aI] at hi;show#[hi,?_];rintro y H3 ⟨e3,hy⟩;subst e3 hy;show#[λ_ _ z=>z,Val.of BC]
 stop:=λA2 H2 s _=>by
  change n<=(zhY lo n).length;unfold zhY;right
def zuT (fa:AD):AD:=λD n Q=>fa D n λws m=>∃j:Int,ws=[.d (.int j)]/\j<=1000000/\-1000000<=j/\Q (zhY 0 j.toNat) m
def z6 {tg:Expr}{fs:AD}(hg:Gl X "range")(hm:X.mg "range" = none)(ha:JAB X Pn M [a] fs)(hs:starEach [a] X.env=[(false,eval a X.env)]:=by rfl):JI X Pn M false tg (.Call (.Name "range" p) [a] [] pos) (zuT fs):=by obtain⟨te,q,r⟩:=ha.ex;show#[_,zkm hg hm q hs,#[λA G H D n Q R E P hf k=>?_]];show r.run A G H D n _ _ E P hf  ?_;rintro ws m vs H1 ⟨j,e,j1,j2,r⟩ hv g;subst e;obtain⟨v,rfl,bb⟩:=zbF hv;obtain rfl:=yJ bb;show#[j,BC,by lia,by lia,k _ m _ H1 r zod g]
def enW:Nat->AT->AV
 | _,[]=>[]
 | k,x::r=>.d (.tup [.int k,x])::enW (k+1) r
theorem zdE:∀ (l:AT) (k i:Nat),(enW k l)[i]?=(l[i]?).map λx=>W.d (.tup [.int ((k+i:Nat):Int),x])
 | [],_,_=>by simp[enW]
 | x::r,k,0=>by simp[enW]
 | x::r,k,i+1=>by have:=zdE r (k+1) i;simp only[enW,bC,this];rw[show k+1+i=k+(i+1) by lia]
theorem zfP:∀ (l:AT) (k:Nat),(enW k l).length=l.length
 | [],_=>rfl
 | x::r,k=>by rw[enW,bc,bc,zfP r]
def zuS (fa:AD):AD:=λD n Q=>fa D n λws m=>∃l,ws=[.d (.tup l)]/\Q (enW 0 l) m
def zlE {K:AI}{A:AM}{H:Hp}{ad:Addr}{xs:AU}{l:AT}(h:zL A H ad=some (.tup xs))(hl:IsL (zL A H) l xs):ItV false A H (Ite K ad) (enW 0 l) where
 one:=λi w A2 H2 e s _ hA=>by rw[zdE] at e;obtain⟨d,h1,rfl⟩:=aB.mp e;obtain⟨x,hx,hd⟩:=hl.getD h1;have g:=zG _ _ (s.tup h);show#[#[xs,x,.of g,hx],?_];rintro y H3 ⟨T,z,e1,hT,e3,hy⟩;subst e1 e3;have:=hy xs (.of g);rw[hx] at this;cases this;have S:=xq.upd (o:=.tup [.int i,x]) hT;show#[S,Val.of #[T,_,BC,zB (hA T hT) zj,_,_,BC,?_,_,_,BC,(hd.stay s).stay (zo.same (uJ S)),BC]];change V.int (i:Int)=V.int ((0+i:Nat):Int);rw[gh]
 stop:=λA2 H2 s _=>#[xs,.of (zG _ _ (s.tup h)),by rw[zfP,hl.length];show ak _]
def zom {elts:AQ}{x1}{tpos:Pos}{fs:AD}(hg:Gl X "enumerate")(hm:X.mg "enumerate" = none)(ha:JA X Pn M [a] fs)(hs:starEach [a] X.env=[(false,eval a X.env)]:=by rfl):JI X Pn M false (.Tuple elts x1 tpos) (.Call (.Name "enumerate" p) [a] [] pos) (zuS fs):=by obtain⟨te,q,r⟩:=ha.ex;show#[_,zpC hg hm q hs,#[λA G H D n Q R E P hf k=>?_]];show r.run A G H D n _ _ E P hf  ?_;rintro ws m vs H1 ⟨l,e,r⟩ hv g;subst e;obtain⟨v,s,rfl,⟨ad,xs,rfl,had,hl⟩,hs⟩:=hv;cases hs;show#[ad,BC,#[xs,.of (zG _ _ had)],k _ m _ H1 r (zlE had hl) g]
def ziW:AT->AT->AV
 | x::r,y::s=>.d (.tup [x,y])::ziW r s
 | _,_=>[]
theorem zk2:∀ (l k:AT) (i:Nat),l.length=k.length->(ziW l k)[i]?=(l[i]?).bind λx=>(k[i]?).map λy=>W.d (.tup [x,y])
 | [],[],_,_=>by simp[ziW]
 | [],_::_,_,h=>by simp at h
 | _::_,[],_,h=>by simp at h
 | x::r,y::s,0,_=>by simp[ziW]
 | x::r,y::s,i+1,h=>by have:=zk2 r s i (by simpa using h);simp only[ziW,bC,this]
theorem zk3:∀ (l k:AT),l.length=k.length->(ziW l k).length=l.length
 | [],[],_=>rfl
 | [],_::_,h=>by simp at h
 | _::_,[],h=>by simp at h
 | x::r,y::s,h=>by rw[ziW,bc,bc,zk3 r s (by simpa using h)]
def zuV (fa:AD):AD:=λD n Q=>fa D n λws m=>∃l k,ws=[.d (.tup l),.d (.tup k)]/\l.length=k.length/\Q (ziW l k) m
def zlG {kb:Bool}{K:AI}{A:AM}{H:Hp}{ad bd:Addr}{xs ys:AU}{l k:AT}(hlen:l.length=k.length)(h:∀ {A2:AM} {H2:Hp},zo (zL A H) (zL A2 H2)->SqV kb K H2 ad xs)(hl:IsL (zL A H) l xs)(h':zL A H bd=some (.tup ys))(hk:IsL (zL A H) k ys):ItV false A H (Izg kb K ad bd) (ziW l k) where
 one:=λi w A2 H2 e s _ hA=>by rw[zk2 _ _ _ hlen] at e;obtain⟨d,h1,e⟩:=Option.bind_eq_some_iff.mp e;obtain⟨d',h1',rfl⟩:=aB.mp e;obtain⟨x,hx,hd⟩:=hl.getD h1;obtain⟨y,hy,hd'⟩:=hk.getD h1';have g:=h s;have g':=zG _ _ (s.tup h');show#[#[xs,ys,x,y,g,.of g',hx,hy],?_];rintro v H3 ⟨T,z,z',e1,hT,e3,hz,hz'⟩;subst e1 e3;have q1:=hz xs g;have q2:=hz' ys (.of g');rw[hx] at q1;rw[hy] at q2;cases q1;cases q2;have S:=xq.upd (o:=.tup [x,y]) hT;show#[S,Val.of #[T,_,BC,zB (hA T hT) zj,_,_,BC,(hd.stay s).stay (zo.same (uJ S)),_,_,BC,(hd'.stay s).stay (zo.same (uJ S)),BC]]
 stop:=λA2 H2 s _=>#[xs,h s,by rw[zk3 _ _ hlen,hl.length];show ak _]
def zrc {elts:AQ}{x1}{tpos:Pos}{fs:AD}(hg:Gl X "zip")(hm:X.mg "zip" = none)(ha:JA X Pn M [a,b] fs)(hs:starEach [a,b] X.env=[(false,eval a X.env),(false,eval b X.env)]:=by rfl)(hs2:starEach [b] X.env=[(false,eval b X.env)]:=by rfl):JI X Pn M false (.Tuple elts x1 tpos) (.Call (.Name "zip" p) [a,b] [] pos) (zuV fs):=by obtain⟨te,q,r⟩:=ha.ex;show#[_,zpE true hg hm q hs hs2,#[λA G H D n Q R E P hf k=>?_]];show r.run A G H D n _ _ E P hf  ?_;rintro ws m vs H1 ⟨l,kk,e,hlen,r⟩ hv g;subst e;obtain⟨v,s,rfl,⟨ad,xs,rfl,had,hl⟩,v2,s2,rfl,⟨bd,ys,rfl,hbd,hk⟩,hs⟩:=hv;cases hs;show#[ad,bd,BC,#[xs,.of (zG _ _ had)],#[ys,.of (zG _ _ hbd)],k _ m _ H1 r (zlG hlen (λs=>.of (zG _ _ (s.tup had))) hl hbd hk) g]
def uF (D:Ev)(BF:List (Option Nat)):Ev:=BF.map λo=>match o with
 | none=>none
 | some i=>(D[i]?).join
def zO (M:AS)(BF:List (Option Nat)):AS:=(List.range BF.length).filter λk=>match BF[k]? with
 | some (some i)=>M.contains i
 | _=>false
def zbQ {BF:List (Option Nat)}{k:Nat}:k∈zO M BF↔∃i,BF[k]?=some (some i)/\i∈M:=by
 unfold zO;rw[aK,aZ];constructor;rintro⟨h1,h2⟩;rw[aj h1] at h2 ⊢
 cases e:BF[k] with
 | none=>rw[e] at h2;cases h2
 | some i=>rw[e] at h2;show#[i,BC,by simpa using h2]
 rintro⟨i,h1,h2⟩;show#[(ae.mp h1).1,by right]
def za8 {α:Type}{l:List (Option α)}{BF:List (Option Nat)}{k:Nat}{x:α}:(BF.map λo=>match o with | none=>none | some i=>(l[i]?).join)[k]?=some (some x)↔∃i,BF[k]?=some (some i)/\l[i]?=some (some x):=by
 rw[aA]
 cases e:BF[k]? with
 | none=>simp
 | some o=>
  cases o with
  | none=>simp
  | some i=>
   simp only[Option.map_some,Option.some.injEq];constructor;intro h;show#[i,BC,?_]
   cases q:l[i]? with
   | none=>rw[q] at h;cases h
   | some z=>rw[q] at h;cases z with
    | none=>cases h
    | some y=>cases h;rfl
   right
def EnvR.cap {A:AM}{G:St}{H:Hp}{D:Ev}(E:EnvR A M G H D){BF:List (Option Nat)}(hn:(BF.filterMap id).Nodup):EnvR A (zO M BF) (xB G BF) H (uF D BF) where
 len:=by unfold xB uF;rw[ab,ab]
 val:=λk w e=>by
  obtain⟨i,h1,h2⟩:=za8.mp e;obtain⟨v,s1,s2,s3⟩:=E.val i w h2;show#[v,za8.mpr #[i,h1,s1],λz=>s2 λy=>z (zbQ.mpr #[i,h1,y]),λz=>?_];obtain⟨j,h3,h4⟩:=zbQ.mp z;right
 dis:=λk k' w u ad hk hk' hne e1 e2 s1 s2=>by
  obtain⟨i,h1,h2⟩:=za8.mp e1;obtain⟨i',h1',h2'⟩:=za8.mp e2;obtain⟨j,h3,h4⟩:=za8.mp s1;obtain⟨j',h3',h4'⟩:=za8.mp s2;rw[h1] at h3;cases h3;rw[h1'] at h3';cases h3';obtain⟨m,m1,m2⟩:=zbQ.mp hk;rw[h1] at m1;cases m1;obtain⟨m',m1',m2'⟩:=zbQ.mp hk';rw[h1'] at m1';cases m1';show E.dis _ _ w u ad m2 m2' (λz=>?_) h2 h2' h4 h4';subst z
  have key:∀ (l:List (Option Nat)) (a b:Nat) (x:Nat),(l.filterMap id).Nodup->l[a]?=some (some x)->l[b]?=some (some x)->a=b:=by
   intro l
   induction l with
   | nil=>intro a b x _ h;simp at h
   | cons o l ih=>
    intro a b x hn ha hb;have mem:∀ (l:List (Option Nat)) (a:Nat),l[a]?=some (some x)->x∈l.filterMap id:=λl a h=>cZ.mpr #[some x,az h,BC]
    cases o with
    | none=>
     have hn':(l.filterMap id).Nodup:=by simpa using hn
     cases a with
     | zero=>simp at ha
     | succ a=>
      cases b with
      | zero=>simp at hb
      | succ b=>rw[ih a b x hn' (by simpa using ha) (by simpa using hb)]
    | some y=>
     have hn2:y∉l.filterMap id/\(l.filterMap id).Nodup:=by right
     cases a with
     | zero=>
      have ha':y=x:=by simpa using ha
      subst ha'
      cases b with
      | zero=>rfl
      | succ b=>show absurd (mem l b (by simpa using hb)) hn2.1
     | succ a=>
      cases b with
      | zero=>
       have hb':y=x:=by simpa using hb
       subst hb';show absurd (mem l a (by simpa using ha)) hn2.1
      | succ b=>rw[ih a b x hn2.2 (by simpa using ha) (by simpa using hb)]
  show hne (key BF k k' _ hn h1 h1')
 al:=E.al
def EnvR.more {A:AM}{G:St}{H H':Hp}{D:Ev}(E:EnvR A M G H D){p:Addr}{o:HO}(s:zo H H')(n:Fr H p)(g:H' p=some o)(np:NP o)(nt:Mt o):EnvR (λb=>A b\/b=p) M G H' D where
 len:=E.len
 val:=λi w e=>by obtain⟨v,h1,h2,h3⟩:=E.val i w e;show#[v,h1,λz=>WAt.up (yk s n) (yk s n) (h2 z),λz=>?_];obtain⟨a,e,h4,h5,h6⟩:=h3 z;show#[a,e,.inl h4,WAt.up s (yk s n) h5,h6]
 dis:=E.dis
 al:=λa h=>by
  rcases h with h | h;obtain⟨o,h1,h2,h3⟩:=E.al a h;show#[o,s _ _ h1 h2,h2,h3];subst h;show#[o,g,np,nt]
def EnvR.upd {A:AM}{G:St}{H:Hp}{D:Ev}(E:EnvR A M G H D){p:Addr}{o:HO}(hp:A p)(hn:∀i w,i∈M->D[i]?=some (some w)->G[i]?≠some (some (.ref p)))(np:NP o)(nt:Mt o):EnvR A M G (L2.upd H p o) D where
 len:=E.len
 val:=λi w e=>by
  obtain⟨v,h1,h2,h3⟩:=E.val i w e;show#[v,h1,λz=>?_,λz=>?_];change WAt _ _ _ _;rw[z5 hp];show h2 z;obtain⟨a,e',h4,h5,h6⟩:=h3 z;have hne:a≠p:=λq=>hn i w z e (by rw[h1,e',q]);show#[a,e',h4,?_,h6];change WAt _ _ _ _;rw[z5 hp]
  cases w with
  | d x=>
   cases x with
   | lst l=>obtain⟨a2,xs,e2,g1,g2⟩:=h5;rw[e'] at e2;cases e2;show#[a,xs,e',by unfold Rd;rw[ze hne];show g1,g2]
   | dct=>obtain⟨a2,xs,e2,g1,g2⟩:=h5;rw[e'] at e2;cases e2;show#[a,xs,e',by rw[ze hne];show g1,g2]
   | _=>cases h6
  | pen p=>cases h6
  | dk k=>obtain⟨a2,xs,e2,g1,g2⟩:=h5;rw[e'] at e2;cases e2;show#[a,xs,e',by rw[ze hne];show g1,g2]
  | dt k=>obtain⟨a2,xs,e2,g1,g2⟩:=h5;rw[e'] at e2;cases e2;show#[a,xs,e',by rw[ze hne];show g1,g2]
  | dn fz k=>obtain⟨a2,xs,e2,g1,g2⟩:=h5;rw[e'] at e2;cases e2;show#[a,xs,e',g1.imp λo _ e=>by rw[ze hne];show e,g2]
  | wd d fs kn=>cases h6
  | lf ls=>cases h6
  | cu k=>cases h6
  | ss P w k=>obtain⟨a2,xs,e2,g1,g2⟩:=h5;rw[e'] at e2;cases e2;show#[a,xs,e',by rw[ze hne];show g1,g2]
  | df k=>obtain⟨a2,ob,xs,e2,g1,g2⟩:=h5;rw[e'] at e2;cases e2;show#[a,ob,xs,e',by right,g2]
  | kf k=>obtain⟨a2,ob,xs,e2,g1,g2⟩:=h5;rw[e'] at e2;cases e2;show#[a,ob,xs,e',by right,g2]
  | ad a x=>cases h6
  | tz BE x=>cases h6
  | fl k=>obtain⟨a2,ob,xs,e2,g1,g2⟩:=h5;rw[e'] at e2;cases e2;show#[a,ob,xs,e',by right,g2]
 dis:=E.dis
 al:=λa h=>by
  by_cases ha:a=p;subst ha;show#[o,zj,np,nt];rw[ze ha];show E.al a h
def xP.upd {A:AM}{n:Nat}{H:Hp}{p:Addr}{o:HO}(h:xP Pn A n H)(hp:A p):xP Pn A n (L2.upd H p o):=by
 show#[?_,Pn.J.upd h.2 hp];have h:=h.1;split at h;trivial
 ·show#[?_,h.2];rename_i q c ns _;obtain⟨h1,h2,h3⟩:=h;have e1:c≠p:=λz=>h2 (z ▸ hp);have e2:q≠p:=λz=>h3 (z ▸ hp);obtain⟨a,l,g1,g2,g3,g4⟩:=h1.ob;show#[#[a,l,by rw[ze e2];show g1,g2,g3,g4],let ⟨ob,e⟩:=h1.ls;#[ob,by rw[ze e1];show e],h1.len]
end
structure JS (X:Cx)(Pn:PN)(S M:AS)(fr:Bool)(st:Stmt)(fs:Ms):Prop where
 ex:∃ts,QS X st ts/\RS Pn S M fr ts fs
structure JSs (X:Cx)(Pn:PN)(S M:AS)(fr:Bool)(st:List Stmt)(fs:Ms):Prop where
 ex:∃ts,QSs X st ts/\RS Pn S M fr ts fs
section
variable {X:Cx}{Pn:PN}{M S:AS}{fr fr':Bool}{e a b c:Expr}{es:AQ}{f fa fb fc:AE}{pos p:Pos}
def xP.grow' {A:AM}{n m:Nat}{H H':Hp}{q:Addr}{o:HO}(h:xP Pn A n H)(h':xP Pn A m H')(hq:Fr H q)(g:H' q=some o)(np:NP o)(mt:Mt o):xP Pn (λb=>A b\/b=q) m H':=by
 show#[?_,Pn.J.grow h'.2 λa z=>z.imp_right λe=>#[o,by rw[e];show g,np,mt]];have h:=h.1;have h':=h'.1;revert h h'
 cases Pn.pn with
 | none=>show λ_ _=>trivial
 | some x=>
  obtain⟨p,c,ns⟩:=x;intro h h';show#[h'.1,λz=>z.elim h'.2.1 λz=>?_,λz=>z.elim h'.2.2 λz=>?_];subst z;obtain⟨ob,e⟩:=h.1.ls;show hq _ e (λ_ z=>by cases z);subst z;obtain⟨a,l,e,_⟩:=h'.1.ob;rw[e] at g;cases g;have:=np _ BC;rw[zmc] at this;cases this
def zh8 {scope:Scope}{N:AN}{fr:Bool}(h:∀C s H ex,JE (zm X scope N C s H ex) Pn M fr e f):∃te,(∀C s H ex,QE (zm X scope N C s H ex) e te)/\RE Pn M fr te f:=
 #[λG H Q=>∀C s H0 ex,(h C s H0 ex).ex.choose G H Q,λC s H0 ex=>#[λBD s' G H Q I z=>(h C s H0 ex).ex.choose_spec.1.run BD s' G H Q I (z C s H0 ex)],
  #[λA G H D n Q R E P hf k C s H0 ex=>(h C s H0 ex).ex.choose_spec.2.run A G H D n Q R E P hf k]]
def zfv {scope:Scope}{N:AN}{ft:Ev->Mo Bool}(h:∀C s H ex,JTs (zm X scope N C s H ex) Pn M es ft):∃te,(∀C s H ex,QTs (zm X scope N C s H ex) es te)/\RT Pn M te ft:=
 #[λG H Q=>∀C s H0 ex,(h C s H0 ex).ex.choose G H Q,λC s H0 ex=>#[λBD s' G H Q I z=>(h C s H0 ex).ex.choose_spec.1.run BD s' G H Q I (z C s H0 ex)],
  #[λA G H D n Q R E P hf k C s H0 ex=>(h C s H0 ex).ex.choose_spec.2.run A G H D n Q R E P hf k]]
def zfu {scope:Scope}{N:AN}{mg:W->Ev->(Ev->Prop)->Prop}(h:∀C s H ex,JG (zm X scope N C s H ex) S M e mg):∃g,(∀C s H ex,QG (zm X scope N C s H ex) e g)/\RG S M g mg:=
 #[λv G H Q=>∀C s H0 ex,(h C s H0 ex).ex.choose v G H Q,λC s H0 ex=>#[λBD s' G H v u Q I rv z=>(h C s H0 ex).ex.choose_spec.1.run BD s' G H v u Q I rv (z C s H0 ex)],
  #[λA G H D v w Q R E hv hf k C s H0 ex=>(h C s H0 ex).ex.choose_spec.2.run A G H D v w Q R E hv hf k]]
def zfH (mg:W->Ev->(Ev->Prop)->Prop)(ft:Ev->Mo Bool)(fe:AE)(ρ0:Ev)(Q:AW):AV->Nat->Prop:=λl n1=>l.length<=lim/\∃I:Nat->Ev->Nat->AT->Prop,I 0 ρ0 n1 []/\
 (∀i w ρ' n' acc,l[i]?=some w->I i ρ' n' acc->mg w ρ' λρ1=>ft ρ1 n' λb n2=>if b=true then fe ρ1 n2 λx n3=>∃d,x = .d d/\I (i+1) ρ1 n3 (acc++[d]) else I (i+1) ρ1 n2 acc)/\
 ∀ ρ' n' acc,I l.length ρ' n' acc->Q (.d (.lst acc)) n'
abbrev zlS (fi:AD) (mg:W->Ev->(Ev->Prop)->Prop) (ft:Ev->Mo Bool) (fe:AE) (BF:List (Option Nat)):AE:=λD n Q=>fi D n (zfH mg ft fe (uF D BF) Q)
def zgk {wi:TI}{g:TG}{ti:TT}{te:TE}{BF:List (Option Nat)}{fi:AD}{mg:W->Ev->(Ev->Prop)->Prop}{ft:Ev->Mo Bool}{fe:AE}{ow:Bool}(hn:(BF.filterMap id).Nodup)
  (hi:RI Pn M ow wi fi) (hg:RG (zO M BF) (zO M BF) g mg) (ht:RT Pn (zO M BF) ti ft) (he:RE Pn (zO M BF) fr' te fe):RE Pn M true (zhn wi g ti te BF) (zlS fi mg ft fe BF):=#[λA G H D n Q R E P hf k=>by
 show hi.run A G H D n _ _ E P hf λl m J H1 ⟨hz,I,i0,it,ie⟩ iv g1=>λacc hacc=>?_;have E1:=E.stay g1.st;have E2:=(E1.cap hn).more (zo.upd (o:=.lst []) hacc) (Fr.of hacc) zj NP.lst BC;have P2:xP Pn (λb=>A b\/b=acc) m (L2.upd H1 acc (.lst [])):=g1.pn.grow' (g1.pn.same (xq.upd hacc)) (Fr.of hacc) zj NP.lst BC;have nacc:∀k w,k∈zO M BF->(uF D BF)[k]?=some (some w)->(xB G BF)[k]?≠some (some (.ref acc)):=λk w hk hw z=>by obtain⟨v,s1,_,s3⟩:=(E1.cap hn).val k w hw;obtain⟨a,e,hA,_⟩:=s3 hk;rw[z] at s1;cases s1;cases e;show E1.new hacc hA
 have key:∀ σ' ρ' H',EnvR (λb=>A b\/b=acc) (zO M BF) σ' H' ρ'->(∀k∈zO M BF,σ'[k]?=(xB G BF)[k]?/\ρ'[k]?=(uF D BF)[k]?)->∀k w,k∈zO M BF->ρ'[k]?=some (some w)->σ'[k]?≠some (some (.ref acc)):=λσ' ρ' H' E' hfx k w hk hw z=>by right
 show#[λi mm σ' H'=>mm=l.length - i/\i<=l.length/\∃ ρ' n' accD xs,EnvR (λb=>A b\/b=acc) (zO M BF) σ' H' ρ'/\xP Pn (λb=>A b\/b=acc) n' H'/\I i ρ' n' accD/\H' acc=some (.lst xs)/\IsL (zL (λb=>A b\/b=acc) H') accD xs/\accD.length<=i/\zo (zL A H1) (zL (λb=>A b\/b=acc) H')/\zo H1 H'/\(∀k∈zO M BF,σ'[k]?=(xB G BF)[k]?/\ρ'[k]?=(uF D BF)[k]?),
  #[l.length,by simp,aS _,_,m,[],[],E2,P2,i0,zj,BC,ak _,yk (zo.upd hacc) (Fr.of hacc),zo.upd hacc,λk hk=>#[BC,BC]],?_]
 rintro i mm σ' H' ⟨rfl,hil,ρ',n',accD,xs,E',P',hI,hac,hxs,hal,st,s1,hfx⟩;by_cases hlt:i<l.length
 show Or.inr ?_;have hget:l[i]?=some l[i]:=aj hlt;obtain⟨go,yl⟩:=iv.one i l[i] _ H' hget st (λ_=>s1) λp hp=>E'.new hp
 show#[go,λσ2 H2=>∃ ρ' n' accD xs,EnvR (λb=>A b\/b=acc) (zO M BF) σ2 H2 ρ'/\xP Pn (λb=>A b\/b=acc) n' H2/\I (i+1) ρ' n' accD/\H2 acc=some (.lst xs)/\IsL (zL (λb=>A b\/b=acc) H2) accD xs/\accD.length<=i+1/\zo (zL A H1) (zL (λb=>A b\/b=acc) H2)/\zo H1 H2/\(∀k∈zO M BF,σ2[k]?=(xB G BF)[k]?/\ρ'[k]?=(uF D BF)[k]?),
  λσ2 H2 h=>#[l.length - (i+1),by lia,BC,hlt,h],λx H2 hy=>?_]
 obtain⟨S2,V2⟩:=yl x H2 hy;show hg.run _ σ' H2 ρ' x l[i] _ _ (E'.stay (zo.same S2)) V2 (it i l[i] ρ' n' accD hget hI) λσ3 ρ3 r3 E3 f3=>?_;have hfx3:∀k∈zO M BF,σ3[k]?=(xB G BF)[k]?/\ρ3[k]?=(uF D BF)[k]?:=λk hk=>#[(f3 k hk).1.trans (hfx k hk).1,(f3 k hk).2.trans (hfx k hk).2];show ht.run _ σ3 H2 ρ3 n' _ _ E3 (P'.same S2) r3 λb m3 H4 r4 g4=>?_;have s24:=(zo.same S2).trans g4.st
 cases b with
 | false=>
  rw[if_neg (by ext)] at r4 ⊢;show#[ρ3,m3,accD,xs,E3.stay g4.st,g4.pn,r4,s24.lst hac,hxs.stay (zw s24),by lia,st.trans (zw s24),s1.trans s24,hfx3]
 | true=>
  rw[if_pos rfl] at r4 ⊢;show he.run _ σ3 H4 ρ3 m3 _ _ (E3.stay g4.st) g4.pn r4  ?_;rintro w5 m5 v5 H5 ⟨d,e5,r5⟩ V5 g5 _;subst e5;have s25:=s24.trans g5.st;have E5:=(E3.stay g4.st).stay g5.st;have hac5:=s25.lst hac;show#[xs,hac5,zgY (by rw[hxs.length];lia),ρ3,m5,accD++[d],xs++[v5],E5.upd (.inr BC) (key σ3 ρ3 H5 E5 hfx3) NP.lst BC,g5.pn.upd (.inr BC),r5,zj,?_,by right,?_,?_,hfx3];rw[z5 (.inr BC)];show (hxs.stay (zw s25)).append (IsL.one V5.is);rw[z5 (.inr BC)];show st.trans (zw s25);show λb o e nn=>by rw[ze (zb e hacc)];show s1.trans s25 b o e nn
 show Or.inl ?_;have hie:i=l.length:=by lia
 subst hie;show#[iv.stop _ H' st (λ_=>s1),k _ n' _ H' (ie ρ' n' accD hI) (Val.of #[acc,xs,BC,.inl (zB (E1.new hacc) hac),hxs.stay (zo.same (yF λb z=>.inl z))]) (g1.trans #[s1,P'.less λa z=>.inl z]) λ_=>#[acc,BC,(Fr.of hacc).back g1.st,#[_,hac,BC],acc,xs,BC,.inl hac,hxs]]]
abbrev zu2:Ev->Mo Bool:=λ_ n Q=>Q true n
def yi:JTs X Pn M [] zu2:=#[_,zkp,#[λA G H D n Q R E P hf k=>k true n H hf (Go.refl P)]]
def y6 {ft:Ev->Mo Bool}(h:JT X Pn M c ft):JTs X Pn M [c] ft:=let ⟨t,h1,h2⟩:=h.ex;#[t,zpH h1,h2]
def xG {elt tg iter:Expr}{ifs:AQ}{scope:Scope}{N:AN}{BF:List (Option Nat)}{fi:AD}{mg:W->Ev->(Ev->Prop)->Prop}{ft:Ev->Mo Bool}{fe:AE}{ow:Bool}(hc:X.calm=true)(cc:CompOk X scope N BF)
  (hi:JI X Pn M ow tg iter fi) (hg:∀C s H ex,JG (zm X scope N C s H ex) (zO M BF) (zO M BF) tg mg) (ht:∀C s H ex,JTs (zm X scope N C s H ex) Pn (zO M BF) ifs ft) (he:∀C s H ex,JE (zm X scope N C s H ex) Pn (zO M BF) fr' elt fe)
  (hn:(BF.filterMap id).Nodup:=by ext) (hs:∀x,foldedSetIterable iter X.env x=pure x:=by intro _;rfl):JE X Pn M true (.ListComp elt [#[tg,iter,ifs,0]] scope pos) (zlS fi mg ft fe BF):=by
 obtain⟨ti,qi,ri⟩:=hi.ex;obtain⟨g,qg,rg⟩:=zfu hg;obtain⟨tt,qt,rt⟩:=zfv ht;obtain⟨te,qe,re⟩:=zh8 he;show#[_,zg9 hc cc qi qg qt qe hs,zgk hn ri rg rt re]
def zaR {elt tg iter:Expr}{ifs:AQ}{scope:Scope}{N:AN}{BF:List (Option Nat)}{fi:AD}{mg:W->Ev->(Ev->Prop)->Prop}{ft:Ev->Mo Bool}{fe:AE}{ow:Bool}{ix:Nat}{nx:Str}{px spos:Pos}(hNd:X.N.Nodup)(hix:X.N[ix]?=some nx)(hlx:X.env.scope.names.lookup nx=some .local)(hc:X.calm=true)(cc:CompOk X scope N BF)
  (hi:JI X Pn M ow tg iter fi) (hg:∀C s H ex,JG (zm X scope N C s H ex) (zO M BF) (zO M BF) tg mg) (ht:∀C s H ex,JTs (zm X scope N C s H ex) Pn (zO M BF) ifs ft) (he:∀C s H ex,JE (zm X scope N C s H ex) Pn (zO M BF) fr' elt fe)
  (hn:(BF.filterMap id).Nodup:=by ext) (hsw:swapsWithSole [.Name nx px] (.ListComp elt [#[tg,iter,ifs,0]] scope pos) spos.line X.env=pure true:=by rfl)
  (hs:∀x,foldedSetIterable iter X.env x=pure x:=by intro _;rfl)
  (h1a:(assignEach [.Name nx px] X.env).map (·.2)=[assign (.Name nx px) X.env]:=by rfl):∃te,QS X (.Assign [.Name nx px] (.ListComp elt [#[tg,iter,ifs,0]] scope pos) spos) (zhm te (zaL ix))/\RE Pn M true te (zlS fi mg ft fe BF):=by
 obtain⟨ti,qi,ri⟩:=hi.ex;obtain⟨g,qg,rg⟩:=zfu hg;obtain⟨tt,qt,rt⟩:=zfv ht;obtain⟨te,qe,re⟩:=zh8 he;show#[_,zpG hNd hix hlx hc cc qi qg qt qe hsw hs h1a,zgk hn ri rg rt re]
def At3.step {B:Bs}{A:AM}{G:St}{H H':Hp}{D:Ev}{n m:Nat}(h:At3 Pn B S M A G H D n)(g:Go Pn A H m H'):At3 Pn B S M A G H' D m where
 env:=h.env.stay g.st
 frm:=#[h.frm.sub,h.frm.new,λb o e n c=>g.st b o (h.frm.st b o e n c) n,h.frm.al,h.frm.cn,λa z=>let ⟨o,e,n⟩:=h.frm.cs a z;#[o,g.st a o e n,n]]
 pn:=g.pn
 prot:=h.prot.trans (zw g.st)
 fix:=h.fix
 mine:=h.mine
abbrev mRet (f:AE):Ms:=λD n k=>f D n k.rt
def zsM {te:TE}(h:RE Pn M fr te f):RS Pn S M fr (ztK te) (mRet f):=#[λB A G H D n k BI a kk hf=>by
 show h.run A G H D n _ _ a.env a.pn hf λw m v H' r hv g hr=>?_;have a':=a.step g;show kk.rt w m v H' (WAt.up (zo.same (yF a.frm.sub)) (zo.same (yF a.frm.sub)) hv) a'.frm.st (g.pn.less a.frm.sub) (λz=>by obtain⟨b,e,f1,f2⟩:=hr z;show FrV.less #[b,e,a.frm.back f1 (a.env.newF f1),f2] a.frm.sub) r]
def zF (h:JE X Pn M fr e f):JS X Pn S M fr (.Return (some e) pos) (mRet f):=let ⟨te,q,r⟩:=h.ex;#[_,zbt q,zsM r]
def zoI (i:Nat):Ms:=λD n k=>∃w,D[i]?=some (some w)/\k.rt w n
def zpT {i:Nat}(hi:i∈M):RS Pn S M fr (ztK (znw i)) (zoI i):=#[by
 rintro B A G H D n k BI a kk ⟨w,e,r⟩;obtain⟨v,s1,_,s3⟩:=a.env.val i w e;obtain⟨ad,rfl,hA,hb,hm⟩:=s3 hi;have hF:=a.mine i w ad hi e s1
 have hn:¬ B.A0 ad:=λz=>by
  rcases hF with hF | hF;obtain⟨o,o1,o2,_⟩:=a.frm.al ad z;show hF o o1 o2;show a.frm.cn ad hF z
 have less:xq (zL A H) (zL B.A0 H):=yF a.frm.sub;have less2:xq (zL A H) (zL (λb=>B.A0 b\/b=ad) H):=yF λb z=>z.elim (a.frm.sub b) λz=>z ▸ hA;show#[.ref ad,s1,kk.rt w n (.ref ad) H ?_ a.frm.st (a.pn.less a.frm.sub) (λz=>#[ad,BC,hF.resolve_right (kk.fc ad),(let ⟨o,o1,_,o3⟩:=a.env.al ad hA;#[o,o1,o3]),WAt.up (zo.refl _) (zo.same less2) hb]) r]
 cases w with
 | d x=>
  cases x with
  | lst l=>obtain⟨a2,xs,e2,g1,g2⟩:=hb;cases e2;show#[ad,xs,BC,g1.hid hn,g2.stay (zo.same less)]
  | dct=>obtain⟨a2,xs,e2,g1,g2⟩:=hb;cases e2;show#[ad,xs,BC,zB hn g1,g2]
  | _=>cases hm
 | pen p=>cases hm
 | dk BE=>obtain⟨a2,xs,e2,g1,g2,g3⟩:=hb;cases e2;show#[ad,xs,BC,zB hn g1,g2.stay (zo.same less),g3]
 | dt BE=>obtain⟨a2,xs,e2,g1,g2⟩:=hb;cases e2;show#[ad,xs,BC,zB hn g1,g2.stay (zo.same less)]
 | dn fz BE=>obtain⟨a2,xs,e2,g1,g2,g3⟩:=hb;cases e2;show#[ad,xs,BC,g1.imp λo _ e=>zB hn e,g2.stay (zo.same less),g3.stay (zo.same less)]
 | wd d fs kn=>cases hm
 | lf ls=>cases hm
 | cu k=>cases hm
 | ss P w BE=>obtain⟨a2,xs,e2,g1,g2⟩:=hb;cases e2;show#[ad,xs,BC,zB hn g1,g2.stay (zo.same less)]
 | kf BE=>obtain⟨a2,ob,xs,e2,g1,g2⟩:=hb;cases e2;show#[ad,ob,xs,BC,zB hn g1,g2.stay (zo.same less)]
 | ad a x=>cases hm
 | tz BE x=>cases hm
 | fl BE=>obtain⟨a2,ob,xs,e2,g1,g2⟩:=hb;cases e2;show#[ad,ob,xs,BC,zB hn g1,g2.stay (zo.same less)]
 | df BE=>obtain⟨a2,ob,xs,e2,g1,g2⟩:=hb;cases e2;show#[ad,ob,xs,BC,zB hn g1,g2.stay (zo.same less)]]
def zcf (i:Nat){x:Str}(hi:i∈M:=by ext)(hN:X.N[i]?=some x:=by rfl)(hv:Vis X.env.scope x:=by fail"v")(hd:Ai x:=by ext)
  (hcd:(x==("__classdict__" : Str))=false:=by ext) {pos':Pos}:JS X Pn S M fr (.Return (some (.Name x pos)) pos') (zoI i):=#[_,zbt (qv i hN hv hd hcd),zpT hi]
abbrev zoy (f:AE) (mg:W->Ev->(Ev->Prop)->Prop):Ms:=λD n k=>f D n λw m=>mg w D λρ'=>k.nx ρ' m
def EnvR.mineG {B:Bs}{A:AM}{G σ':St}{H:Hp}{D ρ':Ev}{n:Nat}(a:At3 Pn B S M A G H D n)(E:EnvR A M σ' H ρ')(f:∀i∈S++M,σ'[i]?=G[i]?/\ρ'[i]?=D[i]?):At3 Pn B S M A σ' H ρ' n where
 env:=E
 frm:=a.frm
 pn:=a.pn
 prot:=a.prot
 fix:=#[λi hi=>(f i (aE.mpr (.inl hi))).1.trans (a.fix.1 i hi),a.fix.2]
 mine:=λi w ad hi e s=>by obtain⟨f1,f2⟩:=f i (aE.mpr (.inr hi));rw[f1] at s;rw[f2] at e;show a.mine i w ad hi e s
def zkA {te:TE}{g:TG}{mg:W->Ev->(Ev->Prop)->Prop}(h:RE Pn M fr' te f)(hg:RG (S++M) M g mg):RS Pn S M fr (zhm te g) (zoy f mg):=#[λB A G H D n k BI a kk hf=>by show h.run A G H D n _ _ a.env a.pn hf λw m v H' r hv g' _=>?_;have a':=a.step g';show hg.run A G H' D v w _ _ a'.env hv r λσ2 ρ2 r2 E2 f2=>kk.nx A σ2 H' ρ2 m (EnvR.mineG a' E2 f2) r2]
def zM {i:Nat}{x:Str}{pos':Pos}(hN:X.N.Nodup)(he:JE X Pn M fr' e f)(hi:X.N[i]?=some x:=by rfl)(hx:Loc X.env.scope x:=by first | show Or.inl BC | show Or.inr BC)(hiM:i∉M:=by ext)(hiS:i∉S++M:=by ext)(hs:swapsWith e (some (.Name x pos')) pos.line X.env=pure false:=by rfl)(hf:X.fn x=true\/X.env.scope.names.lookup x=some .local:=by fail"l") :
  JS X Pn S M fr (.Assign [.Name x pos'] e pos) (zoy f (gN i)):=let ⟨te,q,r⟩:=he.ex;#[_,ux hN hi hx q hs hf,zkA r (zgm hiM hiS)]
def zbc {i:Nat}{st:Stmt}(h:∃te,QS X st (zhm te (zaL i))/\RE Pn M true te f)(hiM:i∉M:=by ext)(hiS:i∉S++M:=by ext):JS X Pn S M fr st (zoy f (gN i)):=let ⟨te,q,r⟩:=h;#[_,q,zkA r (zgm hiM hiS)]
def zm9 {tg:Expr}{mg:W->Ev->(Ev->Prop)->Prop}(he:JE X Pn M fr' e f)(hg:JG X (S++M) M tg mg)(hs:swapsWithSole [tg] e pos.line X.env=pure false:=by rfl)(hw:swappedStores [tg] e X.env=pure none:=by rfl)
  (h1:(assignEach [tg] X.env).map (·.2)=[assign tg X.env]:=by rfl):JS X Pn S M fr (.Assign [tg] e pos) (zoy f mg):=let ⟨te,q,r⟩:=he.ex;let ⟨g,q2,r2⟩:=hg.ex;#[_,zsq q q2 hs hw h1,zkA r r2]
def zrv (i:Nat)(f:AE):Ms:=λD n k=>f D n λw m=>w.mut=true/\k.nx (D.set i (some w)) m
def zoL {T BH:Hp}{w:W}{v:V}(h:WAt T BH w v)(hm:w.mut=true)(hk:∀a o,v = .ref a->T a=some o->Mt o):∃a o,v = .ref a/\T a=some o/\NP o/\Mt o:=by
 cases w with
 | d x=>
  cases x with
  | lst l=>
   obtain⟨a,xs,e,g1,_⟩:=h;rcases g1 with g1 | ⟨o,g1⟩;show#[a,_,e,g1,NP.lst,BC];cases hk a _ e g1
  | dct=>obtain⟨a,xs,e,g1,g2⟩:=h;show#[a,_,e,g1,λk z=>by cases z;subst g2;rfl,BC]
  | _=>cases hm
 | pen p=>cases hm
 | dk BE=>obtain⟨a,xs,e,g1,_,g3⟩:=h;show#[a,_,e,g1,λk z=>by cases z;show g3,BC]
 | dt BE=>obtain⟨a,xs,e,g1,_⟩:=h;show#[a,_,e,g1,(λk z=>by cases z),BC]
 | ss P w BE=>obtain⟨a,xs,e,g1,_⟩:=h;show#[a,_,e,g1,zg1,BC]
 | dn fz BE=>
  obtain⟨a,ks,e,g1,_⟩:=h;rcases g1.rd with g1 | ⟨o,g1⟩;show#[a,_,e,g1,zry,BC];cases hk a _ e g1
 | wd d fs kn=>cases hm
 | lf ls=>cases hm
 | cu k=>cases hm
 | df BE=>cases hm
 | kf BE=>cases hm
 | ad a x=>cases hm
 | tz BE x=>cases hm
 | fl BE=>cases hm
def znp {te:TE}{i:Nat}(h:RE Pn M true te f)(hi:i∈M)(hs:i∉S):RS Pn S M fr (zhm te (zaL i)) (zrv i f):=#[λB A G H D n k BI a kk hf=>by
 show h.run A G H D n _ _ a.env a.pn hf  ?_;rintro w m v H' ⟨hm,r⟩ hv g' hfr;obtain⟨ad,rfl,hF,⟨o',ho',nt'⟩,hb⟩:=hfr BC;obtain⟨a2,o,e2,ho,np,nt⟩:=zoL hb hm λb u e z=>by cases e;rw[ho'] at z;cases z;show nt'
 cases e2;have E1:=a.env.more g'.st hF ho np nt;have hnA:¬ A ad:=a.env.newF hF;show kk.nx (λb=>A b\/b=ad) _ H' _ m #[#[?_,?_,?_,E1.al],#[λb z=>.inl (a.frm.sub b z),λb z=>?_,λb o e n c=>g'.st b o (a.frm.st b o e n c) n,a.frm.al,a.frm.cn,λb z=>let ⟨o,e,n⟩:=a.frm.cs b z;#[o,g'.st b o e n,n]],a.pn.grow' g'.pn hF ho np nt,a.prot.trans (yk g'.st hF),#[λj hj=>?_,a.fix.2],λj u b hj e s=>?_] r;rw[b7,b7];show a.env.len;intro j u e;by_cases hj:j=i;subst hj
 have hl:j<D.length:=by
  have:=(ae.mp e).1;right
 rw[aW hl] at e;cases e;show#[.ref ad,aW (by rw[a.env.len];show hl),λz=>absurd hi z,λ_=>#[ad,BC,.inr BC,hb,hm]];rw[aF (Ne.symm hj)] at e ⊢;show E1.val j u e;intro j l u u' b hj hl hne e1 e2 s1 s2
 have own:∀q u,q∈M->q≠i->D[q]?=some (some u)->G[q]?≠some (some (.ref ad)):=λq u hq hqi eq sq=>by
  obtain⟨v,s,_,s3⟩:=a.env.val q u eq;obtain⟨c,ec,hc,_⟩:=s3 hq;right
 have len:∀q (u:W),(D.set i (some w))[q]?=some (some u)->q<G.length:=λq u e=>by have:=(ae.mp e).1;rw[b7] at this;rw[a.env.len];show this
 by_cases hji:j=i;subst hji;rw[aW (len _ _ e1)] at s1;cases s1;rw[aF hne] at e2 s2;show own l u' hl (Ne.symm hne) e2 s2;rw[aF (Ne.symm hji)] at e1 s1;by_cases hli:l=i;right;rw[aF (Ne.symm hli)] at e2 s2;show a.env.dis j l u u' b hj hl hne e1 e2 s1 s2;rcases z with z | z;show a.frm.new b z;subst z;show .inr (.inl (a.frm.back hF hnA));rw[aF λ(z:i=j)=>hs (by rw[z];show hj)];show a.fix.1 j hj;by_cases hji:j=i;subst hji
 have hl:j<G.length:=by
  have:=(ae.mp s).1;right
 rw[aW hl] at s;cases s;show .inl (a.frm.back hF hnA);rw[aF (Ne.symm hji)] at e s;show a.mine j u b hj e s]
def uK {i:Nat}{x:Str}{pos':Pos}(hN:X.N.Nodup)(he:JE X Pn M true e f)(hi:X.N[i]?=some x:=by rfl)(hx:Loc X.env.scope x:=by first | show Or.inl BC | show Or.inr BC)(hiM:i∈M:=by ext)(hiS:i∉S:=by ext)(hs:swapsWith e (some (.Name x pos')) pos.line X.env=pure false:=by rfl)(hf:X.fn x=true\/X.env.scope.names.lookup x=some .local:=by fail"l") :
  JS X Pn S M fr (.Assign [.Name x pos'] e pos) (zrv i f):=let ⟨te,q,r⟩:=he.ex;#[_,ux hN hi hx q hs hf,znp r hiM hiS]
def zoo {i:Nat}{st:Stmt}(h:∃te,QS X st (zhm te (zaL i))/\RE Pn M true te f)(hiM:i∈M:=by ext)(hiS:i∉S:=by ext):JS X Pn S M fr st (zrv i f):=let ⟨te,q,r⟩:=h;#[_,q,znp r hiM hiS]
variable {st:Stmt}{BG:List Stmt}{fs gs:Ms}
abbrev mNx:Ms:=λD n k=>k.nx D n
structure blk (g:Ms)(D:Ev)(n:Nat)(k:Kt):Prop where
 go:g D n k
def zqD {g:Ms}{D:Ev}{n:Nat}{k:Kt}(h:g D n k):blk g D n k:=#[h]
def zqC {g:Ms}{D:Ev}{n:Nat}{k:Kt}:blk g D n k=g D n k:=propext #[λh=>h.go,λh=>#[h]]
abbrev mSeq (f g:Ms):Ms:=λD n k=>f D n { k with nx:=λρ' n'=>blk g ρ' n' k }
def zuR (t:Ev->Mo Bool)(f g:Ms):Ms:=λD n k=>t D n λc m=>if c=true then blk f D m k else blk g D m k
def yd:JSs X Pn S M fr [] mNx:=#[_,zd9,#[λB A G H D n k BI a kk hf=>kk.nx A G H D n a hf]]
def zsN {t u:TS}(h1:RS Pn S M fr t fs)(h2:RS Pn S M fr u gs):RS Pn S M fr (zvF t u) (mSeq fs gs):=#[λB A G H D n k BI a kk hf=>
 h1.run B A G H D n { k with nx:=λρ' n'=>blk gs ρ' n' k } _ a #[λA' σ' H' ρ' n' a' r=>h2.run B A' σ' H' ρ' n' k BI a' kk r.go,kk.bk,kk.ct,kk.fc,kk.rt] hf]
def zc (h1:JS X Pn S M fr st fs)(h2:JSs X Pn S M fr BG gs):JSs X Pn S M fr (st::BG) (mSeq fs gs):=let ⟨t,q,r⟩:=h1.ex;let ⟨u,q2,r2⟩:=h2.ex;#[_,ya q q2,zsN r r2]
def zh (h1:JS X Pn S M fr st fs):JSs X Pn S M fr [st] fs:=let ⟨t,q,r⟩:=h1.ex;#[_,uV q,r]
def x3 {body other:List Stmt}{t:Ev->Mo Bool}(hc:JT X Pn M c t)(ha:JSs X Pn S M fr body fs)(hb:JSs X Pn S M fr other gs):JS X Pn S M fr (.If c body other pos) (zuR t fs gs):=by
 obtain⟨tc,qc,rc⟩:=hc.ex;obtain⟨ta,qa,ra⟩:=ha.ex;obtain⟨tb,qb,rb⟩:=hb.ex;show#[_,zmt qc qa qb,#[λB A G H D n k BI a kk hf=>?_]];show rc.run A G H D n _ _ a.env a.pn hf λc m H1 r g=>?_
 cases c with
 | true=>rw[if_pos rfl] at r ⊢;show ra.run B A G H1 D m k BI (a.step g) kk r.go
 | false=>rw[if_neg (by ext)] at r ⊢;show rb.run B A G H1 D m k BI (a.step g) kk r.go
abbrev zuP (f:AE):Ms:=λD n k=>f D n λ_ m=>k.nx D m
def zon (he:JE X Pn M fr' e f)(hs:swapsWith e none pos.line X.env=pure false:=by rfl):JS X Pn S M fr (.Expr e pos) (zuP f):=by obtain⟨te,q,r⟩:=he.ex;show#[_,zgg q hs,#[λB A G H D n k BI a kk hf=>r.run A G H D n _ _ a.env a.pn hf λw m v H' r' _ g _=>kk.nx A G H' D m (a.step g) r']]
def At3.wr {B:Bs}{A:AM}{G:St}{H:Hp}{D:Ev}{n:Nat}(h:At3 Pn B S M A G H D n){i:Nat}{w:W}{ad:Addr}{xs:AU}{l:AT}(hi:i∈M)(e:D[i]?=some (some w))(s:G[i]?=some (some (.ref ad)))(hl:IsL (zL A H) l xs):At3 Pn B S M A G (L2.upd H ad (.lst xs)) (D.set i (some (.d (.lst l)))) n:=by
 obtain⟨v,s1,_,s3⟩:=h.env.val i w e;rw[s] at s1;cases s1;obtain⟨a2,e2,hA,_,_⟩:=s3 hi;cases e2;have hlen:i<D.length:=(ae.mp e).1
 have hE:EnvR A M G (L2.upd H ad (.lst xs)) (D.set i (some (.d (.lst l)))):=by
  show#[by rw[b7];show h.env.len,λj u ej=>?_,λj q u u' b hj hq hne e1 e2=>?_,λb hb=>?_];by_cases hj:j=i;subst hj;rw[aW hlen] at ej;cases ej;show#[.ref ad,s,λz=>absurd hi z,λ_=>#[ad,BC,hA,#[ad,xs,BC,.inl zj,by rw[z5 hA];show hl],BC]];rw[aF (Ne.symm hj)] at ej;obtain⟨v,t1,t2,t3⟩:=h.env.val j u ej;show#[v,t1,λz=>?_,λz=>?_];change WAt _ _ _ _;rw[z5 hA];show t2 z;obtain⟨b,rfl,hb,hbb,hm⟩:=t3 z;have hne:b≠ad:=λq=>h.env.dis i j w u ad hi z (Ne.symm hj) e ej s (by rw[t1,q]);show#[b,BC,hb,?_,hm];change WAt _ _ _ _;rw[z5 hA]
  cases u with
  | d x=>
   cases x with
   | lst l=>obtain⟨a2,xs,e2,g1,g2⟩:=hbb;cases e2;show#[b,xs,BC,by unfold Rd;rw[ze hne];show g1,g2]
   | dct=>obtain⟨a2,xs,e2,g1,g2⟩:=hbb;cases e2;show#[b,xs,BC,by rw[ze hne];show g1,g2]
   | _=>cases hm
  | pen p=>cases hm
  | dk k=>obtain⟨a2,xs,e2,g1,g2⟩:=hbb;cases e2;show#[b,xs,BC,by rw[ze hne];show g1,g2]
  | dt k=>obtain⟨a2,xs,e2,g1,g2⟩:=hbb;cases e2;show#[b,xs,BC,by rw[ze hne];show g1,g2]
  | dn fz k=>obtain⟨a2,xs,e2,g1,g2⟩:=hbb;cases e2;show#[b,xs,BC,g1.imp λo _ e=>by rw[ze hne];show e,g2]
  | wd d fs kn=>cases hm
  | lf ls=>cases hm
  | cu k=>cases hm
  | ss P w k=>obtain⟨a2,xs,e2,g1,g2⟩:=hbb;cases e2;show#[b,xs,BC,by rw[ze hne];show g1,g2]
  | df k=>obtain⟨a2,ob,xs,e2,g1,g2⟩:=hbb;cases e2;show#[b,ob,xs,BC,by right,g2]
  | kf k=>obtain⟨a2,ob,xs,e2,g1,g2⟩:=hbb;cases e2;show#[b,ob,xs,BC,by right,g2]
  | ad a x=>cases hm
  | tz BE x=>cases hm
  | fl k=>obtain⟨a2,ob,xs,e2,g1,g2⟩:=hbb;cases e2;show#[b,ob,xs,BC,by right,g2]
  have get:∀q (u:W),(D.set i (some (.d (.lst l))))[q]?=some (some u)->∃u',D[q]?=some (some u'):=λq u z=>by
   by_cases hq:q=i;subst hq;show#[w,e];rw[aF (Ne.symm hq)] at z;show#[u,z]
  obtain⟨v1,f1⟩:=get j u e1;obtain⟨v2,f2⟩:=get q u' e2;show h.env.dis j q v1 v2 b hj hq hne f1 f2;by_cases hb':b=ad;subst hb';show#[_,zj,NP.lst,BC];rw[ze hb'];show h.env.al b hb
 show#[hE,#[h.frm.sub,h.frm.new,λb o eb nn nc=>?_,h.frm.al,h.frm.cn,λb z=>(by
  by_cases hb':b=ad;subst hb';show#[_,zj,NP.lst];rw[ze hb'];show h.frm.cs b z)],h.pn.upd hA,by rw[z5 hA];show h.prot,h.fix,λj u b hj ej sj=>?_]
 have hne:b≠ad:=λq=>by
  subst q;rcases h.mine i w b hi e s with z | z;show z o eb nn;show nc z
 rw[ze hne];show h.frm.st b o eb nn nc;by_cases hj':j=i;subst hj';show h.mine j w b hj e sj;rw[aF (Ne.symm hj')] at ej;show h.mine j u b hj ej sj
def ztB (i:Nat)(f:AE):Ms:=λD n k=>(∃l,D[i]?=some (some (.d (.lst l))))/\f D n λw m=>∃l d,D[i]?=some (some (.d (.lst l)))/\w = .d d/\l.length<lim/\k.nx (D.set i (some (.d (.lst (l++[d]))))) m
def zsK {K:AI}{te:TE}{i:Nat}(h:RE Pn M fr' te f)(hi:i∈M):RS Pn S M fr (zp2 (tBM K "list" zgh (znw i) (zeh te znv))) (ztB i f):=#[by
 rintro B A G H D n k BI a kk ⟨⟨l0,e0⟩,hf⟩;obtain⟨v,s1,_,s3⟩:=a.env.val i _ e0;obtain⟨ad,rfl,hA,hb,_⟩:=s3 hi;obtain⟨a2,xs0,e2,g0,_⟩:=hb;cases e2;show#[.ref ad,s1,.inl #[BC,_,.inl g0],?_];show h.run A G H D n _ _ a.env a.pn hf  ?_;rintro w m v H' ⟨l,d,e,ed,hz,r⟩ hv g _;subst ed;have a':=a.step g;obtain⟨v2,t1,_,t3⟩:=a'.env.val i _ e;rw[s1] at t1;cases t1;obtain⟨a3,e3,hA3,hb3,_⟩:=t3 hi;cases e3;obtain⟨a4,xs,e4,g4,hl⟩:=hb3;cases e4;show#[ad,xs,v,BC,BC,g4.own a'.env.al hA,zgY (by rw[hl.length];show dG hz),kk.nx A G _ _ m (a'.wr hi e s1 (hl.append (IsL.one hv.is))) r]]
def zbp (i:Nat){x:Str}{ap cp sp np:Pos}(he:JE X Pn M fr' e f)(hi:i∈M:=by ext)(hN:X.N[i]?=some x:=by rfl)(hv:Vis X.env.scope x:=by fail"v")(hd:Ai x:=by ext)
  (hcd:(x==("__classdict__" : Str))=false:=by ext) (hs1:starEach (e::[]) X.env=(false,eval e X.env)::starEach [] X.env:=by rfl) (hs:swapsWith (.Call (.Attribute (.Name x np) "append" ap) [e] [] cp) none sp.line X.env=pure false:=by rfl) (hbase:attributeBase (.Name x np) "append" X.env (eval (.Name x np) X.env)=eval (.Name x np) X.env:=by rfl) (hline:(ap.endLine==cp.line)=true:=by rfl)
  (hfew:((backTo cp (starEach [e] X.env)).all (λx=>!x.1)&&(backToKw cp (keywordEach [] X.env)).all (λx=>x.1.isSome)&&decide (([e]:AQ).length+([]:List Keyword).length+(if ([]:List Keyword).isEmpty then 0 else 1)<30))=true:=by rfl) (hplain:(backTo cp (starEach [] X.env)).any (·.1)=false:=by rfl) :
  JS X Pn S M fr (.Expr (.Call (.Attribute (.Name x np) "append" ap) [e] [] cp) sp) (ztB i f):=by
 obtain⟨te,q,r⟩:=he.ex;show#[_,zgg (zsk (qv i hN hv hd hcd) (zR q yQ hs1) hbase hfew hline hs1 hplain) hs,zsK r hi]
def zn3 (mg:W->Ev->(Ev->Prop)->Prop)(fb:Ms)(D:Ev)(k:Kt):AV->Nat->Prop:=λl n1=>∃I:Nat->Ev->Nat->Prop,I 0 D n1/\
 (∀i w ρ' n',l[i]?=some w->I i ρ' n'->mg w ρ' λρ1=>fb ρ1 n' { k with nx:=I (i+1),ct:=I (i+1),bk:=k.nx })/\∀ ρ' n',I l.length ρ' n'->k.nx ρ' n'
abbrev mFor (fi:AD) (mg:W->Ev->(Ev->Prop)->Prop) (fb:Ms):Ms:=λD n k=>fi D n (zn3 mg fb D k)
def zlw {B:Bs}{A:AM}{G:St}{H1:Hp}{D:Ev}{m:Nat}{k:Kt}{BI:Ends}{J:It}{l:AV}{g:TG}{tb:TS}{mg:W->Ev->(Ev->Prop)->Prop}{fb:Ms}(hg:RG (S++M) M g mg)(hb:RS Pn S M fr tb fb)(hS:9999∉S)(a1:At3 Pn B S M A G H1 D m)(kk:KOk Pn B S M fr k BI)(iv:ItV false A H1 J l)(hf:zn3 mg fb D k l m) :
  ∃W:Nat->Nat->St->Hp->Prop,(∃m,W 0 m G H1)/\∀i m G H,W i m G H->(J.stop i H/\BI.nx G H)\/(J.go i H/\∃N:St->Hp->Prop,(∀ σ' H',N σ' H'->∃m',m'<m/\W (i+1) m' σ' H')/\∀x H',J.yld i H x H'->g x G H' λσ2 H2=>tb { BI with nx:=N,ct:=N,bk:=BI.nx } σ2 H2):=by
 obtain⟨I,i0,it,ie⟩:=hf;have out:∀ {A':AM} {σ':St} {H':Hp} {ρ':Ev} {n':Nat},At3 Pn { B with G0:=zL A H1 } S M A' σ' H' ρ' n'->At3 Pn B S M A' σ' H' ρ' n':=λ{A' σ' H' ρ' n'} q=>#[q.env,q.frm,q.pn,a1.prot.trans q.prot,#[q.fix.1,a1.fix.2],q.mine];show#[λi mm σ' H'=>mm=l.length - i/\i<=l.length/\∃A' ρ' n',At3 Pn { B with G0:=zL A H1 } S M A' σ' H' ρ' n'/\I i ρ' n',#[l.length,by simp,aS _,A,D,m,#[a1.env,a1.frm,a1.pn,zo.refl _,#[a1.fix.1,λz=>absurd z hS],a1.mine],i0],?_];rintro i mm σ' H' ⟨rfl,hil,A',ρ',n',a',hI⟩;by_cases hlt:i<l.length
 show Or.inr ?_;have hget:l[i]?=some l[i]:=aj hlt;obtain⟨go,yl⟩:=iv.one i l[i] A' H' hget a'.prot (λz=>by cases z) λp hp=>a'.env.new hp;show#[go,λσ2 H2=>∃A' ρ' n',At3 Pn { B with G0:=zL A H1 } S M A' σ2 H2 ρ' n'/\I (i+1) ρ' n',λσ2 H2 h=>#[l.length - (i+1),by lia,BC,hlt,h],λx H2 hy=>?_];obtain⟨S2,V2⟩:=yl x H2 hy;have a2:=a'.step (Go.same a'.pn S2);show hg.run A' σ' H2 ρ' x l[i] _ _ a2.env V2 (it i l[i] ρ' n' hget hI) λσ3 ρ3 r3 E3 f3=>?_;show hb.run { B with G0:=zL A H1 } A' σ3 H2 ρ3 n' _ _ (EnvR.mineG a2 E3 f3) #[?_,?_,?_,kk.fc,?_] r3
 show λA4 σ4 H4 ρ4 n4 a4 r4=>#[A4,ρ4,n4,a4,r4];show λA4 σ4 H4 ρ4 n4 a4 r4=>kk.nx A4 σ4 H4 ρ4 n4 (out a4) r4;show λA4 σ4 H4 ρ4 n4 a4 r4=>#[A4,ρ4,n4,a4,r4];show kk.rt;show Or.inl ?_;have hie:i=l.length:=by lia
 subst hie;show#[iv.stop A' H' a'.prot (λz=>by cases z),kk.nx A' σ' H' ρ' n' (out a') (ie ρ' n' hI)]
def zsL {wi:TI}{g:TG}{tb:TS}{fi:AD}{mg:W->Ev->(Ev->Prop)->Prop}{fb:Ms}(hi:RI Pn M false wi fi)(hg:RG (S++M) M g mg)(hb:RS Pn S M fr tb fb)(hS:9999∉S):RS Pn S M fr (zvC wi g tb) (mFor fi mg fb):=#[λB A G H D n k BI a kk hf=>hi.run A G H D n _ _ a.env a.pn hf λl m J H1 hl iv g1=>zlw hg hb hS (a.step g1) kk iv hl]
def yt {tg iter:Expr}{body:List Stmt}{fi:AD}{mg:W->Ev->(Ev->Prop)->Prop}{fb:Ms}(hp:PassesOwn (model X.prog X.w) X.A X.env X.xe)(hc:X.calm=true)(hi:JI X Pn M false tg iter fi)(hg:JG X (S++M) M tg mg)(hb:JSs X Pn S M fr body fb)(hs:∀x,foldedSetIterable iter X.env x=pure x:=by intro _;rfl)(hS:9999∉S:=by ext) :
  JS X Pn S M fr (.For tg iter body [] pos) (mFor fi mg fb):=by
 obtain⟨ti,qi,ri⟩:=hi.ex;obtain⟨tg',qg,rg⟩:=hg.ex;obtain⟨tb,qb,rb⟩:=hb.ex;show#[_,zsr hp hc qi qg qb hs,zsL ri rg rb hS]
def za5 (N:AN)(ws:AV):Ev:=ws.map some++List.replicate (N.length - ws.length) none
theorem zc2.get {A:AM}{H:Hp}:∀ {ws:AV} {vs:AU} {i:Nat} {w:W},zc2 A H ws vs->ws[i]?=some w->∃v,vs[i]?=some v/\Val A H w v
 | [],_,_,_,_,e=>by simp at e
 | x::ws,vs,0,w,⟨v,r,e1,h1,_⟩,e=>by right
 | x::ws,vs,i+1,w,⟨v,r,e1,_,h2⟩,e=>by
  subst e1;obtain⟨u,h3,h4⟩:=zc2.get (i:=i) h2 (by simpa using e);right
def ziV {A:AM}{H:Hp}{N:AN}{ws:AV}{vs:AU}(al:Al A H)(h:zc2 A H ws vs)(hM:∀i∈M,ws.length<=i):EnvR A M (L2.ul N vs) H (za5 N ws) where
 len:=by unfold L2.ul za5;rw[ay,ay,ab,ab,List.length_replicate,List.length_replicate,h.len]
 val:=λi w e=>by
  unfold za5 at e
  have hi:i<ws.length:=by
   apply cE;intro z;rw[bm (by right)] at e;obtain⟨_,q⟩:=ae.mp e;right
  rw[bv (by right),aA] at e;obtain⟨w',e1,e2⟩:=aB.mp e;cases e2;obtain⟨v,h1,h2⟩:=h.get e1;show#[v,?_,λ_=>h2,λz=>absurd (hM i z) (by lia)];unfold L2.ul;have hi':i<vs.length:=by rw[h.len];show hi
  rw[bv (by right),aA,h1];rfl
 dis:=λi j w u ad hi hj hne e1=>by
  unfold za5 at e1;have:=hM i hi;rw[bm (by right)] at e1;obtain⟨_,q⟩:=ae.mp e1;right
 al:=al
def zrC {P:Ab}{w:Ac}{K:AI}{mg:AJ}{base:Heap}{qual:Str}{st:Stmt}{f:Addr}{fd:Ae}{N ps:AN}{k m:Nat}{F:PN->AV->Mo W}(M:AS)(okq:(∀vs H Q E,spV m fr F vs H Q E->vs.length=ps.length)->(∀ (cdv:Value) (A:Af) (outer:List Env) (s:Aa) (H:Hp) (vs:AU) (Q:VK) (E:XK),Room k (A.deeper (PyProof.Rows.envOfC qual (zf st) s.heap.objs.size f cdv))->spV m fr F vs H Q E->
   ∃t,QSs (zfA CX0 P w K mg base N qual (zf st) f cdv A outer s H E).nox (yC st) t/\t { nx:=λ_ H'=>Q .non H',rt:=Q } (L2.ul N vs) H)->FnOk P w K mg base CX0 (k+1) f fd ps (spV m fr F)) (hm:m=ps.length) (hM:∀i∈M,m<=i)
  (hbody:∀ (cdv:Value) (A:Af) (outer:List Env) (s:Aa) (H:Hp) (E:XK) (Pn:PN),Room k (A.deeper (PyProof.Rows.envOfC qual (zf st) s.heap.objs.size f cdv))->
   ∃fs,JSs (zfA CX0 P w K mg base N qual (zf st) f cdv A outer s H E).nox Pn [] M fr (yC st) fs/\∀ws n R,ws.length=m->F Pn ws n R->fs (za5 N ws) n { nx:=λ_ n'=>fr=false/\R (.d .non) n',rt:=R }):FnOk P w K mg base CX0 (k+1) f fd ps (spV m fr F):=by
 show okq (λvs H Q E h=>?_) (λcdv A outer s H vs Q E hr h=>?_);obtain⟨Pn,A,ws,n,R,_,hv,hl,_⟩:=h;rw[hv.len,hl,hm];obtain⟨Pn,A3,ws,n,R,al,hv,hl,hp,hF,q⟩:=h;obtain⟨fs,⟨t,qs,rs⟩,hfs⟩:=hbody cdv A outer s H E Pn hr;show#[t,qs,rs.run { A0:=A3,H0:=H,G0:=zL A3 H,σ0:=L2.ul N vs } A3 (L2.ul N vs) H (za5 N ws) n _ _ #[ziV al hv (λi hi=>by right),#[λ_ z=>z,λ_ z=>.inl z,.of (zo.refl _),al,λ_ z=>z.elim,λ_ z=>z.elim],hp,zo.refl _,#[λi hi=>rfl,λz=>by cases z],λi w a hi e=>?_] #[?_,?_,?_,λ_ z=>z,?_] (hfs ws n R hl hF)];show absurd e (by unfold za5;have:=hM i hi;rw[bm (by right)];intro z;obtain⟨_,q⟩:=ae.mp z;rw[List.getElem_replicate] at q;cases q);intro A' σ' H' ρ' n' a' ⟨hfr,r⟩;show q _ n' .non H' r (Val.of (show Is _ .non .non from rfl)) #[a'.frm.st.stay,a'.pn.less a'.frm.sub] λz=>by rw[hfr] at z;cases z
 right;right;intro w n' v H' hv' st pn hfr r;show q w n' v H' r hv' #[st.stay,pn] hfr
variable {p2:Pos}
def zoC (B:Dt->Bool)(f:AE):AE:=λD n Q=>f D n λw m=>∃d,w = .d d/\Q (.d (.bl (B d))) m
def zkw {K:AI}{T:String}{B:Dt->Bool}{te:TE}(hk:∀d:Dt,PySem.W.kitOne K (.type d.ty) (.type T)=some (B d))(h:RB Pn M te f):RE Pn M false (tCB (λxs H Q=>∃x T t b,xs=[x,.ty T]/\TyOf K H x t/\PySem.W.kitOne K t (.type T)=some b/\Q (.bl b) H) (zeh te (zeh (tC (.ty T)) znv))) (zoC B f):=#[λA G H D n Q R E P hf k=>by show h.run A G H D n _ _ E P hf  ?_;rintro w m v H' ⟨d,e,r⟩ bb g;subst e;show#[v,T,_,_,BC,bb.is.ty,hk d,k _ m _ H' r (Val.of BC) g λz=>by cases z]]
abbrev isStr:Dt->Bool
 | .str _=>true
 | _=>false
abbrev isDct:Dt->Bool
 | .dct=>true
 | _=>false
def zoj {T:String}{x:Str}{B:Dt->Bool}(hk:∀d:Dt,PySem.W.kitOne X.K (.type d.ty) (.type T)=some (B d))(hv:bootBuiltins x=some (.type T))(hg2:Gl X x)(hn:x ≠ "__name__")(hd:(x==("__debug__" : Str))=false)(hg:Gl X "isinstance")(hm:X.mg "isinstance" = none)(hm2:X.mg x=none)(h:JB X Pn M e f)
  (hs1:starEach (e::[.Name x p2]) X.env=(false,eval e X.env)::starEach [.Name x p2] X.env) (hs2:starEach (.Name x p2::[]) X.env=(false,eval (.Name x p2) X.env)::starEach [] X.env) (hpl:(backTo pos (starEach [.Name x p2] X.env)).any (·.1)=false):JE X Pn M false (.Call (.Name "isinstance" p) [e,.Name x p2] [] pos) (zoC B f):=by
 obtain⟨te,q,r⟩:=h.ex;show#[_,yY ziz hg hm PyProof.Rows.boot_isinstance (zR q (zR (zpr (v:=.ty T) hg2 hm2 hv BC hn hd) yQ hs2) hs1) (by ext) (by ext) hs1 hpl,zkw hk r]
def zcR (hg:Gl X "isinstance")(hm:X.mg "isinstance" = none)(hm2:X.mg "tuple" = none)(h:JB X Pn M e f)(hg2:Gl X "tuple" := by rfl)(hs1:starEach (e::[.Name "tuple" p2]) X.env=(false,eval e X.env)::starEach [.Name "tuple" p2] X.env:=by rfl)(hs2:starEach (.Name "tuple" p2::[]) X.env=(false,eval (.Name "tuple" p2) X.env)::starEach [] X.env:=by rfl)(hpl:(backTo pos (starEach [.Name "tuple" p2] X.env)).any (·.1)=false:=by rfl) :
  JE X Pn M false (.Call (.Name "isinstance" p) [e,.Name "tuple" p2] [] pos) (zoC Dt.isTup f):=zoj (zou _) bV hg2 (by ext) (by ext) hg hm hm2 h hs1 hs2 hpl
def zeI (hg:Gl X "isinstance")(hm:X.mg "isinstance" = none)(hm2:X.mg "int" = none)(h:JB X Pn M e f)(hg2:Gl X "int" := by rfl)(hs1:starEach (e::[.Name "int" p2]) X.env=(false,eval e X.env)::starEach [.Name "int" p2] X.env:=by rfl)(hs2:starEach (.Name "int" p2::[]) X.env=(false,eval (.Name "int" p2) X.env)::starEach [] X.env:=by rfl)(hpl:(backTo pos (starEach [.Name "int" p2] X.env)).any (·.1)=false:=by rfl) :
  JE X Pn M false (.Call (.Name "isinstance" p) [e,.Name "int" p2] [] pos) (zoC Dt.isInt f):=zoj (zot _) PyProof.Rows.boot_int hg2 (by ext) (by ext) hg hm hm2 h hs1 hs2 hpl
def zdK (hg:Gl X "isinstance")(hm:X.mg "isinstance" = none)(hm2:X.mg "bool" = none)(h:JB X Pn M e f)(hg2:Gl X "bool" := by rfl)(hs1:starEach (e::[.Name "bool" p2]) X.env=(false,eval e X.env)::starEach [.Name "bool" p2] X.env:=by rfl)(hs2:starEach (.Name "bool" p2::[]) X.env=(false,eval (.Name "bool" p2) X.env)::starEach [] X.env:=by rfl)(hpl:(backTo pos (starEach [.Name "bool" p2] X.env)).any (·.1)=false:=by rfl) :
  JE X Pn M false (.Call (.Name "isinstance" p) [e,.Name "bool" p2] [] pos) (zoC Dt.isBl f):=zoj (zrk _) PyProof.Rows.boot_bool hg2 (by ext) (by ext) hg hm hm2 h hs1 hs2 hpl
def zib (n:Nat):AT:=(List.range n).map λi:Nat=>Dt.int i
def zji {BH:Hp}(n:Nat):IsL BH (zib n) ((List.range n).map λi:Nat=>V.int i):=by
 have e1:zib n=(((List.range n).map λi:Nat=>(i:Int))).map Dt.int:=by unfold zib;rw[ar];rfl
 have e2:((List.range n).map λi:Nat=>V.int i)=(((List.range n).map λi:Nat=>(i:Int))).map V.int:=by rw[ar];rfl
 rw[e1,e2];show IsL.ints
def zdQ (fa:AD):AE:=λD n Q=>fa D n λws m=>∃j:Nat,ws=[.d (.int (j:Int))]/\j<=1000/\Q (.d (.lst (zib j))) m
def zeJ {q:Pos}{pr:Pos}{fs:AD}(hm:X.mg "list" = none)(hm2:X.mg "range" = none)(ha:JAB X Pn M [a] fs)(hc:X.calm=true:=by rfl)(hg:Gl X "list" := by rfl)(hg2:Gl X "range" := by rfl)(hs:starEach (a::[]) X.env=(false,eval a X.env)::starEach [] X.env:=by rfl)(hs2:starEach (.Call (.Name "range" pr) [a] [] q::[]) X.env=(false,eval (.Call (.Name "range" pr) [a] [] q) X.env)::starEach [] X.env:=by rfl)
  (hp1:(backTo q (starEach [] X.env)).any (·.1)=false:=by rfl) (hp2:(backTo pos (starEach [] X.env)).any (·.1)=false:=by rfl):JE X Pn M true (.Call (.Name "list" p) [.Call (.Name "range" pr) [a] [] q] [] pos) (zdQ fs):=by
 obtain⟨ta,qa,ra⟩:=ha.ex;show#[_,zaY (zfJ hc) hg hm cW (zR (zaY zlk hg2 hm2 PyProof.Rows.boot_range qa (by ext) (by ext) hs hp1) yQ hs2) (by ext) (by ext) hs2 hp2,#[λA G H D n Q R E P hf k=>?_]];show ra.run A G H D n _ _ E P hf  ?_;rintro ws m vs H1 ⟨j,e,hj,r⟩ bb g;subst e;obtain⟨v,rfl,b1⟩:=zbF bb;obtain rfl:=yJ b1;show#[_,BC,λp1 H2 np g2 S2=>#[p1,j,BC,g2,hj,λp3 H3 np3 g3 S3=>?_]];have g12:=g.trans (Go.same g.pn S2);show k _ m _ H3 r (uo (H:=H2) (zji j) (zo.same S3) ((E.stay g12.st).new np3) g3) (g12.trans (Go.same g12.pn S3)) λ_=>(uI (H:=H2) (zji j) S3 np3 g3).back g12.st
abbrev truD:W->Option Bool
 | .d (.lst l)=>some (!l.isEmpty)
 | .d (.tup l)=>some (!l.isEmpty)
 | .d (.bl b)=>some b
 | .d (.int i)=>some (i != 0)
 | .d .non=>some false
 | _=>none
def zu0 (f:AE):Ev->Mo Bool:=λD n Q=>f D n λw m=>∃b,truD w=some b/\Q b m
def zex {BH:Hp}{l:AT}{xs:AU}(h:IsL BH l xs):xs.isEmpty=l.isEmpty:=by have:=h.length;cases l <;> cases xs <;> right
def zdM (h:JB X Pn M e f)(he:∀whole,isTrue e X.env whole=(do let v <- whole;standAt e.pos;holding [v] (truthy v)):=by intro _;rfl):JT X Pn M e (zu0 f):=by
 obtain⟨te,q,r⟩:=h.ex;show#[_,zmw q he,#[λA G H D n Q R E P hf k=>?_]];show r.run A G H D n _ _ E P hf λw m v H1 ⟨b,e,r⟩ bb g=>#[b,?_,k b m H1 r g]
 cases w with
 | d x=>
  cases x with
  | lst l=>cases e;obtain⟨ad,xs,rfl,h1,h2⟩:=xk bb;show .inl #[xs,.inl h1,by rw[zex h2]]
  | tup l=>cases e;obtain⟨ad,xs,rfl,h1,h2⟩:=ud bb;show .inr (.inl #[xs,.of h1,by rw[zex h2]])
  | bl b=>cases e;obtain rfl:=zqE bb;rfl
  | int b=>cases e;obtain rfl:=yJ bb;rfl
  | non=>cases e;have:v = .non:=bb;subst this;rfl
  | str _=>cases e
  | dct=>cases e
 | _=>cases e
def zeS (F BH:W->W->Mo W)(fa fb fc:AE):AE:=λD n Q=>fa D n λx n1=>fb D n1 λy n2=>F x y n2 λz n3=>∃k,z = .d (.bl k)/\if k=true then fc D n3 λu n4=>BH y u n4 Q else Q (.d (.bl false)) n3
def zmz {r r':R2}{F BH:W->W->Mo W}{ta tb tc:TE}(hr:F2 Pn false r F)(hr':F2 Pn false r' BH)(ha:RB Pn M ta fa)(hb:RB Pn M tb fb)(hc:RB Pn M tc fc):RE Pn M false (zkP r r' ta tb tc) (zeS F BH fa fb fc):=#[λA G H D n Q R E P hf k=>by
 show ha.run A G H D n _ _ E P hf λx n1 v1 H1 r1 b1 g1=>?_;show hb.run A G H1 D n1 _ _ (E.stay g1.st) g1.pn r1 λy n2 v2 H2 r2 b2 g2=>?_;have g:=g1.trans g2;show hr.run A H2 v1 v2 x y n2 _ _ (E.stay g.st).al (b1.stay g2.st) b2 g2.pn r2  ?_;rintro w m v H' ⟨c,e,h1⟩ h2 h3 h4;subst e;have hv:v = .bl c:=h2;show#[c,hv,?_];have g3:=g.trans h3
 cases c with
 | false=>rw[if_neg (by ext)] at h1 ⊢;show k _ m _ H' h1 (Val.of BC) g3 λz=>by cases z
 | true=>
  rw[if_pos rfl] at h1 ⊢;show hc.run A G H' D m _ _ (E.stay g3.st) g3.pn h1 λu n4 v4 H4 r4 b4 g4=>?_;show hr'.run A H4 v2 v4 y u n4 _ _ (E.stay (g3.trans g4).st).al (b2.stay (h3.trans g4).st) b4 g4.pn r4 λw5 m5 v5 H5 a1 a2 a3 a4=>k w5 m5 v5 H5 a1 a2 ((g3.trans g4).trans a3) λz=>by cases z]
def zlK {op op':CmpOp}{r r':R2}{F BH:W->W->Mo W}(ho:OpQ X (compareOp op) r)(ho':OpQ X (compareOp op') r')(hr:F2 Pn false r F)(hr':F2 Pn false r' BH)(ha:JB X Pn M a fa)(hb:JB X Pn M b fb)(hc:JB X Pn M c fc)(hm:lastMarks [op,op'] [b,c]=false:=by with_unfolding_all rfl):JT X Pn M (.Compare a [op,op'] [b,c] pos) (zjJ (zeS F BH fa fb fc)):=by obtain⟨ta,qa,ra⟩:=ha.ex;obtain⟨tb,qb,rb⟩:=hb.ex;obtain⟨tc,qc,rc⟩:=hc.ex;show#[_,zmv ho ho' qa qb qc hm,zkB (zmz hr hr' ra rb rc).rb]
def At3.own {B:Bs}{A:AM}{G:St}{H:Hp}{D:Ev}{n:Nat}(h:At3 Pn B S M A G H D n){i:Nat}{l:AT}(hi:i∈M)(e:D[i]?=some (some (.d (.lst l)))):∃ad xs,G[i]?=some (some (.ref ad))/\A ad/\H ad=some (.lst xs)/\IsL (zL A H) l xs:=by obtain⟨v,s1,_,s3⟩:=h.env.val i _ e;obtain⟨ad,rfl,hA,hb,_⟩:=s3 hi;obtain⟨a2,xs,e2,g0,hl⟩:=hb;cases e2;show#[ad,xs,s1,hA,g0.own h.env.al hA,hl]
end
section
variable {A:AM}{H:Hp}
def zvX {w:W}{vs:AU}(h:zc2 A H [w] vs):∃v,vs=[v]/\Val A H w v:=by obtain⟨v,r,e,h1,h2⟩:=h;cases h2;show#[v,e,h1]
def ztj {w u:W}{vs:AU}(h:zc2 A H [w,u] vs):∃v y,vs=[v,y]/\Val A H w v/\Val A H u y:=by obtain⟨v,r,e,h1,h2⟩:=h;obtain⟨y,rfl,h3⟩:=zvX h2;show#[v,y,e,h1,h3]
def ztk {st:AH}{v:V}(h:Val A H (.d (stD st)) v):∃a,v = .ref a/\H a=some (.tup (st.map V.int)):=by obtain⟨a,xs,e,h1,h2⟩:=h;obtain rfl:=h2.of_ints;show#[a,e,zG _ _ h1]
end
structure RoomOk (rm:AH):Prop where
 ne:rm≠[]
 few:rm.length<=8
 box:∀r∈rm,2<=r/\r<=4
abbrev FV:=PN->AV->Mo W
def ztO (k:Nat)(fr:Bool)(F:FV)(sp:Sp):Prop:=∀vs H Q E,spV k fr F vs H Q E->sp vs H Q E
def FnOk.lift {P:Ab}{w:Ac}{K:AI}{mg:AJ}{base:Heap}{CX:CXT}{j k:Nat}{f:Addr}{fd:Ae}{ps:AN}{sp:Sp}{fr:Bool}{F:FV}(h:FnOk P w K mg base CX j f fd ps sp)(l:ztO k fr F sp):FnOk P w K mg base CX j f fd ps (spV k fr F):=h.imp l
def zic:FV:=λPn ws n R=>∃p c ns zu,Pn=#[some (p,c,ns),J0]/\ws=[.pen p,.d (.int zu)]/\n<=1000000/\1<=zu/\zu<1073741824/\∀r,0<=r->r<zu->R (.d (.int r)) (n+1)
def zjx:ztO 2 false zic zkM:=by rintro vs H Q E ⟨Pn,A,ws,n,R,al,hv,hl,hp,⟨p,c,ns,zu,rfl,rfl,h1,h2,h3,h4⟩,q⟩;obtain⟨v,y,rfl,b1,b2⟩:=ztj hv;have e1:v = .ref p:=b1;have e2:y = .int zu:=b2;subst e1 e2;show#[p,c,ns,n,zu,BC,hp.1.1,h1,h2,h3,λr H' r0 r1 P' S'=>q _ (n+1) _ H' (h4 r r0 r1) (Val.of BC) #[S',#[P',hp.1.2],trivial] λz=>by cases z]
abbrev ztq:FV:=λPn ws n R=>∃p c ns most,Pn=#[some (p,c,ns),J0]/\ws=[.pen p,.d (.int most)]/\n+20<=1000000/\4<=most/\most<=256/\∀rm,RoomOk rm->zbm rm<=most->R (.d (stD rm)) (n+10)
abbrev zmR:FV:=λPn ws n R=>∃p c ns rm,Pn=#[some (p,c,ns),J0]/\ws=[.pen p,.d (stD rm)]/\n+20<=1000000/\RoomOk rm/\∀st,st.length=rm.length->(∀b:Int,0<=b->b<rm.length->0<=zu st b/\zu st b<zu rm b)->R (.d (stD st)) (n+10)
abbrev xC (g:List (Int×Int)):Dt:=.tup (g.map zK)
abbrev zqs:FV:=λPn ws n R=>∃p c ns rm apart,Pn=#[some (p,c,ns),J0]/\ws=[.pen p,.d (stD rm),.d (.int apart)]/\n+40<=1000000/\RoomOk rm/\∀g,Giv rm g->(∀q∈g,q.1≠apart)->g.length<=8->R (.d (xC g)) (n+30)
abbrev ztN:FV:=λ_ ws n R=>∃d,ws=[.d d]/\R (.d (.bl d.isWhole)) n
abbrev ztM:FV:=λ_ ws n R=>∃a b,ws=[.d (.bl a),.d (.bl b)]/\R (.d (.bl (a==b))) n
abbrev F_prod:FV:=λ_ ws n R=>∃ns:AH,ws=[.d (stD ns)]/\(∀n∈ns,2<=n/\n<=4)/\R (.d (.int (zbm ns))) n
abbrev ztL:FV:=λ_ ws n R=>∃st g,ws=[.d (stD st),.d (xC g)]/\(∀q∈g,0<=q.1/\q.1<st.length)/\R (.d (.bl (yW st g))) n
abbrev zhk (BG:AG):Dt:=.lst (BG.map stD)
abbrev F_all:FV:=λ_ ws n R=>∃rm,ws=[.d (stD rm)]/\RoomOk rm/\zbm rm<=256/\R (.d (zhk (ztU (rm.map zn)))) n
abbrev lsD (c:AH):Dt:=.lst (c.map .int)
abbrev zqm:FV:=λ_ ws n R=>∃cs:AG,ws=[.d (.lst (cs.map lsD))]/\cs.length<=8/\(∀c∈cs,c.length<=4)/\R (.d (zhk (ztU cs))) n
def zu6 {P:Ab}{w:Ac}{K:AI}{mg:AJ}{base:Heap}{x qual:Str}{st:Stmt}{f:Addr}{fd:Ae}{N ps:AN}{k r:Nat}{S:AS}(M:AS)(Fu:Fun K x qual st f fd)(Sc:FnScope N ps (zf st))(hps:ps.length=1)(hN:N.length=r+2)(hM:∀i∈M,2<=i)
  (hbody:∀ (cdv:Value) (A:Af) (outer:List Env) (s:Aa) (H:Hp) (E:XK) (Pn:PN),Room k (A.deeper (PyProof.Rows.envOfC qual (zf st) s.heap.objs.size f cdv))->
   ∃s1 yD fs,yC st=s1::yD/\QS (zfA CX0 P w K mg base N qual (zf st) f cdv A outer s H E).nox s1 (zhm (zh2 (zmK K) [] E0 (zeh (znw 0) znv)) (zaL 1))/\
    JSs (zfA CX0 P w K mg base N qual (zf st) f cdv A outer s H E).nox Pn S M false yD fs/\∀p c ns,Pn=#[some (p,c,ns),J0]->fs (none::some (.pen p)::List.replicate r none) 0 { nx:=λ_ _=>False,rt:=λw _=>w = .d (.bl true) }):FnOk P w K mg base CX0 (k+1) f fd ps (zkN K):=by
 show Fun.okQ Fu Sc (λvs H Q E h=>?_) (λcdv A outer s H vs Q E hr h=>?_);obtain⟨a,ns,rfl,_⟩:=h;show hps.symm;obtain⟨a,ns,rfl,hS,hl,q⟩:=h;have ctx:=λ(Pn:PN)=>hbody cdv A outer s H E Pn hr;have hN1:L2.ul N [.ref a]=some (.ref a)::none::List.replicate r none:=by unfold L2.ul;rw[hN];rfl
 have hd:∃s1 yD,yC st=s1::yD:=let ⟨s1,yD,_,e,_⟩:=ctx #[none,J0];#[s1,yD,e];obtain⟨s1,yD,e0⟩:=hd;rw[e0];have c2:∀Pn,∃fs,JSs (zfA CX0 P w K mg base N qual (zf st) f cdv A outer s H E).nox Pn S M false yD fs/\∀p c ns,Pn=#[some (p,c,ns),J0]->fs (none::some (.pen p)::List.replicate r none) 0 { nx:=λ_ _=>False,rt:=λw _=>w = .d (.bl true) }:=λPn=>by obtain⟨s1',rest',fs,e,_,h1,h2⟩:=ctx Pn;rw[e0] at e;cases e;show#[fs,h1,h2]
 have q1:QS (zfA CX0 P w K mg base N qual (zf st) f cdv A outer s H E).nox s1 (zhm (zh2 (zmK K) [] E0 (zeh (znw 0) znv)) (zaL 1)):=by
  obtain⟨s1',rest',fs,e,h0,_⟩:=ctx #[none,J0];right
 show#[_,ya q1 (u:=λBI G H=>∃Pn,(c2 Pn).choose_spec.1.ex.choose BI G H) #[λBD s' G H BI I ⟨Pn,z⟩=>(c2 Pn).choose_spec.1.ex.choose_spec.1.run BD s' G H BI I z],?_];show#[.ref a,by rw[hN1];rfl,a,ns,BC,hS,hl,λp c H1 P1 S1=>#[#[some (p,c,ns),J0],?_]];have hs:=(c2 #[some (p,c,ns),J0]).choose_spec.2 p c ns BC;have e1:(L2.ul N [.ref a]).set 1 (some (.ref p))=some (.ref a)::some (.ref p)::List.replicate r none:=by rw[hN1];rfl
 rw[e1]
 have hnone:∀i (u:W),(none::some (.pen p)::List.replicate r none:Ev)[i]?=some (some u)->i=1/\u = .pen p:=λi u e=>by
  match i,e with
  | 0,e=>simp at e
  | 1,e=>show#[BC,by simpa using e.symm]
  | i+2,e=>
   simp only[bC] at e;obtain⟨_,q⟩:=ae.mp e;right
 show (c2 #[some (p,c,ns),J0]).choose_spec.1.ex.choose_spec.2.run { A0:=λ_=>False,H0:=λ_=>none,G0:=λ_=>none,σ0:=some (.ref a)::some (.ref p)::List.replicate r none } (λ_=>False) _ H1 _ 0 _ _ #[#[?_,?_,?_,λ_ z=>z.elim],#[λ_ z=>z,λ_ z=>z.elim,(λb o (z:(none:Option HO)=some o)=>nomatch z),λ_ z=>z.elim,λ_ z=>z.elim,λ_ z=>z.elim],#[#[P1,λz=>z,λz=>z],trivial],(λb o (z:(none:Option HO)=some o)=>nomatch z),#[λi hi=>rfl,λ_=>#[λb xs (z:(none:Option HO)=some (.lst xs))=>(nomatch z),λb xs (z:(none:Option HO)=some (.lst xs))=>(nomatch z)]],?_] #[?_,?_,?_,λ_ z=>z,?_] hs;simp;intro i u e;obtain⟨rfl,rfl⟩:=hnone i u e;show#[.ref p,BC,λ_=>rfl,λz=>absurd (hM 1 z) (by lia)];intro i j u u' b hi hj hne e1;obtain⟨rfl,rfl⟩:=hnone i u e1;show absurd (hM 1 hi) (by lia);intro i u b hi e;obtain⟨rfl,rfl⟩:=hnone i u e;show absurd (hM 1 hi) (by lia);intro _ _ _ _ _ _ z;show z.elim;intro _ _ _ _ _ _ z;show z.elim;intro _ _ _ _ _ _ z;show z.elim;intro w n' v H' hv st pn _ r;have r':w = .d (.bl true):=r;subst r';have:v = .bl true:=hv;subst this;show q H'
def ziv {α:Type}{l:AV}{ρ0:Ev}{n:Nat}{mg:W->Ev->(Ev->Prop)->Prop}{ft:Ev->Mo Bool}{fe:AE}{Q:AW}(xs:List α)(toW:α->W)(hl:l=xs.map toW)(J:Ev->Prop)(P:α->Bool)(E:α->Dt)(hlim:xs.length<=lim)(j0:J ρ0)
  (h:∀a∈xs,∀ ρ',J ρ'->∀C:Ev->Nat->Option Dt->Prop,(∀ ρ1,J ρ1->C ρ1 n (if P a then some (E a) else none))->mg (toW a) ρ' λρ1=>ft ρ1 n λb n2=>if b=true then fe ρ1 n2 λx n3=>∃d,x = .d d/\C ρ1 n3 (some d) else C ρ1 n2 none)
  (fin:Q (.d (.lst ((xs.filter P).map E))) n):zfH mg ft fe ρ0 Q l n:=by
 subst hl;show#[by right,λi ρ' n' acc=>J ρ'/\n'=n/\acc=((xs.take i).filter P).map E,#[j0,BC,by simp],?_,?_];rintro i w ρ' n' acc hw ⟨hj,rfl,rfl⟩;rw[aA] at hw;obtain⟨a,ha,rfl⟩:=aB.mp hw
 have:=h a (az ha) ρ' hj (λρ1 n3 o=>match o with
  | some d=>J ρ1/\n3=n'/\((xs.take i).filter P).map E++[d]=((xs.take (i+1)).filter P).map E
  | none=>J ρ1/\n3=n'/\((xs.take i).filter P).map E=((xs.take (i+1)).filter P).map E) (λρ1 hj1=>by
   rw[zi ha,c8,aH];by_cases hp:P a=true;right;rw[if_neg hp];show#[hj1,BC,by simp[hp]])
 show this;grind
def zlh {α:Type}{l:AV}{ρ0:Ev}{n:Nat}{mg:W->Ev->(Ev->Prop)->Prop}{fe:AE}{Q:AW}(xs:List α)(toW:α->W)(hl:l=xs.map toW)(J:Ev->Prop)(E:α->Dt)(hlim:xs.length<=lim)(j0:J ρ0)
  (h:∀a∈xs,∀ ρ',J ρ'->∀C:Ev->Nat->Dt->Prop,(∀ ρ1,J ρ1->C ρ1 n (E a))->mg (toW a) ρ' λρ1=>fe ρ1 n λx n3=>∃d,x = .d d/\C ρ1 n3 d)
  (fin:Q (.d (.lst (xs.map E))) n):zfH mg zu2 fe ρ0 Q l n:=by
 subst hl;show#[by right,λi ρ' n' acc=>J ρ'/\n'=n/\acc=(xs.take i).map E,#[j0,BC,by simp],?_,?_];rintro i w ρ' n' acc hw ⟨hj,rfl,rfl⟩;rw[aA] at hw;obtain⟨a,ha,rfl⟩:=aB.mp hw;show h a (az ha) ρ' hj (λρ1 n3 d=>J ρ1/\n3=n'/\(xs.take i).map E++[d]=(xs.take (i+1)).map E) λρ1 hj1=>#[hj1,BC,by rw[zi ha,aH];rfl];grind
def zn4 {r:Nat}{D:Ev}{n:Nat}{mg:W->Ev->(Ev->Prop)->Prop}{fb:Ms}{k:Kt}(I:Nat->Ev->Nat->Prop)(h0:I 0 D n)
  (h:∀i ρ' n',i<r->I i ρ' n'->mg (.d (.int (i:Int))) ρ' λρ1=>fb ρ1 n' { k with nx:=I (i+1),ct:=I (i+1),bk:=k.nx }) (hd:∀ ρ' n',I r ρ' n'->k.nx ρ' n'):zn3 mg fb D k (zhY 0 r) n:=by
 show#[I,h0,λi w ρ' n' hw hI=>?_,λρ' n' hI=>hd ρ' n' ?_];unfold zhY at hw;rw[aA] at hw;obtain⟨j,h1,rfl⟩:=aB.mp hw;obtain⟨hi,h2⟩:=ae.mp h1;rw[bF] at h2;right;unfold zhY at hI;right
def zi7 {α:Type}{l:AV}{D:Ev}{n:Nat}{mg:W->Ev->(Ev->Prop)->Prop}{fb:Ms}{k:Kt}(xs:List α)(toW:α->W)(hl:l=xs.map toW)(I:Nat->Ev->Nat->Prop)(h0:I 0 D n)
  (h:∀i a ρ' n',xs[i]?=some a->I i ρ' n'->mg (toW a) ρ' λρ1=>fb ρ1 n' { k with nx:=I (i+1),ct:=I (i+1),bk:=k.nx }) (hd:∀ ρ' n',I xs.length ρ' n'->k.nx ρ' n'):zn3 mg fb D k l n:=by
 subst hl;show#[I,h0,λi w ρ' n' hw hI=>?_,λρ' n' hI=>hd ρ' n' (by right)];rw[aA] at hw;obtain⟨a,ha,rfl⟩:=aB.mp hw;show h i a ρ' n' ha hI
def zeA {r:Nat}{D:Ev}{n:Nat}{mg:W->Ev->(Ev->Prop)->Prop}{fb:Ms}{k:Kt}(I:Nat->Ev->Nat->Prop)(h0:I 0 D n)
  (h:∀i ρ' n',i<r->I i ρ' n'->∀ (C B:Ev->Nat->Prop) (E:AW),(∀ {D m},I (i+1) D m->C D m)->(∀ {D m},k.nx D m->B D m)->(∀ {w m},k.rt w m->E w m)->mg (.d (.int (i:Int))) ρ' λρ1=>fb ρ1 n' { rt:=E,nx:=C,ct:=C,bk:=B }) (hd:∀ ρ' n',I r ρ' n'->k.nx ρ' n'):zn3 mg fb D k (zhY 0 r) n:=
 zn4 I h0 (λi ρ' n' hi hI=>h i ρ' n' hi hI (I (i+1)) k.nx k.rt (λz=>z) (λz=>z) λz=>z) hd
def zW {α:Type}{l:AV}{D:Ev}{n:Nat}{mg:W->Ev->(Ev->Prop)->Prop}{fb:Ms}{k:Kt}(xs:List α)(toW:α->W)(hl:l=xs.map toW)(I:Nat->Ev->Nat->Prop)(h0:I 0 D n)
  (h:∀i a ρ' n',xs[i]?=some a->I i ρ' n'->∀ (C B:Ev->Nat->Prop) (E:AW),(∀ {D m},I (i+1) D m->C D m)->(∀ {D m},k.nx D m->B D m)->(∀ {w m},k.rt w m->E w m)->mg (toW a) ρ' λρ1=>fb ρ1 n' { rt:=E,nx:=C,ct:=C,bk:=B }) (hd:∀ ρ' n',I xs.length ρ' n'->k.nx ρ' n'):zn3 mg fb D k l n:=
 zi7 xs toW hl I h0 (λi a ρ' n' ha hI=>h i a ρ' n' ha hI (I (i+1)) k.nx k.rt (λz=>z) (λz=>z) λz=>z) hd
def zlf {α:Type}{l:AV}{ρ0:Ev}{n:Nat}{mg:W->Ev->(Ev->Prop)->Prop}{ft:Ev->Mo Bool}{fe:AE}{Q:AW}(xs:List α)(toW:α->W)(hl:l=xs.map toW)(hlim:xs.length<=lim)(I:Nat->Ev->Nat->AT->Prop)(h0:I 0 ρ0 n [])
  (h:∀i a ρ' n' acc,xs[i]?=some a->I i ρ' n' acc->∀C:Ev->Nat->AT->Prop,(∀ {D m l},I (i+1) D m l->C D m l)->mg (toW a) ρ' λρ1=>ft ρ1 n' λb n2=>if b=true then fe ρ1 n2 λx n3=>∃d,x = .d d/\C ρ1 n3 (acc++[d]) else C ρ1 n2 acc)
  (fin:∀ ρ' n' acc,I xs.length ρ' n' acc->Q (.d (.lst acc)) n'):zfH mg ft fe ρ0 Q l n:=by
 subst hl;show#[by right,I,h0,λi w ρ' n' acc hw hI=>?_,λρ' n' acc hI=>fin ρ' n' acc (by right)];rw[aA] at hw;obtain⟨a,ha,rfl⟩:=aB.mp hw;show h i a ρ' n' acc ha hI (I (i+1)) λz=>z
def zeq {α:Type}{l:List α}{i:Nat}{x:α}(h:l[i]?=some x):atI l (i:Int)=some x:=by
 have:=(ae.mp h).1;unfold atI ixN;right
def zqA {α:Type}{l:List α}{i:Int}(h0:0<=i)(h1:i<l.length):∃d,atI l i=some d/\d∈l:=by
 obtain⟨j,rfl⟩:∃j:Nat,i=j:=#[i.toNat,by lia];have hj:j<l.length:=by lia
 show#[l[j],zeq (aj hj),bu hj]
def znE {st:AH}{b:Int}(h0:0<=b)(h1:b<st.length):atI (st.map Dt.int) b=some (.int (zu st b)):=by
 obtain⟨j,rfl⟩:∃j:Nat,b=j:=#[b.toNat,by lia];have hj:j<st.length:=by lia
 show zeq ?_;rw[aA,aj hj,xI];simp[hj]
def gw (g:List (Int×Int))(i:Nat):AR:=(g.find? λq=>decide (q.1=(i:Int))).map (·.2)
def zow (g:List (Int×Int))(i:Nat):yp (List.map kvD (List.map (λq:Int×Int=>(q.1,Dt.int q.2)) g)) (Sum.inl (i:Int))=(gw g i).map Dt.int:=by
 unfold yp gw
 induction g with
 | nil=>rfl
 | cons q g ih=>
  rw[aC,aC,bt,bt];by_cases h:q.1=(i:Int);have h1:decide ((kvD (q.1,Dt.int q.2)).1=(Sum.inl (i:Int):Key))=true:=aN (by change (Sum.inl q.1:Key)=_;rw[h]);rw[h1,aN h];rfl;have h1:decide ((kvD (q.1,Dt.int q.2)).1=(Sum.inl (i:Int):Key))=false:=aT λz=>h (eY z);right
def ziT (rm:AH):enW 0 (rm.map Dt.int)=(List.range rm.length).map λi:Nat=>W.d (.tup [.int (i:Int),.int (rm.getD i 0)]):=by
 apply List.ext_getElem?;intro i;rw[zdE,aA,aA];by_cases h:i<rm.length
 all_goals right
def cho (rm:AH)(g:List (Int×Int))(i:Nat):AH:=match gw g i with
 | some w=>[w]
 | none=>zn (rm.getD i 0)
def chs (rm:AH)(g:List (Int×Int)):AG:=(List.range rm.length).map (cho rm g)
def zuK (rm:AH)(g:List (Int×Int)):AG:=ztU (chs rm g)
def zi9 {rm:AH}{g:List (Int×Int)}(hg:Giv rm g){i:Nat}{w:Int}(h:gw g i=some w):((i:Int),w)∈g:=by
 unfold gw at h;obtain⟨q,h1,h2⟩:=aB.mp h;grind
def zn6 {g:List (Int×Int)}{i:Nat}(h:gw g i=none):∀q∈g,q.1≠(i:Int):=λq hq e=>by unfold gw at h;have:=c7.mp (Option.map_eq_none_iff.mp h) q hq;simp[e] at this
def zn5 {rm:AH}{g:List (Int×Int)}(hg:Giv rm g){q r:Int×Int}(h1:q∈g)(h2:r∈g)(e:q.1=r.1):q=r:=by
 have key:∀g:List (Int×Int),(g.Pairwise λa b=>a.1<b.1)->q∈g->r∈g->q=r:=by
  intro g hp
  induction hp with
  | nil=>intro h;simp at h
  | cons ha _ ih=>
   grind
 show key g hg.up h1 h2
section
variable {X:Cx}{Pn:PN}{M S:AS}{fr fr':Bool}{e a b c:Expr}{es:AQ}{f fa fb fc:AE}{pos p p2:Pos}
def zoD (fa:AD):AD:=λD n Q=>fa D n λws m=>∃l,ws=[.d (.lst l)]/\Q (enW 0 l) m
def zjl {K:AI}{A:AM}{H:Hp}{ad:Addr}{xs:AU}{l:AT}(h:Rd (zL A H) ad (.lst xs))(hl:IsL (zL A H) l xs):ItV false A H (Iel K ad) (enW 0 l) where
 one:=λi w A2 H2 e s _ hA=>by rw[zdE] at e;obtain⟨d,h1,rfl⟩:=aB.mp e;obtain⟨x,hx,hd⟩:=hl.getD h1;have g:=(s.rdl h).sub;show#[#[xs,x,.inl g,hx],?_];rintro y H3 ⟨T,z,e1,hT,e3,hy⟩;subst e1 e3;have:=hy xs (.inl g);rw[hx] at this;cases this;have S:=xq.upd (o:=.tup [.int i,x]) hT;show#[S,Val.of #[T,_,BC,zB (hA T hT) zj,_,_,BC,?_,_,_,BC,(hd.stay s).stay (zo.same (uJ S)),BC]];change V.int (i:Int)=V.int ((0+i:Nat):Int);rw[gh]
 stop:=λA2 H2 s _=>#[xs,.inl (s.rdl h).sub,by rw[zfP,hl.length];show ak _]
def zlI {elts:AQ}{x1}{tpos:Pos}{fs:AD}(hg:Gl X "enumerate")(hm:X.mg "enumerate" = none)(ha:JA X Pn M [a] fs)(hs:starEach [a] X.env=[(false,eval a X.env)]:=by rfl):JI X Pn M false (.Tuple elts x1 tpos) (.Call (.Name "enumerate" p) [a] [] pos) (zoD fs):=by obtain⟨te,q,r⟩:=ha.ex;show#[_,zms hg hm q hs,#[λA G H D n Q R E P hf k=>?_]];show r.run A G H D n _ _ E P hf  ?_;rintro ws m vs H1 ⟨l,e,r⟩ hv g;subst e;obtain⟨v,s,rfl,⟨ad,xs,rfl,had,hl⟩,hs⟩:=hv;cases hs;show#[ad,BC,#[xs,.inl had.sub],k _ m _ H1 r (zjl had hl) g]
def zuQ (i:Nat)(f:AE):Ms:=λD n k=>(∃l,D[i]?=some (some (.d (.lst l))))/\f D n λw m=>∃l l2,D[i]?=some (some (.d (.lst l)))/\w = .d (.lst l2)/\l.length+l2.length<=lim/\k.nx (D.set i (some (.d (.lst (l++l2))))) m
def zrd (i:Nat){x:Str}{ap cp sp np:Pos}(he:JE X Pn M fr' e f)(hi:i∈M:=by ext)(hN:X.N[i]?=some x:=by rfl)(hv:Vis X.env.scope x:=by fail"v")(hd:Ai x:=by ext)
  (hcd:(x==("__classdict__" : Str))=false:=by ext) (hs1:starEach (e::[]) X.env=(false,eval e X.env)::starEach [] X.env:=by rfl) (hs:swapsWith (.Call (.Attribute (.Name x np) "extend" ap) [e] [] cp) none sp.line X.env=pure false:=by rfl) (hbase:attributeBase (.Name x np) "extend" X.env (eval (.Name x np) X.env)=eval (.Name x np) X.env:=by rfl) (hline:(ap.endLine==cp.line)=true:=by rfl)
  (hfew:((backTo cp (starEach [e] X.env)).all (λx=>!x.1)&&(backToKw cp (keywordEach [] X.env)).all (λx=>x.1.isSome)&&decide (([e]:AQ).length+([]:List Keyword).length+(if ([]:List Keyword).isEmpty then 0 else 1)<30))=true:=by rfl) (hplain:(backTo cp (starEach [] X.env)).any (·.1)=false:=by rfl) :
  JS X Pn S M fr (.Expr (.Call (.Attribute (.Name x np) "extend" ap) [e] [] cp) sp) (zuQ i f):=by
 obtain⟨te,q,r⟩:=he.ex;show#[_,zgg (zkh cS PySem.F.slot_list_extend PySem.F.type_list_extend zjQ (qv i hN hv hd hcd) (zR q yQ hs1) hbase hfew hline hs1 hplain) hs,#[ ?_]];rintro B A G H D n k BI a kk ⟨⟨l0,e0⟩,hf⟩;obtain⟨ad,xs0,s1,hA,g0,_⟩:=a.own hi e0;show#[.ref ad,s1,.inl #[BC,_,SqL.of g0],?_];show r.run A G H D n _ _ a.env a.pn hf  ?_;rintro w m v H' ⟨l,l2,e,ed,hz,r⟩ hv g _;subst ed;have a':=a.step g;obtain⟨ad2,xs,s2,_,g4,hl⟩:=a'.own hi e;rw[s1] at s2;cases s2;obtain⟨b2,ys,rfl,hb2,hl2⟩:=hv;show#[ad,b2,xs,ys,BC,BC,g4,hb2.sub,zci (by rw[hl.length,hl2.length];show hz),kk.nx A G _ _ m (a'.wr hi e s1 (hl.append hl2)) r]
def insD {α:Type}(l:List α)(k:Nat)(x:α):List α:=l.take k++x::l.drop k
def zsU {n:Nat}{j:Int}(h0:0<=j)(h1:j<n):seqIndex? j n=some j.toNat:=(zjm (by unfold ixN;rw[if_pos h0,if_pos h1])).1
def zi1:AV->Mo W:=λws n Q=>∃ns:AH,ws=[.d (.lst (ns.map .int))]/\ns.length<64/\∀ns':AH,ns'.Perm ns->ns'.Pairwise (·<=·)->Q (.d (.lst (ns'.map .int))) n
def zqi:FL Pn true zkt zi1:=#[by
 rintro A H xs ws n Q R al b P ⟨ns,e,h64,h⟩ k;subst e;obtain⟨v,rfl,bb⟩:=zbF b;obtain⟨a,ys,rfl,ha,hl⟩:=xk bb;obtain rfl:=hl.of_ints;show#[a,ns,BC,ha,h64,λns' hp hs p H' np g S=>k _ n _ H' (h ns' hp hs) (uo (H:=H) IsL.ints (zo.same S) (al.new np) g) (Go.same P S) λz=>uI (H:=H) IsL.ints S np g]]
def zi3:AV->Mo W:=λws n Q=>∃ (BG:AG) (m:Nat),ws=[.d (.lst (BG.map stD))]/\BG.length<64/\1<=m/\(∀st∈BG,st.length=m)/\BG.Nodup/\∀sts':AG,sts'.Perm BG->(sts'.Pairwise λa b=>HT.lexLt a b=true)->Q (.d (zhk sts')) n
def zqj:FL Pn true zpL zi3:=#[by
 rintro A H xs ws n Q R al b P ⟨BG,m,e,h64,h1,hm,hnd,h⟩ k;subst e;obtain⟨v,rfl,bb⟩:=zbF b;obtain⟨a,ys,rfl,ha,hl⟩:=xk bb;show#[a,ys,BG,m,BC,ha,hl.stay (zo.same zG),h64,h1,hm,hnd,λys' sts' hy hp hs p H' np g S=>?_];have hy':IsL (zL A H) (sts'.map stD) ys':=zcd al.noT (zbR sts') hy;show k _ n _ H' (h sts' hp hs) (uo hy' (zo.same S) (al.new np) g) (Go.same P S) λz=>uI hy' S np g]
def zgd {κ:Type}[DecidableEq κ](BE:List (κ×Dt))(k:κ)(d:Dt):List (κ×Dt):=
 if (BE.any λkv=>decide (kv.1=k))=true then BE.map (λkv=>if kv.1=k then (kv.1,d) else kv) else BE++[(k,d)]
theorem xU.any {κ:Type}[DecidableEq κ]{BH:Hp}{k:κ}:∀ {BE:List (κ×Dt)} {ks:List (κ×V)},xU BH BE ks->(ks.any λkv=>decide (kv.1=k))=BE.any λkv=>decide (kv.1=k)
 | [],_,h=>by cases h;rfl
 | q::r,ks,⟨v,s,e,h1,h2⟩=>by subst e;rw[cN,cN,xU.any h2]
theorem xU.map1 {κ:Type}[DecidableEq κ]{BH:Hp}{k:κ}{d:Dt}{x:V}(hd:Is BH d x):∀ {BE:List (κ×Dt)} {ks:List (κ×V)},xU BH BE ks->xU BH (BE.map λkv=>if kv.1=k then (kv.1,d) else kv) (ks.map λkv=>if kv.1=k then (kv.1,x) else kv)
 | [],_,h=>by cases h;rfl
 | q::r,ks,⟨v,s,e,h1,h2⟩=>by
  subst e;rw[aC,aC];by_cases hq:q.1=k;rw[if_pos hq,if_pos hq];show#[x,_,BC,hd,xU.map1 hd h2];rw[if_neg hq,if_neg hq];show#[v,_,BC,h1,xU.map1 hd h2]
theorem xU.snoc {κ:Type}{BH:Hp}{k:κ}{d:Dt}{x:V}(hd:Is BH d x):∀ {BE:List (κ×Dt)} {ks:List (κ×V)},xU BH BE ks->xU BH (BE++[(k,d)]) (ks++[(k,x)])
 | [],_,h=>by cases h;show#[x,[],BC,hd,BC]
 | q::r,ks,⟨v,s,e,h1,h2⟩=>by subst e;show#[v,_,BC,h1,xU.snoc hd h2]
def xU.put {κ:Type}[DecidableEq κ]{BH:Hp}{k:κ}{d:Dt}{x:V}{BE:List (κ×Dt)}{ks:List (κ×V)}(h:xU BH BE ks)(hd:Is BH d x):xU BH (zgd BE k d) (za6 ks k x):=by
 unfold zgd za6;rw[h.any];split;show h.map1 hd;show h.snoc hd
theorem xU.len {κ:Type}{BH:Hp}:∀ {BE:List (κ×Dt)} {ks:List (κ×V)},xU BH BE ks->ks.length=BE.length
 | [],_,h=>by cases h;rfl
 | q::r,ks,⟨v,s,e,h1,h2⟩=>by subst e;rw[bc,bc,xU.len h2]
end
def zjO {a c:Int}{n:Nat}(h0:0<=a)(h1:a<=n)(h2:n<=1000000)(c0:0<=c)(c1:c<2147483549):0<=(c+70009) * (2 * a+1)+6133 * a * a+577 * a/\(c+70009) * (2 * a+1)+6133 * a * a+577 * a<=11000000000000000:=by
 have e1:(c+70009) * (2 * a+1)<=2147553558 * 2000001:=Int.mul_le_mul (by lia) (by lia) (by lia) (by lia);have e2:0<=(c+70009) * (2 * a+1):=fE (by lia) (by lia);have e3:a * a<=1000000 * 1000000:=Int.mul_le_mul (by lia) (by lia) (by lia) (by lia);have e4:0<=a * a:=fE h0 h0;grind
def zpy {X:Cx}(K:AI)(hK:X.K=K){o e:Expr}{es:AQ}{to:TE}{t:TA}{apos cpos:Pos}(ho:QE X o to)(ha:QA X (e::es) t)
  (hbase:attributeBase o "pop" X.env (eval o X.env)=eval o X.env:=by rfl)
  (hfew:((backTo cpos (starEach (e::es) X.env)).all (λx=>!x.1)&&(backToKw cpos (keywordEach [] X.env)).all (λx=>x.1.isSome)
   && decide ((e::es).length+([]:List Keyword).length+(if ([]:List Keyword).isEmpty then 0 else 1)<30))=true:=by rfl)
  (hline:(apos.endLine==cpos.line)=true:=by rfl) (hs:starEach (e::es) X.env=(false,eval e X.env)::starEach es X.env:=by rfl) (hplain:(backTo cpos (starEach es X.env)).any (·.1)=false:=by rfl) :
  QE X (.Call (.Attribute o "pop" apos) (e::es) [] cpos) (tBM K "list" znn to t):=by
 subst hK;show zkh cS PySem.F.slot_list_pop PySem.F.type_list_pop zlY ho ha hbase hfew hline hs hplain
def znt:Sp:=λvs H Q E=>∃ (p c a:Addr) (ns:AH) (n:Nat) (xs:AU),vs=[.ref p,.ref a]/\Pen H p c ns n/\n+xs.length<=1000000/\xs.length<=100000/\Rd H a (.lst xs)/\
 ∀b ys H',H b=none->H' b=some (.lst ys)->ys.Perm xs->Pen H' p c ns (n+xs.length)->zo H H'->Q (.ref b) H'
def zlC {BH:Hp}{xs ys:AU}(h:ys.Perm xs):∀ {l:AT},IsL BH l xs->∃l':AT,l'.Perm l/\IsL BH l' ys:=by
 induction h with
 | nil=>intro l h;show#[l,.refl _,h]
 | cons x _ ih=>
  intro l h
  match l,h with
  | [],h=>show absurd h (by intro z;cases z)
  | d::ds,⟨x',r,e,h1,h2⟩=>
   cases e;obtain⟨l',p,h3⟩:=ih h2;show#[d::l',p.cons d,x,_,BC,h1,h3]
 | swap x y s=>
  intro l h
  match l,h with
  | [],h=>show absurd h (by intro z;cases z)
  | [_],⟨_,_,e,_,h2⟩=>cases e;show absurd h2 (by intro z;cases z)
  | d::e::ds,⟨_,_,q,h1,_,_,q2,h3,h4⟩=>
   cases q;cases q2;show#[e::d::ds,.swap _ _ _,_,_,BC,h3,_,_,BC,h1,h4]
 | trans _ _ ih1 ih2=>
  intro l h;obtain⟨l1,p1,h1⟩:=ih2 h;obtain⟨l2,p2,h2⟩:=ih1 h1;show#[l2,p2.trans p1,h2]
def zid:FV:=λPn ws n R=>∃p c ns l,Pn=#[some (p,c,ns),J0]/\ws=[.pen p,.d (.lst l)]/\n+l.length<=1000000/\l.length<=100000/\∀l':AT,l'.Perm l->R (.d (.lst l')) (n+l.length)
def zjy:ztO 2 true zid znt:=by rintro vs H Q E ⟨Pn,A,ws,n,R,al,hv,hl,hp,⟨p,c,ns,l,rfl,rfl,h1,h2,h4⟩,q⟩;obtain⟨v,y,rfl,b1,b2⟩:=ztj hv;have e1:v = .ref p:=b1;subst e1;obtain⟨a,xs,rfl,ha,hx⟩:=b2;have hlen:=hx.length;show#[p,c,a,ns,n,xs,BC,hp.1.1,by lia,by lia,ha.sub,λb ys H' hb hb' hperm P' S'=>?_];obtain⟨l',pl,hl'⟩:=zlC hperm hx;show q _ _ _ H' (h4 l' pl) (uo hl' S' (al.new hb) hb') #[S',#[by right,hp.1.2],trivial] λ_=>#[b,BC,.of hb,#[_,hb',BC],b,ys,BC,.inl hb',hl'.stay (yk S' (.of hb))]
theorem zgC {α:Type}:∀ {l:List α} {k:Nat} (h:k<l.length),(l[k]::l.eraseIdx k).Perm l
 | [],_,h=>absurd h (by simp)
 | x::l,0,_=>.refl _
 | x::l,k+1,h=>by have:=zgC (l:=l) (k:=k) (by simpa using h);simp only[List.getElem_cons_succ,List.eraseIdx_cons_succ];show (List.Perm.swap x _ _).trans (this.cons x)
def zhC {xs ys zs:AU}{k:Nat}(hk:k<zs.length)(h:(ys++zs).Perm xs):(ys++[zs[k]]++zs.eraseIdx k).Perm xs:=by show .trans ?_ h;rw[bY];show (zgC hk).append_left ys
section
variable {X:Cx}{Pn:PN}{M S:AS}{fr fr':Bool}{e a b c:Expr}{es:AQ}{f fa fb fc:AE}{pos p:Pos}
def zvq {tg e:Expr}{w1 w2:TI}(h1:QI X tg e w1)(h2:QI X tg e w2):QI X tg e (λG H R=>w1 G H R\/w2 G H R):=#[λBD s G H R I h=>h.elim (h1.run BD s G H R I) (h2.run BD s G H R I)]
def zuU (fa:AE):AD:=λD n Q=>zrr fa D n Q\/ztC fa D n Q
def zm8 {tg:Expr}(K:AI)(hK:X.K=K)(h:JE X Pn M fr e f):JI X Pn M false tg e (zuU f):=by obtain⟨t1,q1,r1⟩:=(zQ (tg:=tg) K hK h).ex;obtain⟨t2,q2,r2⟩:=(uu (tg:=tg) K hK h).ex;show#[_,zvq q1 q2,#[λA G H D n Q R E P hf k=>hf.elim (λz=>.inl (r1.run A G H D n Q R E P z k)) λz=>.inr (r2.run A G H D n Q R E P z k)]]
theorem xU.keys {κ:Type}{BH:Hp}:∀ {BE:List (κ×Dt)} {ks:List (κ×V)},xU BH BE ks->ks.map (·.1)=BE.map (·.1)
 | [],_,h=>by cases h;rfl
 | q::r,_,⟨v,s,e,_,h⟩=>by subst e;rw[aC,aC,xU.keys h]
def WAt.mv {T T' BH G':Hp}{w:W}{ad:Addr}(t:∀o,T ad=some o->T' ad=some o)(g:xq BH G')(m:w.mut=true)(h:WAt T BH w (.ref ad)):WAt T' G' w (.ref ad):=by
 cases w with
 | d x=>
  cases x with
  | lst l=>obtain⟨a2,xs,e2,g1,g2⟩:=h;cases e2;show#[ad,xs,BC,g1.imp (t _) λ⟨o,g1⟩=>#[o,t _ g1],g2.stay (zo.same g)]
  | dct=>obtain⟨a2,xs,e2,g1,g2⟩:=h;cases e2;show#[ad,xs,BC,t _ g1,g2]
  | _=>cases m
 | pen p=>cases m
 | dk k=>obtain⟨a2,xs,e2,g1,g2,g3⟩:=h;cases e2;show#[ad,xs,BC,t _ g1,g2.stay (zo.same g),g3]
 | dt k=>obtain⟨a2,xs,e2,g1,g2⟩:=h;cases e2;show#[ad,xs,BC,t _ g1,g2.stay (zo.same g)]
 | dn fz k=>obtain⟨a2,xs,e2,g1,g2,g3⟩:=h;cases e2;show#[ad,xs,BC,g1.imp λo _ e=>t _ e,g2.stay (zo.same g),g3.stay (zo.same g)]
 | wd d fs kn=>cases m
 | lf ls=>cases m
 | cu k=>cases m
 | ss P w k=>obtain⟨a2,xs,e2,g1,g2⟩:=h;cases e2;show#[ad,xs,BC,t _ g1,g2.stay (zo.same g)]
 | df k=>obtain⟨a2,ob,xs,e2,g1,g2⟩:=h;cases e2;show#[ad,ob,xs,BC,t _ g1,g2.stay (zo.same g)]
 | kf k=>obtain⟨a2,ob,xs,e2,g1,g2⟩:=h;cases e2;show#[ad,ob,xs,BC,t _ g1,g2.stay (zo.same g)]
 | ad a x=>cases m
 | tz BE x=>cases m
 | fl k=>obtain⟨a2,ob,xs,e2,g1,g2⟩:=h;cases e2;show#[ad,ob,xs,BC,t _ g1,g2.stay (zo.same g)]
def zrt (i j:Nat):Ms:=λD n k=>∃w,D[j]?=some (some w)/\k.nx ((D.set j none).set i (some w)) n
end
end L3
namespace L3
open L2
structure StOk (rm st:AH):Prop where
 len:st.length=rm.length
 box:∀b:Int,0<=b->b<rm.length->0<=zu st b/\zu st b<zu rm b
def ztV (rm:AH)(bk:AY)(g:List (Int×Int)):AG:=(zuK rm g).filter λst=>decide (zaO bk st (g.map (·.1))=[])
abbrev yB (bk:AY):Dt:=.tup (bk.map uq)
def u7 (rm:AH)(bk:AY):Prop:=∀x∈bk,WishOk rm x
abbrev F_bett:FV:=λ_ ws n R=>∃rm bk st hs,ws=[.d (stD rm),.d (yB bk),.d (stD st),.d (stD hs)]/\RoomOk rm/\u7 rm bk/\st.length=rm.length/\R (.d (zhk (znG bk st hs))) n
abbrev ztp:FV:=λ_ ws n R=>∃rm bk g,ws=[.d (stD rm),.d (yB bk),.d (xC g)]/\RoomOk rm/\u7 rm bk/\Giv rm g/\R (.d (zhk (ztV rm bk g))) n
def xu (r:Nat):zhY 0 r=(List.range r).map λk:Nat=>W.d (.int (k:Int)):=by
 unfold zhY;right
def zqz {L:AT}{a:Int}{BH:Dt->Prop}(h0:0<=a)(h1:a<L.length)(h:∀x∈L,BH x):∃x,atI L a=some x/\BH x:=by obtain⟨d,h2,h3⟩:=zqA h0 h1;show#[d,h2,h d h3]
def uH {α β:Type}(f:α->β)(l:List α)(lo hi:AR):ut (l.map f) lo hi=(ut l lo hi).map f:=by
 unfold ut;right
def znN {α:Type}{l:List α}{lo hi:AR}{x:α}(h:x∈ut l lo hi):x∈l:=List.mem_of_mem_drop (bj h)
def zb4 {α:Type}(l:List α)(lo hi:AR):(ut l lo hi).length<=l.length:=by unfold ut;rw[aR,eD];lia
def zqM {st:AH}{b w:Int}(h0:0<=b):ut st none (some b)++[w]++ut st (some (b+1)) none=chg st b w:=by
 have h:=znJ st (w:=w) h0;have e1:zcP (st.map V.int) none (some b)=(ut st none (some b)).map V.int:=by rw[<- uH];rfl
 have e2:zcP (st.map V.int) (some (b+1)) none=(ut st (some (b+1)) none).map V.int:=by rw[<- uH];rfl
 rw[e1,e2] at h;have e3:(ut st none (some b)).map V.int++[V.int w]++(ut st (some (b+1)) none).map V.int=(ut st none (some b)++[w]++ut st (some (b+1)) none).map V.int:=by rw[aH,aH];rfl
 rw[e3] at h;show List.map_inj_right (by grind) |>.mp h
def u7.app {rm:AH}{bk bk':AY}(h:u7 rm bk)(h':u7 rm bk'):u7 rm (bk++bk'):=λx hx=>(aE.mp hx).elim (h x) (h' x)
def zdC {α:Type}(l:List α)(k:Nat):ut l none (some (k:Int))=l.take k:=by
 unfold ut;rw[HT.sIx_none,HT.sIx_nat,ez,ge];grind
def zpo {κ:Type}[DecidableEq κ](BE:List (κ×Dt))(k:κ)(d:Dt):(zgd BE k d).length<=BE.length+1:=by
 unfold zgd;split
 all_goals right
def zc5 (bk:AY)(x:Wi)(st hs:AH):zaO (bk++[x]) st hs=zaO bk st hs++(if (zaN st x&&!hs.contains x.b)=true then [chg st x.b x.r] else []):=by
 unfold zaO;grind
def znI {st:AH}{b x:Int}{n:Nat}{Q:AW}(b0:0<=b)(hz:st.length<=1000)(h:Q (.d (stD (chg st b x))) n):zfQ (.d (.tup (ut (st.map Dt.int) none (some b)))) (.d (.tup [.int x])) n λw m=>zfQ w (.d (.tup (ut (st.map Dt.int) (some (b+1)) none))) m Q:=by
 have c1:=zb4 st none (some b);have c2:=zb4 st (some (b+1)) none;rw[uH,uH];show#[_,_,BC,BC,by rw[ab];show av (by simp;lia:_<=1001) (by ext),_,_,BC,BC,by rw[ay,ab,ab];show av (by simp;lia:_<=2001) (by ext),?_];have e:(ut st none (some b)).map Dt.int++[Dt.int x]++(ut st (some (b+1)) none).map Dt.int=(chg st b x).map Dt.int:=by rw[<- zqM b0,aH,aH];rfl
 rw[e];show h
section
variable {X:Cx}{Pn:PN}{M S:AS}{fr fr':Bool}{e a b c:Expr}{es:AQ}{f fa fb fc:AE}{pos p:Pos}
def zjL (t:Ev->Mo Bool)(fb:Ms):Ms:=λD n k=>∃I:Nat->Ev->Nat->Prop,(∃m,I m D n)/\
 ∀m ρ' n',I m ρ' n'->t ρ' n' λb n2=>if b=true then fb ρ' n2 { k with nx:=λρ2 n3=>∃m',m'<m/\I m' ρ2 n3,ct:=λρ2 n3=>∃m',m'<m/\I m' ρ2 n3,bk:=k.nx } else k.nx ρ' n2
def zdL {body:List Stmt}{t:Ev->Mo Bool}{fb:Ms}(hp:PassesOwn (model X.prog X.w) X.A X.env X.xe)(hc:JT X Pn M c t)(hb:JSs X Pn S M fr body fb):JS X Pn S M fr (.While c body [] pos) (zjL t fb):=by
 obtain⟨tc,qc,rc⟩:=hc.ex;obtain⟨tb,qb,rb⟩:=hb.ex;show#[_,#[zmk hp qc.run qb.run],#[ ?_]];rintro B A G H D n k BI a kk ⟨I,⟨m0,i0⟩,it⟩;show#[λm σ' H'=>∃A' ρ' n',At3 Pn B S M A' σ' H' ρ' n'/\I m ρ' n',#[m0,A,D,n,a,i0],?_];rintro m σ' H' ⟨A',ρ',n',a',hI⟩;show rc.run A' σ' H' ρ' n' _ _ a'.env a'.pn (it m ρ' n' hI) λb n2 H2 r g=>?_;have a2:=a'.step g
 cases b with
 | false=>
  rw[if_neg (by ext)] at r ⊢;show kk.nx A' σ' H2 ρ' n2 a2 r
 | true=>
  rw[if_pos rfl] at r ⊢;show#[λσ3 H3=>∃A' ρ' n',At3 Pn B S M A' σ3 H3 ρ' n'/\∃m',m'<m/\I m' ρ' n',λσ3 H3 ⟨A3,ρ3,n3,a3,m',hm,h⟩=>#[m',hm,A3,ρ3,n3,a3,h],?_];show rb.run B A' σ' H2 ρ' n2 { k with nx:=λρ2 n3=>∃m',m'<m/\I m' ρ2 n3,ct:=λρ2 n3=>∃m',m'<m/\I m' ρ2 n3,bk:=k.nx } _ a2 #[?_,?_,?_,kk.fc,?_] r;show λA4 σ4 H4 ρ4 n4 a4 r4=>#[A4,ρ4,n4,a4,r4];show λA4 σ4 H4 ρ4 n4 a4 r4=>kk.nx A4 σ4 H4 ρ4 n4 a4 r4;show λA4 σ4 H4 ρ4 n4 a4 r4=>#[A4,ρ4,n4,a4,r4];show kk.rt
def zk0 {t:Ev->Mo Bool}{fb:Ms}{D:Ev}{n:Nat}{k:Kt}(I:Nat->Ev->Nat->Prop)(m0:Nat)(h0:I m0 D n)
  (h:∀m ρ' n',I m ρ' n'->t ρ' n' λb n2=>if b=true then fb ρ' n2 { k with nx:=λρ2 n3=>∃m',m'<m/\I m' ρ2 n3,ct:=λρ2 n3=>∃m',m'<m/\I m' ρ2 n3,bk:=k.nx } else k.nx ρ' n2):zjL t fb D n k:=#[I,#[m0,h0],h]
end
end L3
namespace L2
open PyProof.Rows
def zan {env:Env}(ke ve gens scope pos):eval (.DictComp ke ve gens scope pos) env=comprehension (.DictComp ke ve gens scope pos) scope env (firstIterPos gens pos) newDict (firstAsync gens) (firstIter gens env):=rfl
section
variable {prog:Ab}{w:Ac}{A:Af}{E:AA}{R:Result->Aa->Prop}{s:Aa}
def zhM {Q:AA}(h:Q (.ref s.heap.objs.size) { s with heap:=s.heap.push { cls:=.type "dict",data:=.dict #v[] } }):Ah prog w A (newDict) Q E s:=by simp only[newDict,newObj];show aa (wpAny_alloc (ai h))
variable {X:Cx}{BD:AB}{G:St}{H:Hp}{a:Addr}{y v:V}{u r:Value}{o:Option V}
def ziK {H':Hp}{Q:Unit->Aa->Prop}(hu:A.units+1<cLine)(I:Inv X BD G H s)(g:zh9 H a y v H')(ry:yv y u)(rv:yv v r)(h:∀s',Inv X BD G H' s'->Q () s') :
  wpAny (model X.prog X.w) A (dictSet a u r) Q E s:=by
 rcases g with ⟨BE,k,e,ey,l,eH⟩ | ⟨BE,k,b,e,ey,eb,l,eH⟩;subst ey eH;obtain⟨z,hd,vs,rel,dd⟩:=znR I.hok e;have hz:vs.length<=sizeLine:=by rw[<- rel.length];show z
 have hl:(za6 BE k v).length<=sizeLine:=by have:=xz BE k v;lia
 show wpAny_dictSet_pairs (hsz:=hz) (zhJ ry) dd λh' dd' hs=>h _ ?_;have he:∃q,h'.get? a=some q:=let ⟨q,_,_,hq,_⟩:=dd';#[q,hq];show zb5 I (by rw[e];show True.intro) hs he (ziS hl hd (rel.put k rv) dd');subst ey eH;cases (show u=Value.ref b from ry);obtain⟨z,hd,xs,rel,dd⟩:=zqW I.hok e;have hz:xs.length<=sizeLine:=by rw[<- eI rel];show z
 have hl:(za6 BE k v).length<=sizeLine:=by have:=xz BE k v;lia
 show wpAny_dictSet_heap (hsz:=hz) (Nat.lt_of_succ_lt hu) (zeL I.hok eb) dd λh' dd' hs=>h _ ?_;obtain⟨q,es,ep,hq,h2,h3,h4,_,h5⟩:=dd';show zb5 I (by rw[e];show True.intro) hs #[q,hq] #[hl,hd,_,(rel.put k eb rv).keeps λc ys ec=>?_,q,es,ep,hq,h2,h3,h4,h5];rw[ze (by grind)];show ec
end
def zum (g:TG)(ti:TT)(tk tv:TE)(acc:Addr)(N:St->Hp->Prop)(x:V)(G:St)(H:Hp):Prop:=
 g x G H λσ3 H3=>ti σ3 H3 λok H4=>if ok=true then tk σ3 H4 λy H5=>tv σ3 H5 λv H6=>∃H7,zh9 H6 acc y v H7/\N σ3 H7 else N σ3 H4
def zul (J:It)(g:TG)(ti:TT)(tk tv:TE)(acc:Addr)(Q:VK)(G:St)(H:Hp):Prop:=∃W:Nat->Nat->St->Hp->Prop,(∃m,W 0 m G H)/\
 ∀i m σ' H',W i m σ' H'->(J.stop i H'/\Q (.ref acc) H')\/(J.go i H'/\∃N:St->Hp->Prop,(∀ σ2 H2,N σ2 H2->∃m',m'<m/\W (i+1) m' σ2 H2)/\∀x H2,J.yld i H' x H2->zum g ti tk tv acc N x σ' H2)
def zho (o0:HO)(wi:TI)(g:TG)(ti:TT)(tk tv:TE)(BF:List (Option Nat)):TE:=λG H Q=>wi G H λJ H1=>∀acc,H1 acc=none->zul J g ti tk tv acc Q (xB G BF) (upd H1 acc o0)
section
variable {X:Cx}{Fam:Cx->Prop}{scope:Scope}{N:AN}{BF:List (Option Nat)}{z:Str}{use:Option (Value->Sem Unit)}{Qp:AA}{elt ke ve tg iter tg2 iter2:Expr}{ifs ifs2:AQ}{pos ipos spos px:Pos}{wi wi2:TI}{g g2:TG}{ti ti2:TT}{te tk tv:TE}{BD:AB}{G:St}{H:Hp}{s:Aa}{Q:VK}{o0:HO}
def zew (ho0:o0 = .dK []\/o0 = .dT [])(hu:X.A.units+1<cLine)(O:Opn X scope BF Fam)(hc:X.calm=true)(hi:PI X tg iter wi)(hg:∀X',Fam X'->PG X' tg g)(ht:∀X',Fam X'->PTs X' ifs ti)(hk:∀X',Fam X'->PE X' ke tk)(hv:∀X',Fam X'->PE X' ve tv)(hs:∀x,foldedSetIterable iter X.env x=pure x)(I:Inv X BD G H s)
  (h:zho o0 wi g ti tk tv BF G H Q) (hfin:zto X BD G use Qp Q) :
  Ag X (comprehension (.DictComp ke ve [#[tg,iter,ifs,0]] scope pos) scope X.env ipos newDict false (eval iter X.env) use) Qp X.xe s:=
 uG (ob:={ cls:=.type "dict",data:=.dict #v[] }) (o0:=λ_=>o0) (Fin:=λacc H=>Q (.ref acc) H) (tb:=λacc Nx G H=>tk G H λy H5=>tv G H5 λv H6=>∃H7,zh9 H6 acc y v H7/\Nx G H7) O zdj hc BC hs (λs Q h=>zhM h) (λ{_ _ _ s} I _=>by
  rcases ho0 with rfl | rfl;show zgL s.heap I.big
  show zlq s.heap I.big) hi hg ht (λX' hF pX wX AX _ xX acc=>#[_,λit=>zck (iter:=iter) zdj (nx:=λc=>(do let kv <- eval ke X'.env;let vv <- holding [kv] (eval ve X'.env);standAt { ke.pos with endLine:=ve.pos.endLine,endCol:=ve.pos.endCol };holding [kv,vv] (dictSet acc kv vv)) >>= λ_=>c) BC,λpl s G H Nx P I q k _ _ _ hz=>by
  have e9:=hk X' hF pl s G H _ I q;rw[xX] at e9;show aa (aa (bA e9 ?_ λ_ _ h'=>h'.elim));rintro u2 s10 ⟨y,H10,I10,r10,q10⟩;have e10:=hv X' hF pl s10 G H10 _ I10 q10;rw[xX] at e10;show aa (bw (bA e10 ?_ λ_ _ h'=>h'.elim));rintro u3 s11 ⟨v,H11,I11,r11,H12,dp,nx⟩;show aa (dq (bw (ziK (by rw[AX];show hu) I11 dp r10 r11 λs' I'=>hz _ (k _ _ _ I' nx))))]) I h (λJ H1 acc q hn=>q acc hn) hfin
end
def zge {X:Cx}{pos:Pos}{tk tv:TE}{ke ve tg iter:Expr}{ifs:AQ}{scope:Scope}{wi:TI}{g:TG}{ti:TT}{N:AN}{BF:List (Option Nat)}{o0:HO}(ho0:o0 = .dK []\/o0 = .dT [])(hu:X.A.units+1<cLine)(hc:X.calm=true)(c:CompOk X scope N BF)
  (hi:QI X tg iter wi) (hg:∀C s H ex,QG (zm X scope N C s H ex) tg g) (ht:∀C s H ex,QTs (zm X scope N C s H ex) ifs ti) (hk:∀C s H ex,QE (zm X scope N C s H ex) ke tk) (hv:∀C s H ex,QE (zm X scope N C s H ex) ve tv)
  (hs:∀x,foldedSetIterable iter X.env x=pure x:=by intro _;rfl):QE X (.DictComp ke ve [#[tg,iter,ifs,0]] scope pos) (zho o0 wi g ti tk tv BF):=#[λBD s G H Q I h=>by
 rw[zan];show zew ho0 hu (x8 c) hc hi.run (zba λC s H ex=>(hg C s H ex).run) (zba λC s H ex=>(ht C s H ex).run) (zba λC s H ex=>(hk C s H ex).run) (zba λC s H ex=>(hv C s H ex).run) hs I h λ_ _ _ _ _ hm hb q=>u9 hm hb q]
section
variable {X:Cx}{BD:AB}{G:St}{H:Hp}{A:Af}
end
end L2
namespace L3
open L2
section
variable {X:Cx}{Pn:PN}{M S:AS}{fr fr':Bool}{e a b c:Expr}{es:AQ}{f fa fb fc:AE}{pos p:Pos}
def zne:NP (.dK []):=λ_ e=>by cases e;rfl
def zjT {ks:List (Key×V)}(h:∀q∈ks,∃j:Int,q.1=Sum.inl j):NP (.dK ks):=λBE e=>by
 cases e
 induction ks with
 | nil=>rfl
 | cons q r ih=>
  obtain⟨j,hj⟩:=h q am;have:=ih λq hq=>h q (ao _ hq);unfold zaF at this ⊢;grind
def zkd {ks:List (Key×V)}{i:Int}{v:V}(h:∀q∈ks,∃j:Int,q.1=Sum.inl j):∀q∈za6 ks (Sum.inl i:Key) v,∃j:Int,q.1=Sum.inl j:=λq hq=>by
 unfold za6 at hq;grind
def zqV (mg:W->Ev->(Ev->Prop)->Prop)(ft:Ev->Mo Bool)(fk fv:AE)(ρ0:Ev)(Q:AW):AV->Nat->Prop:=λl n1=>l.length<=lim/\∃I:Nat->Ev->Nat->List (AH×Dt)->Prop,I 0 ρ0 n1 []/\
 (∀i w ρ' n' acc,l[i]?=some w->I i ρ' n' acc->mg w ρ' λρ1=>ft ρ1 n' λb n2=>if b=true then fk ρ1 n2 λy n3=>fv ρ1 n3 λx n4=>∃st d,y = .d (stD st)/\x = .d d/\I (i+1) ρ1 n4 (zgd acc st d) else I (i+1) ρ1 n2 acc)/\
 ∀ ρ' n' acc,I l.length ρ' n' acc->Q (.dt acc) n'
abbrev zuO (fi:AD) (mg:W->Ev->(Ev->Prop)->Prop) (ft:Ev->Mo Bool) (fk fv:AE) (BF:List (Option Nat)):AE:=λD n Q=>fi D n (zqV mg ft fk fv (uF D BF) Q)
def zmY (mg:W->Ev->(Ev->Prop)->Prop)(ft:Ev->Mo Bool)(fk fv:AE)(ρ0:Ev)(Q:AW):AV->Nat->Prop:=λl n1=>l.length<=lim/\∃I:Nat->Ev->Nat->List (Key×Dt)->Prop,I 0 ρ0 n1 []/\
 (∀i w ρ' n' acc,l[i]?=some w->I i ρ' n' acc->mg w ρ' λρ1=>ft ρ1 n' λb n2=>if b=true then fk ρ1 n2 λy n3=>fv ρ1 n3 λx n4=>∃ (j:Int) (d:Dt),y = .d (.int j)/\x = .d d/\I (i+1) ρ1 n4 (zgd acc (Sum.inl j) d) else I (i+1) ρ1 n2 acc)/\
 ∀ ρ' n' acc,I l.length ρ' n' acc->Q (.dk acc) n'
abbrev zf3 (fi:AD) (mg:W->Ev->(Ev->Prop)->Prop) (ft:Ev->Mo Bool) (fk fv:AE) (BF:List (Option Nat)):AE:=λD n Q=>fi D n (zmY mg ft fk fv (uF D BF) Q)
def zfc {wi:TI}{g:TG}{ti:TT}{tk tv:TE}{BF:List (Option Nat)}{fi:AD}{mg:W->Ev->(Ev->Prop)->Prop}{ft:Ev->Mo Bool}{fk fv:AE}{ow:Bool}(hn:(BF.filterMap id).Nodup)
  (hi:RI Pn M ow wi fi) (hg:RG (zO M BF) (zO M BF) g mg) (ht:RT Pn (zO M BF) ti ft) (hk:RB Pn (zO M BF) tk fk) (he:RE Pn (zO M BF) fr' tv fv):RE Pn M true (zho (.dK []) wi g ti tk tv BF) (zf3 fi mg ft fk fv BF):=#[λA G H D n Q R E P hf k=>by
 show hi.run A G H D n _ _ E P hf λl m J H1 ⟨hz,I,i0,it,ie⟩ iv g1=>λacc hacc=>?_;have E1:=E.stay g1.st;have E2:=(E1.cap hn).more (zo.upd (o:=.dK []) hacc) (Fr.of hacc) zj zne BC;have P2:xP Pn (λb=>A b\/b=acc) m (L2.upd H1 acc (.dK [])):=g1.pn.grow' (g1.pn.same (xq.upd hacc)) (Fr.of hacc) zj zne BC;have nacc:∀k w,k∈zO M BF->(uF D BF)[k]?=some (some w)->(xB G BF)[k]?≠some (some (.ref acc)):=λk w hk hw z=>by obtain⟨v,s1,_,s3⟩:=(E1.cap hn).val k w hw;obtain⟨a,e,hA,_⟩:=s3 hk;rw[z] at s1;cases s1;cases e;show E1.new hacc hA
 have key:∀ σ' ρ' H',EnvR (λb=>A b\/b=acc) (zO M BF) σ' H' ρ'->(∀k∈zO M BF,σ'[k]?=(xB G BF)[k]?/\ρ'[k]?=(uF D BF)[k]?)->∀k w,k∈zO M BF->ρ'[k]?=some (some w)->σ'[k]?≠some (some (.ref acc)):=λσ' ρ' H' E' hfx k w hk hw z=>by right
 show#[λi mm σ' H'=>mm=l.length - i/\i<=l.length/\∃ ρ' n' accD xs,EnvR (λb=>A b\/b=acc) (zO M BF) σ' H' ρ'/\xP Pn (λb=>A b\/b=acc) n' H'/\I i ρ' n' accD/\H' acc=some (.dK xs)/\xU (zL (λb=>A b\/b=acc) H') accD xs/\accD.length<=i/\(∀q∈xs,∃j:Int,q.1=Sum.inl j)/\zo (zL A H1) (zL (λb=>A b\/b=acc) H')/\zo H1 H'/\(∀k∈zO M BF,σ'[k]?=(xB G BF)[k]?/\ρ'[k]?=(uF D BF)[k]?),
  #[l.length,by simp,aS _,_,m,[],[],E2,P2,i0,zj,BC,ak _,by simp,yk (zo.upd hacc) (Fr.of hacc),zo.upd hacc,λk hk=>#[rfl,rfl]],?_]
 rintro i mm σ' H' ⟨rfl,hil,ρ',n',accD,xs,E',P',hI,hac,hxs,hal,hin,st,s1,hfx⟩;by_cases hlt:i<l.length
 show Or.inr ?_;have hget:l[i]?=some l[i]:=aj hlt;obtain⟨go,yl⟩:=iv.one i l[i] _ H' hget st (λ_=>s1) λp hp=>E'.new hp
 show#[go,λσ2 H2=>∃ ρ' n' accD xs,EnvR (λb=>A b\/b=acc) (zO M BF) σ2 H2 ρ'/\xP Pn (λb=>A b\/b=acc) n' H2/\I (i+1) ρ' n' accD/\H2 acc=some (.dK xs)/\xU (zL (λb=>A b\/b=acc) H2) accD xs/\accD.length<=i+1/\(∀q∈xs,∃j:Int,q.1=Sum.inl j)/\zo (zL A H1) (zL (λb=>A b\/b=acc) H2)/\zo H1 H2/\(∀k∈zO M BF,σ2[k]?=(xB G BF)[k]?/\ρ'[k]?=(uF D BF)[k]?),
  λσ2 H2 h=>#[l.length - (i+1),by lia,BC,hlt,h],λx H2 hy=>?_]
 obtain⟨S2,V2⟩:=yl x H2 hy;show hg.run _ σ' H2 ρ' x l[i] _ _ (E'.stay (zo.same S2)) V2 (it i l[i] ρ' n' accD hget hI) λσ3 ρ3 r3 E3 f3=>?_;have hfx3:∀k∈zO M BF,σ3[k]?=(xB G BF)[k]?/\ρ3[k]?=(uF D BF)[k]?:=λk hk=>#[(f3 k hk).1.trans (hfx k hk).1,(f3 k hk).2.trans (hfx k hk).2];show ht.run _ σ3 H2 ρ3 n' _ _ E3 (P'.same S2) r3 λb m3 H4 r4 g4=>?_;have s24:=(zo.same S2).trans g4.st
 cases b with
 | false=>
  rw[if_neg (by ext)] at r4 ⊢;show#[ρ3,m3,accD,xs,E3.stay g4.st,g4.pn,r4,s24 _ _ hac (zjT hin),hxs.stay (zw s24),by lia,hin,st.trans (zw s24),s1.trans s24,hfx3]
 | true=>
  rw[if_pos rfl] at r4 ⊢;show hk.run _ σ3 H4 ρ3 m3 _ _ (E3.stay g4.st) g4.pn r4 λy5 m5 u5 H5 r5 B5 g5=>?_;show he.run _ σ3 H5 ρ3 m5 _ _ ((E3.stay g4.st).stay g5.st) g5.pn r5  ?_;rintro w6 m6 v6 H6 ⟨ky,d,ey,e6,r6⟩ V6 g6 _;subst ey e6;have s26:=(s24.trans g5.st).trans g6.st;have E6:=((E3.stay g4.st).stay g5.st).stay g6.st;have hac6:H6 acc=some (.dK xs):=s26 _ _ hac (zjT hin);have eu:u5 = .int ky:=B5;subst eu;have hpl:=zpo accD (Sum.inl ky:Key) d;have hin2:∀q∈za6 xs (Sum.inl ky:Key) v6,∃j:Int,q.1=Sum.inl j:=zkd hin;show#[_,zh9.k (k:=(Sum.inl ky:Key)) hac6 (zgY (by rw[hxs.len];lia)),ρ3,m6,zgd accD (Sum.inl ky) d,za6 xs (Sum.inl ky) v6,E6.upd (.inr BC) (key σ3 ρ3 H6 E6 hfx3) (zjT hin2) BC,g6.pn.upd (.inr BC),r6,zj,?_,by lia,hin2,?_,?_,hfx3];rw[z5 (.inr BC)];show (hxs.stay (zw s26)).put V6.is;rw[z5 (.inr BC)];show st.trans (zw s26);show λb o e nn=>by rw[ze (zb e hacc)];show s1.trans s26 b o e nn
 show Or.inl ?_;have hie:i=l.length:=by lia
 subst hie;show#[iv.stop _ H' st (λ_=>s1),k _ n' _ H' (ie ρ' n' accD hI) #[acc,xs,BC,zB (E1.new hacc) hac,hxs.stay (zo.same (yF λb z=>.inl z)),zjT hin _ BC] (g1.trans #[s1,P'.less λa z=>.inl z]) λ_=>#[acc,BC,(Fr.of hacc).back g1.st,#[_,hac,BC],acc,xs,BC,hac,hxs,zjT hin _ BC]]]
def zvK {scope:Scope}{N:AN}(h:∀C s H ex,JB (zm X scope N C s H ex) Pn M e f):∃te,(∀C s H ex,QE (zm X scope N C s H ex) e te)/\RB Pn M te f:=
 #[λG H Q=>∀C s H0 ex,(h C s H0 ex).ex.choose G H Q,λC s H0 ex=>#[λBD s' G H Q I z=>(h C s H0 ex).ex.choose_spec.1.run BD s' G H Q I (z C s H0 ex)],
  #[λA G H D n Q R E P hf k C s H0 ex=>(h C s H0 ex).ex.choose_spec.2.run A G H D n Q R E P hf k]]
def zgU {ke ve tg iter:Expr}{ifs:AQ}{scope:Scope}{N:AN}{BF:List (Option Nat)}{fi:AD}{mg:W->Ev->(Ev->Prop)->Prop}{ft:Ev->Mo Bool}{fk fv:AE}{ow:Bool}(hu:X.A.units+1<cLine)(hc:X.calm=true)(cc:CompOk X scope N BF)
  (hi:JI X Pn M ow tg iter fi) (hg:∀C s H ex,JG (zm X scope N C s H ex) (zO M BF) (zO M BF) tg mg) (ht:∀C s H ex,JTs (zm X scope N C s H ex) Pn (zO M BF) ifs ft) (hk:∀C s H ex,JB (zm X scope N C s H ex) Pn (zO M BF) ke fk) (he:∀C s H ex,JE (zm X scope N C s H ex) Pn (zO M BF) fr' ve fv)
  (hn:(BF.filterMap id).Nodup:=by ext) (hs:∀x,foldedSetIterable iter X.env x=pure x:=by intro _;rfl):JE X Pn M true (.DictComp ke ve [#[tg,iter,ifs,0]] scope pos) (zf3 fi mg ft fk fv BF):=by
 obtain⟨ti,qi,ri⟩:=hi.ex;obtain⟨g,qg,rg⟩:=zfu hg;obtain⟨tt,qt,rt⟩:=zfv ht;obtain⟨tk,qk,rk⟩:=zvK hk;obtain⟨te,qe,re⟩:=zh8 he;show#[_,zge (o0:=.dK []) (by simp) hu hc cc qi qg qt qk qe hs,zfc hn ri rg rt rk re]
end
abbrev onI (w:W) (P:Int->Prop):Prop:=match w with | .d (.int i)=>P i | _=>False
abbrev onB (w:W) (P:Bool->Prop):Prop:=match w with | .d (.bl i)=>P i | _=>False
abbrev onT (w:W) (P:AT->Prop):Prop:=match w with | .d (.tup i)=>P i | _=>False
abbrev onL (w:W) (P:AT->Prop):Prop:=match w with | .d (.lst i)=>P i | _=>False
abbrev onS (w:W) (P:AT->Prop):Prop:=match w with | .d (.lst i)=>P i | .d (.tup i)=>P i | _=>False
abbrev onD (w:W) (P:Dt->Prop):Prop:=match w with | .d i=>P i | _=>False
abbrev onK (w:W) (P:List (Key×Dt)->Prop):Prop:=match w with | .dk i=>P i | _=>False
abbrev onE (w:W) (P:List (AH×Dt)->Prop):Prop:=match w with | .dt i=>P i | _=>False
abbrev onO {α:Type} (o:Option α) (P:α->Prop):Prop:=match o with | some i=>P i | none=>False
abbrev onC (c:Bool) (A B:Prop):Prop:=match c with | true=>A | false=>B
abbrev on1 (l:AV) (P:W->Prop):Prop:=match l with | [a]=>P a | _=>False
abbrev on2 (l:AV) (P:W->W->Prop):Prop:=match l with | [a,b]=>P a b | _=>False
abbrev onV:Ev->Nat->(W->Prop)->Prop
 | [],_,_=>False
 | a::_,0,P=>onO a P
 | _::r,i+1,P=>onV r i P
abbrev onP:Ev->Nat->W->(Ev->Prop)->Prop
 | [],_,_,Q=>Q []
 | _::r,0,w,Q=>Q (some w::r)
 | a::r,i+1,w,Q=>onP r i w λr'=>Q (a::r')
abbrev onN:Ev->Nat->(Ev->Prop)->Prop
 | [],_,Q=>Q []
 | _::r,0,Q=>Q (none::r)
 | a::r,i+1,Q=>onN r i λr'=>Q (a::r')
abbrev zct {α:Type}:Nat->List α->Prop->Prop
 | 0,[],P=>P
 | k+1,_::r,P=>zct k r P
 | _,_,_=>False
def xK {w:W}{P:Int->Prop}:onI w P = ∃i,w = .d (.int i)/\P i:=propext #[λh=>by rcases w with (x|x|x|x|_|_) <;> first | show False.elim h | (cases x <;> first | show False.elim h | show#[_,BC,h]),by right]
def zjX {w:W}{P:Bool->Prop}:onB w P = ∃i,w = .d (.bl i)/\P i:=propext #[λh=>by rcases w with (x|x|x|x|_|_) <;> first | show False.elim h | (cases x <;> first | show False.elim h | show#[_,BC,h]),by rintro⟨i,e,h⟩;subst e;show h]
def zar {w:W}{P:AT->Prop}:onT w P = ∃i,w = .d (.tup i)/\P i:=propext #[λh=>by rcases w with (x|x|x|x|_|_) <;> first | show False.elim h | (cases x <;> first | show False.elim h | show#[_,BC,h]),by right]
def x6 {w:W}{P:AT->Prop}:onL w P = ∃i,w = .d (.lst i)/\P i:=propext #[λh=>by rcases w with (x|x|x|x|_|_) <;> first | show False.elim h | (cases x <;> first | show False.elim h | show#[_,BC,h]),by right]
def ze6 {w:W}{P:AT->Prop}:onS w P = ∃i,(w = .d (.lst i)\/w = .d (.tup i))/\P i:=propext #[λh=>by rcases w with (x|x|x|x|_|_) <;> first | show False.elim h | (cases x <;> first | show False.elim h | show#[_,.inl BC,h] | show#[_,.inr BC,h]),by rintro⟨i,e,h⟩;rcases e with e | e <;> subst e <;> show h]
def x5 {w:W}{P:Dt->Prop}:onD w P = ∃i,w = .d i/\P i:=propext #[λh=>by cases w <;> first | show False.elim h | show#[_,BC,h],by right]
def ze5 {w:W}{P:List (Key×Dt)->Prop}:onK w P = ∃i,w = .dk i/\P i:=propext #[λh=>by cases w <;> first | show False.elim h | show#[_,BC,h],by right]
def zaX {α:Type}{w:Option α}{P:α->Prop}:onO w P = ∃i,w=some i/\P i:=propext #[λh=>by cases w <;> first | show False.elim h | show#[_,BC,h],by right]
def uT {c:Bool}{A B:Prop}:onC c A B=if c=true then A else B:=by cases c <;> simp[onC]
def x4 {l:AV}{P:W->Prop}:on1 l P = ∃a,l=[a]/\P a:=propext #[λh=>by rcases l with (_|⟨a,_|⟨b,l⟩⟩) <;> first | show False.elim h | show#[_,BC,h],by right]
def zrF {l:AV}{P:W->W->Prop}:on2 l P = ∃a b,l=[a,b]/\P a b:=propext #[λh=>by rcases l with (_|⟨a,_|⟨b,_|⟨c,l⟩⟩⟩) <;> first | show False.elim h | show#[_,_,BC,h],by right]
theorem zas:∀ {D:Ev} {i:Nat} {P:W->Prop},onV D i P = ∃w,D[i]?=some (some w)/\P w
 | [],i,P=>by simp[onV]
 | some w::r,0,P=>by simp[onV]
 | none::r,0,P=>by simp[onV]
 | some w::r,i+1,P=>by simpa [onV] using zas (D:=r) (i:=i) (P:=P)
 | none::r,i+1,P=>by simpa [onV] using zas (D:=r) (i:=i) (P:=P)
theorem zdf:∀ {D:Ev} {i:Nat} {w:W} {Q:Ev->Prop},onP D i w Q=Q (D.set i (some w))
 | [],i,w,Q=>rfl
 | a::r,0,w,Q=>rfl
 | a::r,i+1,w,Q=>by rw[onP,zdf];rfl
theorem zng:∀ {D:Ev} {i:Nat} {Q:Ev->Prop},onN D i Q=Q (D.set i none)
 | [],i,Q=>rfl
 | a::r,0,Q=>rfl
 | a::r,i+1,Q=>by rw[onN,zng];rfl
theorem zd1 {α:Type}:∀ {k:Nat} {l:List α} {P:Prop},zct k l P=(l.length=k/\P)
 | 0,[],P=>by simp[zct]
 | 0,a::r,P=>by simp[zct]
 | k+1,[],P=>by simp[zct]
 | k+1,a::r,P=>by simp[zct,zd1 (l:=r)]
def uh {P:Prop}[Decidable P]{A B:Prop}(h1:P->A)(h2:¬ P->B):onC (decide P) A B:=by
 by_cases h:P
 all_goals right
def zoO {P:Prop}[Decidable P]{A B:Prop}(h1:¬ P->A)(h2:P->B):onC (!decide P) A B:=by
 by_cases h:P
 all_goals right
def ze4 {c:Bool}{A B:Prop}(h1:c=true->A)(h2:c=false->B):onC c A B:=by
 cases c;show h2 BC;show h1 BC
def zjY {c:Bool}{A B:Prop}(h1:c=false->A)(h2:c=true->B):onC (!c) A B:=by
 cases c;show h1 BC;show h2 BC
def zhP {c:Bool}{A B:Prop}(h:c=true)(h1:A):onC c A B:=by subst h;show h1
def zhO {c:Bool}{A B:Prop}(h:c=false)(h1:B):onC c A B:=by subst h;show h1
def zcu {α:Type}{o:Option α}{a:α}{P:α->Prop}(e:o=some a)(h:P a):onO o P:=by subst e;show h
def onA {st:AH}{b:Int}{P:Dt->Prop}(h0:0<=b)(h1:b<st.length)(h:P (.int (zu st b))):onO (atI (st.map Dt.int) b) P:=zcu (znE h0 h1) h
def zu7 {L:AT}{a:Int}{P:Dt->Prop}(h0:0<=a)(h1:a<L.length)(h:∀x∈L,P x):onO (atI L a) P:=by obtain⟨x,e,hx⟩:=zqz h0 h1 h;show zcu e hx
section
variable {X:Cx}{Pn:PN}{M S:AS}{fr fr':Bool}{e a b c:Expr}{es:AQ}{f fa fb fc g:AE}{pos p:Pos}{t u:Ev->Mo Bool}{fs gs:AD}
def wE (h:f=g)(j:JE X Pn M fr e f):JE X Pn M fr e g:=h ▸ j
def wB (h:f=g)(j:JB X Pn M e f):JB X Pn M e g:=h ▸ j
def wT (h:t=u)(j:JT X Pn M e t):JT X Pn M e u:=h ▸ j
def wW (h:t=u)(j:JW X Pn M e t):JW X Pn M e u:=h ▸ j
def wO {f g:Ev->Mo AR}{e:Option Expr}(h:f=g)(j:JO X Pn M e f):JO X Pn M e g:=h ▸ j
def wG {f g:W->Ev->(Ev->Prop)->Prop}(h:f=g)(j:JG X S M e f):JG X S M e g:=h ▸ j
def wH {f g:AT->Ev->(Ev->Prop)->Prop}(h:f=g)(j:JGs X S M es f):JGs X S M es g:=h ▸ j
def wI {tg:Expr}{ow:Bool}(h:fs=gs)(j:JI X Pn M ow tg e fs):JI X Pn M ow tg e gs:=h ▸ j
def wS {s:Stmt}{f g:Ms}(h:f=g)(j:JS X Pn S M fr s f):JS X Pn S M fr s g:=h ▸ j
abbrev ztx (i:Nat):AE:=λD n Q=>onV D i λw=>Q w n
def zjK {i:Nat}:zrw i=ztx i:=by funext D n Q;show zas.symm
def kv (i:Nat){x:Str}(hi:i∉M:=by ext)(hN:X.N[i]?=some x:=by rfl)(hv:Vis X.env.scope x:=by fail"v")(hd:Ai x:=by ext)
  (hcd:(x==("__classdict__" : Str))=false:=by ext):JE X Pn M false (.Name x pos) (ztx i):=wE zjK (zuG i hi hN hv hd hcd)
def kb (i:Nat){x:Str}(hN:X.N[i]?=some x:=by rfl)(hv:Vis X.env.scope x:=by fail"v")(hd:Ai x:=by ext)
  (hcd:(x==("__classdict__" : Str))=false:=by ext):JB X Pn M (.Name x pos) (ztx i):=wB zjK (zuE i hN hv hd hcd)
abbrev ztw (fa:AE):Ev->Mo Bool:=λD n Q=>fa D n λx m=>onB x λc=>Q c m
def zp:zjJ fa=ztw fa:=by funext D n Q;simp only[zjJ,ztw,zjX]
abbrev dAnd (t u:Ev->Mo Bool):Ev->Mo Bool:=λD n Q=>t D n λc m=>onC c (u D m Q) (Q false m)
def zbd:ztA t u=dAnd t u:=by funext D n Q;simp only[ztA,dAnd,uT]
abbrev dOr (t u:Ev->Mo Bool):Ev->Mo Bool:=λD n Q=>t D n λc m=>onC c (Q true m) (u D m Q)
def zdc:mOr t u=dOr t u:=by funext D n Q;simp only[mOr,dOr,uT]
abbrev dNot (t:Ev->Mo Bool):Ev->Mo Bool:=λD n Q=>t D n λc m=>onC c (Q false m) (Q true m)
def uQ:zuX t=dNot t:=by funext D n Q;simp only[zuX,dNot];congr 1;funext c m;cases c <;> rfl
abbrev zqN (fa fb:AE):AE:=λD n Q=>fa D n λx m=>onB x λc=>onC c (fb D m Q) (Q (.d (.bl false)) m)
def zlR:zox fa fb=zqN fa fb:=by funext D n Q;simp only[zox,zqN,uT,zjX]
abbrev dOrV (fa fb:AE):AE:=λD n Q=>fa D n λx m=>onB x λc=>onC c (Q (.d (.bl true)) m) (fb D m Q)
abbrev dNotV (fa:AE):AE:=λD n Q=>fa D n λx m=>onB x λc=>Q (.d (.bl (!c))) m
abbrev dIf (t:Ev->Mo Bool) (fa fb:AE):AE:=λD n Q=>t D n λc m=>onC c (fa D m Q) (fb D m Q)
def zrq:mIf t fa fb=dIf t fa fb:=by funext D n Q;simp only[mIf,dIf,uT]
abbrev dI (C:Int->Int->Prop) (g:Int->Int->Dt):W->W->Mo W:=λx y n Q=>onI x λi=>onI y λj=>C i j/\Q (.d (g i j)) n
def zup {C:Int->Int->Prop}{g:Int->Int->Dt}:fI C g=dI C g:=by funext x y n Q;simp only[dI,xK];show propext #[by rintro⟨i,j,e1,e2,h⟩;show#[i,e1,j,e2,h],by rintro⟨i,e1,j,e2,h⟩;show#[i,j,e1,e2,h]]
abbrev dI0 (g:Int->Int->Dt):W->W->Mo W:=λx y n Q=>onI x λi=>onI y λj=>Q (.d (g i j)) n
def zey {g:Int->Int->Dt}:fI0 g=dI0 g:=by funext x y n Q;simp only[dI0,xK];show propext #[by rintro⟨i,j,e1,e2,h⟩;show#[i,e1,j,e2,h],by rintro⟨i,e1,j,e2,h⟩;show#[i,j,e1,e2,h]]
def zek:F2 Pn false (rI0 λi j=>.int (i+j)) (dI0 λi j=>.int (i+j)):=zey ▸ zvM
def zvJ:F2 Pn false (rI0 λi j=>.int (i - j)) (dI0 λi j=>.int (i - j)):=zey ▸ zvW
def zqd:F2 Pn false (rI zmQ λi j=>.int (i * j)) (dI zmQ λi j=>.int (i * j)):=zup ▸ zvU
def zvH:F2 Pn false (rI0 λi j=>.bl (decide (i<j))) (dI0 λi j=>.bl (decide (i<j))):=zey ▸ v_lt
def u_le:F2 Pn false (rI0 λi j=>.bl (decide (i<=j))) (dI0 λi j=>.bl (decide (i<=j))):=zey ▸ v_le
def u_gt:F2 Pn false (rI0 λi j=>.bl (decide (i > j))) (dI0 λi j=>.bl (decide (j<i))):=zey ▸ v_gt
abbrev dNeg:W->Mo W:=λx n Q=>onI x λi=>Q (.d (.int (-i))) n
abbrev dEq:W->W->Mo W:=λx y n Q=>onD x λa=>onD y λb=>onO (sEq a b) λr=>Q (.d (.bl r)) n
def zqZ:fEq=dEq:=by
 funext x y n Q;simp only[fEq,dEq,x5,zaX];right
abbrev dNe:W->W->Mo W:=λx y n Q=>onD x λa=>onD y λb=>onO (sEq a b) λr=>Q (.d (.bl (!r))) n
def zq0:fNe=dNe:=by
 funext x y n Q;simp only[fNe,dNe,x5,zaX];right
def zgx:F2 Pn false rEq dEq:=zqZ ▸ v_eq
def zvI:F2 Pn false rNe dNe:=zq0 ▸ v_ne
abbrev zt0:W->W->Mo W:=λx y n Q=>onD x λa=>onD y λb=>a.eqOk/\b.eqOk/\∀r:Bool,(r=true↔a=b)->Q (.d (.bl r)) n
abbrev zue:W->W->Mo W:=λx y n Q=>onD x λa=>onD y λb=>a.eqOk/\b.eqOk/\∀r:Bool,(r=true↔a=b)->Q (.d (.bl (!r))) n
def znU:zuo=zt0:=by
 funext x y n Q;simp only[zuo,zt0,x5];right
def zn0:zuv=zue:=by
 funext x y n Q;simp only[zuv,zue,x5];right
def zta:F2 Pn false ztF zt0:=znU ▸ zvO
def zqe:F2 Pn false ztJ zue:=zn0 ▸ zvV
abbrev dIsB:W->W->Mo W:=λx y n Q=>onB x λa=>onB y λb=>Q (.d (.bl (a==b))) n
abbrev zt5:W->W->Mo W:=λx y n Q=>onB x λa=>onB y λb=>Q (.d (.bl (a != b))) n
abbrev zt3:W->W->Mo W:=λx y n Q=>onI x λb=>onS y λl=>∃ns:AH,l=ns.map .int/\Q (.d (.bl (ns.contains b))) n
abbrev zfM:W->W->Mo W:=λx y n Q=>onI x λb=>onS y λl=>∃ns:AH,l=ns.map .int/\Q (.d (.bl (!ns.contains b))) n
def znW:zur=zt3:=by funext x y n Q;simp only[zur,zt3,xK,ze6];show propext #[by rintro⟨a,b,e1,e2,h⟩;show#[a,e1,_,e2,b,BC,h],by rintro⟨a,e1,l,e2,b,e,h⟩;subst e;show#[a,b,e1,e2,h]]
def zhD:zfR=zfM:=by funext x y n Q;simp only[zfR,zfM,xK,ze6];show propext #[by rintro⟨a,b,e1,e2,h⟩;show#[a,e1,_,e2,b,BC,h],by rintro⟨a,e1,l,e2,b,e,h⟩;subst e;show#[a,b,e1,e2,h]]
def zqa {K:AI}:F2 Pn false (rIn K false) zt3:=znW ▸ zvQ
def zbT {K:AI}:F2 Pn false (rIn K true) zfM:=zhD ▸ zmO
abbrev xr:Bool->Bool->Bool
 | false,b=>b
 | true,b=>!b
abbrev zt2 (neg:Bool):W->W->Mo W:=λx y n Q=>onD x λd=>onS y λds=>d.eqOk/\(Dt.lst ds).eqOk/\∀b:Bool,(b=true↔d∈ds)->Q (.d (.bl (xr neg b))) n
def ztl {neg b:Bool}:(if neg then !b else b)=xr neg b:=by cases neg <;> rfl
def znV {neg:Bool}:zuq neg=zt2 neg:=by
 funext x y n Q;simp only[zuq,zt2,x5,ze6,ztl];right
def ztb {neg:Bool}:F2 Pn false (ztG neg) (zt2 neg):=znV ▸ zvP
abbrev zt9:W->W->Mo W:=λx y n Q=>onT x λl=>onI y λi=>onO (atI l i) λd=>Q (.d d) n
abbrev zt8:W->W->Mo W:=λx y n Q=>onL x λl=>onI y λi=>onO (atI l i) λd=>Q (.d d) n
def znY:zut=zt9:=by
 funext x y n Q;simp only[zut,zt9,zar,xK,zaX];right
def znX:zus=zt8:=by
 funext x y n Q;simp only[zus,zt8,x6,xK,zaX];right
def zaj {K:AI}:F2 Pn false (ztI K) zt9:=znY ▸ zvS
def zft {K:AI}:F2 Pn false (ztH K) zt8:=znX ▸ zvR
abbrev znP:W->W->Mo W:=λx y n Q=>onT x λl=>onT y λm=>l.length+m.length<=lim/\Q (.d (.tup (l++m))) n
abbrev znO:W->W->Mo W:=λx y n Q=>onL x λl=>onL y λm=>l.length+m.length<=lim/\Q (.d (.lst (l++m))) n
def zlu:zfQ=znP:=by
 funext x y n Q;simp only[zfQ,znP,zar];right
def zlt:znT=znO:=by
 funext x y n Q;simp only[znT,znO,x6];right
def uB {K:AI}:F2 Pn false (zmx K) znP:=zlu ▸ zth
def zs9:F2 Pn true zpI znO:=zlt ▸ ztg
abbrev znQ:W->W->Mo W:=λx y n Q=>onT x λl=>onI y λj=>(1<=j/\j<=1000000/\l.length * j.toNat<=lim)/\Q (.d (.tup (List.replicate j.toNat l).flatten)) n
abbrev dRepL:W->W->Mo W:=λx y n Q=>onL x λl=>onI y λj=>(0<=j/\j<=1000000/\l.length * j.toNat<=lim)/\Q (.d (.lst (List.replicate j.toNat l).flatten)) n
def zlv:zn1=znQ:=by
 funext x y n Q;simp only[zn1,znQ,zar,xK,and_assoc];right
def zhr:F2 Pn false zpK znQ:=zlv ▸ zti
abbrev zua:AV->Mo W:=λws n Q=>on1 ws λx=>onO (lenD x) λk=>Q (.d (.int (k:Int))) n
def znZ:zuu=zua:=by
 funext ws n Q;simp only[zuu,zua,x4,zaX];right
def zaC {K:AI}:FL Pn false (λxs H Q=>∃x n,xs=[x]/\zqv K x H n/\Q (.int n) H) zua:=znZ ▸ zvT
abbrev dAbs:AV->Mo W:=λws n Q=>on1 ws λx=>onI x λi=>Q (.d (.int (if i<0 then -i else i))) n
abbrev dMin:AV->Mo W:=λws n Q=>on2 ws λx y=>onI x λi=>onI y λj=>Q (.d (.int (if j<i then j else i))) n
abbrev dMax:AV->Mo W:=λws n Q=>on2 ws λx y=>onI x λi=>onI y λj=>Q (.d (.int (if j > i then j else i))) n
abbrev ztX:AV->Mo W:=λws n Q=>on1 ws λx=>onL x λl=>∃bs:List Bool,l=bs.map .bl/\Q (.d (.bl (bs.all id))) n
def znS:zun=ztX:=by funext ws n Q;simp only[zun,ztX,x4,x6];show propext #[by rintro⟨x,e,h⟩;show#[_,e,_,BC,x,BC,h],by right]
def zp8:FL Pn false (λxs H Q=>∃ (p:Addr) (bs:List Bool),xs=[.ref p]/\Rd H p (.lst (bs.map V.bl))/\Q (.bl (bs.all id)) H) ztX:=znS ▸ zvN
abbrev dList:AV->Mo W:=λws n Q=>on1 ws λx=>onS x λl=>Q (.d (.lst l)) n
abbrev zmX:AV->Mo W:=λws n Q=>on1 ws λx=>onS x λl=>Q (.d (.tup l)) n
def zvy {ws:AV}{P:AT->Prop}:(∃l,(ws=[.d (.lst l)]\/ws=[.d (.tup l)])/\P l)=on1 ws λx=>onS x P:=by
 simp only[x4,ze6];grind
def zcK {K:AI}:FL Pn false (zgi K) zmX:=(show zm1=zmX by funext ws n Q;show zvy) ▸ zqk
abbrev ziH:AV->Mo W:=λws n Q=>on1 ws λx=>onT x λl=>∃ps:List (Int×Dt),l=ps.map prD/\(ps.map (·.1)).Nodup/\ps.length<=1000/\Q (.dk (ps.map kvD)) n
def zi0:ziZ=ziH:=by funext ws n Q;simp only[ziZ,ziH,x4,zar];show propext #[by rintro⟨x,e,h⟩;show#[_,e,_,BC,x,BC,h],by right]
def zp9:FL Pn true zkr ziH:=zi0 ▸ zqh
abbrev dInt1:AV->Mo W:=λws n Q=>on1 ws λx=>match x with
 | .d (.int i)=>Q (.d (.int i)) n
 | .d (.bl b)=>Q (.d (.int (if b then 1 else 0))) n
 | _=>False
abbrev ziI:AV->Mo W:=λws n Q=>on1 ws λx=>onL x λl=>∃ns:AH,l=ns.map .int/\ns.length<64/\∀ns':AH,ns'.Perm ns->ns'.Pairwise (·<=·)->Q (.d (.lst (ns'.map .int))) n
def zi2:zi1=ziI:=by funext ws n Q;simp only[zi1,ziI,x4,x6];show propext #[by rintro⟨x,e,h⟩;show#[_,e,_,BC,x,BC,h],by right]
def zqf:FL Pn true zkt ziI:=zi2 ▸ zqi
abbrev ziJ:AV->Mo W:=λws n Q=>on1 ws λx=>onL x λl=>∃ (BG:AG) (m:Nat),l=BG.map stD/\BG.length<64/\1<=m/\(∀st∈BG,st.length=m)/\BG.Nodup/\∀sts':AG,sts'.Perm BG->(sts'.Pairwise λa b=>HT.lexLt a b=true)->Q (.d (zhk sts')) n
def zi4:zi3=ziJ:=by funext ws n Q;simp only[zi3,ziJ,x4,x6];show propext #[by rintro⟨x,m,e,h⟩;show#[_,e,_,BC,x,m,BC,h],by right]
def zqg:FL Pn true zpL ziJ:=zi4 ▸ zqj
abbrev dListD:AV->Mo W:=λws n Q=>on1 ws λx=>onE x λBE=>((BE.map (·.1)).Nodup->Q (.d (.lst ((BE.map (·.1)).map stD))) n)
variable {fk fd fv:AE}
abbrev zqT (fa:AE):Ev->Mo AR:=λD n Q=>fa D n λx m=>onI x λi=>Q (some i) m
def xb:zoH fa=zqT fa:=by funext D n Q;simp only[zoH,zqT,xK]
abbrev dSlT (fa:AE) (fl fh:Ev->Mo AR):AE:=λD n Q=>fa D n λx n1=>fl D n1 λlo n2=>fh D n2 λhi n3=>onT x λl=>Q (.d (.tup (ut l lo hi))) n3
def zbe {fl fh:Ev->Mo AR}:zuZ fa fl fh=dSlT fa fl fh:=by funext D n Q;simp only[zuZ,dSlT,zar]
abbrev dSlL (fa:AE) (fl fh:Ev->Mo AR):AE:=λD n Q=>fa D n λx n1=>fl D n1 λlo n2=>fh D n2 λhi n3=>onL x λl=>Q (.d (.lst (ut l lo hi))) n3
def zdR {fl fh:Ev->Mo AR}:zuY fa fl fh=dSlL fa fl fh:=by funext D n Q;simp only[zuY,dSlL,x6]
abbrev dRevT (fa:AE):AE:=λD n Q=>fa D n λx m=>onT x λl=>Q (.d (.tup l.reverse)) m
abbrev dRevL (fa:AE):AE:=λD n Q=>fa D n λx m=>onL x λl=>Q (.d (.lst l.reverse)) m
abbrev zqO (fd fk:AE):AE:=λD n Q=>fd D n λx n1=>fk D n1 λy n2=>onK x λBE=>onO (zor y) λk=>onO (yp BE k) λd=>Q (.d d) n2
def zbP:zoz fd fk=zqO fd fk:=by
 funext D n Q;simp only[zoz,zqO,ze5,zaX];right
abbrev ztY (neg:Bool) (fk fd:AE):AE:=λD n Q=>fk D n λy n1=>fd D n1 λx n2=>onK x λBE=>onO (zor y) λk=>Q (.d (.bl (xr neg (yp BE k).isSome))) n2
def zoA {neg:Bool}:zrp neg fk fd=ztY neg fk fd:=by
 funext D n Q;simp only[zrp,ztY,ze5,zaX,ztl];right
def zlW {neg:Bool}:zjJ (zrp neg fk fd)=ztw (ztY neg fk fd):=by rw[zoA,zp]
abbrev dFn (k:Nat) (F:AV->Mo W) (fs:AD):AE:=λD n Q=>fs D n λws m=>zct k ws (F ws m Q)
def zq {k:Nat}{F:AV->Mo W}:mFn k F fs=dFn k F fs:=by funext D n Q;simp only[mFn,dFn,zd1]
abbrev dFnB (k:Nat) (fr:Bool) (F:AV->Mo W) (fs:AD):AE:=λD n Q=>fs D n λws m=>zct k ws (F ws m λw m'=>W.flat fr w=true/\Q w m')
abbrev eN (i:Nat):W->Ev->(Ev->Prop)->Prop:=λw D Q=>onP D i w Q
def zt {i:Nat}:gN i=eN i:=by funext w D Q;show zdf.symm
abbrev eNl:AT->Ev->(Ev->Prop)->Prop:=λds D Q=>match ds with | []=>Q D | _=>False
def yN:gNl=eNl:=by
 funext ds D Q
 cases ds with
 | nil=>simp[gNl,eNl]
 | cons _ _=>simp[gNl,eNl]
abbrev eCn (g:W->Ev->(Ev->Prop)->Prop) (u:AT->Ev->(Ev->Prop)->Prop):AT->Ev->(Ev->Prop)->Prop:=λds D Q=>match ds with | d::r=>g (.d d) D λρ'=>u r ρ' Q | []=>False
def zx {g:W->Ev->(Ev->Prop)->Prop}{u:AT->Ev->(Ev->Prop)->Prop}:gCn g u=eCn g u:=by
 funext ds D Q
 cases ds with
 | nil=>simp[gCn,eCn]
 | cons d r=>show propext #[by rintro⟨d',r',e,h⟩;cases e;show h,λh=>#[d,r,BC,h]]
abbrev eTp (n:Nat) (u:AT->Ev->(Ev->Prop)->Prop):W->Ev->(Ev->Prop)->Prop:=λw D Q=>onT w λds=>zct n ds (u ds D Q)
def yO {n:Nat}{u:AT->Ev->(Ev->Prop)->Prop}:gTp n u=eTp n u:=by funext w D Q;simp only[gTp,eTp,zar,zd1]
abbrev zt6 (fa:AE):AD:=λD n Q=>fa D n λx m=>onL x λl=>Q (l.map W.d) m
abbrev zt7 (fa:AE):AD:=λD n Q=>fa D n λx m=>onT x λl=>Q (l.map W.d) m
def zN:zrr fa=zt6 fa:=by funext D n Q;simp only[zrr,zt6,x6]
def xl:ztC fa=zt7 fa:=by funext D n Q;simp only[ztC,zt7,zar]
abbrev dItR (fs:AD):AD:=λD n Q=>fs D n λws m=>on1 ws λx=>onI x λj=>(j<=1000000/\-1000000<=j)/\Q (zhY 0 j.toNat) m
def yX:zuT fs=dItR fs:=by funext D n Q;simp only[zuT,dItR,x4,xK];congr 1;funext ws m;show propext #[by right,by right]
abbrev dItR2 (fs:AD):AD:=λD n Q=>fs D n λws m=>on2 ws λx y=>onI x λi=>onI y λj=>(j<=1000000/\-1000000<=j/\i<=1000000/\-1000000<=i)/\Q (zhY i (j - i).toNat) m
abbrev dItE (fs:AD):AD:=λD n Q=>fs D n λws m=>on1 ws λx=>onT x λl=>Q (enW 0 l) m
abbrev zqR (fs:AD):AD:=λD n Q=>fs D n λws m=>on1 ws λx=>onL x λl=>Q (enW 0 l) m
def zoE:zuS fs=dItE fs:=by funext D n Q;simp only[zuS,dItE,x4,zar];congr 1;funext ws m;show propext #[by right,by right]
def zlT:zoD fs=zqR fs:=by funext D n Q;simp only[zoD,zqR,x4,x6];congr 1;funext ws m;show propext #[by right,by right]
abbrev dItZ (fs:AD):AD:=λD n Q=>fs D n λws m=>on2 ws λx y=>onT x λl=>onT y λk=>l.length=k.length/\Q (ziW l k) m
abbrev dItZM (fs:AD):AD:=λD n Q=>fs D n λws m=>on2 ws λx y=>onL x λl=>onT y λk=>l.length=k.length/\Q (ziW l k) m
abbrev dItZL (fs:AD):AD:=λD n Q=>fs D n λws m=>on2 ws λx y=>onL x λl=>onL y λk=>Q (ziW l k) m
def zoF:zuV fs=dItZ fs:=by funext D n Q;simp only[zuV,dItZ,zrF,zar];congr 1;funext ws m;show propext #[by rintro⟨i,j,e,h⟩;show#[_,_,e,i,BC,j,BC,h],by rintro⟨x,y,e,i,e1,j,e2,h⟩;subst e1 e2;show#[i,j,e,h]]
abbrev dIfS (t:Ev->Mo Bool) (f g:Ms):Ms:=λD n k=>t D n λc m=>onC c (blk f D m k) (blk g D m k)
def ye {f g:Ms}:zuR t f g=dIfS t f g:=by funext D n k;simp only[zuR,dIfS,uT]
abbrev zuh (i:Nat):Ms:=λD n k=>onV D i λw=>k.rt w n
def zaU {i:Nat}:zoI i=zuh i:=by funext D n k;show zas.symm
abbrev dSet (i:Nat) (f:AE):Ms:=λD n k=>f D n λw m=>onP D i w λρ'=>k.nx ρ' m
def zv {i:Nat}:zoy f (gN i)=dSet i f:=by change zoy f (gN i)=zoy f (eN i);rw[zt]
abbrev dOwn (i:Nat) (f:AE):Ms:=λD n k=>f D n λw m=>onC (W.mut w) (onP D i w λρ'=>k.nx ρ' m) False
def xm {i:Nat}:zrv i f=dOwn i f:=by funext D n k;simp only[zrv,dOwn,zdf (Q:=λρ'=>k.nx ρ' _)];congr 1;funext w m;cases h:W.mut w <;> simp
abbrev dApp (i:Nat) (f:AE):Ms:=λD n k=>onV D i λv=>onL v λl=>f D n λw m=>onD w λd=>l.length<lim/\onP D i (.d (.lst (l++[d]))) λρ'=>k.nx ρ' m
def zjF {D:Ev}{i:Nat}{P:AT->Prop}:(onV D i λv=>onL v P) = ∃l,D[i]?=some (some (.d (.lst l)))/\P l:=by simp only[zas,x6];show propext #[by right,by right]
def uP {i:Nat}:ztB i f=dApp i f:=by
 funext D n k;simp only[ztB,dApp,zjF,x5,zdf (Q:=λρ'=>k.nx ρ' _)];show propext #[λ⟨⟨l,e⟩,h⟩=>#[l,e,?_],λ⟨l,e,h⟩=>#[#[l,e],?_]]
 all_goals
  right
abbrev dExt (i:Nat) (f:AE):Ms:=λD n k=>onV D i λv=>onL v λl=>f D n λw m=>onL w λl2=>l.length+l2.length<=lim/\onP D i (.d (.lst (l++l2))) λρ'=>k.nx ρ' m
def zoB {i:Nat}:zuQ i f=dExt i f:=by
 funext D n k;simp only[zuQ,dExt,zjF];simp only[x6,zdf (Q:=λρ'=>k.nx ρ' _)];show propext #[λ⟨⟨l,e⟩,h⟩=>#[l,e,?_],λ⟨l,e,h⟩=>#[#[l,e],?_]]
 all_goals
  right
abbrev dIns (i:Nat) (fk f:AE):Ms:=λD n k=>onV D i λv=>onL v λl=>fk D n λy m=>f D m λw m2=>onD w λd=>onI y λj=>(0<=j/\j<=l.length/\l.length<lim)/\onP D i (.d (.lst (insD l j.toNat d))) λρ'=>k.nx ρ' m2
abbrev dPopS (i:Nat) (fk:AE):Ms:=λD n k=>onV D i λv=>onL v λl=>fk D n λy m=>onI y λj=>(0<=j/\j<l.length/\l.length<=lim)/\onP D i (.d (.lst (l.eraseIdx j.toNat))) λρ'=>k.nx ρ' m
abbrev ztv (i:Nat):Ms:=λD n k=>onV D i λv=>onL v λl=>onP D i (.d (.lst l.reverse)) λρ'=>k.nx ρ' n
abbrev dPut (i:Nat) (fk f:AE):Ms:=λD n k=>onV D i λv=>onL v λl=>f D n λw m=>fk D m λy m2=>onD w λd=>onI y λj=>(0<=j/\j<l.length)/\onP D i (.d (.lst (l.set j.toNat d))) λρ'=>k.nx ρ' m2
abbrev onSt (w:W) (P:AH->Prop):Prop:=∃st,w = .d (stD st)/\P st
abbrev dDGetT (fd fk:AE):AE:=λD n Q=>fd D n λx n1=>fk D n1 λy n2=>onE x λBE=>∃st,y = .d (stD st)/\onO (yp BE st) λd=>Q (.d d) n2
abbrev dDPutT (i:Nat) (fk f:AE):Ms:=λD n k=>onV D i λv=>onE v λBE=>f D n λw m=>fk D m λy m2=>onD w λd=>∃st,y = .d (stD st)/\BE.length<lim/\onP D i (.dt (zgd BE st d)) λρ'=>k.nx ρ' m2
abbrev zlo (i j:Nat):Ms:=λD n k=>onV D j λw=>onN D j λρ1=>onP ρ1 i w λρ'=>k.nx ρ' n
def zlU {i j:Nat}:zrt i j=zlo i j:=by funext D n k;simp only[zrt,zlo,zas,zdf (Q:=λρ'=>k.nx ρ' _),zng (Q:=λρ1=>k.nx (ρ1.set i (some _)) n)]
abbrev dPar (i j:Nat) (fs:AD):Ms:=λD n k=>fs D n λws m=>on2 ws λw u=>onP D i w λρ1=>onP ρ1 j u λρ'=>k.nx ρ' m
abbrev dIsi (B:Dt->Bool) (f:AE):AE:=λD n Q=>f D n λw m=>onD w λd=>Q (.d (.bl (B d))) m
def zf4 {B:Dt->Bool}:zoC B f=dIsi B f:=by funext D n Q;simp only[zoC,dIsi,x5]
abbrev zgJ (fs:AD):AE:=λD n Q=>fs D n λws m=>on1 ws λx=>onI x λj=>(0<=j/\j<=1000)/\Q (.d (.lst (zib j.toNat))) m
abbrev zqU (fs:AD):AE:=λD n Q=>fs D n λws m=>on1 ws λx=>onI x λj=>(0<=j/\j<=1000)/\Q (.d (.tup (zib j.toNat))) m
def zsJ {ws:AV}{P:Nat->Prop}:(∃j:Nat,ws=[.d (.int (j:Int))]/\j<=1000/\P j)=on1 ws λx=>onI x λj=>(0<=j/\j<=1000)/\P j.toNat:=by simp only[x4,xK];show propext #[by rintro⟨j,e,h1,h⟩;show#[_,e,_,BC,#[by lia,by lia],by simpa using h],by rintro⟨x,e,j,e2,⟨h1,h2⟩,h⟩;show#[j.toNat,by grind,by lia,h]]
def zcl:zdQ fs=zgJ fs:=by funext D n Q;simp only[zdQ,zgJ];congr 1;funext ws m;show zsJ (P:=λj=>Q (.d (.lst (zib j))) m)
abbrev dTru (f:AE):Ev->Mo Bool:=λD n Q=>f D n λw m=>onO (truD w) λb=>Q b m
def zf5:zu0 f=dTru f:=by funext D n Q;simp only[zu0,dTru,zaX]
abbrev ziG (F BH:W->W->Mo W) (fa fb fc:AE):AE:=λD n Q=>fa D n λx n1=>fb D n1 λy n2=>F x y n2 λz n3=>onB z λk=>onC k (fc D n3 λu n4=>BH y u n4 Q) (Q (.d (.bl false)) n3)
def zjG {F BH:W->W->Mo W}:zeS F BH fa fb fc=ziG F BH fa fb fc:=by funext D n Q;simp only[zeS,ziG,zjX,uT]
def zlV {F BH:W->W->Mo W}:zjJ (zeS F BH fa fb fc)=ztw (ziG F BH fa fb fc):=by rw[zjG,zp]
def zgF {α:Type}{l:AV}{ρ0:Ev}{n:Nat}{mg:W->Ev->(Ev->Prop)->Prop}{ft:Ev->Mo Bool}{fe:AE}{Q:AW}(xs:List α)(toW:α->W)(hl:l=xs.map toW)(hlim:xs.length<=lim)(I:Nat->Ev->Nat->AT->Prop)(h0:I 0 ρ0 n [])
  (h:∀i a ρ' n' acc,xs[i]?=some a->I i ρ' n' acc->∀C:Ev->Nat->AT->Prop,(∀ {D m l},I (i+1) D m l->C D m l)->mg (toW a) ρ' λρ1=>ft ρ1 n' λb n2=>onC b (fe ρ1 n2 λx n3=>onD x λd=>C ρ1 n3 (acc++[d])) (C ρ1 n2 acc))
  (fin:∀ ρ' n' acc,I xs.length ρ' n' acc->Q (.d (.lst acc)) n'):zfH mg ft fe ρ0 Q l n:=by
 show zlf xs toW hl hlim I h0 (λi a ρ' n' acc ha hI C hC=>?_) fin;have:=h i a ρ' n' acc ha hI C hC;simp only[uT,x5] at this;show this
def za9 {α:Type}{l:AV}{ρ0:Ev}{n:Nat}{mg:W->Ev->(Ev->Prop)->Prop}{ft:Ev->Mo Bool}{fe:AE}{Q:AW}(xs:List α)(toW:α->W)(hl:l=xs.map toW)(J:Ev->Prop)(P:α->Bool)(E:α->Dt)(hlim:xs.length<=lim)(j0:J ρ0)
  (h:∀a∈xs,∀ ρ',J ρ'->∀C:Ev->Nat->Option Dt->Prop,(∀ {ρ1},P a=true->J ρ1->C ρ1 n (some (E a)))->(∀ {ρ1},P a=false->J ρ1->C ρ1 n none)->mg (toW a) ρ' λρ1=>ft ρ1 n λb n2=>onC b (fe ρ1 n2 λx n3=>onD x λd=>C ρ1 n3 (some d)) (C ρ1 n2 none))
  (fin:Q (.d (.lst ((xs.filter P).map E))) n):zfH mg ft fe ρ0 Q l n:=by
 show ziv xs toW hl J P E hlim j0 (λa ha ρ' hj C hC=>?_) fin;have:=h a ha ρ' hj C (λ{ρ1} e z=>by right) λ{ρ1} e z=>by have:=hC ρ1 z;rwa[if_neg (by rw[e];decide)] at this
 simp only[uT,x5] at this;show this
def zam {α:Type}{l:AV}{ρ0:Ev}{n:Nat}{mg:W->Ev->(Ev->Prop)->Prop}{fe:AE}{Q:AW}(xs:List α)(toW:α->W)(hl:l=xs.map toW)(J:Ev->Prop)(E:α->Dt)(hlim:xs.length<=lim)(j0:J ρ0)
  (h:∀a∈xs,∀ ρ',J ρ'->∀C:Ev->Nat->Dt->Prop,(∀ {ρ1},J ρ1->C ρ1 n (E a))->mg (toW a) ρ' λρ1=>fe ρ1 n λx n3=>onD x λd=>C ρ1 n3 d)
  (fin:Q (.d (.lst (xs.map E))) n):zfH mg zu2 fe ρ0 Q l n:=by
 show zlh xs toW hl J E hlim j0 (λa ha ρ' hj C hC=>?_) fin;have:=h a ha ρ' hj C λ{ρ1} z=>hC ρ1 z;simp only[x5] at this;show this
def zkZ {t:Ev->Mo Bool}{fb:Ms}{D:Ev}{n:Nat}{k:Kt}(I:Nat->Ev->Nat->Prop)(m0:Nat)(h0:I m0 D n)
  (h:∀m ρ' n',I m ρ' n'->∀ (C B:Ev->Nat->Prop) (E:AW),(∀ {D n} (m':Nat),m'<m->I m' D n->C D n)->(∀ {D n},k.nx D n->B D n)->(∀ {w n},k.rt w n->E w n)->t ρ' n' λb n2=>onC b (blk fb ρ' n2 { rt:=E,nx:=C,ct:=C,bk:=B }) (B ρ' n2)):zjL t fb D n k:=by
 show zk0 I m0 h0 λm ρ' n' hI=>?_;have:=h m ρ' n' hI (λρ2 n3=>∃m',m'<m/\I m' ρ2 n3) k.nx k.rt (λm' a b=>#[m',a,b]) (λz=>z) λz=>z;simp only[uT,zqC] at this;show this
end
abbrev rep:Nat->(Ev->Prop)->Prop
 | 0,Q=>Q []
 | k+1,Q=>rep k λD=>Q (none::D)
abbrev beg:AV->Nat->(Ev->Prop)->Prop
 | [],r,Q=>rep r Q
 | w::ws,r,Q=>beg ws r λD=>Q (some w::D)
theorem zky:∀ {r:Nat} {Q:Ev->Prop},rep r Q=Q (List.replicate r none)
 | 0,Q=>rfl
 | r+1,Q=>by rw[rep,zky];rfl
theorem zmS:∀ {ws:AV} {r:Nat} {Q:Ev->Prop},beg ws r Q=Q (ws.map some++List.replicate r none)
 | [],r,Q=>by rw[beg,zky];rfl
 | w::ws,r,Q=>by rw[beg,zmS];rfl
def zrD {P:Ab}{w:Ac}{K:AI}{mg:AJ}{base:Heap}{qual:Str}{st:Stmt}{f:Addr}{fd:Ae}{N ps:AN}{k m:Nat}{fr:Bool}{F:PN->AV->Mo W}(M:AS)(r:Nat)(okq:(∀vs H Q E,spV m fr F vs H Q E->vs.length=ps.length)->(∀ (cdv:Value) (A:Af) (outer:List Env) (s:Aa) (H:Hp) (vs:AU) (Q:VK) (E:XK),Room k (A.deeper (PyProof.Rows.envOfC qual (zf st) s.heap.objs.size f cdv))->spV m fr F vs H Q E->
   ∃t,QSs (zfA CX0 P w K mg base N qual (zf st) f cdv A outer s H E).nox (yC st) t/\t { nx:=λ_ H'=>Q .non H',rt:=Q } (L2.ul N vs) H)->FnOk P w K mg base CX0 (k+1) f fd ps (spV m fr F)) (hm:m=ps.length) (hM:∀i∈M,m<=i) (hN:N.length=m+r)
  (hbody:∀ (cdv:Value) (A:Af) (outer:List Env) (s:Aa) (H:Hp) (E:XK) (Pn:PN),Room k (A.deeper (PyProof.Rows.envOfC qual (zf st) s.heap.objs.size f cdv))->
   ∃fs,JSs (zfA CX0 P w K mg base N qual (zf st) f cdv A outer s H E).nox Pn [] M fr (yC st) fs/\∀ws n R,F Pn ws n R->beg ws r λD=>fs D n { nx:=λ_ n'=>onC fr False (R (.d .non) n'),rt:=R }):FnOk P w K mg base CX0 (k+1) f fd ps (spV m fr F):=by
 show zrC M okq hm hM λcdv A outer s H E Pn hr=>?_;obtain⟨fs,h1,h2⟩:=hbody cdv A outer s H E Pn hr;show#[fs,h1,λws n R hl hF=>?_];have:=h2 ws n R hF;rw[zmS] at this;have e:za5 N ws=ws.map some++List.replicate r none:=by unfold za5;rw[hN,hl,Nat.add_sub_cancel_left]
 grind
def Fun.okW {P:Ab}{w:Ac}{K:AI}{mg:AJ}{base:Heap}{x qual:Str}{st:Stmt}{f:Addr}{fd:Ae}{N ps:AN}{k m:Nat}{fr:Bool}{F:PN->AV->Mo W}(M:AS)(r:Nat)(Fu:Fun K x qual st f fd)(S:FnScope N ps (zf st))(hm:m=ps.length)(hM:∀i∈M,m<=i)(hN:N.length=m+r)
  (hbody:∀ (cdv:Value) (A:Af) (outer:List Env) (s:Aa) (H:Hp) (E:XK) (Pn:PN),Room k (A.deeper (PyProof.Rows.envOfC qual (zf st) s.heap.objs.size f cdv))->
   ∃fs,JSs (zfA CX0 P w K mg base N qual (zf st) f cdv A outer s H E).nox Pn [] M fr (yC st) fs/\∀ws n R,F Pn ws n R->beg ws r λD=>fs D n { nx:=λ_ n'=>onC fr False (R (.d .non) n'),rt:=R }):FnOk P w K mg base CX0 (k+1) f fd ps (spV m fr F):=zrD M r (λl b=>Fun.okQ Fu S l b) hm hM hN hbody
abbrev dItS (i:Nat):AD:=λD n Q=>onV D i λx=>onS x λl=>Q (l.map W.d) n
def zjH {i:Nat}:zuU (ztx i)=dItS i:=by
 funext D n Q;simp only[zuU,zN,xl,zt6,zt7,dItS,zas,ze6,x6,zar];grind
def zsG {fs:Ms}{a b:Option W}{r n:Nat}{k:Kt}(h:rep r λD=>fs (a::b::D) n k):fs (a::b::List.replicate r none) n k:=by rw[zky] at h;show h
def zfG {st:AH}{b x:Int}(b0:0<=b)(hz:st.length<=1000):ut (st.map Dt.int) none (some b)++[Dt.int x]++ut (st.map Dt.int) (some (b+1)) none=(chg st b x).map Dt.int:=by
 have key:∀z:W,zfQ (.d (.tup (ut (st.map Dt.int) none (some b)))) (.d (.tup [.int x])) 0 (λw m=>zfQ w (.d (.tup (ut (st.map Dt.int) (some (b+1)) none))) m λw' _=>w' = .d (stD (chg st b x))):=λz=>znI b0 hz BC;obtain⟨l,m,e1,e2,_,l2,m2,e3,e4,_,h⟩:=key (.d .non);grind
def zdy {st:AH}{b:Int}{x:Dt}(hz:st.length<=1000):(ut (st.map Dt.int) none (some b)).length+[x].length<=lim:=by have:=zb4 (st.map Dt.int) none (some b);rw[ab] at this;show av (by simp;lia:_<=1001) (by ext)
def zdz {st:AH}{b c:Int}{x:Dt}(hz:st.length<=1000):(ut (st.map Dt.int) none (some b)++[x]).length+(ut (st.map Dt.int) (some c) none).length<=lim:=by have h1:=zb4 (st.map Dt.int) none (some b);have h2:=zb4 (st.map Dt.int) (some c) none;rw[ab] at h1 h2;rw[ay];show av (by simp;lia:_<=2001) (by ext)
def scR (mg:W->Ev->(Ev->Prop)->Prop)(ft:Ev->Mo Bool)(fe:AE)(ρ0:Ev)(Q:AG->Nat->Prop):AV->Nat->Prop:=λl n1=>∃I:Nat->Ev->Nat->AG->Prop,I 0 ρ0 n1 []/\
 (∀i w ρ' n' acc,l[i]?=some w->I i ρ' n' acc->mg w ρ' λρ1=>ft ρ1 n' λb n2=>if b=true then fe ρ1 n2 λx n3=>∃st,x = .d (stD st)/\I (i+1) ρ1 n3 (acc++[st]) else I (i+1) ρ1 n2 acc)/\
 (∀i ρ' n' acc ks,I i ρ' n' acc->List.Nodup ks->(∀z∈ks,z∈acc)->ks.length<300)/\
 ∀ ρ' n' acc ks,I l.length ρ' n' acc->List.Nodup ks->(∀z,z∈ks↔z∈acc)->Q ks n'
abbrev zjI (fi:AD) (mg:W->Ev->(Ev->Prop)->Prop) (ft:Ev->Mo Bool) (fe:AE) (BF:List (Option Nat)):AE:=λD n Q=>fi D n (scR mg ft fe (uF D BF) λks n'=>∃m,ks.length<64/\1<=m/\(∀st∈ks,st.length=m)/\∀l':AG,l'.Perm ks->(l'.Pairwise λa b=>HT.lexLt a b=true)->Q (.d (zhk l')) n')
def zjU {P:Ab}{w:Ac}{a:Addr}{xs:List (List Key×Addr)}:NP (zhe P w a xs):=zg1
def zpW {P:Ab}{w:Ac}{H:Hp}{acc:Addr}{o:HO}{ks:AG}(S:zgy P w (upd H acc o) acc ks):NP o/\Mt o:=by obtain⟨xs,h1,_⟩:=S;rw[zj] at h1;cases h1;show#[zjU,BC]
section
variable {X:Cx}{Pn:PN}{M S:AS}{fr fr':Bool}{pos p:Pos}
def zkx {P:Ab}{w:Ac}{wi:TI}{g:TG}{ti:TT}{te:TE}{BF:List (Option Nat)}{fi:AD}{mg:W->Ev->(Ev->Prop)->Prop}{ft:Ev->Mo Bool}{fe:AE}{ow:Bool}(hn:(BF.filterMap id).Nodup)
  (hi:RI Pn M ow wi fi) (hg:RG (zO M BF) (zO M BF) g mg) (ht:RT Pn (zO M BF) ti ft) (he:RE Pn (zO M BF) fr' te fe):RE Pn M true (tCB (zno P w) (zeh (zp4 P w wi g ti te BF) znv)) (zjI fi mg ft fe BF):=#[λA G H D n Q R E Pp hf k=>by
 show hi.run A G H D n _ _ E Pp hf λl m J H1 ⟨I,i0,it,ib,ie⟩ iv g1=>λacc hacc S0=>?_;have E1:=E.stay g1.st;have E2:=(E1.cap hn).more (zo.upd (o:=zhe P w acc []) hacc) (Fr.of hacc) zj zjU BC;have P2:xP Pn (λb=>A b\/b=acc) m (L2.upd H1 acc (zhe P w acc [])):=g1.pn.grow' (g1.pn.same (xq.upd hacc)) (Fr.of hacc) zj zjU BC;have nacc:∀k w,k∈zO M BF->(uF D BF)[k]?=some (some w)->(xB G BF)[k]?≠some (some (.ref acc)):=λk w hk hw z=>by obtain⟨v,s1,_,s3⟩:=(E1.cap hn).val k w hw;obtain⟨a,e,hA,_⟩:=s3 hk;rw[z] at s1;cases s1;cases e;show E1.new hacc hA
 have key:∀ σ' ρ' H',EnvR (λb=>A b\/b=acc) (zO M BF) σ' H' ρ'->(∀k∈zO M BF,σ'[k]?=(xB G BF)[k]?/\ρ'[k]?=(uF D BF)[k]?)->∀k w,k∈zO M BF->ρ'[k]?=some (some w)->σ'[k]?≠some (some (.ref acc)):=λσ' ρ' H' E' hfx k w hk hw z=>by right
 show#[λi mm σ' H'=>mm=l.length - i/\i<=l.length/\∃ ρ' n' accD ks,EnvR (λb=>A b\/b=acc) (zO M BF) σ' H' ρ'/\xP Pn (λb=>A b\/b=acc) n' H'/\I i ρ' n' accD/\zgy P w H' acc ks/\(∀z,z∈ks↔z∈accD)/\zo (zL A H1) (zL (λb=>A b\/b=acc) H')/\zo H1 H'/\(∀k∈zO M BF,σ'[k]?=(xB G BF)[k]?/\ρ'[k]?=(uF D BF)[k]?),
  #[l.length,by simp,aS _,_,m,[],[],E2,P2,i0,S0,λ_=>Iff.rfl,yk (zo.upd hacc) (Fr.of hacc),zo.upd hacc,λk hk=>#[BC,BC]],?_]
 rintro i mm σ' H' ⟨rfl,hil,ρ',n',accD,ks,E',P',hI,hS,hm,st,s1,hfx⟩;have hnd:ks.Nodup:=hS.choose_spec.2.2.2;by_cases hlt:i<l.length
 show Or.inr ?_;have hget:l[i]?=some l[i]:=aj hlt;obtain⟨go,yl⟩:=iv.one i l[i] _ H' hget st (λ_=>s1) λp hp=>E'.new hp
 show#[go,λσ2 H2=>∃ ρ' n' accD ks,EnvR (λb=>A b\/b=acc) (zO M BF) σ2 H2 ρ'/\xP Pn (λb=>A b\/b=acc) n' H2/\I (i+1) ρ' n' accD/\zgy P w H2 acc ks/\(∀z,z∈ks↔z∈accD)/\zo (zL A H1) (zL (λb=>A b\/b=acc) H2)/\zo H1 H2/\(∀k∈zO M BF,σ2[k]?=(xB G BF)[k]?/\ρ'[k]?=(uF D BF)[k]?),
  λσ2 H2 h=>#[l.length - (i+1),by lia,BC,hlt,h],λx H2 hy=>?_]
 obtain⟨S2,V2⟩:=yl x H2 hy;show hg.run _ σ' H2 ρ' x l[i] _ _ (E'.stay (zo.same S2)) V2 (it i l[i] ρ' n' accD hget hI) λσ3 ρ3 r3 E3 f3=>?_;have hfx3:∀k∈zO M BF,σ3[k]?=(xB G BF)[k]?/\ρ3[k]?=(uF D BF)[k]?:=λk hk=>#[(f3 k hk).1.trans (hfx k hk).1,(f3 k hk).2.trans (hfx k hk).2];show ht.run _ σ3 H2 ρ3 n' _ _ E3 (P'.same S2) r3 λb m3 H4 r4 g4=>?_;have s24:=(zo.same S2).trans g4.st
 cases b with
 | false=>
  rw[if_neg (by ext)] at r4 ⊢;show#[ρ3,m3,accD,ks,E3.stay g4.st,g4.pn,r4,hS.stay s24,hm,st.trans (zw s24),s1.trans s24,hfx3]
 | true=>
  rw[if_pos rfl] at r4 ⊢;show he.run _ σ3 H4 ρ3 m3 _ _ (E3.stay g4.st) g4.pn r4  ?_;rintro w5 m5 v5 H5 ⟨d,e5,r5⟩ V5 g5 _;subst e5;have s25:=s24.trans g5.st;have E5:=(E3.stay g4.st).stay g5.st;obtain⟨b,rfl,hb⟩:=ztk V5;show#[b,d,ks,BC,hb,hS.stay s25,ib i ρ' n' accD ks hI hnd λz hz=>(hm z).mp hz,λo ks' S' hm' hl'=>?_];obtain⟨np,nt⟩:=zpW S';show#[ρ3,m5,accD++[d],ks',E5.upd (.inr BC) (key σ3 ρ3 H5 E5 hfx3) np nt,g5.pn.upd (.inr BC),r5,S',λz=>?_,?_,?_,hfx3];rw[hm' z,aE,au,hm z,or_comm];rw[z5 (.inr BC)];show st.trans (zw s25);show λb o e nn=>by rw[ze (zb e hacc)];show s1.trans s25 b o e nn
 show Or.inl ?_;have hie:i=l.length:=by lia
 subst hie;show#[iv.stop _ H' st (λ_=>s1),?_];obtain⟨ml,h64,h1,hml,hq⟩:=ie ρ' n' accD ks hI hnd hm;show#[acc,ks,ml,BC,hS,h64,h1,hml,λys sts' hys hp hu=>λp H3 np3 gp S3=>?_];have s13:=s1.trans (zo.same S3);have al1:Al A H':=E1.al.stay s1;have hpn:xP Pn A n' H3:=(P'.same S3).less λa z=>.inl z;have al3:=al1.stay (zo.same S3);have hl3:=hys.stay (zo.same S3);show k _ n' _ H3 (hq sts' hp hu) (Val.of #[p,ys,BC,.inl (zB (al1.new np3) gp),zcd al3.noT (zbR sts') hl3]) (g1.trans #[s13,hpn]) λ_=>#[p,BC,((Fr.of np3).back s1).back g1.st,#[_,gp,BC],p,ys,BC,.inl gp,zcd (λb xs z e=>?_) (zbR sts') hl3];rcases z with z | z;show al3.noT b xs z e;subst z;rw[gp] at e;cases e]
def zgW {elt tg iter:Expr}{ifs:AQ}{scope:Scope}{N:AN}{BF:List (Option Nat)}{fi:AD}{mg:W->Ev->(Ev->Prop)->Prop}{ft:Ev->Mo Bool}{fe:AE}{ow:Bool}{sp:Pos}(hm0:X.mg "sorted" = none)(hu:X.A.units+1<cLine)(hc:X.calm=true)(cc:CompOk X scope N BF)
  (hi:JI X Pn M ow tg iter fi) (hg:∀C s H ex,JG (zm X scope N C s H ex) (zO M BF) (zO M BF) tg mg) (ht:∀C s H ex,JTs (zm X scope N C s H ex) Pn (zO M BF) ifs ft) (he:∀C s H ex,JE (zm X scope N C s H ex) Pn (zO M BF) fr' elt fe)
  (hn:(BF.filterMap id).Nodup:=by ext) (hs:∀x,foldedSetIterable iter X.env x=pure x:=by intro _;rfl) (hg0:Gl X "sorted" := by rfl) (hs1:starEach [.SetComp elt [#[tg,iter,ifs,0]] scope sp] X.env=[(false,eval (.SetComp elt [#[tg,iter,ifs,0]] scope sp) X.env)]:=by rfl) (hpl:(backTo pos (starEach [] X.env)).any (·.1)=false:=by rfl) :
  JE X Pn M true (.Call (.Name "sorted" p) [.SetComp elt [#[tg,iter,ifs,0]] scope sp] [] pos) (zjI fi mg ft fe BF):=by
 obtain⟨ti,qi,ri⟩:=hi.ex;obtain⟨g,qg,rg⟩:=zfu hg;obtain⟨tt,qt,rt⟩:=zfv ht;obtain⟨te,qe,re⟩:=zh8 he;show#[_,yY (zlm hc) hg0 hm0 cI (zR (zhV hu hc cc qi qg qt qe hs) yQ hs1) (by ext) (by ext) hs1 hpl,zkx hn ri rg rt re]
end
def zkL {α:Type}{l:AV}{ρ0:Ev}{n:Nat}{mg:W->Ev->(Ev->Prop)->Prop}{ft:Ev->Mo Bool}{fe:AE}{Q:AG->Nat->Prop}(xs:List α)(toW:α->W)(hl:l=xs.map toW)(J:Ev->Prop)(P:α->Bool)(E:α->AH)(j0:J ρ0)
  (h:∀a∈xs,∀ ρ',J ρ'->∀C:Ev->Nat->Option AH->Prop,(∀ {ρ1},P a=true->J ρ1->C ρ1 n (some (E a)))->(∀ {ρ1},P a=false->J ρ1->C ρ1 n none)->mg (toW a) ρ' λρ1=>ft ρ1 n λb n2=>onC b (fe ρ1 n2 λx n3=>∃st,x = .d (stD st)/\C ρ1 n3 (some st)) (C ρ1 n2 none))
  (few:∀ks,List.Nodup ks->(∀z∈ks,z∈(xs.filter P).map E)->ks.length<300)
  (fin:∀ks,List.Nodup ks->(∀z,z∈ks↔z∈(xs.filter P).map E)->Q ks n):scR mg ft fe ρ0 Q l n:=by
 subst hl;show#[λi ρ' n' acc=>J ρ'/\n'=n/\acc=((xs.take i).filter P).map E,#[j0,BC,by simp],?_,?_,?_];rintro i w ρ' n' acc hw ⟨hj,rfl,rfl⟩;rw[aA] at hw;obtain⟨a,ha,rfl⟩:=aB.mp hw
 have:=h a (az ha) ρ' hj (λρ1 n3 o=>match o with
  | some d=>J ρ1/\n3=n'/\((xs.take i).filter P).map E++[d]=((xs.take (i+1)).filter P).map E
  | none=>J ρ1/\n3=n'/\((xs.take i).filter P).map E=((xs.take (i+1)).filter P).map E) (λ{ρ1} hp hj1=>by
   rw[zi ha,c8,aH]
   show#[hj1,BC,by simp[hp]]) (λ{ρ1} hp hj1=>by
   rw[zi ha,c8,aH];show#[hj1,BC,by simp[hp]])
 simp only[uT] at this;show this;rintro i ρ' n' acc ks ⟨_,rfl,rfl⟩ hn hk;show few ks hn λz hz=>?_;grind;right
abbrev dGetI (fd fk fz:AE):AE:=λD n Q=>fd D n λx n1=>onK x λBE=>fk D n1 λy n2=>fz D n2 λz n3=>onO (zor y) λk=>onI z λi=>Q (.d ((yp BE k).getD (.int i))) n3
section
variable {X:Cx}{Pn:PN}{M:AS}{a b c:Expr}{fa fb fc:AE}{apos cpos:Pos}
end
end L3
namespace L2
open PyProof.Rows
section
variable {X:Cx}{e lo st:Expr}{te tl tk:TE}{pos p2:Pos}
end
end L2
namespace L3
open L2
abbrev dFromL (fa fl fk:AE):AE:=λD n Q=>fa D n λx n1=>onL x λl=>fl D n1 λy n2=>onI y λc=>fk D n2 λz n3=>onI z λk=>(0<=c/\1<=k)/\∀ys:AT,ys.Sublist (l.drop c.toNat)->Q (.d (.lst ys)) n3
section
variable {X:Cx}{Pn:PN}{M:AS}{e lo st:Expr}{f fl fk:AE}{pos p2:Pos}
end
def zuz:HO:=.dK [(Sum.inr "at",.non)]
abbrev gone (H:Hp)(a:Addr):Hp:=L2.upd H a zuz
section
variable {X:Cx}{Pn:PN}{M S:AS}{fr fr':Bool}{pos p:Pos}
abbrev dGiv (i:Nat) (F:AV->Mo W) (f1 f2:AE):Ms:=λD n k=>f1 D n λw1 m1=>f2 D m1 λw2 m2=>onV D i λw=>F [w1,w2,w] m2 λw' m'=>onC (W.mut w') (onP D i w' λρ'=>k.nx ρ' m') False
end
end L3
namespace L2
open PyProof.Rows PySem.W PySem.SeqAt
section
variable {X:Cx}
def zsv:V->AU->Hp->VK->Prop:=λx vs H Q=>∃ (l:Addr) (ns:AH) (k:Int),x = .ref l/\vs=[.int k]/\Rd H l (.lst (ns.map V.int))/\k∈ns/\Q (.int (ns.idxOf k:Nat)) H
def zlX:MtM X "list.index" zsv:=by
 intro BD s G H x vs v us Q I rx rv h;obtain⟨l,ns,k,rfl,rfl,hH,hk,q⟩:=h;cases rx;obtain⟨u,rfl,ru⟩:=rv.one;obtain⟨t,rfl⟩:=ru;obtain⟨z,its,n,r,hl,e⟩:=I.lstM hH;have hi:=zdI r;have hlen:=hi.length;have hj:ns.idxOf k<ns.length:=List.idxOf_lt_length_iff.mpr hk;rw[ab,bp] at z
 show dj F.slot_list_index #[_,e,BC] F.entry_list_index (F.args_list_index_2 _ _)
  (list_indexAt l its.toArray n none #v[] (.int k t) (isInt k) (ns.idxOf k) (by right) (by lia) ?_ ?_) #[e,λy hy=>(eq_isInt k t hi y (by simpa using hy)).at _ _,?_]
 change isInt k its[ns.idxOf k]=true;rw[isInt_at k hi _ (by lia) hj];right;intro j hjs hlt;change isInt k its[j]=false;rw[isInt_at k hi j (by simpa using hjs) (by lia)];show ne_of_lt_idxOf hlt _;show#[.int (ns.idxOf k:Nat),H,I.tok _,#[_,BC],q]
def ziR {BD:AB}{G:St}{H:Hp}{s:Aa}(I:Inv X BD G H s){a:Addr}{BE:List (Key×V)}{ns:AH}(h:Rd H a (.dK BE))(hk:BE.map (·.1)=ns.map Sum.inl) :
  (a==sysModules)=false/\∃ (es:Array DictEntry) (ep:Nat),uC s.heap a es ep/\z9 (ns.map V.int) (es.toList.map (·.key))/\BE.length<=sizeLine:=by
 obtain⟨z,lo,vs,r,o,es,ep,h1,h2,h3,_,h4,_⟩:=zhB I.hok h
 have gen:∀ {BE:List (Key×V)} {vs:List (Key×Value)} {es:List DictEntry} {ns:AH},KV BE vs->Pairs (zy X.prog X.w) es vs->BE.map (·.1)=ns.map Sum.inl->z9 (ns.map V.int) (es.map (·.key)):=by
  intro BE
  induction BE with
  | nil=>
   intro vs es ns r p e;cases r;cases p
   cases ns with
   | nil=>show .nil
   | cons _ _=>cases e
  | cons q BE ih=>
   intro vs es ns r p e
   cases r with
   | cons r1 r2=>
    cases p with
    | cons p1 p2 p3=>
     cases ns with
     | nil=>cases e
     | cons i ns=>
      rw[aC,aC] at e;obtain⟨e1,e2⟩:=fU e;rw[aC,aC];show .cons ?_ (ih r2 p3 e2);rw[<- r1.1,e1] at p1;rw[zhL] at p1;obtain⟨t,et⟩:=Value.isInt_shape (k:=i) p1;show#[t,et]
 show#[lo,es,ep,#[o,h1,h2,h3],gen r h4 hk,z]
def zks:AU->Hp->VK->Prop:=λxs H Q=>∃ (a:Addr) (BE:List (Key×V)) (ns:AH),xs=[.ref a]/\Rd H a (.dK BE)/\BE.map (·.1)=ns.map Sum.inl/\New H (.lst (ns.map V.int)) Q
def zgH (hc:X.calm=true):CallQ X (.type "list") zks:=#[by
 intro BD s G H xs us Q I r h;obtain⟨a,BE,ns,rfl,ha,hk,q⟩:=h;obtain⟨u,rfl,ru⟩:=zak r;cases ru;obtain⟨lo,es,ep,E,hv,hz⟩:=ziR I ha hk
 have hl:es.size=ns.length:=by
  have:=hv.length;grind
 have hyl:ns.length=BE.length:=by
  have:=congrArg List.length hk;grind
 show kdl_call (zlp (es:=es) a ep lo) (I.ok.hd hc) E (by right) λh' tk acc c kp hg hit=>?_
 have hacc:acc.toList=es.toList.map (·.key):=by
  show dB (by rw[aX,hit.1,ab,aX]) λj h1 h2=>?_;obtain⟨e,he,hv⟩:=hit.2 j acc.toList[j] (by simp);rw[hv,cy];rw[zbE] at he;rw[ab] at h2;right
 show#[.ref s.heap.objs.size,_,I.laid (t':=tk) (o:=.lst (ns.map V.int)) kp (ak _) #[by right,es.toList.map (·.key),c,hv,?_],BC,q.at (I.hok.fresh (ak _))];rw[<- hacc,Array.toArray_toList];show hg]
def zlj:CallQ X (.builtin "len") (λxs H Q=>∃a BE,xs=[V.ref a]/\H a=some (.dK BE)/\Q (.int BE.length) H):=#[zin]
end
end L2
namespace L3
open L2
section
variable {X:Cx}{Pn:PN}{M S:AS}{fr fr':Bool}{e o:Expr}{f fo:AE}{pos p:Pos}
abbrev zqS:AV->Mo W:=λws n Q=>on1 ws λx=>onK x λBE=>Q (.d (.int (BE.length:Nat))) n
def ztc:FL Pn false (λxs H Q=>∃a BE,xs=[V.ref a]/\H a=some (.dK BE)/\Q (.int BE.length) H) zqS:=#[λA H xs ws n Q R al b P h k=>by simp only[zqS,x4,ze5] at h;obtain⟨x,rfl,BE,rfl,h⟩:=h;obtain⟨v,rfl,bb⟩:=zbF b;obtain⟨a,ks,rfl,ha,hk,_⟩:=zgD bb;show#[a,ks,BC,ha,by rw[hk.len];show k _ n _ H h (Val.of BC) (Go.refl P) λz=>by cases z]]
abbrev zmV:AV->Mo W:=λws n Q=>on1 ws λx=>onK x λBE=>∃ns:AH,BE.map (·.1)=ns.map Sum.inl/\Q (.d (.lst (ns.map .int))) n
def zqb:FL Pn true zks zmV:=#[λA H xs ws n Q R al b P h k=>by simp only[zmV,x4,ze5] at h;obtain⟨x,rfl,BE,rfl,ns,hn,h⟩:=h;obtain⟨v,rfl,bb⟩:=zbF b;obtain⟨a,ks,rfl,ha,hk,_⟩:=zgD bb;show#[a,ks,ns,BC,.inl ha,hk.keys.trans hn,λp H' np g S=>k _ n _ H' h (uo (H:=H) IsL.ints (zo.same S) (al.new np) g) (Go.same P S) λz=>uI (H:=H) IsL.ints S np g]]
abbrev zqQ (fo f:AE):AE:=λD n Q=>fo D n λx n1=>onL x λl=>f D n1 λy n2=>onI y λk=>∃ns:AH,l=ns.map .int/\k∈ns/\Q (.d (.int (ns.idxOf k:Nat))) n2
def zoi (K:AI)(hK:X.K=K){apos cpos:Pos}(ho:JB X Pn M o fo)(he:JB X Pn M e f)
  (hbase:attributeBase o "index" X.env (eval o X.env)=eval o X.env:=by rfl)
  (hfew:((backTo cpos (starEach [e] X.env)).all (λx=>!x.1)&&(backToKw cpos (keywordEach [] X.env)).all (λx=>x.1.isSome)
   && decide (([e]:AQ).length+([]:List Keyword).length+(if ([]:List Keyword).isEmpty then 0 else 1)<30))=true:=by rfl)
  (hline:(apos.endLine==cpos.line)=true:=by rfl) (hs:starEach [e] X.env=(false,eval e X.env)::starEach [] X.env:=by rfl) (hplain:(backTo cpos (starEach [] X.env)).any (·.1)=false:=by rfl) :
  JE X Pn M false (.Call (.Attribute o "index" apos) [e] [] cpos) (zqQ fo f):=by
 subst hK;obtain⟨to,qo,ro⟩:=ho.ex;obtain⟨te,qe,re⟩:=he.ex;show#[_,zkh cS PySem.F.slot_list_index PySem.F.type_list_index zlX qo (zR qe yQ hs) hbase hfew hline hs hplain,#[λA G H D n Q R E P hf k=>?_]];show ro.run A G H D n _ _ E P hf λw m v H1 r1 b1 g1=>?_;rw[x6] at r1;obtain⟨l,rfl,r1⟩:=r1;obtain⟨ad,xs,rfl,ha,hl⟩:=xk b1;show#[.inl #[BC,_,.inl ha],?_];show re.run A G H1 D m _ _ (E.stay g1.st) g1.pn r1 λw2 m2 v2 H2 r2 b2 g2=>?_;rw[xK] at r2;obtain⟨i,rfl,ns,rfl,hi,r2⟩:=r2;have ev:v2 = .int i:=yJ b2;subst ev;obtain rfl:=hl.of_ints;show#[ad,ns,i,BC,BC,g2.st.rdl ha,hi,k _ m2 _ H2 r2 (Val.of BC) (g1.trans g2) λz=>by cases z]
abbrev zub (f:AE):AE:=λD n Q=>f D n λx n1=>onL x λl=>∃ns:AH,l=ns.map .int/\ns.Nodup/\ns.length<=1000/\Q (.d (.int (ns.length:Nat))) n1
end
end L3
namespace L2
def us_1 {α:Type}{us:List α}(h:us.length=1):∃a,us=[a]:=match us,h with | [a],_=>#[a,BC]
def us_2 {α:Type}{us:List α}(h:us.length=2):∃a b,us=[a,b]:=match us,h with | [a,b],_=>#[a,b,BC]
def us_3 {α:Type}{us:List α}(h:us.length=3):∃a b c,us=[a,b,c]:=match us,h with | [a,b,c],_=>#[a,b,c,BC]
def us_4 {α:Type}{us:List α}(h:us.length=4):∃a b c d,us=[a,b,c,d]:=match us,h with | [a,b,c,d],_=>#[a,b,c,d,BC]
open PyProof.Rows PySem.W PySem.Calls
def zfb {X:Cx}{pos:Pos}{tk tv:TE}{ke ve tg iter:Expr}{ifs:AQ}{scope:Scope}{wi:TI}{g:TG}{ti:TT}{N:AN}{z:Str}{BF:List (Option Nat)}{o0:HO}(ho0:o0 = .dK []\/o0 = .dT [])(hu:X.A.units+1<cLine)(hc:X.calm=true)(c:CompOkC X scope N z BF)
  (hi:QI X tg iter wi) (hg:∀C BI s H ex,QG (zJ X scope N z C BI s H ex) tg g) (ht:∀C BI s H ex,QTs (zJ X scope N z C BI s H ex) ifs ti) (hk:∀C BI s H ex,QE (zJ X scope N z C BI s H ex) ke tk) (hv:∀C BI s H ex,QE (zJ X scope N z C BI s H ex) ve tv)
  (hs:∀x,foldedSetIterable iter X.env x=pure x:=by intro _;rfl):QE X (.DictComp ke ve [#[tg,iter,ifs,0]] scope pos) (zho o0 wi g ti tk tv BF):=#[λBD s G H Q I h=>by
 rw[zan];show zew ho0 hu (zg3 c) hc hi.run (zn2 λC BI s H ex=>(hg C BI s H ex).run) (zn2 λC BI s H ex=>(ht C BI s H ex).run) (zn2 λC BI s H ex=>(hk C BI s H ex).run) (zn2 λC BI s H ex=>(hv C BI s H ex).run) hs I h λ_ _ _ _ _ hm hb q=>u9 hm hb q]
end L2
namespace L3
open L2
section
variable {X:Cx}{Pn:PN}{M S:AS}{fr fr':Bool}{e a b c:Expr}{es:AQ}{f fa fb fc:AE}{pos p:Pos}
def znx {scope:Scope}{N:AN}{z:Str}{fr:Bool}(h:∀C BI s H ex,JE (zJ X scope N z C BI s H ex) Pn M fr e f):∃te,(∀C BI s H ex,QE (zJ X scope N z C BI s H ex) e te)/\RE Pn M fr te f:=
 #[λG H Q=>∀C BI s H0 ex,(h C BI s H0 ex).ex.choose G H Q,λC BI s H0 ex=>#[λBD s' G H Q I zz=>(h C BI s H0 ex).ex.choose_spec.1.run BD s' G H Q I (zz C BI s H0 ex)],
  #[λA G H D n Q R E P hf k C BI s H0 ex=>(h C BI s H0 ex).ex.choose_spec.2.run A G H D n Q R E P hf k]]
def znz {scope:Scope}{N:AN}{z:Str}{ft:Ev->Mo Bool}(h:∀C BI s H ex,JTs (zJ X scope N z C BI s H ex) Pn M es ft):∃te,(∀C BI s H ex,QTs (zJ X scope N z C BI s H ex) es te)/\RT Pn M te ft:=
 #[λG H Q=>∀C BI s H0 ex,(h C BI s H0 ex).ex.choose G H Q,λC BI s H0 ex=>#[λBD s' G H Q I zz=>(h C BI s H0 ex).ex.choose_spec.1.run BD s' G H Q I (zz C BI s H0 ex)],
  #[λA G H D n Q R E P hf k C BI s H0 ex=>(h C BI s H0 ex).ex.choose_spec.2.run A G H D n Q R E P hf k]]
def zny {scope:Scope}{N:AN}{z:Str}{mg:W->Ev->(Ev->Prop)->Prop}(h:∀C BI s H ex,JG (zJ X scope N z C BI s H ex) S M e mg):∃g,(∀C BI s H ex,QG (zJ X scope N z C BI s H ex) e g)/\RG S M g mg:=
 #[λv G H Q=>∀C BI s H0 ex,(h C BI s H0 ex).ex.choose v G H Q,λC BI s H0 ex=>#[λBD s' G H v u Q I rv zz=>(h C BI s H0 ex).ex.choose_spec.1.run BD s' G H v u Q I rv (zz C BI s H0 ex)],
  #[λA G H D v w Q R E hv hf k C BI s H0 ex=>(h C BI s H0 ex).ex.choose_spec.2.run A G H D v w Q R E hv hf k]]
def ztd {scope:Scope}{N:AN}{z:Str}(h:∀C BI s H ex,JB (zJ X scope N z C BI s H ex) Pn M e f):∃te,(∀C BI s H ex,QE (zJ X scope N z C BI s H ex) e te)/\RB Pn M te f:=
 #[λG H Q=>∀C BI s H0 ex,(h C BI s H0 ex).ex.choose G H Q,λC BI s H0 ex=>#[λBD s' G H Q I zz=>(h C BI s H0 ex).ex.choose_spec.1.run BD s' G H Q I (zz C BI s H0 ex)],
  #[λA G H D n Q R E P hf k C BI s H0 ex=>(h C BI s H0 ex).ex.choose_spec.2.run A G H D n Q R E P hf k]]
def zeH {ke ve tg iter:Expr}{ifs:AQ}{scope:Scope}{N:AN}{z:Str}{BF:List (Option Nat)}{fi:AD}{mg:W->Ev->(Ev->Prop)->Prop}{ft:Ev->Mo Bool}{fk fv:AE}{ow:Bool}(hu:X.A.units+1<cLine)(hc:X.calm=true)(cc:CompOkC X scope N z BF)
  (hi:JI X Pn M ow tg iter fi) (hg:∀C BI s H ex,JG (zJ X scope N z C BI s H ex) (zO M BF) (zO M BF) tg mg) (ht:∀C BI s H ex,JTs (zJ X scope N z C BI s H ex) Pn (zO M BF) ifs ft) (hk:∀C BI s H ex,JB (zJ X scope N z C BI s H ex) Pn (zO M BF) ke fk) (he:∀C BI s H ex,JE (zJ X scope N z C BI s H ex) Pn (zO M BF) fr' ve fv)
  (hn:(BF.filterMap id).Nodup:=by ext) (hs:∀x,foldedSetIterable iter X.env x=pure x:=by intro _;rfl):JE X Pn M true (.DictComp ke ve [#[tg,iter,ifs,0]] scope pos) (zf3 fi mg ft fk fv BF):=by
 obtain⟨ti,qi,ri⟩:=hi.ex;obtain⟨g,qg,rg⟩:=zny hg;obtain⟨tt,qt,rt⟩:=znz ht;obtain⟨tk,qk,rk⟩:=ztd hk;obtain⟨te,qe,re⟩:=znx he;show#[_,zfb (o0:=.dK []) (by simp) hu hc cc qi qg qt qk qe hs,zfc hn ri rg rt rk re]
def zog {elt tg iter:Expr}{ifs:AQ}{scope:Scope}{N:AN}{z:Str}{BF:List (Option Nat)}{fi:AD}{mg:W->Ev->(Ev->Prop)->Prop}{ft:Ev->Mo Bool}{fe:AE}{ow:Bool}(hc:X.calm=true)(cc:CompOkC X scope N z BF)
  (hi:JI X Pn M ow tg iter fi) (hg:∀C BI s H ex,JG (zJ X scope N z C BI s H ex) (zO M BF) (zO M BF) tg mg) (ht:∀C BI s H ex,JTs (zJ X scope N z C BI s H ex) Pn (zO M BF) ifs ft) (he:∀C BI s H ex,JE (zJ X scope N z C BI s H ex) Pn (zO M BF) fr' elt fe)
  (hn:(BF.filterMap id).Nodup:=by ext) (hs:∀x,foldedSetIterable iter X.env x=pure x:=by intro _;rfl):JE X Pn M true (.ListComp elt [#[tg,iter,ifs,0]] scope pos) (zlS fi mg ft fe BF):=by
 obtain⟨ti,qi,ri⟩:=hi.ex;obtain⟨g,qg,rg⟩:=zny hg;obtain⟨tt,qt,rt⟩:=znz ht;obtain⟨te,qe,re⟩:=znx he;show#[_,zki hc cc qi qg qt qe hs,zgk hn ri rg rt re]
variable {K:AI}
abbrev dInB:W->W->Mo W:=λx y n Q=>onB x λb=>onL y λl=>∃bs:List Bool,l=bs.map .bl/\Q (.d (.bl (bs.contains b))) n
end
end L3
namespace L2
open PyProof.Rows PySem.W PySem.Calls
section
variable {prog:Ab}{w:Ac}{A:Af}{E:AA}{s:Aa}
variable {X:Cx}
end
end L2
namespace L3
open L2
section
variable {X:Cx}{Pn:PN}{M S:AS}{fr fr':Bool}{pos p:Pos}{e:Expr}{f:AE}
abbrev dSAdd (P:Ab) (w:Ac) (i:Nat) (f:AE):Ms:=λD n k=>onV D i λv=>∃ks,v = .ss P w ks/\f D n λx m=>∃st:AH,x = .d (stD st)/\ks.length<300/\
 ∀ks':AG,(∀y,y∈ks'↔y=st\/y∈ks)->ks'.length<=ks.length+1->ks'.Nodup->onP D i (.ss P w ks') λρ'=>k.nx ρ' m
abbrev dSortS (P:Ab) (w:Ac):AV->Mo W:=λws n Q=>on1 ws λx=>∃ (ks:AG) (m:Nat),x = .ss P w ks/\ks.length<64/\1<=m/\(∀st∈ks,st.length=m)/\∀sts':AG,sts'.Perm ks->(sts'.Pairwise λa b=>HT.lexLt a b=true)->Q (.d (zhk sts')) n
end
end L3
namespace L3
open L2
def zq2 {rm:AH}{g:List (Int×Int)}(hg:Giv rm g){i:Nat}:gw g i=none↔(i:Int)∉g.map (·.1):=by
 constructor;intro h z;obtain⟨q,hq,e⟩:=aq.mp z;show zn6 h q hq e;intro h
 cases e:gw g i with
 | none=>rfl
 | some v=>show absurd (aq.mpr #[_,zi9 hg e,BC]) h
def IsP (Pn:PN)(p:Addr):Prop:=∃c ns,Pn=#[some (p,c,ns),J0]
def dc {Pn:PN}{p:Addr}{zu:Int}{n:Nat}{Q:AW}(hP:IsP Pn p)(h:∀r,0<=r->r<zu->Q (.d (.int r)) (n+1))(hn:n<=1000000:=by lia)(h1:1<=zu:=by lia)(h2:zu<1073741824:=by lia):zic Pn [.pen p,.d (.int zu)] n Q:=let ⟨c,ns,e⟩:=hP;#[p,c,ns,zu,e,BC,hn,h1,h2,h]
def tc {Pn:PN}{p:Addr}{l:AT}{n:Nat}{Q:AW}(hP:IsP Pn p)(h:∀l':AT,l'.Perm l->Q (.d (.lst l')) (n+l.length))(hn:n+l.length<=1000000:=by lia)(h1:l.length<=100000:=by lia):zid Pn [.pen p,.d (.lst l)] n Q:=let ⟨c,ns,e⟩:=hP;#[p,c,ns,l,e,BC,hn,h1,h]
def zad {k:Nat}:(zib k).length=k:=by unfold zib;rw[ab,aI]
def zpS {k:Nat}:zib k=(zn (k:Int)).map Dt.int:=by unfold zib zn;rw[ar,aP];rfl
def zmd {α:Type}{f:α->Dt}{l:AT}{xs:List α}(h:l.Perm (xs.map f)):∃ys:List α,l=ys.map f/\ys.Perm xs:=by
 generalize hz:xs.map f=zs at h
 induction h generalizing xs with
 | nil=>show#[[],BC,by right]
 | @cons x l1 l2 _ ih=>
  match xs,hz with
  | y::r,hz=>
   rw[aC] at hz;obtain⟨h1,h2⟩:=fU hz;obtain⟨ys,e,q⟩:=ih h2;show#[y::ys,by right,q.cons y]
 | swap x y l=>
  match xs,hz with
  | a::b::r,hz=>
   rw[aC,aC] at hz;obtain⟨h1,h2⟩:=fU hz;obtain⟨h3,h4⟩:=fU h2;show#[b::a::r,by right,.swap ..]
 | trans _ _ ih1 ih2=>
  obtain⟨ys,e,q⟩:=ih2 hz;obtain⟨zs,e2,q2⟩:=ih1 e.symm;show#[zs,e2,q2.trans q]
def zg6 {l:AT}{k:Nat}(h:l.Perm (zib k)):∃bs:AH,l=bs.map Dt.int/\bs.Perm (zn (k:Int)):=by rw[zpS] at h;show zmd h
def zE {m b:Int}:b∈zn m↔0<=b/\b<m:=by
 unfold zn;rw[aq];constructor;rintro⟨k,hk,rfl⟩;grind;rintro⟨h0,h1⟩;show#[b.toNat,aZ.mpr (by lia),by lia]
def yg (m:Int):(zn m).Nodup:=by unfold zn List.Nodup;rw[cH];show List.pairwise_lt_range.imp λh=>by lia
def zp5 {bs:AH}(h:bs.Nodup){i:Nat}(hi:i<bs.length):bs.getD i 0∉bs.take i:=λz=>by
 obtain⟨j,hj,e⟩:=cb.mp z;rw[aR] at hj;rw[cj] at e;have:bs.getD i 0=bs[i]:=by simp[hi]
 rw[this] at e;have:=(bM h).mp e;lia
def zb8 {bs:AH}{i:Nat}(hi:i<bs.length):bs.getD i 0∈bs:=by right
theorem zk1:∀ (l k:AT) (i:Nat),(ziW l k)[i]?=(l[i]?).bind λx=>(k[i]?).map λy=>W.d (.tup [x,y])
 | [],k,i=>by simp[ziW]
 | x::r,[],i=>by
  simp only[ziW,List.getElem?_nil,Option.map_none];right
 | x::r,y::s,0=>rfl
 | x::r,y::s,i+1=>by rw[ziW,bC,bC,bC];show zk1 r s i
def zjN {l:AG}{st:AH}:(Dt.tup (st.map Dt.int)∈l.map stD)↔st∈l:=by
 constructor;intro z;obtain⟨s,hs,e⟩:=aq.mp z;have:s=st:=List.map_inj_right (by grind) |>.mp (Dt.tup.inj e);grind;show λz=>aq.mpr #[_,z,BC]
def zhg {rm st:AH}{b x:Int}(h:StOk rm st)(b0:0<=b)(b1:b<rm.length)(x0:0<=x)(x1:x<zu rm b):StOk rm (chg st b x):=by
 have hl:=h.len;show#[by rw[zir b0 (by lia)];show hl,λc c0 c1=>?_];rw[zb2 b0 (by lia) c0];split;right;show h.box c c0 c1
end L3
namespace L3
open L2
def lpE (bk:AY)(box:Int)(st:AH):List (Int×Int):=(lpF bk box st).map λr=>(r.getD 0 0,r.getD 1 0)
def zuM {bk:AY}{box:Int}{st:AH}:(lpF bk box st).map stD=(lpE bk box st).map zK:=by
 unfold lpE;rw[ar];show dE λr hr=>?_;have:=zrm r hr
 match r,this with
 | [a,b],_=>rfl
def zbD (E:List (Int×Int))(h:Int):AH:=(E.filter λq=>decide (q.1=h)).map (·.2)
def zdT {E:List (Int×Int)}{h b:Int}:b∈zbD E h↔(h,b)∈E:=by
 unfold zbD;right
def zhl (E:List (Int×Int))(h:Int):(zbD E h).length<=E.length:=by unfold zbD;rw[ab];show List.length_filter_le _ _
def PF (E:List (Int×Int))(BI:Int->Prop):Prop:=∀a,BI a->∃b,BI b/\(a,b)∈E
def Cyc (E:List (Int×Int)):Prop:=∃BI a,PF E BI/\BI a
structure IsRd (E:List (Int×Int))(row:AH):Prop where
 ne:row≠[]
 nd:row.Nodup
 next:∀i,i+1<row.length->(row.getD i 0,row.getD (i+1) 0)∈E
 back:(row.getD (row.length - 1) 0,row.getD 0 0)∈E
def inF (E:List (Int×Int))(lf:AH)(h:Int):AH:=(zbD E h).filter λb=>lf.contains b
def onF (E:List (Int×Int))(lf:AH):AH:=lf.filter λh=>!(inF E lf h).isEmpty
def zdS {E:List (Int×Int)}{lf:AH}{h b:Int}:b∈inF E lf h↔(h,b)∈E/\b∈lf:=by unfold inF;rw[aK,zdT,bf]
def zjM {E:List (Int×Int)}{lf:AH}{h:Int}:h∈onF E lf↔h∈lf/\∃b,b∈lf/\(h,b)∈E:=by
 unfold onF;rw[aK];constructor;rintro⟨h1,h2⟩;show#[h1,?_]
 cases e:inF E lf h with
 | nil=>rw[e] at h2;cases h2
 | cons b r=>
  have:=zdS.mp (show b∈inF E lf h by right);show#[b,this.2,this.1]
 rintro⟨h1,b,h2,h3⟩;show#[h1,?_];have:=zdS.mpr #[h3,h2];grind
def zrG {E:List (Int×Int)}{lf:AH}{BI:Int->Prop}(h:PF E BI)(hs:∀a,BI a->a∈lf):∀a,BI a->a∈onF E lf:=λa ha=>by obtain⟨b,h1,h2⟩:=h a ha;show zjM.mpr #[hs a ha,b,hs b h1,h2]
def zoP {E:List (Int×Int)}{lf:AH}(h:lf.length<=(onF E lf).length):∀a∈lf,∃b,b∈lf/\(a,b)∈E:=λa ha=>by have:onF E lf=lf:=eK e8 h;rw[<- this] at ha;show (zjM.mp ha).2
def ldK (l:AH)(f:Int->AH):List (Key×Dt):=l.map λh=>((Sum.inl h:Key),lsD (f h))
def zdP {l:AH}{f:Int->AH}:(ldK l f).map (·.1)=l.map Sum.inl:=by unfold ldK;rw[ar];rfl
theorem zab {f:Int->AH}{h:Int}:∀ {l:AH},h∈l->yp (ldK l f) (Sum.inl h)=some (lsD (f h))
 | x::l,hh=>by
  unfold ldK yp;rw[aC,bt];by_cases e:x=h;subst e;simp;have:decide (((Sum.inl x:Key),lsD (f x)).1=(Sum.inl h:Key))=false:=aT λz=>e (eY z);rw[this];have:=zab (f:=f) (h:=h) (l:=l) (by grind);unfold ldK yp at this;show this
def zov {l:AH}{f:Int->AH}:(ldK l f).length=l.length:=by unfold ldK;rw[ab]
def zdD {l:AV}{ρ0:Ev}{n:Nat}{mg:W->Ev->(Ev->Prop)->Prop}{ft:Ev->Mo Bool}{fk fv:AE}{Q:AW}(xs:AH)(hl:l=xs.map λi=>W.d (.int i))(J:Ev->Prop)(P:Int->Bool)(E:Int->Dt)(hN:xs.Nodup)(hlim:xs.length<=lim)(j0:J ρ0)
  (h:∀a∈xs,∀ ρ',J ρ'->∀C:Ev->Nat->Option (Int×Dt)->Prop,(∀ {ρ1},P a=true->J ρ1->C ρ1 n (some (a,E a)))->(∀ {ρ1},P a=false->J ρ1->C ρ1 n none)->mg (.d (.int a)) ρ' λρ1=>ft ρ1 n λb n2=>onC b (fk ρ1 n2 λy n3=>fv ρ1 n3 λx n4=>onI y λj=>onD x λd=>C ρ1 n4 (some (j,d))) (C ρ1 n2 none))
  (fin:Q (.dk ((xs.filter P).map λa=>((Sum.inl a:Key),E a))) n):zmY mg ft fk fv ρ0 Q l n:=by
 subst hl;show#[by right,λi ρ' n' acc=>J ρ'/\n'=n/\acc=((xs.take i).filter P).map λa=>((Sum.inl a:Key),E a),#[j0,BC,BC],?_,?_];rintro i w ρ' n' acc hw ⟨hj,rfl,rfl⟩;rw[aA] at hw;obtain⟨a,ha,rfl⟩:=aB.mp hw
 have:=h a (az ha) ρ' hj (λρ1 n4 o=>match o with
  | some q=>J ρ1/\n4=n'/\zgd (((xs.take i).filter P).map λa=>((Sum.inl a:Key),E a)) (Sum.inl q.1) q.2=((xs.take (i+1)).filter P).map λa=>((Sum.inl a:Key),E a)
  | none=>J ρ1/\n4=n'/\(((xs.take i).filter P).map λa=>((Sum.inl a:Key),E a))=((xs.take (i+1)).filter P).map λa=>((Sum.inl a:Key),E a)) (λ{ρ1} hp hj1=>by
   show#[hj1,BC,?_];have hi:=(ae.mp ha).1;have hn:((((xs.take i).filter P).map λa=>((Sum.inl a:Key),E a)).any λkv=>decide (kv.1=(Sum.inl a:Key)))=false:=by rw[List.any_eq_false];intro kv hkv z;obtain⟨b,hb,rfl⟩:=aq.mp hkv;have e:b=a:=eY (bD z);subst e;obtain⟨j,hj,e2⟩:=cb.mp (aK.mp hb).1;rw[aR] at hj;rw[cj] at e2;have e3:=(ae.mp ha).2;rw[<- e3] at e2;have:=(bM hN).mp e2;lia
   unfold zgd;rw[hn,if_neg (by ext),zi ha,c8,aH]
   simp[hp]) (λ{ρ1} hp hj1=>by
   show#[hj1,BC,?_];rw[zi ha,c8,aH];simp[hp])
 simp only[uT,xK,x5] at this;grind;grind
def ziF {α:Type}(l:List α)(k:Nat):ut l (some (k:Int)) none=l.drop k:=by
 unfold ut
 have h1:HT.sIx l.length 0 (some (k:Int))=min k l.length:=by unfold HT.sIx;simp;try lia
 have h2:HT.sIx l.length l.length none=l.length:=rfl;rw[h1,h2,dZ (by simp)];right
def zaa {l:AH}{j i:Nat}:(l.drop j).getD i 0=l.getD (j+i) 0:=by grind
def xZ {l:AH}{h:Int}{i:Nat}(hi:i<l.length):(l++[h]).getD i 0=l.getD i 0:=by grind
def zb7 {l:AH}{h:Int}:(l++[h]).getD l.length 0=h:=by simp
def rdOf {E:List (Int×Int)}{rs:AH}{h:Int}(hN:rs.Nodup)(hh:h∈rs)(hc:∀i,i<rs.length->((rs++[h]).getD i 0,(rs++[h]).getD (i+1) 0)∈E):IsRd E (rs.drop (rs.idxOf h)):=by
 have hj:rs.idxOf h<rs.length:=List.idxOf_lt_length_iff.mpr hh;have hjh:rs.getD (rs.idxOf h) 0=h:=by right
 have hl:(rs.drop (rs.idxOf h)).length=rs.length - rs.idxOf h:=eD;generalize rs.idxOf h=j at hj hjh hl;show#[by grind,hN.sublist (List.drop_sublist _ _),λi hi=>?_,?_];rw[hl] at hi;have:=hc (j+i) (by lia);rw[xZ (by lia),xZ (by lia)] at this;rw[zaa,zaa];show this;have:=hc (rs.length - 1) (by lia);rw[xZ (by lia),show rs.length - 1+1=rs.length by lia,zb7] at this;rw[hl,zaa,zaa,Nat.add_zero,hjh,show j+(rs.length - j - 1)=rs.length - 1 by lia];show this
end L3
namespace L3
open L2
end L3
namespace L2
open PyProof.Rows PySem.W PySem.Calls
section
variable {X:Cx}{BD:AB}{G:St}{H:Hp}{s:Aa}{a:Addr}
end
end L2
namespace L3
open L2
abbrev onZ (w:W) (P:List (AH×Dt)->Prop):Prop:=match w with | .df i=>P i | _=>False
section
variable {X:Cx}{Pn:PN}{M S:AS}{fr fr':Bool}{pos p:Pos}{e a b c:Expr}{f fa fb fc:AE}
abbrev dFrz (f:AE):AE:=λD n Q=>f D n λx m=>onE x λBE=>Q (.df BE) m
abbrev dItF (fa:AE):AD:=λD n Q=>fa D n λx m=>onZ x λBE=>(BE.map (·.1)).Nodup->Q (BE.map λq=>W.d (stD q.1)) m
abbrev dGetF (fd fk:AE):AE:=λD n Q=>fd D n λx n1=>fk D n1 λy n2=>onZ x λBE=>∃st,y = .d (stD st)/\onO (yp BE st) λd=>Q (.d d) n2
abbrev dGetFD (fd fk fz:AE):AE:=λD n Q=>fd D n λx n1=>onZ x λBE=>fk D n1 λy n2=>fz D n2 λz n3=>∃st,y = .d (stD st)/\onD z λi=>Q (.d ((yp BE st).getD i)) n3
abbrev dDictL:AV->Mo W:=λws n Q=>on1 ws λx=>∃BE:List (AH×Dt),x = .d (.lst (BE.map λq=>Dt.tup [stD q.1,q.2]))/\(BE.map (·.1)).Nodup/\BE.length<=lim/\Q (.dt BE) n
end
abbrev lpD (bk:AY) (b:Int) (st:AH):Dt:=.lst ((lpE bk b st).map zK)
abbrev rowD (rm:AH) (bk:AY) (st:AH):Dt:=.lst ((List.range rm.length).map λb:Nat=>lpD bk (b:Int) st)
def zvL {l:AG}(h:Up' l):l.Nodup:=h.imp λh e=>by subst e;rw[xx] at h;cases h
def BkD (bk:AY)(bd:Dt):Prop:=bd=yB bk\/bd = .lst (bk.map uq)
def zjZ {bk:AY}{bd:Dt}{P:AT->Prop}(h:BkD bk bd)(k:P (bk.map uq)):onS (.d bd) P:=by rcases h with rfl | rfl <;> show k
def zfU {rm:AH}{g:List (Int×Int)}(h:Giv rm g):g.length<=rm.length:=by
 have:=yf (l:=g.map (·.1)) (l':=zn rm.length) (cH.mpr (h.up.imp λh e=>by lia)) λx hx=>by obtain⟨q,hq,rfl⟩:=aq.mp hx;have:=h.ok q hq;show zE.mpr #[this.1,this.2.1]
 rw[ab,zI] at this;lia
section
variable {X:Cx}{Pn:PN}{M S cM:AS}{fr fr':Bool}{e:Expr}{es:AQ}{pos:Pos}{A:AM}{acc:Addr}{H1 H H':Hp}{σc G:St}{ρc D:Ev}{n m:Nat}{ds:AT}
def inR (mg:W->Ev->(Ev->Prop)->Prop)(ft:Ev->Mo Bool)(fe:AE)(ρ0:Ev)(ds0:AT)(K:Ev->Nat->AT->Prop):AV->Nat->Prop:=λl n1=>∃I:Nat->Ev->Nat->AT->Prop,I 0 ρ0 n1 ds0/\
 (∀i w D n ds,l[i]?=some w->I i D n ds->mg w D λρ1=>ft ρ1 n λb n2=>if b=true then fe ρ1 n2 λx n3=>∃d,x = .d d/\ds.length<=lim/\I (i+1) ρ1 n3 (ds++[d]) else I (i+1) ρ1 n2 ds)/\
 ∀ D n ds,I l.length D n ds->K D n ds
def zqG (mg:W->Ev->(Ev->Prop)->Prop)(ft:Ev->Mo Bool)(fi2:AD)(mg2:W->Ev->(Ev->Prop)->Prop)(ft2:Ev->Mo Bool)(fe:AE)(ρ0:Ev)(Q:AW):AV->Nat->Prop:=λl n1=>∃I:Nat->Ev->Nat->AT->Prop,I 0 ρ0 n1 []/\
 (∀i w D n ds,l[i]?=some w->I i D n ds->mg w D λρ1=>ft ρ1 n λb n2=>if b=true then fi2 ρ1 n2 (inR mg2 ft2 fe ρ1 ds (I (i+1))) else I (i+1) ρ1 n2 ds)/\
 ∀ D n ds,I l.length D n ds->Q (.d (.lst ds)) n
abbrev mComp2 (fi:AD) (mg:W->Ev->(Ev->Prop)->Prop) (ft:Ev->Mo Bool) (fi2:AD) (mg2:W->Ev->(Ev->Prop)->Prop) (ft2:Ev->Mo Bool) (fe:AE) (BF:List (Option Nat)):AE:=λD n Q=>fi D n (zqG mg ft fi2 mg2 ft2 fe (uF D BF) Q)
def zte {scope:Scope}{N:AN}{ow:Bool}{tg:Expr}{fi:AD}(h:∀C s H ex,JI (zm X scope N C s H ex) Pn M ow tg e fi):∃te,(∀C s H ex,QI (zm X scope N C s H ex) tg e te)/\RI Pn M ow te fi:=
 #[λG H Q=>∀C s H0 ex,(h C s H0 ex).ex.choose G H Q,λC s H0 ex=>#[λBD s' G H Q I z=>(h C s H0 ex).ex.choose_spec.1.run BD s' G H Q I (z C s H0 ex)],
  #[λA G H D n Q R E P hf k C s H0 ex=>(h C s H0 ex).ex.choose_spec.2.run A G H D n Q R E P hf k]]
end
end L3
namespace L2
open PyProof.Rows PySem.W PySem.Calls
section
variable {X:Cx}{BD:AB}{G:St}{H:Hp}{s:Aa}{a:Addr}
def Inv.frzK {BE:List (Key×V)}(I:Inv X BD G H s)(h:H a=some (.dK BE)):∃ob,Inv X BD G (upd H a (.frz ob (.dK BE))) s:=by have k:=(show z8 X.prog X.w H s.heap a (.dK BE) from I.hok a _ h);obtain⟨z,lo,vs,r,o,es,ep,h1,h2,h3,h4⟩:=id k;show#[o,I.write (x:=a) (e:=a) (h':=s.heap) (t':=s.toks) (by rw[h];trivial) (.inl BC) (λ_ _ _ e=>e) #[o,h1] #[h1,z,lo,vs,r,o,es,ep,h1,h2,h3,h4]]
def zvD (te:TE):TE:=λG H Q=>te G H λx H1=>∃a ks,x = .ref a/\H1 a=some (.dK ks)/\∀ob,Q x (upd H1 a (.frz ob (.dK ks)))
def zpw {e:Expr}{te:TE}(h:QE X e te):QE X e (zvD te):=#[by
 intro BD s G H Q I q;show thn (h.run BD s G H _ I q) ?_;rintro v s1 ⟨x,H1,I1,r1,a,ks,rfl,ha,q1⟩;obtain⟨ob,I2⟩:=I1.frzK ha;show#[_,_,I2,r1,q1 ob]]
end
def Itk (d:Addr)(ob:Obj)(ks:List (Key×V))(ns:AH):It:=
 #[λi H=>H d=some (.frz ob (.dK ks))/\i<ns.length,λi H x H'=>H'=H/\∃q,ns[i]?=some q/\x = .int q,λi H=>H d=some (.frz ob (.dK ks))/\i=ns.length]
def zh4 {P:Ab}{w:Ac}{K:AI}{tg:Expr}{ob:Obj}{ks:List (Key×V)}{ns:AH}{es:Array DictEntry}{ep:Nat}(d it:Addr)(hx:ob.ExactDict)(hd:ob.data = .dict es ep)(hk:z9 (ns.map V.int) (es.toList.map (·.key))) :
  Turn P w K tg (Itk d ob ks ns) [it] it (λi h=>h.IsKeyIter it d i es.size ep) where
 mem:=by simp
 obj:=λi h st b hb=>by
  have e:b=it:=by simpa using hb
  subst e;obtain⟨o,e,c,d⟩:=st;right
 keep:=λi h h' ⟨o,e,r⟩ k=>#[o,k it (by simp) o e,r]
 item:=by
  rintro X hP hw hK hc i BD s G H E I hf st ⟨hg,hi⟩;subst hP hw hK;obtain⟨f0,f1,f2,f3,f4,f5⟩:=hf it (by simp);have hm:uC s.heap d es ep:=#[ob,(I.hok d _ hg).1,hx,hd];have hl:ns.length=es.toList.length:=by have:=hk.length;rwa[ab,ab] at this
  have e1:es[i]?=some es.toList[i]:=by rw[zbE,aj]
  have e2:yv (.int ns[i]) es.toList[i].key:=by
   obtain⟨u,h1,h2⟩:=hk.get (i:=i) (x:=.int ns[i]) (by simp);rw[aA,aj (by lia)] at h1;right
  show zdd st hm e1 λh' st' sb=>?_;have I1:Inv X BD G H { s with heap:=h' }:=I.turned (t':=s.toks) (λb o hb e=>(sb.2 b hb).trans e) f0 f1 f3 f4 f5;obtain⟨o,e,c,d⟩:=id st';show#[_,BC,zlx (s:={ s with heap:=h' }) e c d (by ext) #[.int ns[i],H,I1,e2,#[BC,_,aj hi,BC],st',λb hb=>(hf b hb).1]]
 done:=by
  rintro X hP hw hK hc i BD s G H E I hf st ⟨hg,hi⟩;subst hP hw hK;obtain⟨f0,f1,f2,f3,f4,f5⟩:=hf it (by simp);have hm:uC s.heap d es ep:=#[ob,(I.hok d _ hg).1,hx,hd];have hl:es.size=ns.length:=by have:=hk.length;rw[ab,ab,aX] at this;show this.symm
  subst hi;rw[<- hl] at st;show zeV (I.ok.hd hc) st hm λh' eb=>#[BC,I.turned (t':=s.toks) (λb o hb e=>eb b o hb e) f0 f1 f3 f4 f5]
 self:=λ_ _ _ _ _ st h=>wpAny_pyIter_keyiter st h
def zq3 (te:TE):TI:=λG H R=>te G H λx H1=>∃a ob ks ns,x = .ref a/\H1 a=some (.frz ob (.dK ks))/\ks.map (·.1)=ns.map Sum.inl/\R (Itk a ob ks ns) H1
def zmr {X:Cx}{tg e:Expr}{te:TE}(h:QE X e te):QI X tg e (zq3 te):=#[by
 intro BD s G H R I q;show thn (h.run BD s G H _ I q) ?_;rintro v s1 ⟨x,H1,I1,r1,a,ob,ks,ns,rfl,ha,hn,q1⟩;cases r1;obtain⟨lo,es,ep,⟨o,o1,o2,o3⟩,hv,_⟩:=ziR I1 (.inr #[ob,ha]) hn;have:o=ob:=by have:=(I1.hok a _ ha).1;rw[o1] at this;show bH this
 subst this;show zeG lo #[o,o1,o2,o3] ?_;show#[s1.heap.objs.size,[s1.heap.objs.size],_,_,H1,BC,I1.kept (t':=s1.toks) λb o e=>af _ e,zh4 a _ o2 o3 hv,#[_,aw _ BC,BC,BC],λb hb=>?_,q1];have e:b=s1.heap.objs.size:=by simpa using hb
 subst e;show I1.fpOk (ak _) (I1.hok.fresh (ak _))]
end L2
namespace L3
open L2
def zka {Pn:PN}{A:AM}{n:Nat}{H:Hp}{p:Addr}{o:HO}{ks:List (Key×V)}(h:xP Pn A n H)(hp:H p=some (.dK ks))(na:zaF ks (Sum.inr "at" : Key)=none):xP Pn A n (L2.upd H p o):=by
 show#[?_,Pn.J.frz h.2 hp (λk z=>by cases z;show na) BC];have h:=h.1;split at h;trivial;show#[?_,h.2];obtain⟨h1,_⟩:=h;obtain⟨a,l,g1,g2⟩:=h1.ob;have hne:∀ {c d:Addr},H c=some (.dK (zaE d a l))->c≠p:=λ{c d} g z=>by rw[z,hp] at g;have g:=HO.dK.inj (bH g);rw[g,zmc] at na;cases na
 show#[#[a,l,by rw[ze (hne g1)];show g1,g2],let ⟨ob,e⟩:=h1.ls;#[ob,by rw[ze λz=>by rw[z,hp] at e;cases e];show e],h1.len]
abbrev onY (w:W) (P:List (Key×Dt)->Prop):Prop:=match w with | .kf i=>P i | _=>False
def zj0 {w:W}{P:List (Key×Dt)->Prop}:onY w P = ∃i,w = .kf i/\P i:=propext #[λh=>by cases w <;> first | show False.elim h | show#[_,BC,h],by right]
section
variable {X:Cx}{Pn:PN}{M S:AS}{fr fr':Bool}{pos p:Pos}{e a b c:Expr}{f fa fb fc:AE}
abbrev zqP (f:AE):AE:=λD n Q=>f D n λx m=>onK x λBE=>Q (.kf BE) m
def zux (h:∃te,QE X e te/\RE Pn M true te f):JE X Pn M false e (zqP f):=by
 obtain⟨te,q,r⟩:=h;show#[_,zpw q,#[λA G H D n Q R E P hf k=>?_]];show r.run A G H D n _ _ E P hf λw m v H' hR hv g fz=>?_;rw[ze5] at hR;obtain⟨BE,rfl,hR⟩:=hR;obtain⟨ad,e1,fr1,_,ad2,ks,e2,h1,h2,h3⟩:=fz BC;subst e1;cases e2;have nA:=E.newF fr1;show#[ad,ks,BC,h1,λob=>k _ m _ _ hR #[ad,ob,ks,BC,zB nA zj,h2.stay λb o eb nb=>?_] #[λb o eb nb=>?_,?_] λz=>by cases z];obtain⟨z1,z2⟩:=yb.mp eb;show zB (λy=>z1 (.inl y)) (by rw[ze λy=>z1 (.inr y)];show z2);rw[ze λy=>by subst y;show fr1 o eb nb];show g.st b o eb nb;show zka g.pn h1 h3
def zm7 (h:JE X Pn M true e f):JE X Pn M false e (zqP f):=zux h.ex
def zq8 {A:AM}{H:Hp}{ad:Addr}{ob:Obj}{ks:List (Key×V)}{ns:AH}(h:zL A H ad=some (.frz ob (.dK ks))):ItV false A H (Itk ad ob ks ns) (ns.map λi=>W.d (.int i)) where
 one:=λi w A2 H2 e s _ _=>by rw[aA] at e;obtain⟨q,h1,rfl⟩:=aB.mp e;show#[#[zG _ _ (s _ _ h λk z=>by cases z),(ae.mp h1).1],?_];rintro y H3 ⟨rfl,q',h2,rfl⟩;rw[h1] at h2;cases h2;show#[λ_ _ z=>z,Val.of BC]
 stop:=λA2 H2 s _=>#[zG _ _ (s _ _ h λk z=>by cases z),by simp]
abbrev dItK (fa:AE):AD:=λD n Q=>fa D n λx m=>onY x λBE=>∃ns:AH,BE.map (·.1)=ns.map Sum.inl/\Q (ns.map λi=>W.d (.int i)) m
def zuH {tg:Expr}(h:JE X Pn M fr e f):JI X Pn M false tg e (dItK f):=by obtain⟨te,q,r⟩:=h.ex;show#[_,zmr q,#[λA G H D n Q R E P hf k=>?_]];show r.run A G H D n _ _ E P hf λw m v H1 hR hv g _=>?_;rw[zj0] at hR;obtain⟨BE,rfl,ns,hn,hR⟩:=hR;obtain⟨ad,ob,ks,rfl,had,hl⟩:=hv;show#[ad,ob,ks,ns,BC,zG _ _ had,hl.keys.trans hn,k _ m _ H1 hR (zq8 had) g]
def zmT {A:AM}{H:Hp}{BE:List (Key×Dt)}{v:V}(h:Bor A H (.kf BE) v):∃ad ks,v = .ref ad/\Rd H ad (.dK ks)/\xU (zL A H) BE ks:=by obtain⟨ad,ob,ks,e,h1,h2⟩:=h;show#[ad,ks,e,.inr #[ob,h1],h2]
abbrev zt1 (fd fk:AE):AE:=λD n Q=>fd D n λx n1=>fk D n1 λy n2=>onY x λBE=>onI y λi=>onO (yp BE (Sum.inl i)) λd=>Q (.d d) n2
def zjo (hu:X.A.units+1<cLine)(ha:JB X Pn M a fa)(hb:JB X Pn M b fb)(hs:zqw b):JE X Pn M false (.Subscript a b pos) (zt1 fa fb):=by obtain⟨ta,qa,ra⟩:=ha.ex;obtain⟨tb,qb,rb⟩:=hb.ex;show#[_,xT hu qa qb hs,#[λA G H D n Q R E P hf k=>?_]];show ra.run A G H D n _ _ E P hf λw1 m1 v1 H1 r1 b1 g1=>?_;show rb.run A G H1 D m1 _ _ (E.stay g1.st) g1.pn r1 λw2 m2 v2 H2 r2 b2 g2=>?_;rw[zj0] at r2;obtain⟨BE,rfl,r2⟩:=r2;rw[xK] at r2;obtain⟨i,rfl,r2⟩:=r2;rw[zaX] at r2;obtain⟨d,e3,r⟩:=r2;obtain⟨ad,ks,rfl,had,hk⟩:=zmT (b1.stay g2.st);have ev:v2 = .int i:=yJ b2;subst ev;obtain⟨v,h1,h2⟩:=(hk.look (k:=Sum.inl i)).2 d e3;show#[ad,v,BC,?_,k _ m2 _ H2 r (Val.of h2) (g1.trans g2) λz=>by cases z];show .inl #[ks,Sum.inl i,had,BC,h1.symm]
abbrev zmW:AV->Mo W:=λws n Q=>on1 ws λx=>onY x λBE=>∃ns:AH,BE.map (·.1)=ns.map Sum.inl/\Q (.d (.lst (ns.map .int))) n
def zqc:FL Pn true zks zmW:=#[λA H xs ws n Q R al b P h k=>by simp only[zmW,x4,zj0] at h;obtain⟨x,rfl,BE,rfl,ns,hn,h⟩:=h;obtain⟨v,rfl,bb⟩:=zbF b;obtain⟨a,ks,rfl,ha,hk⟩:=zmT bb;show#[a,ks,ns,BC,ha,hk.keys.trans hn,λp H' np g S=>k _ n _ H' h (uo (H:=H) IsL.ints (zo.same S) (al.new np) g) (Go.same P S) λz=>uI (H:=H) IsL.ints S np g]]
abbrev zui (f:AE) (i:Nat):Ms:=λD n k=>f D n λw m=>onD w λd=>onV D i λx=>onL x λl=>k.rt (.d (.tup [d,.lst l])) m
def zop (i:Nat){x:Str}{x1}{q:Pos}(he:JE X Pn M fr' e f)(hi:i∈M:=by ext)(hN:X.N[i]?=some x:=by rfl)(hv:Vis X.env.scope x:=by fail"v")(hd:Ai x:=by ext)
  (hcd:(x==("__classdict__" : Str))=false:=by ext) {pos':Pos} (h1:starEach [e,.Name x p] X.env=(false,eval e X.env)::starEach [.Name x p] X.env:=by rfl) (h2:starEach [.Name x p] X.env=(false,eval (.Name x p) X.env)::starEach [] X.env:=by rfl) :
  JS X Pn S M false (.Return (some (.Tuple [e,.Name x p] x1 q)) pos') (zui f i):=by
 obtain⟨te,qe,re⟩:=he.ex;show#[_,zbt (zkj (zR qe (zR (qv i hN hv hd hcd) yQ h2) h1)),#[λB A G H D n k BI a kk hf=>?_]];show re.run A G H D n _ _ a.env a.pn hf λw m v H' r hV g _=>?_;have a':=a.step g;rw[x5] at r;obtain⟨d,rfl,r⟩:=r;rw[zas] at r;obtain⟨w2,e2,r⟩:=r;rw[x6] at r;obtain⟨l,rfl,r⟩:=r;obtain⟨v2,s1,_,s3⟩:=a'.env.val i _ e2;obtain⟨ad,rfl,hA,hb,_⟩:=s3 hi;have hF:=a'.mine i _ ad hi e2 s1
 have hn:¬ B.A0 ad:=λz=>by
  rcases hF with hF | hF;obtain⟨o,o1,o2,_⟩:=a'.frm.al ad z;show hF o o1 o2;show a'.frm.cn ad hF z
 obtain⟨a2,xs,e3,g1,g2⟩:=hb;cases e3;show#[.ref ad,s1,?_];show#[zci (show 2<=lim by ext),λp H2 np gp S=>?_];have a'':=a'.step (Go.same a'.pn S);have less:xq (zL A H2) (zL B.A0 H2):=yF a''.frm.sub;have up:zo (zL A H') (zL B.A0 H2):=(zw (zo.same S)).trans (zo.same less);show kk.rt (.d (.tup [d,.lst l])) m _ H2 (Val.of #[p,_,BC,zB (λz=>a'.env.new np (a'.frm.sub p z)) gp,_,_,BC,hV.is.stay up,_,_,BC,#[ad,xs,BC,(g1.same S).hid hn,g2.stay up],BC]) a''.frm.st (a''.pn.less a''.frm.sub) (λz=>by cases z) r
end
end L3
namespace L2
open PyProof.Rows PySem.SeqAt
section
variable {prog:Ab}{w:Ac}{t:SetTable}{es:Array (Int×Value)}{xs:List (List Key×Addr)}{A:Af}{E:AA}{s:Aa}
variable {X:Cx}
end
end L2
namespace L3
open L2
section
variable {X:Cx}{Pn:PN}{M S:AS}{fr fr':Bool}{pos p:Pos}{e o a b c:Expr}{es:AQ}{f fo fa fc:AE}
abbrev dAug (F:Int->Int->Int) (i:Nat) (f:AE):Ms:=λD n k=>onV D i λx=>onI x λa=>f D n λy m=>onI y λb=>onP D i (.d (.int (F a b))) λρ'=>k.nx ρ' m
abbrev dAugT (F:Int->Int->Int) (i:Nat) (fk f:AE):Ms:=λD n k=>onV D i λx=>onE x λBE=>fk D n λy m=>∃st,y = .d (stD st)/\∃a,yp BE st=some (.int a)/\f D m λw m2=>onI w λb=>BE.length<lim/\onP D i (.dt (zgd BE st (.int (F a b)))) λρ'=>k.nx ρ' m2
abbrev dSetL (P:Ab) (w:Ac):AV->Mo W:=λws n Q=>on1 ws λx=>∃BG:AG,x = .d (.lst (BG.map stD))/\(∀ks:AG,ks.Nodup->(∀z∈ks,z∈BG)->ks.length<300)/\∀ks:AG,ks.Nodup->(∀st,st∈ks↔st∈BG)->Q (.ss P w ks) n
abbrev dInS (P:Ab) (w:Ac):W->W->Mo W:=λx y n Q=>∃ (st:AH) (ks:AG),x = .d (stD st)/\y = .ss P w ks/\∀c:Bool,(c=true↔st∈ks)->Q (.d (.bl c)) n
abbrev dItEF (fa:AD):AD:=λD n Q=>fa D n λws m=>on1 ws λx=>onZ x λBE=>(BE.map (·.1)).Nodup->Q (enW 0 ((BE.map (·.1)).map stD)) m
abbrev zt4 (fo f:AE):AE:=λD n Q=>fo D n λx n1=>onL x λl=>f D n1 λy n2=>onD y λd=>d.eqOk/\(Dt.lst l).eqOk/\d∈l/\∀j:Nat,l[j]?=some d->(∀i,i<j->l[i]?≠some d)->Q (.d (.int j)) n2
abbrev snN:AV->(AV->Prop)->Prop
 | [],P=>P [.d .non]
 | a::r,P=>snN r λr'=>P (a::r')
abbrev dFnD (k:Nat) (F:AV->Mo W) (fs:AD):AE:=λD n Q=>fs D n λws m=>snN ws λus=>zct k us (F us m Q)
end
end L3
namespace L2
open PyProof.Rows
section
variable {X:Cx}{BD:AB}{G:St}{H BH G':Hp}{s:Aa}{d l:Addr}{ob:Obj}{BE:List (List Key×V)}
def Inv.frzL {xs:AU}(I:Inv X BD G H s)(h:H l=some (.lst xs)):∃ob,Inv X BD G (upd H l (.frz ob (.lst xs))) s:=by obtain⟨z,its,n,r,e⟩:=(show z8 X.prog X.w H s.heap l (.lst xs) from I.hok l _ h);show#[_,I.write (x:=l) (e:=l) (h':=s.heap) (t':=s.toks) (by rw[h];trivial) (.inl BC) (λ_ _ _ e=>e) #[_,e] #[e,z,its,n,r,e]]
variable {e:Expr}{te:TE}
def zvE (te:TE):TE:=λG H Q=>te G H λx H1=>∃l xs,x = .ref l/\H1 l=some (.lst xs)/\∀ob,Q x (upd H1 l (.frz ob (.lst xs)))
def zo5 (h:PE X e te):PE X e (zvE te):=λBD s G H Q I q=>thn (h BD s G H _ I q) λu s1 ⟨x,H1,I1,r,l,xs,ex,h1,q1⟩=>by obtain⟨ob,I2⟩:=I1.frzL h1;show#[x,_,I2,r,q1 ob]
end
end L2
namespace L3
open L2
def zu5 {d:Addr}{ob:Obj}(h:∃h:Heap,h.get? d=some ob):¬ NP (kO d ob):=λn=>by have:=n [(Sum.inr "at",.non)] (by unfold kO pnK;dsimp only;rw[if_pos #[d,ob,h,BC]]);cases this
section
variable {K:AI}{P:Ab}{w:Ac}{C:Addr}{H:Hp}{Q:VK}{E:XK}{BI:Ends}
def zmi (ns:AH)(h:∀n∈ns,2<=n/\n<=4):zbm ns<=4 ^ ns.length:=by
 have:∀ (ns:AH) (c:Int),0<=c->(∀n∈ns,2<=n/\n<=4)->ns.foldl (· * ·) c<=c * 4 ^ ns.length:=by
  intro ns
  induction ns with
  | nil=>intro c _ _;simp
  | cons n ns ih=>
   intro c hc h;obtain⟨h1,h2⟩:=h n am;have i:=ih (c * n) (fE hc (by omega)) λm hm=>h m (ao _ hm);have p:(0:Int)<=4 ^ ns.length:=Int.pow_nonneg (by ext);have q:c * n * 4 ^ ns.length<=c * 4 * 4 ^ ns.length:=Int.mul_le_mul_of_nonneg_right (cV h2 hc) p;rw[List.foldl_cons,bc,Int.pow_succ];have r:c * (4 ^ ns.length * 4)=c * 4 * 4 ^ ns.length:=by rw[Int.mul_comm (4 ^ ns.length) 4,Int.mul_assoc]
   omega
 have:=this ns 1 (by ext) h;unfold zbm
 omega
end
end L3
namespace L2
open PyProof.Rows PySem.SeqAt
section
variable {X:Cx}
end
end L2
namespace L3
open L2
abbrev W.isD:W->Bool
 | .d _=>true
 | _=>false
section
variable {X:Cx}{Pn:PN}{M:AS}{fr:Bool}{e:Expr}{f:AE}
abbrev onFl (w:W) (P:AT->Prop):Prop:=match w with | .fl i=>P i | _=>False
abbrev dInF (neg:Bool):W->W->Mo W:=λx y n Q=>onD x λd=>onFl y λds=>d.eqOk/\(Dt.lst ds).eqOk/\∀b:Bool,(b=true↔d∈ds)->Q (.d (.bl (xr neg b))) n
variable {s:Stmt}{C fI fA:Addr}{dI dA:Ae}
end
end L3
namespace L2
open PyProof.Rows PySem.SeqAt
def okT:Nat->Dt->Bool
 | _,.non=>true
 | _,.int _=>true
 | _,.bl _=>true
 | _,.str x=>PyData.strOk x
 | n+1,.tup l=>l.all (okT n)
 | n+1,.lst l=>l.all (okT n)
 | _,_=>false
abbrev Dt.py (d:Dt):PyData:=PySem.W.kqdP d.toW
section
variable {P:Ab}{w:Ac}{H:Hp}{h:Heap}
variable {X:Cx}
end
end L2
namespace L3
open L2
section
variable {X:Cx}{Pn:PN}{M:AS}{e:Expr}{f:AE}{pos p:Pos}
abbrev dNeT:W->W->Mo W:=λx y n Q=>onD x λd=>onD y λe=>d=e/\okT 8 d=true/\Q (.d (.bl false)) n
abbrev dNiT:W->W->Mo W:=λx y n Q=>onD x λd=>onL y λds=>okT 8 d=true/\(Dt.lst ds).eqOk/\∀b:Bool,(d∈ds->b=true)->(b=true->∃e∈ds,PyData.eqv e.py d.py=true)->Q (.d (.bl (!b))) n
abbrev ztu (f:AE):AE:=λD n Q=>f D n λx n1=>onL x λl=>∃BG:AG,l=BG.map stD/\(∀ks:AG,ks.Nodup->(∀z∈ks,z∈BG)->ks.length<300)/\∀ks:AG,ks.Nodup->(∀st,st∈ks↔st∈BG)->Q (.d (.int (ks.length:Nat))) n1
end
end L3
namespace L2
open PyProof.Rows
section
variable {X:Cx}
end
end L2
namespace L3
open L2
section
variable {Pn:PN}
abbrev dMaxT:AV->Mo W:=λws n Q=>on1 ws λx=>∃ns:AH,x = .d (stD ns)/\ns≠[]/\∀m,m∈ns->(∀x∈ns,x<=m)->Q (.d (.int m)) n
end
end L3
namespace L2
open PyProof.Rows
end L2
namespace L3
open L2
section
variable {X:Cx}{Pn:PN}{M S:AS}{fr:Bool}{a:Expr}{pos p:Pos}
end
end L3
namespace L2
open PyProof.Rows PySem.W PySem.SeqAt
section
variable {X:Cx}
end
end L2
namespace L3
open L2
section
variable {X:Cx}{Pn:PN}{M S:AS}{fr fr':Bool}{e:Expr}{f:AE}{pos:Pos}
abbrev mRem (i:Nat) (fk:AE):Ms:=λD n k=>onV D i λv=>onL v λl=>fk D n λy m=>onI y λj=>∃ns:AH,l=ns.map Dt.int/\j∈ns/\onP D i (.d (lsD (ns.erase j))) λρ'=>k.nx ρ' m
end
end L3
namespace L3
open L2
section
variable {X:Cx}{Pn:PN}{M S:AS}{fr fr':Bool}{e:Expr}{f:AE}{pos:Pos}
end
end L3
namespace L2
open PyProof.Rows PySem.W PySem.Calls
section
variable {X:Cx}{pos:Pos}
end
end L2
namespace L3
open L2
section
variable {X:Cx}{Pn:PN}{M S:AS}{fr fr':Bool}{pos p:Pos}{e a b c:Expr}{f fa fb fc:AE}
abbrev dDisp1 (fk fv:AE):AE:=λD n Q=>fk D n λy m=>fv D m λx m2=>∃st,y = .d (stD st)/\onD x λd=>Q (.dt [(st,d)]) m2
abbrev dNinT (fk fd:AE):AE:=λD n Q=>fk D n λy n1=>fd D n1 λx n2=>onE x λBE=>∃st,y = .d (stD st)/\Q (.d (.bl (!(yp BE st).isSome))) n2
abbrev dSortZ:AV->Mo W:=λws n Q=>on1 ws λx=>onZ x λBE=>∃m:Nat,BE.length<64/\1<=m/\(∀q∈BE,q.1.length=m)/\∀sts':AG,sts'.Perm (BE.map (·.1))->(sts'.Pairwise λa b=>HT.lexLt a b=true)->Q (.d (zhk sts')) n
abbrev dRetZ (i:Nat) (f:AE):Ms:=λD n k=>onV D i λx=>onE x λBE=>f D n λw m=>onD w λd=>k.rt (.tz BE d) m
abbrev dIxZ:W->W->Mo W:=λx y n Q=>match x with
 | .tz BE d=>match y with
  | .d (.int i)=>match i with
   | .ofNat 0=>Q (.df BE) n
   | .ofNat 1=>Q (.d d) n
   | _=>False
  | _=>False
 | _=>False
abbrev dForP (i:Nat) (F:AV->Mo W) (f1 f3:AE) (mg:W->Ev->(Ev->Prop)->Prop) (fs:Ms):Ms:=λD n k=>f1 D n λw1 m1=>onV D i λx=>onL x λl=>∃l' d,l=l'++[d]/\f3 (D.set i (some (.d (.lst l')))) m1 λw3 m3=>F [w1,.d d,w3] m3 λw m=>onL w λr=>zn3 mg fs (D.set i (some (.d (.lst l')))) k (r.map W.d) m
variable {p1 p2 p3 p4:Pos}{apos cpos:Pos}
abbrev dGetK (fd fk fz:AE):AE:=λD n Q=>fd D n λx n1=>onK x λBE=>fk D n1 λy n2=>fz D n2 λz n3=>onO (zor y) λk=>onD z λd=>Q (.d ((yp BE k).getD d)) n3
end
end L3
namespace L2
open PyProof.Rows PySem.W PySem.Calls
section
variable {prog:Ab}{w:Ac}{A:Af}{E:AA}{s:Aa}
variable {X:Cx}{pos:Pos}
end
end L2
namespace L3
open L2
section
variable {X:Cx}{Pn:PN}{M S:AS}{fr fr':Bool}{e:Expr}{f:AE}{pos:Pos}
abbrev dSetZ (i j:Nat) (f:AE):Ms:=λD n k=>f D n λw m=>match w with
 | .tz BE d=>onP D i (.df BE) λρ1=>onP ρ1 j (.d d) λρ2=>k.nx ρ2 m
 | _=>False
variable {K:AI}
abbrev zuf:W->W->Mo W:=λx y n Q=>onB x λb=>onL y λl=>∃bs:List Bool,l=bs.map .bl/\Q (.d (.bl (!bs.contains b))) n
end
end L3
namespace L2
open PyProof.Rows PySem.W PySem.Calls
end L2
namespace L3
open L2
section
variable {X:Cx}{Pn:PN}{M S:AS}{es:AQ}{pos:Pos}
abbrev dNinS (P:Ab) (w:Ac):W->W->Mo W:=λx y n Q=>∃ (st:AH) (ks:AG),x = .d (stD st)/\y = .ss P w ks/\∀c:Bool,(c=true↔st∈ks)->Q (.d (.bl (!c))) n
abbrev eTpL (n:Nat) (u:AT->Ev->(Ev->Prop)->Prop):W->Ev->(Ev->Prop)->Prop:=λw D Q=>onL w λds=>zct n ds (u ds D Q)
variable {M':AS}{fr:Bool}
def At3.rel {B:Bs}{A:AM}{G:St}{H:Hp}{D:Ev}{n j:Nat}{w:W}(h:At3 Pn B S M A G H D n)(h1:∀q∈M',q∈M/\q≠j)(h2:∀q∈M,q∈M'\/q=j)(hj:j∈M)(e:D[j]?=some (some w)):∃A',At3 Pn B S M' A' G H D n:=by
 obtain⟨v,s,_,s3⟩:=h.env.val j w e;obtain⟨ad,rfl,hA,hbor,hmut⟩:=s3 hj;have hless:∀b,(A b/\b≠ad)->A b:=λb z=>z.1;have hsm:xq (zL A H) (zL (λb=>A b/\b≠ad) H):=yF hless
 have hnotA0:¬ B.A0 ad:=λz=>by
  rcases h.mine j w ad hj e s with q | q;obtain⟨o,o1,o2,_⟩:=h.frm.al ad z;show q o o1 o2;show h.frm.cn ad q z
 show#[λb=>A b/\b≠ad,#[h.env.len,λq u eq=>?_,λq k u u' b hq hk=>h.env.dis q k u u' b (h1 q hq).1 (h1 k hk).1,λb z=>h.env.al b z.1],#[λb z=>#[h.frm.sub b z,λq=>hnotA0 (q ▸ z)],λb z=>h.frm.new b z.1,h.frm.st,h.frm.al,h.frm.cn,h.frm.cs],h.pn.less hless,h.prot.trans (zo.same hsm),h.fix,λk u b hk=>h.mine k u b (h1 k hk).1];by_cases hq:q=j;subst hq;rw[e] at eq;cases eq;show#[.ref ad,s,λ_=>WAt.mv (λo ho=>zB (λz=>z.2 BC) ho) hsm hmut hbor,λz=>absurd BC (h1 q z).2];obtain⟨v,t1,t2,t3⟩:=h.env.val q u eq;show#[v,t1,λz=>WAt.up (zo.same hsm) (zo.same hsm) (t2 λy=>(h2 q y).elim z hq),λz=>?_];obtain⟨b,rfl,hb,hbb,hm⟩:=t3 (h1 q z).1;show#[b,BC,#[hb,λq'=>?_],WAt.up (zo.refl _) (zo.same hsm) hbb,hm];subst q';show h.env.dis j q w u b hj (h1 q z).1 (Ne.symm hq) e eq s t1
abbrev mRel (j:Nat) (fs:Ms):Ms:=λD n k=>onV D j λ_=>fs D n { rt:=k.rt,nx:=λ_ _=>False }
def zoq {st:List Stmt}{fs:Ms}(M':AS)(j:Nat)(h:JSs X Pn S M' fr st fs)(h1:∀q∈M',q∈M/\q≠j:=by ext)(h2:∀q∈M,q∈M'\/q=j:=by ext)(hj:j∈M:=by ext):JSs X Pn S M fr st (mRel j fs):=by obtain⟨ts,q,r⟩:=h.ex;show#[ts,q,#[λB A G H D n k BI a kk hf=>?_]];unfold mRel at hf;rw[zas] at hf;obtain⟨w,e,hf⟩:=hf;obtain⟨A',a'⟩:=a.rel h1 h2 hj e;show r.run B A' G H D n { rt:=k.rt,nx:=λ_ _=>False } BI a' #[λ_ _ _ _ _ _ z=>False.elim z,λ_ _ _ _ _ _ z=>False.elim z,λ_ _ _ _ _ _ z=>False.elim z,kk.fc,kk.rt] hf
def At3.moveB {B:Bs}{A:AM}{G:St}{H:Hp}{D:Ev}{n i j:Nat}{w:W}{ad:Addr}(h:At3 Pn B S M' A G H D n)(h1:∀q∈M',q∈M/\q≠i)(h2:∀q∈M,q∈M'\/q=i)(hi:i∈M)(hj:j∈M')(hiS:i∉S)(e:D[j]?=some (some w))(s:G[j]?=some (some (.ref ad))):At3 Pn B S M A (G.set i (some (.ref ad))) H ((D.set j none).set i (some w)) n:=by
 have get:∀q (u:W),((D.set j none).set i (some w))[q]?=some (some u)->q≠i->q≠j/\D[q]?=some (some u):=λq u eq hq=>by
  rw[aF (Ne.symm hq)] at eq;by_cases hqj:q=j;subst hqj;have hl:=(ae.mp eq).1;rw[b7] at hl;rw[aW hl] at eq;cases eq;rw[aF (Ne.symm hqj)] at eq;show#[hqj,eq]
 have own:∀ (u:W) (b:Addr),((D.set j none).set i (some w))[i]?=some (some u)->i<G.length/\u=w:=λu b eq=>by have hl:=(ae.mp eq).1;rw[b7] at hl;rw[aW hl] at eq;rw[b7] at hl;show#[by rw[h.env.len];show hl,by cases eq;rfl]
 obtain⟨v0,s0,_,o0⟩:=h.env.val j w e;rw[s] at s0;cases s0;show#[#[by simp[h.env.len],λq u eq=>?_,λq k u u' b hq hk hne e1 e2 s1 s2=>?_,h.env.al],h.frm,h.pn,h.prot,#[λk hk=>?_,h.fix.2],λq u b hq eq sq=>?_];by_cases hq:q=i;subst hq;obtain⟨hl,rfl⟩:=own u ad eq;show#[.ref ad,aW hl,λz=>absurd hi z,λ_=>o0 hj];obtain⟨_,z⟩:=get q u eq hq;rw[aF (Ne.symm hq)];show (h.env.val q u z).imp λv t=>#[t.1,λy=>t.2.1 λy'=>y (h1 q y').1,λy=>t.2.2 ((h2 q y).resolve_right hq)];by_cases hqi:q=i;subst hqi;obtain⟨hl,rfl⟩:=own u ad e1;rw[aW hl] at s1;cases s1;obtain⟨k1,k2⟩:=get k u' e2 (Ne.symm hne);rw[aF hne] at s2;show h.env.dis j k _ u' ad hj ((h2 k hk).resolve_right (Ne.symm hne)) (Ne.symm k1) e k2 s s2;obtain⟨q1,q2⟩:=get q u e1 hqi;rw[aF (Ne.symm hqi)] at s1;by_cases hki:k=i;subst hki;obtain⟨hl,rfl⟩:=own u' ad e2;rw[aW hl] at s2;cases s2;show h.env.dis q j u _ ad ((h2 q hq).resolve_right hqi) hj q1 q2 e s1 s;obtain⟨_,k2⟩:=get k u' e2 hki;rw[aF (Ne.symm hki)] at s2;show h.env.dis q k u u' b ((h2 q hq).resolve_right hqi) ((h2 k hk).resolve_right hki) hne q2 k2 s1 s2;rw[aF (show i≠k from λz=>hiS (by rw[z];show hk))];show h.fix.1 k hk;by_cases hqi:q=i;subst hqi;obtain⟨hl,rfl⟩:=own u ad eq;rw[aW hl] at sq;cases sq;show h.mine j _ ad hj e s;rw[aF (Ne.symm hqi)] at sq;show h.mine q u b ((h2 q hq).resolve_right hqi) (get q u eq hqi).2 sq
abbrev zrs (i j:Nat) (f:Ms):Ms:=λD n k=>onV D i λ_=>f D n { rt:=k.rt,nx:=λρ' m=>zlo i j ρ' m k }
def zlJ {i:Nat}(M':AS)(j:Nat){st:Stmt}{f:Ms}{x y:Str}{px py sp:Pos}(h:JS X Pn S M' fr st f)(hN:X.N.Nodup)(hi:X.N[i]?=some x)(hx:Loc X.env.scope x)(hj:j∈M':=by ext)(hiM:i∈M:=by ext)(hiS:i∉S:=by ext)(h1:∀q∈M',q∈M/\q≠i:=by ext)(h2:∀q∈M,q∈M'\/q=i:=by ext)(hNj:X.N[j]?=some y:=by rfl)(hv:Vis X.env.scope y:=by fail"v")(hd:Ai y:=by ext)
  (hcd:(y==("__classdict__" : Str))=false:=by ext) (hs:swapsWith (.Name y py) (some (.Name x px)) sp.line X.env=pure false:=by rfl) (hf:X.fn x=true\/X.env.scope.names.lookup x=some .local:=by fail"l"):JSs X Pn S M fr [st,.Assign [.Name x px] (.Name y py) sp] (zrs i j f):=by
 obtain⟨t,q,r⟩:=h.ex;show#[_,ya q (uV (ux (i:=i) hN hi hx (qv j hNj hv hd hcd) hs hf)),#[λB A G H D n k BI a kk hf=>?_]];unfold zrs at hf;rw[zas] at hf;obtain⟨w,e,hf⟩:=hf;obtain⟨A',a'⟩:=a.rel h1 h2 hiM e;show r.run B A' G H D n { rt:=k.rt,nx:=λρ' m=>zlo i j ρ' m k } _ a' #[λA2 σ2 H2 ρ2 n2 a2 hm=>?_,λ_ _ _ _ _ _ z=>False.elim z,λ_ _ _ _ _ _ z=>False.elim z,kk.fc,kk.rt] hf;rw[<- zlU] at hm;obtain⟨w2,e2,r2⟩:=hm;obtain⟨v,s1,_,s3⟩:=a2.env.val j w2 e2;obtain⟨ad,rfl,hA,_,_⟩:=s3 hj;show#[.ref ad,s1,kk.nx _ _ H2 _ n2 (a2.moveB h1 h2 hiM hj hiS e2 s1) r2]
end
abbrev mNo:Ms:=λ_ _ _=>False
def zre {X:Cx}{Pn:PN}{M S:AS}{fr:Bool}{st:Stmt}:JS X Pn S M fr st mNo:=#[λ_ _ _=>False,#[λ_ _ _ _ _ _ h=>h.elim],#[λ_ _ _ _ _ _ _ _ _ _ h=>h]]
end L3
namespace L2
open PyProof.Rows PySem.W PySem.Calls
section
variable {prog:Ab}{w:Ac}{A:Af}{E:AA}{s:Aa}
variable {X:Cx}
end
end L2
namespace L3
open L2
section
variable {X:Cx}{Pn:PN}
abbrev dSortP:AV->Mo W:=λws n Q=>on1 ws λx=>onT x λl=>∃ (BG:AG) (m:Nat),l=BG.map stD/\BG.length<64/\1<=m/\(∀st∈BG,st.length=m)/\BG.Nodup/\∀sts':AG,sts'.Perm BG->(sts'.Pairwise λa b=>HT.lexLt a b=true)->Q (.d (zhk sts')) n
end
end L3
namespace L2
open PyProof.Rows
section
variable {X:Cx}{BD:AB}{G:St}{H:Hp}{s:Aa}{C:Addr}{E:XK}
variable {x m:Str}{np cpos pos p1:Pos}
variable {prog:Ab}{w:Ac}{A:Af}{E:AA}{K:AI}{a:Addr}{o:Obj}{hp:Heap}{gs:Array GenState}{dr:Drawn}{tk:Nat}{oS:OsState}
variable {H':Hp}{s':Aa}{e:Addr}
variable {M:Model}{BI:Addr}{oe:Obj}
variable {W l:Addr}{a c n wx:Str}{ia ic k:Nat}{ap cp ep wp p2 p3 hp:Pos}{QH:Hp->Prop}
end
def zqr (oc:Obj)(q:Str):Prop:=∃vs tq,oc.data = .fields vs/\vs[1]?=some (.str q tq)
def znK (oc:Obj):HO:=.frz oc (.own 0)
section
variable {P:Ab}{w:Ac}{K:AI}{mg:AJ}{base:Heap}{N:AN}{qual:Str}{scope:Scope}{l:Addr}{cv:Value}{cl:List (Str×Addr)}{A:Af}{outer:List Env}{s:Aa}{H:Hp}{C:Addr}{E:XK}
variable {X:Cx}{BD:AB}{G:St}{E:AA}{params:Arguments}{body:Expr}{pos:Pos}{c P:Addr}
variable {W:Addr}{cs:AZ}{a c n cx wx:Str}{k k1 k2 k3:Nat}{es:AQ}{ts:TA}{QH:Hp->Prop}
 {p1 p2 p3 ap cp ep wp q1 q2 q3 hp tp i1 i2 i3 i4 i5 i6 i7 i8 i9 j1 j2 j3 j4 j5 j6 j7 r1 r2 r3 r4 tq:Pos}
variable {P:Ab}{f:Addr}{x:Str}{st:Stmt}{fd:Ae}{xs:List (Str×Pos)}
 {p1 p2 p3 ap cp ep wp q1 q2 q3 hp tp i1 i2 i3 i4 i5 i6 i7 i8 i9 j1 j2 j3 j4 j5 j6 j7 r1 r2 r3 r4 tq:Pos}
variable {P cc:Addr}{p lpos:Pos}{BF:List (Option Nat)}
end
end L2
namespace L3
open L2
section
variable {X:Cx}{E:XK}{Pn:PN}{M:AS}{C:Addr}{e c:Expr}{es:AQ}{b yD:List Stmt}{p pos p1 p2 np cpos:Pos}{x m:Str}{j:Nat}
end
def znf {P:Addr}{ob:Obj}(h:∃h:Heap,h.get? P=some ob):¬ NP (kO P ob):=λn=>by have:=n [(Sum.inr "at",.non)] (by unfold kO pnK;dsimp only;rw[if_pos #[P,ob,h,BC]]);cases this
def zts (P:Addr)(q:Str)(A:AM)(H:Hp):Prop:=¬ A P/\∃ps:AL,H P=some (kO P (PySem.W.tabObj ps))/\(∃h:Heap,h.get? P=some (PySem.W.tabObj ps))/\TriplesOk ps.toList/\
 ∀pos cv,codeAmong pos ps.toList=some cv->∃c' oc,cv = .ref c'/\H c'=some (znK oc)/\zqr oc q/\¬ A c'
def zjP {oc:Obj}:¬ Mt (znK oc):=λz=>by cases z
def zts.ch {P:Addr}{q:Str}{A A':AM}{H H':Hp}(h:zts P q A H)(h1:¬ A P->(∃ob,H P=some (kO P ob)/\∃h:Heap,h.get? P=some ob)->¬ A' P/\H' P=H P)(h2:∀c oc,¬ A c->H c=some (znK oc)->¬ A' c/\H' c=H c):zts P q A' H':=by obtain⟨n,ps,g1,g2,g3,g4⟩:=h;obtain⟨n',e⟩:=h1 n #[_,g1,g2];show#[n',ps,by rw[e];show g1,g2,g3,λpos cv z=>?_];obtain⟨c',oc,z1,z2,z3,z4⟩:=g4 pos cv z;obtain⟨y1,y2⟩:=h2 c' oc z4 z2;show#[c',oc,z1,by rw[y2];show z2,z3,y1]
def tabJ (P:Addr)(q:Str):Jv where
 K:=zts P q
 same:=λh s=>h.ch (λn ⟨ob,e,_⟩=>#[n,by rw[s _ _ e,e]]) λc oc n e=>#[n,by rw[s _ _ e,e]]
 grow:=λh g=>h.ch (λn ⟨ob,e,w⟩=>#[λz=>(g _ z).elim n λ⟨o,e1,e2,_⟩=>by rw[e] at e1;cases e1;show znf w e2,BC]) λc oc n e=>#[λz=>(g _ z).elim n λ⟨o,e1,_,e2⟩=>by rw[e] at e1;cases e1;show zjP e2,BC]
 upd:=λh a=>h.ch (λn _=>#[n,ze λz=>n (z ▸ a)]) λc oc n e=>#[n,ze λz=>n (z ▸ a)]
 frz:=λh e1 e2 e3=>h.ch (λn ⟨ob,e,w⟩=>#[n,ze λz=>by subst z;rw[e] at e1;cases e1;show znf w e2]) λc oc n e=>#[n,ze λz=>by subst z;rw[e] at e1;cases e1;show zjP e3]
section
variable {X:Cx}{Pn:PN}{M:AS}{C P cc f:Addr}{cs:AZ}{x y:Str}{k kk m:Nat}{p pos lpos p1 p2:Pos}{params:Arguments}{e:Expr}{es:AQ}{scope:Scope}{N:AN}{BF:List (Option Nat)}
 {st:Stmt} {ps:AN} {fA:Addr} {fd:Ae} {Fp:AV->Prop} {fs:AD} {j:Nat}
end
end L3
namespace L2
open PyProof.Rows
end L2
namespace L3
open L2
end L3
namespace L2
open PyProof.Rows
section
variable {X:Cx}
end
end L2
namespace L3
open L2
def PenJ (J:Jv):Prop:=∀A H H' p c a l,J.K A H->H p=some (.dK (zaE c a l))->(∀b o,b≠p->H b=some o->H' b=some o)->J.K A H'
def IsQ (Pn:PN)(p:Addr):Prop:=(∃c ns,Pn.pn=some (p,c,ns))/\PenJ Pn.J
def zqt:FV:=λPn ws n R=>∃p zu,IsQ Pn p/\ws=[.pen p,.d (.int zu)]/\n<=1000000/\1<=zu/\zu<1073741824/\∀r,0<=r->r<zu->R (.d (.int r)) (n+1)
def tk {Pn:PN}{p:Addr}{zu:Int}{n:Nat}{Q:AW}(hP:IsQ Pn p)(h:∀r,0<=r->r<zu->Q (.d (.int r)) (n+1))(hn:n<=1000000:=by lia)(h1:1<=zu:=by lia)(h2:zu<1073741824:=by lia):zqt Pn [.pen p,.d (.int zu)] n Q:=#[p,zu,hP,BC,hn,h1,h2,h]
abbrev dAny:AV->Mo W:=λws n Q=>on1 ws λx=>onL x λl=>∃bs:List Bool,l=bs.map .bl/\Q (.d (.bl (bs.any id))) n
end L3
namespace L2
open PyProof.Rows
end L2
namespace L3
open L2
section
variable {X:Cx}{Pn:PN}{M:AS}{e:Expr}{f:AE}{pos p p1 p2 p3:Pos}
abbrev isSeqD:Dt->Bool
 | .tup _=>true
 | .lst _=>true
 | _=>false
variable {ow:Bool}{tg it a b:Expr}{f1 f2:AD}
end
end L3
namespace L2
open PyProof.Rows PySem.W PySem.Calls
section
variable {X:Cx}{BD:AB}{G:St}{H:Hp}{s:Aa}{a b:Addr}{ks:List (Dt×Addr×V)}{k:Dt}{A:Af}{E:AA}
variable {o i value:Expr}{pos pos':Pos}{td ty tv:TE}
end
end L2
namespace L3
open L2
abbrev onM (w:W) (P:List (Dt×Dt)->Prop):Prop:=match w with | .dn _ i=>P i | _=>False
abbrev zqo (w:W) (P:List (Dt×Dt)->Prop):Prop:=match w with | .dn false i=>P i | _=>False
abbrev onMz (w:W) (P:List (Dt×Dt)->Prop):Prop:=match w with | .dn true i=>P i | _=>False
def _root_.L2.Dt.ky (k:Dt):Prop:=k.hk=true/\k.kk/\k.isTup=true
section
variable {X:Cx}{Pn:PN}{M S:AS}{fr fr':Bool}{pos p:Pos}{e a b c:Expr}{f fa fb fc:AE}
abbrev dInN (neg:Bool):W->W->Mo W:=λx y n Q=>onD x λk=>onM y λBE=>k.ky/\Q (.d (.bl (xr neg (yp BE k).isSome))) n
abbrev dNGet (fd fk:AE):AE:=λD n Q=>fd D n λx n1=>fk D n1 λy n2=>onM x λBE=>onD y λk=>k.ky/\onO (yp BE k) λd=>Q (.d d) n2
abbrev dNPut (i:Nat) (fk f:AE):Ms:=λD n k=>onV D i λv=>zqo v λ_=>f D n λw m=>fk D m λy m2=>onD w λd=>onD y λkd=>onV D i λv2=>zqo v2 λBE=>kd.ky/\BE.length<lim/\onP D i (.dn false (zgd BE kd d)) λρ'=>k.nx ρ' m2
abbrev dFrzN (f:AE):AE:=λD n Q=>f D n λx m=>zqo x λBE=>Q (.dn true BE) m
abbrev mFrzO (j:Nat) (fs:Ms):Ms:=λD n k=>onV D j λw=>zqo w λBE=>onP D j (.dn true BE) λρ'=>fs ρ' n { rt:=k.rt,nx:=λ_ _=>False }
abbrev dItN (fa:AE):AD:=λD n Q=>fa D n λx m=>onMz x λBE=>(BE.map (·.1)).Nodup->Q (BE.map λq=>W.d q.1) m
end
end L3
namespace L2
open PyProof.Rows PySem.W PySem.Calls
mutual
def enD:Dt->AH
 | .int n=>[n]
 | .tup l=>enDs l
 | _=>[]
def enDs:AT->AH
 | []=>[0]
 | d::l=>1::(enD d++enDs l)
end
mutual
def Dt.cmp:Dt->Dt->Bool
 | .int _,.int _=>true
 | .tup l,.tup m=>Dt.cmps l m
 | _,_=>false
def Dt.cmps:AT->AT->Bool
 | a::l,b::m=>Dt.cmp a b&&Dt.cmps l m
 | _,_=>true
end
section
variable {P:Ab}{w:Ac}
structure RowsOk (ft:Bool)(BG:AT):Prop where
 key:∀x∈BG,x.hk=true/\x.eqOk/\x.isTup=true
 cmp:∀x∈BG,∀y∈BG,Dt.cmp x y=true
 first:2<=BG.length->∀x∈BG,∃d l,x = .tup (d::l)/\d.isTup=ft
 nd:BG.Nodup
variable {X:Cx}
end
mutual
theorem zm4:∀ {d:Dt},d.hk=true->d.noL=true
 | .int _,_=>rfl
 | .tup l,h=>by simpa [Dt.noL] using zjb (show Dt.hks l=true from h)
 | .non,h=>by cases h
 | .bl _,_=>rfl
 | .str _,h=>by cases h
 | .lst _,h=>by cases h
 | .dct,h=>by cases h
theorem zjb:∀ {l:AT},Dt.hks l=true->Dt.noLs l=true
 | [],_=>rfl
 | d::l,h=>by simp only[Dt.hks,aU] at h;simp only[Dt.noLs,aU];show#[zm4 h.1,zjb h.2]
end
def NDo (ob:Obj)(d:Addr)(ks:List (Dt×Addr×V)):Prop:=ks.length<=sizeLine/\(d==sysModules)=false/\∃xs:List (Dt×Addr×Value),Paired PrN ks xs/\∃es ep,ob.ExactDict/\ob.data = .dict es ep/\es.toList=xs.map (λx=>#[zn8 x.1,.ref x.2.1,x.2.2])/\(xs.map (·.1)).Nodup
section
variable {X:Cx}{BD:AB}{G:St}{H:Hp}{s:Aa}{a b d:Addr}{ob:Obj}{ks:List (Dt×Addr×V)}{k:Dt}{A:Af}{E:AA}
variable {o i value:Expr}{pos pos':Pos}{td ty tv:TE}
end
end L2
namespace L3
open L2
def MeE (Q:Dt->AT->Prop)(BH:Hp)(q:Dt×Addr×V):Prop:=∃va o xs l,q.2.2 = .ref va/\BH va=some (.frz o (.lst xs))/\IsL BH l xs/\Dt.noLs l=true/\Q q.1 l
def MeG (d:Addr)(Q:Dt->AT->Prop)(BH:Hp):Prop:=∃ob ks,BH d=some (kO d ob)/\(∃h:Heap,h.get? d=some ob)/\NDo ob d ks/\zdt BH ks/\∀q∈ks,MeE Q BH q
def Sk (BH G':Hp):Prop:=∀b o,BH b=some o->(imm o=true\/∃ob,o=kO b ob/\∃h:Heap,h.get? b=some ob)->G' b=some o
def Sk.t {BH G':Hp}(h:Sk BH G'):zih BH G':=λb xs e=>h b _ e (.inl BC)
def MeE.st {Q:Dt->AT->Prop}{BH G':Hp}{q:Dt×Addr×V}(h:MeE Q BH q)(t:zih BH G')(f:∀b o xs,BH b=some (.frz o (.lst xs))->G' b=some (.frz o (.lst xs))):MeE Q G' q:=by obtain⟨va,o,xs,l,h1,h2,h3,h4,h5⟩:=h;show#[va,o,xs,l,h1,f _ _ _ h2,h3.stayT t h4,h4,h5]
def zdt.stT {BH G':Hp}{ks:List (Dt×Addr×V)}(h:zdt BH ks)(s:zih BH G'):zdt G' ks:=λq hq=>let ⟨h1,h2,h3⟩:=h q hq;#[h1,h2,h3.stayT s (zm4 h1)]
def MeG.sk {d:Addr}{Q:Dt->AT->Prop}{BH G':Hp}(h:MeG d Q BH)(s:Sk BH G'):MeG d Q G':=by obtain⟨ob,ks,h1,h2,h3,h4,h5⟩:=h;show#[ob,ks,s _ _ h1 (.inr #[ob,BC,h2]),h2,h3,zdt.stT h4 s.t,λq hq=>(h5 q hq).st s.t λb o xs e=>s b _ e (.inl BC)]
def zrx {b:Addr}{o o':HO}{ob:Obj}(e:o=kO b ob)(h:∃h:Heap,h.get? b=some ob)(n:NP o):False:=by subst e;show zu5 h n
def zu4 (d:Addr)(Q:Dt->AT->Prop):Jv where
 K:=λA H=>MeG d Q (zL A H)
 same:=λh s=>h.sk λb o e _=>uJ s b o e
 grow:=λ{A A' H} h g=>h.sk λb o e n=>by
  obtain⟨e1,e2⟩:=yb.mp e;show zB (λz=>?_) e2;rcases g b z with q | ⟨o',q1,q2,q3⟩;show e1 q;rw[e2] at q1;cases q1;rcases n with n | ⟨ob,n1,n2⟩;rw[show imm o=false from q3] at n;cases n;show zrx (o':=o) n1 n2 q2
 upd:=λ{A H p o} h hp=>by rw[z5 hp];show h
 frz:=λ{A H p o o'} h hp np mt=>h.sk λb u e n=>by
  obtain⟨e1,e2⟩:=yb.mp e
  have hb:b≠p:=λz=>by
   subst z;rw[hp] at e2;cases e2;rcases n with n | ⟨ob,n1,n2⟩;rw[show imm o=false from mt] at n;cases n;show zrx (o':=o) n1 n2 np
  show zB e1 (by rw[ze hb];show e2)
def andJ (J J':Jv):Jv where
 K:=λA H=>J.K A H/\J'.K A H
 same:=λh s=>#[J.same h.1 s,J'.same h.2 s]
 grow:=λh g=>#[J.grow h.1 g,J'.grow h.2 g]
 upd:=λh a=>#[J.upd h.1 a,J'.upd h.2 a]
 frz:=λh a b c=>#[J.frz h.1 a b c,J'.frz h.2 a b c]
structure IsMemo (J:Jv)(d:Addr)(Q:Dt->AT->Prop):Prop where
 get:∀A H,J.K A H->MeG d Q (zL A H)
 ch:∀A H H',J.K A H->(∀b o,H b=some o->b≠d->H' b=some o)->MeG d Q (zL A H')->J.K A H'
abbrev PN.mo (Pn:PN) (d:Addr) (Q:Dt->AT->Prop):PN:=#[Pn.pn,andJ (zu4 d Q) Pn.J]
section
variable {X:Cx}{Pn:PN}{M M' S:AS}{fr fr':Bool}{pos p p1 p2 p3 p4 p5 p6:Pos}{e a b c:Expr}{f fa fb fc:AE}{fk fm:Ev->W->Prop}{st:Stmt}{BG:List Stmt}{fs gs:Ms}{x:Str}{i:Nat}
abbrev pVar (i:Nat):Ev->W->Prop:=λD w=>D[i]?=some (some w)
abbrev pWide (i:Nat):Ev->W->Prop:=λD w=>∃d fs kn,D[i]?=some (some (.wd d fs kn))/\w = .pen d/\yp fs (Sum.inr "wide" : Key)=none
abbrev mPSeq (f g:Ms):Ms:=λD n k=>f D n { nx:=λρ' n'=>blk g ρ' n' k,rt:=λ_ _=>False }
abbrev mPFrz (j:Nat) (fs:Ms):Ms:=λD n k=>onV D j λw=>zqo w λBE=>onP D j (.dn true BE) λρ'=>fs ρ' n k
abbrev mPEnd (f:AE):Ms:=λD n k=>f D n λw m=>k.rt w m/\k.nx D m
abbrev mMemo (Pn:PN) (fk fm:Ev->W->Prop) (fb:Ms):Ms:=λD n k=>∃ (d:Addr) (Q:Dt->AT->Prop) (kd:Dt) (l0:AT),IsMemo Pn.J d Q/\kd.ky/\(∀k' l,Q k' l->k'∈l0)/\l0.length<=lim/\fk D (.d kd)/\fm D (.pen d)/\
 blk fb D n { nx:=λρ' _=>fk ρ' (.d kd)/\fm ρ' (.pen d),rt:=λw m=>∃l,w = .fl l/\m=n/\Dt.noLs l=true/\Q kd l }/\∀l,Q kd l->k.rt (.d (.lst l)) n
abbrev dFlz (f:AE):AE:=λD n Q=>f D n λx m=>onL x λl=>Q (.fl l) m
end
abbrev Fs:=List (Key×Dt)
abbrev Kn:=List (AH×Dt)
abbrev FW:=PN->AV->Nat->(Fs->Kn->Nat->Prop)->Prop
section
variable {X:Cx}{Pn:PN}{M M' S:AS}{fr fr':Bool}{pos p:Pos}{p0 p1 p2 p3 p4 p5 p6 p7:Pos}{j0 j1 j2 j3 j4 j5 j6:Nat}{e a b c:Expr}{es:AQ}{f fa fb fc:AE}{st:Stmt}{BG:List Stmt}{fs:Ms}{gs:Ev->Nat->(Fs->Kn->Nat->Prop)->Prop}{x:Str}{i:Nat}
abbrev mWSeq (f:Ms) (g:Ev->Nat->(Fs->Kn->Nat->Prop)->Prop):Ev->Nat->(Fs->Kn->Nat->Prop)->Prop:=λD n R=>f D n { nx:=λρ' n'=>g ρ' n' R,rt:=λ_ _=>False }
abbrev mWRet (i0 i1 i2 i3 i4 i5:Nat):Ev->Nat->(Fs->Kn->Nat->Prop)->Prop:=λD n R=>onV D i0 λw0=>onD w0 λd0=>onV D i1 λw1=>onD w1 λd1=>onV D i2 λw2=>onD w2 λd2=>onV D i3 λw3=>onD w3 λd3=>onV D i4 λw4=>onD w4 λd4=>onV D i5 λw5=>onZ w5 λkn=>
 R [(Sum.inr "room",d0),(Sum.inr "some",d1),(Sum.inr "box",d2),(Sum.inr "worse",d3),(Sum.inr "there",d4)] kn n
abbrev mWCons (f:AE) (g:Ev->Nat->(AV->PN->Nat->Prop)->Prop):Ev->Nat->(AV->PN->Nat->Prop)->Prop:=λD n R=>f D n λw m=>g D m λws Pm m2=>R (w::ws) Pm m2
abbrev mWHead (k:Nat) (F:FW) (Pn:PN) (fs:AD) (gs:Addr->(Dt->AT->Prop)->AD):Ev->Nat->(AV->PN->Nat->Prop)->Prop:=λD n R=>fs D n λws m=>ws.length=k/\F Pn ws m λf kn m2=>∃Q,∀d,gs d Q D m2 λws2 m3=>R (.wd d f kn::ws2) (Pn.mo d Q) m3
abbrev mFnW (k:Nat) (F:PN->AV->Mo W) (fs:Ev->Nat->(AV->PN->Nat->Prop)->Prop):AE:=λD n R=>fs D n λws Pm m=>ws.length=k/\F Pm ws m R
abbrev mWorld (k i:Nat) (F:FW) (Pn:PN) (fs:AD) (gs:Addr->(Dt->AT->Prop)->Ms):Ms:=λD n K=>fs D n λws m=>ws.length=k/\F Pn ws m λf kn m2=>∃Q,∀d,onP D i (.wd d f kn) λρ'=>blk (gs d Q) ρ' m2 { rt:=K.rt,nx:=λ_ _=>False }
abbrev onWd (w:W) (P:Fs->Kn->Prop):Prop:=match w with | .wd _ f kn=>P f kn | _=>False
abbrev dWGet (fb:AE) (k:Key):AE:=λD n Q=>fb D n λx m=>onWd x λf _=>onO (yp f k) λd=>Q (.d d) m
abbrev dWKn (fb:AE):AE:=λD n Q=>fb D n λx m=>onWd x λf kn=>yp f (Sum.inr "known" : Key)=none/\Q (.df kn) m
abbrev dInZ (neg:Bool) (fk fd:AE):AE:=λD n Q=>fk D n λy n1=>fd D n1 λx n2=>onZ x λBE=>∃st,y = .d (stD st)/\Q (.d (.bl (xr neg (yp BE st).isSome))) n2
abbrev mRelN (j:Nat) (fs:Ms):Ms:=λD n k=>onN D j λρ'=>fs ρ' n { rt:=k.rt,nx:=λ_ _=>False }
def ltD (a b:Dt):Prop:=HT.lexLt (enD a) (enD b)=true
abbrev dSortD:AV->Mo W:=λws n Q=>on1 ws λx=>onS x λBG=>BG.length<64/\(∃ft,RowsOk ft BG)/\∀sts':AT,sts'.Perm BG->sts'.Pairwise ltD->Q (.d (.lst sts')) n
end
def zj7 {a c:Int×Int}(h:zK a=zK c):a=c:=by obtain⟨a1,a2⟩:=a;obtain⟨c1,c2⟩:=c;simp only[zK,Dt.tup.injEq,List.cons.injEq,Dt.int.injEq,and_true] at h;rw[h.1,h.2]
end L3
namespace L2
open PyProof.Rows PySem.W PySem.Calls
section
variable {X:Cx}{e:Expr}{te:TE}{p p2 kp pos:Pos}
end
end L2
namespace L3
open L2
section
variable {X:Cx}{Pn:PN}{M:AS}{fr fr':Bool}{e a b:Expr}{f fa:AE}{p p2 kp pos:Pos}
abbrev onLf (w:W) (P:List AT->Prop):Prop:=match w with | .lf i=>P i | _=>False
abbrev dMinL (fs:AD):AE:=λD n Q=>fs D n λws m=>on1 ws λx=>onLf x λls=>0<ls.length/\∀ (i:Nat) (l:AT),ls[i]?=some l->(∀ (j:Nat) (l':AT),ls[j]?=some l'->l.length<=l'.length/\(j<i->l.length<l'.length))->Q (.fl l) m
end
end L3
namespace L2
open PyProof.Rows
section
variable {X:Cx}{Fam:Cx->Prop}{scope:Scope}{BF:List (Option Nat)}{use:Option (Value->Sem Unit)}{Qp:AA}{elt t1 i1 t2 i2 t3 i3:Expr}{f1 f2 f3:AQ}{pos ipos spos px:Pos}{w1 w2 w3:TI}{g1 g2 g3:TG}{n1 n2 n3:TT}{te:TE}{BD:AB}{G:St}{H:Hp}{s:Aa}{Q:VK}
end
end L2
namespace L3
open L2
abbrev CB (α:Type):=Ev->Nat->List α->(Ev->Nat->List α->Prop)->Prop
def clR {α:Type}(mg:W->Ev->(Ev->Prop)->Prop)(ft:Ev->Mo Bool)(fb:CB α)(ρ0:Ev)(ds0:List α)(K:Ev->Nat->List α->Prop):AV->Nat->Prop:=λl n1=>∃I:Nat->Ev->Nat->List α->Prop,I 0 ρ0 n1 ds0/\
 (∀i w D n ds,l[i]?=some w->I i D n ds->mg w D λρ1=>ft ρ1 n λb n2=>onC b (fb ρ1 n2 ds (I (i+1))) (I (i+1) ρ1 n2 ds))/\∀ D n ds,I l.length D n ds->K D n ds
abbrev apR (fe:AE):CB Dt:=λD n ds K=>fe D n λx n3=>onD x λd=>ds.length<=lim/\K D n3 (ds++[d])
abbrev inB {α:Type} (fi:AD) (mg:W->Ev->(Ev->Prop)->Prop) (ft:Ev->Mo Bool) (fb:CB α):CB α:=λD n ds K=>fi D n (clR mg ft fb D ds K)
structure CG {α:Type}(AC:(AM)->Addr->Hp->List α->Prop)(Pn:PN)(A:AM)(acc:Addr)(H1:Hp)(cM:AS)(σc:St)(ρc:Ev)(G:St)(H:Hp)(D:Ev)(n:Nat)(ds:List α):Prop where
 env:EnvR (λb=>A b\/b=acc) cM G H D
 pn:xP Pn (λb=>A b\/b=acc) n H
 ac:AC A acc H ds
 st:zo (zL A H1) (zL (λb=>A b\/b=acc) H)
 s1:zo H1 H
 fx:∀k∈cM,G[k]?=σc[k]?/\D[k]?=ρc[k]?
structure StayAC {α:Type}(AC:(AM)->Addr->Hp->List α->Prop):Prop where
 go:∀ {A acc H H' ds},AC A acc H ds->zo H H'->AC A acc H' ds
def acL (A:AM)(acc:Addr)(H:Hp)(ds:AT):Prop:=∃xs,H acc=some (.lst xs)/\IsL (zL (λb=>A b\/b=acc) H) ds xs
def zbK:StayAC acL:=#[λ⟨xs,h1,h2⟩ s=>#[xs,s.lst h1,h2.stay (zw s)]]
section
variable {X:Cx}{Pn:PN}{M S cM:AS}{fr fr':Bool}{e:Expr}{es:AQ}{pos:Pos}{A:AM}{acc:Addr}{H1 H H':Hp}{σc G:St}{ρc D:Ev}{n m:Nat}{α:Type}{AC:(AM)->Addr->Hp->List α->Prop}{ds:List α}
def CG.go (c:CG AC Pn A acc H1 cM σc ρc G H D n ds)(hS:StayAC AC)(s:zo H H')(p:xP Pn (λb=>A b\/b=acc) m H'):CG AC Pn A acc H1 cM σc ρc G H' D m ds:=
 #[c.env.stay s,p,hS.go c.ac s,c.st.trans (zw s),c.s1.trans s,c.fx]
structure RBd {α:Type}(AC:(AM)->Addr->Hp->List α->Prop)(Pn:PN)(cM:AS)(tb:Addr->(St->Hp->Prop)->St->Hp->Prop)(fb:CB α):Prop where
 run:∀ (A:AM) (acc:Addr) (H1:Hp) (σc:St) (ρc:Ev) (G:St) (H:Hp) (D:Ev) (n:Nat) (ds:List α) (BH:Hp) (K:Ev->Nat->List α->Prop) (Nx:St->Hp->Prop),H1 acc=none->(∀k w,k∈cM->ρc[k]?=some (some w)->σc[k]?≠some (some (.ref acc)))->CG AC Pn A acc H1 cM σc ρc G H D n ds->zo BH (zL (λb=>A b\/b=acc) H)->fb D n ds K->
  (∀ σ2 H2 ρ2 n2 ds2,CG AC Pn A acc H1 cM σc ρc σ2 H2 ρ2 n2 ds2->zo BH (zL (λb=>A b\/b=acc) H2)->K ρ2 n2 ds2->Nx σ2 H2)->tb acc Nx G H
def zsz {te:TE}{fe:AE}(he:RE Pn cM fr' te fe):RBd acL Pn cM (λacc=>zqy te acc) (apR fe):=#[λA acc H1 σc ρc G H D n ds BH K Nx hacc na c sG r k=>by
 show he.run _ G H D n _ _ c.env c.pn r ?_;intro w5 m5 v5 H5 hr V5 g5 _;rw[x5] at hr;obtain⟨d,e5,hlt,r5⟩:=hr;subst e5;have c5:=c.go zbK g5.st g5.pn;have sG5:=sG.trans (zw g5.st);obtain⟨xs,hac,hxs⟩:=c5.ac;show#[xs,hac,zgY (by rw[hxs.length];show hlt),k _ _ _ _ _ #[c5.env.upd (.inr BC) (λk w hk hw z=>?_) NP.lst BC,c5.pn.upd (.inr BC),#[_,zj,?_],?_,?_,c5.fx] ?_ r5];obtain⟨f1,f2⟩:=c5.fx k hk;rw[f1] at z;rw[f2] at hw;show na k w hk hw z;rw[z5 (.inr BC)];show hxs.append (IsL.one V5.is);rw[z5 (.inr BC)];show c5.st;show λb o e nn=>by rw[ze (zb e hacc)];show c5.s1 b o e nn
 rw[z5 (.inr BC)];show sG5]
def zgj (hS:StayAC AC){g:TG}{ti:TT}{tb:Addr->(St->Hp->Prop)->St->Hp->Prop}{mg:W->Ev->(Ev->Prop)->Prop}{ft:Ev->Mo Bool}{fb:CB α}{w:W}{x:V}{BH:Hp}{K:Ev->Nat->List α->Prop}{Nx:St->Hp->Prop}(hg:RG cM cM g mg)(ht:RT Pn cM ti ft)(hb:RBd AC Pn cM tb fb)
  (hacc:H1 acc=none) (na:∀k w,k∈cM->ρc[k]?=some (some w)->σc[k]?≠some (some (.ref acc))) (c:CG AC Pn A acc H1 cM σc ρc G H D n ds) (sG:zo BH (zL (λb=>A b\/b=acc) H)) (V2:Val (λb=>A b\/b=acc) H w x)
  (r:mg w D λρ1=>ft ρ1 n λb n2=>onC b (fb ρ1 n2 ds K) (K ρ1 n2 ds))
  (k:∀ σ2 H2 ρ2 n2 ds2,CG AC Pn A acc H1 cM σc ρc σ2 H2 ρ2 n2 ds2->zo BH (zL (λb=>A b\/b=acc) H2)->K ρ2 n2 ds2->Nx σ2 H2):g x G H λσ3 H3=>ti σ3 H3 λok H4=>if ok=true then tb acc Nx σ3 H4 else Nx σ3 H4:=by
 show hg.run _ G H D x w _ _ c.env V2 r λσ3 ρ3 r3 E3 f3=>?_;have c3:CG AC Pn A acc H1 cM σc ρc σ3 H ρ3 n ds:=#[E3,c.pn,c.ac,c.st,c.s1,λk hk=>#[(f3 k hk).1.trans (c.fx k hk).1,(f3 k hk).2.trans (c.fx k hk).2]];show ht.run _ σ3 H ρ3 n _ _ E3 c.pn r3 λb m3 H4 r4 g4=>?_;have c4:=c3.go hS g4.st g4.pn;have sG4:=sG.trans (zw g4.st)
 cases b with
 | false=>rw[if_neg (by ext)];show k _ _ _ _ _ c4 sG4 r4
 | true=>rw[if_pos rfl];show hb.run A acc H1 σc ρc σ3 H4 ρ3 m3 ds BH K Nx hacc na c4 sG4 r4 k
def zsA (hS:StayAC AC){wi:TI}{g:TG}{ti:TT}{tb:Addr->(St->Hp->Prop)->St->Hp->Prop}{fi:AD}{mg:W->Ev->(Ev->Prop)->Prop}{ft:Ev->Mo Bool}{fb:CB α}(hi:RI Pn cM false wi fi)(hg:RG cM cM g mg)(ht:RT Pn cM ti ft)(hb:RBd AC Pn cM tb fb) :
  RBd AC Pn cM (λacc Nx G H=>wi G H λJ H2=>inG J g ti (tb acc) Nx G H2) (inB fi mg ft fb):=#[λA acc H1 σc ρc G H D n ds BH K Nx hacc na c sG r k=>by
 show hi.run _ G H D n _ _ c.env c.pn r λl2 m5 J2 H5 ⟨I2,a0,a1,a2⟩ iv2 g5=>?_;have c5:=c.go hS g5.st g5.pn;have sG5:=sG.trans (zw g5.st);show#[λj mm σ' H'=>mm=l2.length - j/\j<=l2.length/\∃ ρ' n' ds,CG AC Pn A acc H1 cM σc ρc σ' H' ρ' n' ds/\zo (zL (λb=>A b\/b=acc) H5) (zL (λb=>A b\/b=acc) H')/\I2 j ρ' n' ds,#[l2.length,by simp,aS _,_,_,_,c5,zo.refl _,a0],?_];rintro j mm σ6 H6 ⟨rfl,hjl,ρ6,n6,ds6,c6,s6,hI6⟩;by_cases hlt2:j<l2.length
 show Or.inr ?_;have hget2:l2[j]?=some l2[j]:=aj hlt2;obtain⟨go2,yl2⟩:=iv2.one j l2[j] _ H6 hget2 s6 (λz=>by cases z) λp hp=>c6.env.new hp;show#[go2,λσ7 H7=>∃ ρ' n' ds,CG AC Pn A acc H1 cM σc ρc σ7 H7 ρ' n' ds/\zo (zL (λb=>A b\/b=acc) H5) (zL (λb=>A b\/b=acc) H7)/\I2 (j+1) ρ' n' ds,λσ2 H2 h=>#[l2.length - (j+1),by lia,BC,hlt2,h],λy H7 hy7=>?_];obtain⟨S7,V7⟩:=yl2 y H7 hy7;show zgj hS hg ht hb hacc na (c6.go hS (zo.same S7) (c6.pn.same S7)) (s6.trans (zw (zo.same S7))) V7 (a1 j l2[j] ρ6 n6 ds6 hget2 hI6) λ_ _ _ _ _ q1 q2 q3=>#[_,_,_,q1,q2,q3]
 show Or.inl ?_;have hie:j=l2.length:=by lia
 subst hie;show#[iv2.stop _ H6 s6 (λz=>by cases z),k _ _ _ _ _ c6 (sG5.trans s6) (a2 _ _ _ hI6)]]
abbrev zg0 (fi:AD) (mg:W->Ev->(Ev->Prop)->Prop) (ft:Ev->Mo Bool) (fb:CB Dt) (BF:List (Option Nat)):AE:=λD n Q=>fi D n (clR mg ft fb (uF D BF) [] λ_ n' ds=>Q (.d (.lst ds)) n')
def zhW {wi:TI}{g:TG}{ti:TT}{tb:Addr->(St->Hp->Prop)->St->Hp->Prop}{BF:List (Option Nat)}{fi:AD}{mg:W->Ev->(Ev->Prop)->Prop}{ft:Ev->Mo Bool}{fb:CB Dt}{ow:Bool}(hn:(BF.filterMap id).Nodup)
  (hi:RI Pn M ow wi fi) (hg:RG (zO M BF) (zO M BF) g mg) (ht:RT Pn (zO M BF) ti ft) (hb:RBd acL Pn (zO M BF) tb fb):RE Pn M true (λG H Q=>wi G H λJ H1=>∀acc,H1 acc=none->inG J g ti (tb acc) (λ_ H=>Q (.ref acc) H) (xB G BF) (upd H1 acc (.lst []))) (zg0 fi mg ft fb BF):=#[λA G H D n Q R E P hf k=>by
 show hi.run A G H D n _ _ E P hf λl m J H1 ⟨I,i0,it,ie⟩ iv g1=>λacc hacc=>?_;have E1:=E.stay g1.st
 have c0:CG acL Pn A acc H1 (zO M BF) (xB G BF) (uF D BF) (xB G BF) (L2.upd H1 acc (.lst [])) (uF D BF) m []:=
  #[(E1.cap hn).more (zo.upd (o:=.lst []) hacc) (Fr.of hacc) zj NP.lst BC,g1.pn.grow' (g1.pn.same (xq.upd hacc)) (Fr.of hacc) zj NP.lst BC,#[[],zj,BC],yk (zo.upd hacc) (Fr.of hacc),zo.upd hacc,λk hk=>#[BC,BC]]
 have na:∀k w,k∈zO M BF->(uF D BF)[k]?=some (some w)->(xB G BF)[k]?≠some (some (.ref acc)):=λk w hk hw z=>by obtain⟨v,s1,_,s3⟩:=(E1.cap hn).val k w hw;obtain⟨a,e,hA,_⟩:=s3 hk;rw[z] at s1;cases s1;cases e;show E1.new hacc hA
 show#[λi mm σ' H'=>mm=l.length - i/\i<=l.length/\∃ ρ' n' ds,CG acL Pn A acc H1 (zO M BF) (xB G BF) (uF D BF) σ' H' ρ' n' ds/\I i ρ' n' ds,#[l.length,by simp,aS _,_,m,[],c0,i0],?_];rintro i mm σ' H' ⟨rfl,hil,ρ',n',ds,c,hI⟩;by_cases hlt:i<l.length
 show Or.inr ?_;have hget:l[i]?=some l[i]:=aj hlt;obtain⟨go,yl⟩:=iv.one i l[i] _ H' hget c.st (λ_=>c.s1) λp hp=>c.env.new hp;show#[go,λσ2 H2=>∃ ρ' n' ds,CG acL Pn A acc H1 (zO M BF) (xB G BF) (uF D BF) σ2 H2 ρ' n' ds/\I (i+1) ρ' n' ds,λσ2 H2 h=>#[l.length - (i+1),by lia,BC,hlt,h],λx H2 hy=>?_];obtain⟨S2,V2⟩:=yl x H2 hy;show zgj zbK hg ht hb hacc na (c.go zbK (zo.same S2) (c.pn.same S2)) (zo.refl _) V2 (it i l[i] ρ' n' ds hget hI) λ_ _ _ _ _ q1 _ q3=>#[_,_,_,q1,q3]
 show Or.inl ?_;have hie:i=l.length:=by lia
 subst hie;obtain⟨xs,hac,hxs⟩:=c.ac;show#[iv.stop _ H' c.st (λ_=>c.s1),k _ n' _ H' (ie ρ' n' ds hI) (Val.of #[acc,xs,BC,.inl (zB (E1.new hacc) hac),hxs.stay (zo.same (yF λb z=>.inl z))]) (g1.trans #[c.s1,c.pn.less λa z=>.inl z]) λ_=>#[acc,BC,(Fr.of hacc).back g1.st,#[_,hac,BC],acc,xs,BC,.inl hac,hxs]]]
def zdA {α β:Type}{l:AV}{ρ0:Ev}{n:Nat}{mg:W->Ev->(Ev->Prop)->Prop}{ft:Ev->Mo Bool}{fb:CB β}{ds0:List β}{K:Ev->Nat->List β->Prop}(xs:List α)(toW:α->W)(hl:l=xs.map toW)(J:Ev->Prop)(E:α->List β)(hlim:ds0.length+(xs.flatMap E).length<=lim)(j0:J ρ0)
  (h:∀a∈xs,∀ ρ',J ρ'->∀ (ds:List β) (K':Ev->Nat->List β->Prop),ds.length+(E a).length<=lim->(∀ {ρ1},J ρ1->K' ρ1 n (ds++E a))->mg (toW a) ρ' λρ1=>ft ρ1 n λb n2=>onC b (fb ρ1 n2 ds K') (K' ρ1 n2 ds))
  (fin:∀ {D},J D->K D n (ds0++xs.flatMap E)):clR mg ft fb ρ0 ds0 K l n:=by
 subst hl;show#[λi ρ' n' ds=>n'=n/\J ρ'/\ds=ds0++(xs.take i).flatMap E,#[BC,j0,by simp],?_,?_];rintro i w ρ' n' ds hw ⟨rfl,hj,rfl⟩;rw[aA] at hw;obtain⟨a,ha,rfl⟩:=aB.mp hw;have e1:(xs.take (i+1)).flatMap E=(xs.take i).flatMap E++E a:=by rw[zi ha,cm];simp
 have sub:((xs.take i).flatMap E).length+(E a).length<=(xs.flatMap E).length:=by
  have e2:xs.flatMap E=(xs.take (i+1)).flatMap E++(xs.drop (i+1)).flatMap E:=by rw[<- cm,List.take_append_drop]
  rw[e2,e1];simp only[ay];lia
 show h a (az ha) ρ' hj _ _ (by rw[ay];lia) λ{ρ1} j1=>#[BC,j1,by rw[e1,bY]];rintro ρ' n' ds ⟨rfl,hj,rfl⟩;rw[ab,aV];show fin hj
def zc2.up {BH G':Hp}(s:zo BH G'):∀ {ws:AV} {vs:AU},(∀ (i:Nat) (w:W) (v:V),ws[i]?=some w->vs[i]?=some v->WAt BH BH w v)->∀ (i:Nat) (w:W) (v:V),ws[i]?=some w->vs[i]?=some v->WAt G' G' w v:=λh i w v e1 e2=>WAt.up s s (h i w v e1 e2)
def lsW (ws:AV):CuW where
 at_:=λT BH a=>∃xs,Rd T a (.lst xs)/\xs.length=ws.length/\∀ (i:Nat) (w:W) (v:V),ws[i]?=some w->xs[i]?=some v->WAt BH BH w v
 mv:=λ{T T' BH G' a} t s h=>let ⟨xs,h1,h2,h3⟩:=h;#[xs,h1.imp (λh=>t _ h NP.lst) λ⟨o,h⟩=>#[o,t _ h λ_ z=>by cases z],h2,zc2.up s h3]
def zqJ (mg:W->Ev->(Ev->Prop)->Prop)(ft:Ev->Mo Bool)(fe:AE)(ρ0:Ev)(Q:AW):AV->Nat->Prop:=λl n1=>l.length<=lim/\∃I:Nat->Ev->Nat->AV->Prop,I 0 ρ0 n1 []/\
 (∀i w ρ' n' acc,l[i]?=some w->I i ρ' n' acc->mg w ρ' λρ1=>ft ρ1 n' λb n2=>onC b (fe ρ1 n2 λx n3=>I (i+1) ρ1 n3 (acc++[x])) (I (i+1) ρ1 n2 acc))/\
 ∀ ρ' n' acc,I l.length ρ' n' acc->Q (.cu (lsW acc)) n'
abbrev mCompW (fi:AD) (mg:W->Ev->(Ev->Prop)->Prop) (ft:Ev->Mo Bool) (fe:AE) (BF:List (Option Nat)):AE:=λD n Q=>fi D n (zqJ mg ft fe (uF D BF) Q)
abbrev onCu (w:W) (P:CuW->Prop):Prop:=match w with | .cu k=>P k | _=>False
abbrev dItLs (f:AE):AD:=λD n Q=>f D n λx m=>onCu x λk=>∃ws,k=lsW ws/\Q ws m
abbrev dMinW (fs:AD):AE:=λD n Q=>fs D n λws m=>on1 ws λx=>onCu x λk=>∃ls:List AT,k=lsW (ls.map W.fl)/\0<ls.length/\∀ (i:Nat) (l:AT),ls[i]?=some l->(∀ (j:Nat) (l':AT),ls[j]?=some l'->l.length<=l'.length/\(j<i->l.length<l'.length))->Q (.fl l) m
def zc7 {elt tg iter tg2 iter2:Expr}{ifs ifs2:AQ}{scope:Scope}{N:AN}{BF:List (Option Nat)}{fi fi2:AD}{mg mg2:W->Ev->(Ev->Prop)->Prop}{ft ft2:Ev->Mo Bool}{fe:AE}{ow:Bool}{ix:Nat}{nx:Str}{px spos:Pos}(hNd:X.N.Nodup)(hix:X.N[ix]?=some nx)(hlx:X.env.scope.names.lookup nx=some .local)(hc:X.calm=true)(cc:CompOk X scope N BF)
  (hi:JI X Pn M ow tg iter fi) (hg:∀C s H ex,JG (zm X scope N C s H ex) (zO M BF) (zO M BF) tg mg) (ht:∀C s H ex,JTs (zm X scope N C s H ex) Pn (zO M BF) ifs ft)
  (hi2:∀C s H ex,JI (zm X scope N C s H ex) Pn (zO M BF) false tg2 iter2 fi2) (hg2:∀C s H ex,JG (zm X scope N C s H ex) (zO M BF) (zO M BF) tg2 mg2) (ht2:∀C s H ex,JTs (zm X scope N C s H ex) Pn (zO M BF) ifs2 ft2) (he:∀C s H ex,JE (zm X scope N C s H ex) Pn (zO M BF) fr' elt fe)
  (hn:(BF.filterMap id).Nodup:=by ext) (hsw:swapsWithSole [.Name nx px] (.ListComp elt [#[tg,iter,ifs,0],#[tg2,iter2,ifs2,0]] scope pos) spos.line X.env=pure true:=by rfl)
  (hs:∀x,foldedSetIterable iter X.env x=pure x:=by intro _;rfl) (hs2:∀C s H ex x,foldedSetIterable iter2 (zm X scope N C s H ex).env x=pure x:=by intro _ _ _ _ _;rfl)
  (h1a:(assignEach [.Name nx px] X.env).map (·.2)=[assign (.Name nx px) X.env]:=by rfl):∃te,QS X (.Assign [.Name nx px] (.ListComp elt [#[tg,iter,ifs,0],#[tg2,iter2,ifs2,0]] scope pos) spos) (zhm te (zaL ix))/\RE Pn M true te (zg0 fi mg ft (inB fi2 mg2 ft2 (apR fe)) BF):=by
 obtain⟨ti,qi,ri⟩:=hi.ex;obtain⟨g,qg,rg⟩:=zfu hg;obtain⟨tt,qt,rt⟩:=zfv ht;obtain⟨ti2,qi2,ri2⟩:=zte hi2;obtain⟨g2,qg2,rg2⟩:=zfu hg2;obtain⟨tt2,qt2,rt2⟩:=zfv ht2;obtain⟨te,qe,re⟩:=zh8 he;show#[_,zmu hNd hix hlx hc cc qi qg qt qi2 qg2 qt2 qe hsw hs hs2 h1a,zhW hn ri rg rt (zsA zbK ri2 rg2 rt2 (zsz re))]
end
def acI (P:Ab)(w:Ac)(A:AM)(acc:Addr)(H:Hp)(ds:AH):Prop:=∃ks,H acc=some (zah P w acc ks)/\ks.Nodup/\∀z,z∈ks↔z∈ds
def zbJ {P:Ab}{w:Ac}:StayAC (acI P w):=#[λ⟨ks,h1,h2⟩ s=>#[ks,s _ _ h1 zdU,h2]]
abbrev adR (U:AH) (fe:AE):CB Int:=λD n ds K=>fe D n λx n3=>onI x λd=>d∈U/\(∀z∈ds,z∈U)/\K D n3 (ds++[d])
def zkz {l:AH}(h:l.Pairwise (·<=·))(n:l.Nodup):l.Pairwise (· < ·):=(h.and n).imp λ⟨a,b⟩=>by lia
section
variable {X:Cx}{Pn:PN}{M S cM:AS}{fr fr':Bool}{pos p:Pos}
def zsy {P:Ab}{w:Ac}{te:TE}{fe:AE}{U:AH}(hU:U.length<300)(he:RE Pn cM fr' te fe):RBd (acI P w) Pn cM (λacc=>ztT P w te acc) (adR U fe):=#[λA acc H1 σc ρc G H D n ds BH K Nx hacc na c sG r k=>by
 show he.run _ G H D n _ _ c.env c.pn r ?_;intro w5 m5 v5 H5 hr V5 g5 _;rw[xK] at hr;obtain⟨d,e5,hdU,hU2,r5⟩:=hr;subst e5;have c5:=c.go zbJ g5.st g5.pn;have sG5:=sG.trans (zw g5.st);obtain⟨ks,hac,hnd,hks⟩:=c5.ac;have ev:v5 = .int d:=V5;subst ev;show#[d,ks,BC,hac,aY (yf hnd λz hz=>hU2 z ((hks z).mp hz)) hU,λks' hm hd'=>k _ _ _ _ _ #[c5.env.upd (.inr BC) (λk w hk hw z=>?_) zdU BC,c5.pn.upd (.inr BC),#[ks',zj,hd',λz=>?_],?_,?_,c5.fx] ?_ r5];obtain⟨f1,f2⟩:=c5.fx k hk;rw[f1] at z;rw[f2] at hw;show na k w hk hw z;rw[hm z,aE,au,hks z,or_comm];rw[z5 (.inr BC)];show c5.st;show λb o e nn=>by rw[ze (zb e hacc)];show c5.s1 b o e nn
 rw[z5 (.inr BC)];show sG5]
abbrev znc (fi:AD) (mg:W->Ev->(Ev->Prop)->Prop) (ft:Ev->Mo Bool) (fb:AH->CB Int) (BF:List (Option Nat)):AE:=λD n Q=>∃U:AH,U.length<64/\fi D n (clR mg ft (fb U) (uF D BF) [] λ_ n' ds=>(∀z∈ds,z∈U)/\∀l:AH,l.Pairwise (· < ·)->(∀z,z∈l↔z∈ds)->Q (.d (.lst (l.map .int))) n')
def zmB {P:Ab}{w:Ac}{wi:TI}{g:TG}{ti:TT}{tb:Addr->(St->Hp->Prop)->St->Hp->Prop}{BF:List (Option Nat)}{fi:AD}{mg:W->Ev->(Ev->Prop)->Prop}{ft:Ev->Mo Bool}{fb:AH->CB Int}{ow:Bool}(hn:(BF.filterMap id).Nodup)
  (hi:RI Pn M ow wi fi) (hg:RG (zO M BF) (zO M BF) g mg) (ht:RT Pn (zO M BF) ti ft) (hb:∀U,U.length<64->RBd (acI P w) Pn (zO M BF) tb (fb U)):RE Pn M true (tCB (zku P w) (zeh (λG H Q=>wi G H λJ H1=>∀acc,H1 acc=none->inG J g ti (tb acc) (λ_ H=>Q (.ref acc) H) (xB G BF) (upd H1 acc (zah P w acc []))) znv)) (znc fi mg ft fb BF):=#[λA G H D n Q R E Pp hf k=>by
 obtain⟨U,hU,hf⟩:=hf;show hi.run A G H D n _ _ E Pp hf λl m J H1 ⟨I,i0,it,ie⟩ iv g1=>λacc hacc=>?_;have E1:=E.stay g1.st
 have c0:CG (acI P w) Pn A acc H1 (zO M BF) (xB G BF) (uF D BF) (xB G BF) (L2.upd H1 acc (zah P w acc [])) (uF D BF) m []:=
  #[(E1.cap hn).more (zo.upd (o:=zah P w acc []) hacc) (Fr.of hacc) zj zdU BC,g1.pn.grow' (g1.pn.same (xq.upd hacc)) (Fr.of hacc) zj zdU BC,#[[],zj,er,λ_=>Iff.rfl],yk (zo.upd hacc) (Fr.of hacc),zo.upd hacc,λk hk=>#[BC,BC]]
 have na:∀k w,k∈zO M BF->(uF D BF)[k]?=some (some w)->(xB G BF)[k]?≠some (some (.ref acc)):=λk w hk hw z=>by obtain⟨v,s1,_,s3⟩:=(E1.cap hn).val k w hw;obtain⟨a,e,hA,_⟩:=s3 hk;rw[z] at s1;cases s1;cases e;show E1.new hacc hA
 show#[λi mm σ' H'=>mm=l.length - i/\i<=l.length/\∃ ρ' n' ds,CG (acI P w) Pn A acc H1 (zO M BF) (xB G BF) (uF D BF) σ' H' ρ' n' ds/\I i ρ' n' ds,#[l.length,by simp,aS _,_,m,[],c0,i0],?_];rintro i mm σ' H' ⟨rfl,hil,ρ',n',ds,c,hI⟩;by_cases hlt:i<l.length
 show Or.inr ?_;have hget:l[i]?=some l[i]:=aj hlt;obtain⟨go,yl⟩:=iv.one i l[i] _ H' hget c.st (λ_=>c.s1) λp hp=>c.env.new hp;show#[go,λσ2 H2=>∃ ρ' n' ds,CG (acI P w) Pn A acc H1 (zO M BF) (xB G BF) (uF D BF) σ2 H2 ρ' n' ds/\I (i+1) ρ' n' ds,λσ2 H2 h=>#[l.length - (i+1),by lia,BC,hlt,h],λx H2 hy=>?_];obtain⟨S2,V2⟩:=yl x H2 hy;show zgj zbJ hg ht (hb U hU) hacc na (c.go zbJ (zo.same S2) (c.pn.same S2)) (zo.refl _) V2 (it i l[i] ρ' n' ds hget hI) λ_ _ _ _ _ q1 _ q3=>#[_,_,_,q1,q3]
 show Or.inl ?_;have hie:i=l.length:=by lia
 subst hie;obtain⟨ks,hac,hnd,hks⟩:=c.ac;show#[iv.stop _ H' c.st (λ_=>c.s1),acc,ks,BC,hac,hnd,?_,λns' hp hs=>λp H3 np3 gp S3=>?_];obtain⟨hU2,_⟩:=ie ρ' n' ds hI;show aY (yf hnd λz hz=>hU2 z ((hks z).mp hz)) hU;obtain⟨_,hq⟩:=ie ρ' n' ds hI;have hq':=hq ns' (zkz hs (hp.nodup_iff.mpr hnd)) λz=>(hp.mem_iff).trans (hks z);have s13:=c.s1.trans (zo.same S3);have al1:Al A H':=E1.al.stay c.s1;have hpn:xP Pn A n' H3:=(c.pn.same S3).less λa z=>.inl z;have hl3:∀BH:Hp,IsL BH (ns'.map Dt.int) (ns'.map V.int):=λBH=>IsL.ints;show k _ n' _ H3 hq' (Val.of #[p,_,BC,.inl (zB (al1.new np3) gp),hl3 _]) (g1.trans #[s13,hpn]) λ_=>#[p,BC,((Fr.of np3).back c.s1).back g1.st,#[_,gp,BC],p,_,BC,.inl gp,hl3 _]]
def zol {elt tg iter tg2 iter2:Expr}{ifs ifs2:AQ}{scope:Scope}{N:AN}{BF:List (Option Nat)}{fi fi2:AD}{mg mg2:W->Ev->(Ev->Prop)->Prop}{ft ft2:Ev->Mo Bool}{fe:AE}{ow:Bool}{sp:Pos}(hm0:X.mg "sorted" = none)(hc:X.calm=true)(cc:CompOk X scope N BF)
  (hi:JI X Pn M ow tg iter fi) (hg:∀C s H ex,JG (zm X scope N C s H ex) (zO M BF) (zO M BF) tg mg) (ht:∀C s H ex,JTs (zm X scope N C s H ex) Pn (zO M BF) ifs ft)
  (hi2:∀C s H ex,JI (zm X scope N C s H ex) Pn (zO M BF) false tg2 iter2 fi2) (hg2:∀C s H ex,JG (zm X scope N C s H ex) (zO M BF) (zO M BF) tg2 mg2) (ht2:∀C s H ex,JTs (zm X scope N C s H ex) Pn (zO M BF) ifs2 ft2) (he:∀C s H ex,JE (zm X scope N C s H ex) Pn (zO M BF) fr' elt fe)
  (hn:(BF.filterMap id).Nodup:=by ext) (hs:∀x,foldedSetIterable iter X.env x=pure x:=by intro _;rfl) (hs2:∀C s H ex x,foldedSetIterable iter2 (zm X scope N C s H ex).env x=pure x:=by intro _ _ _ _ _;rfl) (hg0:Gl X "sorted" := by rfl) (hs1:starEach [.SetComp elt [#[tg,iter,ifs,0],#[tg2,iter2,ifs2,0]] scope sp] X.env=[(false,eval (.SetComp elt [#[tg,iter,ifs,0],#[tg2,iter2,ifs2,0]] scope sp) X.env)]:=by rfl) (hpl:(backTo pos (starEach [] X.env)).any (·.1)=false:=by rfl) :
  JE X Pn M true (.Call (.Name "sorted" p) [.SetComp elt [#[tg,iter,ifs,0],#[tg2,iter2,ifs2,0]] scope sp] [] pos) (znc fi mg ft (λU=>inB fi2 mg2 ft2 (adR U fe)) BF):=by
 obtain⟨ti,qi,ri⟩:=hi.ex;obtain⟨g,qg,rg⟩:=zfu hg;obtain⟨tt,qt,rt⟩:=zfv ht;obtain⟨ti2,qi2,ri2⟩:=zte hi2;obtain⟨g2,qg2,rg2⟩:=zfu hg2;obtain⟨tt2,qt2,rt2⟩:=zfv ht2;obtain⟨te,qe,re⟩:=zh8 he;show#[_,yY (ziA hc) hg0 hm0 cI (zR (zpz hc cc qi qg qt qi2 qg2 qt2 qe hs hs2) yQ hs1) (by ext) (by ext) hs1 hpl,zmB hn ri rg rt λU hU=>zsA zbJ ri2 rg2 rt2 (zsy (dJ hU (by ext)) re)]
end
end L3
namespace L2
open PyProof.Rows
section
variable {X:Cx}
end
end L2
namespace L3
open L2
variable {Pn:PN}
abbrev dRepB:W->W->Mo W:=λx y n Q=>onT x λl=>onI y λj=>(j=0\/j=1)/\Q (.d (.tup (if j=0 then [] else l))) n
end L3
namespace L2
end L2
namespace L3
open L2
section
variable {X:Cx}{Pn:PN}{M S:AS}{fr fr':Bool}{pos:Pos}{e c:Expr}{f fc:AE}{p:Pos}
abbrev zug (i:Nat) (fk f:AE):Ms:=λD n k=>f D n λw m=>fk D m λy m2=>onD w λd=>onI y λj=>onV D i λv=>onK v λBE=>BE.length<lim/\onP D i (.dk (zgd BE (Sum.inl j) d)) λρ'=>k.nx ρ' m2
abbrev mPutI (i:Nat) (fk f:AE):Ms:=λD n k=>onV D i λv=>onK v λ_=>zug i fk f D n k
end
end L3
namespace L2
open PyProof.Rows
section
variable {M:Model}{A:Af}{E:AA}{s:Aa}{κ:SortKind}{L0:List Keyed}{f:Keyed->Int}
def ahead (f:Keyed->Int)(left:Bool)(key x:Keyed):Bool:=if left=true then decide (f x<f key) else !decide (f key<f x)
variable {R:Keyed->Keyed->Prop}{T out ra rb c:List Keyed}
open PySem.Calls PySem.W
variable {prog:Ab}{w:Ac}{h₀:Heap}{L a:Addr}{m:AJ}{news:AB}{vs:AO}
open PySem.W PySem.Calls
variable {P:Ab}
variable {X:Cx}
end
end L2
namespace L3
open L2
section
variable {Pn:PN}
abbrev zuj:AV->Mo W:=λws n Q=>on1 ws λx=>onS x λBG=>BG.length<=100000/\(∃ft,RowsOk ft BG)/\∀sts':AT,sts'.Perm BG->sts'.Pairwise ltD->Q (.d (.lst sts')) n
variable {X:Cx}{E:XK}{M:AS}{C:Addr}{e:Expr}{es:AQ}{yD:List Stmt}{p pos p2:Pos}{x:Str}{j:Nat}
variable {fr fr':Bool}
abbrev mWNew (Pn:PN):Ev->Nat->(AV->PN->Nat->Prop)->Prop:=λ_ n R=>∃Q,∀d,R [.pen d] (Pn.mo d Q) n
end
end L3
namespace L2
open PyProof.Rows PySem.W
section
variable {prog:Ab}{w:Ac}{A:Af}{E:AA}{s:Aa}{T:String}{r d:Addr}{n:Nat}{P:Nat->Value->Prop}{OK:Heap->Prop}
end
end L2
namespace L3
open L2
abbrev dTupZ:AV->Mo W:=λws n Q=>on1 ws λx=>onZ x λBE=>Q (.d (.tup ((BE.map (·.1)).map stD))) n
end L3
namespace L2
open PyProof.Rows PySem.W
end L2
namespace L3
open L2
abbrev zuc:AV->Mo W:=λws n Q=>on1 ws λx=>match x with | .dn _ BE=>(BE.map (·.1)).Nodup->Q (.d (.lst (BE.map (·.1)))) n | _=>False
end L3
namespace L2
open PyProof.Rows PySem.W PySem.Calls
section
variable {X:Cx}{pos:Pos}
end
end L2
namespace L3
open L2
section
variable {X:Cx}{Pn:PN}{M S:AS}{fr fr':Bool}{pos p:Pos}{e a b c:Expr}{f fa fb fc:AE}
abbrev ztZ (fk fv:AE):AE:=λD n Q=>fk D n λy m=>fv D m λx m2=>onD y λkd=>onD x λd=>kd.ky/\Q (.dn false [(kd,d)]) m2
abbrev dMovN (i j:Nat):Ms:=λD n k=>onV D j λw=>zqo w λBE=>onP D j (.dn true BE) λρ1=>onP ρ1 i (.dn true BE) λρ2=>onN ρ2 j λρ3=>k.nx ρ3 n
end
end L3
namespace L2
open PyProof.Rows PySem.W PySem.Calls
section
variable {X:Cx}{BD:AB}{G:St}{H:Hp}{s1 s s':Aa}
variable {vs:AO}{a q Z S:Addr}{ob:Obj}{R:Result->Aa->Prop}
variable {P:Ab}{w:Ac}{K:AI}{mg:AJ}{base:Heap}{N:AN}{qual:Str}{scope:Scope}{l:Addr}{cv:Value}{cl:List (Str×Addr)}{A:Af}{outer:List Env}{C:Addr}{E:XK}{y:Str}{u:Value}
variable {Q:AA}{E:AA}
variable {P cc:Addr}{k:Nat}{p pos lpos kp:Pos}{params:Arguments}{e body:Expr}{BF:List (Option Nat)}{t:TA}
open PySem.W
variable {prog:Ab}
end
end L2
namespace L3
open L2
abbrev dTruZ (f:AE):Ev->Mo Bool:=λD n Q=>f D n λx m=>onZ x λBE=>Q (!BE.isEmpty) m
section
variable {X:Cx}{Pn:PN}{M:AS}{fr:Bool}{e:Expr}{f:AE}{P cc:Addr}{k kk i:Nat}{p p2 p3 p4 p5 p6 pos lpos kp:Pos}{params:Arguments}{scope:Scope}{y dn:Str}
abbrev zud (Pn:PN) (P:Addr) (q:Str) (i:Nat) (f:AE):AE:=λD n Q=>Pn.J=tabJ P q/\f D n λx m=>onV D i λwd=>onZ wd λBE=>∃BG:AG,x = .d (.tup (BG.map stD))/\0<BG.length/\(∀st∈BG,∃l,yp BE st=some (.lst l))/\∀st∈BG,Q (.d (stD st)) m
variable {a b c:Expr}{fa fb fc:AE}
abbrev dGetE (fd fk fz:AE):AE:=λD n Q=>fd D n λx n1=>onE x λBE=>fk D n1 λy n2=>fz D n2 λz n3=>∃st,y = .d (stD st)/\onD z λi=>Q (.d ((yp BE st).getD i)) n3
end
end L3
namespace L2
open PyProof.Rows PySem.W PySem.Calls
section
variable {prog:Ab}{w:Ac}{A:Af}{E:AA}{s:Aa}{es:Array DictEntry}
end
end L2
namespace L3
open L2
section
variable {X:Cx}{Pn:PN}{M:AS}{fr:Bool}{a b c:Expr}{fa fb fc:AE}
abbrev dListV (fd:AE):AE:=λD n Q=>fd D n λx n1=>onE x λBE=>∃ns:AH,BE.map (·.2)=ns.map Dt.int/\Q (.d (.lst (ns.map Dt.int))) n1
end
end L3
namespace L2
open PyProof.Rows PySem.W PySem.Calls
section
variable {prog:Ab}{w:Ac}{A:Af}{R:Result->Aa->Prop}{I:Addr}{fp wr:AZ}{n:Nat}{P:Nat->Value->Prop}{St:Nat->Heap->Prop}
variable {E:AA}{s:Aa}
variable {X:Cx}{e de:Expr}{td:TE}{t:TA}{p kp pos:Pos}
end
end L2
namespace L3
open L2
section
variable {X:Cx}{Pn:PN}{M:AS}{fr:Bool}{e de:Expr}{fd:AE}{fs:AD}{p kp pos:Pos}
abbrev dMaxD (fs:AD) (fd:AE):AE:=λD n Q=>fs D n λws m=>on1 ws λx=>fd D m λy m2=>onL x λl=>∃ns:AH,l=ns.map Dt.int/\onD y λd=>onI (.d d) λi=>∀k,(ns=[]/\k=i\/k∈ns/\∀x∈ns,x<=k)->Q (.d (.int k)) m2
end
end L3
local macro_rules | `(tactic| left)=>`(tactic| ((try (with_reducible conv=>whnf));repeat (with_reducible refine L3.zqD ?_;try (with_reducible conv=>whnf)));try dsimp only)
local macro_rules | `(tactic| fail"ct")=>`(tactic| (with_reducible refine L3.zhP ?_ ?_;(first | decide | assumption | rfl));left)
local macro_rules | `(tactic| fail"cf")=>`(tactic| (with_reducible refine L3.zhO ?_ ?_;(first | decide | assumption | rfl));left)
namespace Law
open L2 L3
abbrev la:AN:=[Aj,"at",Ak,Am,"other",An,Ao]
abbrev lb:AN:=[Ap,Aq,Ao,Ar]
abbrev lc:AN:=[Aj,"at",Ak,Am,Ao,Ar]
abbrev ld:AN:=[Aj,"at",Ak,Am,Ao,"context"]
abbrev lg:AN:=[Ap,Aq]
abbrev lh:AN:=[As,At,Au,Av]
abbrev li:AN:=[As,At,"_law_ahead",Aw]
abbrev lj:AN:=[Au,Ax,Av]
abbrev ll:AN:=["_law_script"]
abbrev lm:AN:=[Ay,Az]
abbrev ln:AN:=[As,A1]
abbrev lq:AN:=["_law_at",Az,Ax]
abbrev lr:AN:=["worths","pairs"]
abbrev lu:AN:=[As,At,A5]
abbrev lv:AN:=[As,At,Aw]
abbrev lw:AN:=[Ax,Av]
abbrev lx:AN:=[As,"_law_some"]
abbrev ly:AN:=[Ay,As,At,A6]
abbrev lA:AN:=[Ay,A5,"_law_held",As]
abbrev lB:AN:=[Ar,Ao,An]
abbrev lC:AN:=[Au,Ax]
abbrev lD:AN:=[Aq,Ao,"context"]
abbrev lE:AN:=[Ap,Aq,"boxes",Aj]
abbrev lF:AN:=[Ap,Aq,Aj]
abbrev lG:AN:=[As,At]
abbrev lH:AN:=[Az,Av,Ay]
abbrev lI:AN:=["_law_one","_law_left",As]
abbrev lJ:AN:=[At,A7]
abbrev lK:AN:=[At,"_law_thing"]
abbrev lL:AN:=[Am,Ak,A8]
abbrev lM:AN:=["row",An,"worths"]
abbrev lN:AN:=[Ao,"other",Aq]
abbrev lO:AN:=[Ap,"boxes"]
abbrev lP:AN:=[Ar,Aj]
abbrev lQ:AN:=["at","other",Ao]
abbrev lR:AN:=["_law_wish",As]
abbrev lS:AN:=[Aq,Ao]
abbrev lT:AN:=[Am,Ak]
abbrev lU:AN:=[As]
abbrev lV:AN:=[A9,BA]
abbrev lW:AN:=[Ap,"pairs"]
def top (i:Nat):Stmt:=PySem.Challenge.pw_allelse_k95_best_in_wide_rooms.main.body.getD i (.Pass #[0,0,0,0])
abbrev zdk:Stmt:=top 35
abbrev zcC:Stmt:=top 36
abbrev zcD:Stmt:=top 37
abbrev zkC:Stmt:=top 12
abbrev zfh:Stmt:=top 7
abbrev zau:Stmt:=top 10
abbrev zdq:Stmt:=top 9
abbrev zdp:Stmt:=top 18
abbrev zfi:Stmt:=top 19
abbrev zav:Stmt:=top 16
abbrev zbA:Stmt:=top 5
abbrev zdm:Stmt:=top 6
abbrev zdn:Stmt:=top 27
abbrev zcG:Stmt:=top 26
abbrev zdo:Stmt:=top 28
abbrev yR:Stmt:=top 29
abbrev zcF:Stmt:=top 30
abbrev uZ:Stmt:=top 21
abbrev za1:Stmt:=top 31
abbrev uz:Stmt:=top 32
abbrev za0:Stmt:=top 14
abbrev zns:Stmt:=top 20
abbrev zbz:Stmt:=top 23
abbrev zcH:Stmt:=top 33
abbrev zcE:Stmt:=top 39
abbrev uY:Stmt:=top 41
abbrev zaZ:Stmt:=top 42
abbrev ub:Stmt:=top 43
abbrev xN:Stmt:=top 48
abbrev zdl:Stmt:=top 47
abbrev zby:Stmt:=top 38
abbrev zbv:Stmt:=top 46
abbrev uX:Stmt:=top 49
abbrev zbw:Stmt:=top 50
abbrev zbx:Stmt:=top 51
abbrev zsT:Stmt:=top 52
def zgp:FnScope ll ll (zf zdk):=by fail"f"
def yh:FnScope [As,A1,A5,"_law_at","_law_cell","_law_mixed"] ln (zf zcC):=by fail"f"
def zbB:FnScope [As,"_law_some","_law_left"] lx (zf zcD):=by fail"f"
def zeb:FnScope [Ar,Aj,Ao,An] lP (zf zkC):=by fail"f"
def zhZ:FnScope lB lB (zf zfh):=by fail"f"
def u4:FnScope [A9,BA,"told"] lV (zf zau):=by fail"f"
def yu:FnScope [A9,BA,"within","row",A8] [A9] (zf zdq):=by fail"f"
def zgs:FnScope lr lr (zf zdp):=by fail"f"
def zdr:FnScope ["worths","pairs","bettered"] lr (zf zfi):=by fail"f"
def y3:FnScope [Ap,"pairs","ahead","row","free"] lW (zf zav):=by fail"f"
def xw:FnScope [Ap,"many","worths"] [Ap] (zf zbA):=by fail"f"
def uk:FnScope ["choices","rows","worths"] ["choices"] (zf zdm):=by fail"f"
def zgq:FnScope lO lO (zf zdn):=by fail"f"
def zfj:FnScope lS lS (zf zcG):=by fail"f"
def zgr:FnScope lD lD (zf zdo):=by fail"f"
def yI:FnScope [Ap,Aq,Ao] lg (zf yR):=by fail"f"
def yS:FnScope [Ap,Aq,"rows",Ao,"worths","own","context"] lg (zf zcF):=by fail"f"
def zD:FnScope ["rows","place","worths","pairs","found"] ["rows"] (zf uZ):=by fail"f"
def xc:FnScope [Ap,Aq,"looks","word","boxes"] lg (zf za1):=by fail"f"
def xa:FnScope [Ap,Aq,"against","boxes"] lg (zf uz):=by fail"f"
def zc0:FnScope lb lb (zf za0):=by fail"f"
def zpU:FnScope lb lb (zf zns):=by fail"f"
def yA:FnScope [Ap,Aq,"boxes",Aj,"fixed",Ar,Ao,An] lE (zf zbz):=by fail"f"
def zfk:FnScope lF lF (zf zcH):=by fail"f"
def zbC:FnScope [As,"_law_way"] lU (zf zcE):=by fail"f"
def zZ:FnScope [At,A7,A5,Ay,"_law_longer",Av] lJ (zf uY):=by fail"f"
def yH:FnScope [As,At,"_law_ahead",Aw,A5,A1,Ay] li (zf zaZ):=by fail"f"
def zC:FnScope [As,At,Aw,A7,A5,"_law_place",Ay,Av,"_law_ranks",BB] lv (zf ub):=by fail"f"
def yM:FnScope [At,"_law_thing","_law_one",A1] lK (zf xN):=by fail"f"
def uj:FnScope [Ax,Av,Ay,Az] lw (zf zdl):=by fail"f"
def yj:FnScope [Au,Ax,A5,Av,Ay,"_law_better","_law_worse","_law_there"] lC (zf zby):=by fail"f"
def za2:FnScope [As,At,A6] lG (zf zbv):=by fail"f"
def xp:FnScope [Au,Ax,Av,"_law_held","_law_wish"] lj (zf uX):=by fail"f"
def yy:FnScope [As,At,A5,A6,"_law_some",Ay,Az] lu (zf zbw):=by fail"f"
def yz:FnScope [As,At,Au,Av,A5,BB,"_law_other_here","_law_held","_law_more"] lh (zf zbx):=by fail"f"
def za3:FnScope ["_law_script",As,At,"_law_books",BB,Au,"_law_doubled",Av] ll (zf zsT):=by fail"f"
set_option genInjectivity false in
structure Ad where
 f0:Addr
 d0:Ae
 f1:Addr
 d1:Ae
 f2:Addr
 d2:Ae
 f3:Addr
 d3:Ae
 f4:Addr
 d4:Ae
 f5:Addr
 d5:Ae
 f6:Addr
 d6:Ae
 f7:Addr
 d7:Ae
 f8:Addr
 d8:Ae
 f9:Addr
 d9:Ae
 f10:Addr
 d10:Ae
 f11:Addr
 d11:Ae
 f12:Addr
 d12:Ae
 f13:Addr
 d13:Ae
 f14:Addr
 d14:Ae
 f15:Addr
 d15:Ae
 f16:Addr
 d16:Ae
 f17:Addr
 d17:Ae
 f18:Addr
 d18:Ae
 f19:Addr
 d19:Ae
 f20:Addr
 d20:Ae
 f21:Addr
 d21:Ae
 f22:Addr
 d22:Ae
 f23:Addr
 d23:Ae
 f24:Addr
 d24:Ae
 f25:Addr
 d25:Ae
 f26:Addr
 d26:Ae
 f27:Addr
 d27:Ae
 f28:Addr
 d28:Ae
 f29:Addr
 d29:Ae
 f30:Addr
 d30:Ae
 f31:Addr
 d31:Ae
 f32:Addr
 d32:Ae
 f33:Addr
 d33:Ae
 f34:Addr
 d34:Ae
 f35:Addr
 d35:Ae
structure Txt (K:AI)(mg:AJ)(t:Ad):Prop where
 q0:Dfn K mg "_law_pen" zdk ll t.f0 t.d0
 q1:Dfn K mg "_law_draw" zcC ln t.f1 t.d1
 q2:Dfn K mg "_law_turn" zcD lx t.f2 t.d2
 q3:Dfn K mg "keeps" zkC lP t.f3 t.d3
 q4:Dfn K mg "changed" zfh lB t.f4 t.d4
 q5:Dfn K mg "leads_within" zau lV t.f5 t.d5
 q6:Dfn K mg "round_of" zdq [A9] t.f6 t.d6
 q7:Dfn K mg "round_by" zdp lr t.f7 t.d7
 q8:Dfn K mg "tops_by" zfi lr t.f8 t.d8
 q9:Dfn K mg "put_in_order" zav lW t.f9 t.d9
 q10:Dfn K mg "multiplied" zbA [Ap] t.f10 t.d10
 q11:Dfn K mg "combined" zdm ["choices"] t.f11 t.d11
 q12:Dfn K mg "contexts" zdn lO t.f12 t.d12
 q13:Dfn K mg "looked_at" zcG lS t.f13 t.d13
 q14:Dfn K mg "pairs_at" zdo lD t.f14 t.d14
 q15:Dfn K mg "must_have_few_contexts" yR lg t.f15 t.d15
 q16:Dfn K mg "all_pairs" zcF lg t.f16 t.d16
 q17:Dfn K mg "first_against" uZ ["rows"] t.f17 t.d17
 q18:Dfn K mg "looked_over" za1 lg t.f18 t.d18
 q19:Dfn K mg "order_by_looks" uz lg t.f19 t.d19
 q20:Dfn K mg "local_pairs" za0 lb t.f20 t.d20
 q21:Dfn K mg "tops" zns lb t.f21 t.d21
 q22:Dfn K mg "best_along" zbz lE t.f22 t.d22
 q23:Dfn K mg "wide_best" zcH lF t.f23 t.d23
 q24:Dfn K mg "_law_wide" zcE lU t.f24 t.d24
 q25:Dfn K mg "_law_contexts" uY lJ t.f25 t.d25
 q26:Dfn K mg "_law_looked" zaZ li t.f26 t.d26
 q27:Dfn K mg "_law_plain_book" ub lv t.f27 t.d27
 q28:Dfn K mg "_law_is_standing" xN lK t.f28 t.d28
 q29:Dfn K mg "_law_put" zdl lw t.f29 t.d29
 q30:Dfn K mg "_law_steps" zby lC t.f30 t.d30
 q31:Dfn K mg "_law_given" zbv lG t.f31 t.d31
 q32:Dfn K mg "_law_bettered" uX lj t.f32 t.d32
 q33:Dfn K mg "_law_other" zbw lu t.f33 t.d33
 q34:Dfn K mg "_law_right" zbx lh t.f34 t.d34
 q35:Dfn K mg "law" zsT ll t.f35 t.d35
 b_ValueError:mg "ValueError" = none
 b_list:mg "list" = none
 b_sorted:mg "sorted" = none
 b_dict:mg "dict" = none
 b_range:mg "range" = none
 b_enumerate:mg "enumerate" = none
 b_tuple:mg "tuple" = none
 b_zip:mg "zip" = none
 b_len:mg "len" = none
 b_abs:mg "abs" = none
 b_all:mg "all" = none
 b_isinstance:mg "isinstance" = none
 b_bool:mg "bool" = none
 b_int:mg "int" = none
 c_MOST_CONTEXTS:∃u,yv (.int 256) u/\mg "MOST_CONTEXTS" = some u
section
variable {P:Ab}{w:Ac}{K:AI}{mg:AJ}{base:Heap}{t:Ad}
def zf9 (T:Txt K mg t):FnOk P w K mg base CX0 1 t.f0 t.d0 ll (zmK K):=by
 show T.q0.F.okQ zgp (λvs H Q E h=>?_) (λcdv A outer s H vs Q E hr h=>?_);obtain⟨a,ns,rfl,_⟩:=h;rfl;obtain⟨a,ns,rfl,hS,hl,k⟩:=h;show#[_,(uV (zbt (zpu (zd8 xA #[zo5 (zd7 zkO (qv 0) zkn (zko yo)).run] (zd8 xA yo (zd8 xA yo zpF))) BC BC (by simp) (by ext)))),?_];intro p hp;show#[_,BC,_,BC,a,_,BC,(xq.upd hp).seq hS,λc hc=>#[c,_,BC,zj,λob=>?_]];have npc:p≠c:=λe=>by subst e;rw[zj] at hc;cases hc
 have hc0:H c=none:=by rw[ze (Ne.symm npc)] at hc;show hc
 show#[by rw[ze npc,ze npc,zj],zaE c 0 0,BC,(by change 3<=15;decide),?_];rw[zr3]
 have ecut:zcP (ns.map V.int) none (some 63)=ns.map V.int:=by
  unfold zcP;rw[HT.sIx_none];have e63:HT.sIx (ns.map V.int).length (ns.map V.int).length (some 63)=(ns.map V.int).length:=by have:=HT.sIx_nat (ns.map V.int).length (ns.map V.int).length 63;rw[ab] at this ⊢;rw[Nat.min_eq_right hl] at this;show this
  rw[e63,ez,ge,aV]
 show k p c _ #[#[0,0,zj,by lia,by lia,by lia],?_,hl] ?_;show#[ob,?_];rw[ze (Ne.symm npc),zj];show congrArg (λz=>some (HO.frz ob (HO.lst z))) ecut;intro b o e;rw[ze (zb e hp),ze (zb e hc0),ze (zb e hc0),ze (zb e hp)];show e
def zbr (T:Txt K mg t):FnOk P w K mg base CX0 1 t.f1 t.d1 ln zkM:=by
 show T.q1.F.okQ yh (λvs H Q E h=>?_) (λcdv A outer s H vs Q E hr h=>?_);obtain⟨p,c,ns,n,zu,rfl,_⟩:=h;rfl
 ·obtain⟨p,c,ns,n,zu,rfl,hP,hn,h1,h2,k⟩:=h;have hu:=zaP hr;obtain⟨⟨a,l,hp,ha0,han,hl0⟩,⟨ob,hc⟩,hlen⟩:=id hP;have npc:c≠p:=zlZ hc hp (by intro z;cases z)
  show#[_,(ya (zmt (zcA zoW (xT hu (qv 0) xA (λ_ _=>rfl)) yo (zV _)) (ya (ux (i:=2) yh.nd BC (Or.inl BC) (yZ zcw (xT hu (qv 0) xA (λ_ _=>rfl)) (qv 1)))
   (ya (zgf hu (qv 0) xA (yZ zgb (xT hu (qv 0) xA (λ_ _=>rfl)) (qv 1)) BC)
   (uV (zbt (qv 2))))) zd9)
   (ya (ux (i:=3) yh.nd BC (Or.inl BC) (xT hu (qv 0) xA (λ_ _=>rfl)))
   (ya (zgf hu (qv 0) xA (yZ xi (qv 3) yo) BC)
   (ya (ux (i:=4) yh.nd BC (Or.inl BC) (yZ xi (yZ zat yo (qv 3)) yo))
   (ya (zmt (zcA zoW (yY yU (by rfl) T.b_len be (zR (xT hu (qv 0) xA (λ_ _=>rfl)) yQ)) yo (zV _)) (uV (ux (i:=4) yh.nd BC (Or.inl BC) (zsl ur (xT hu (qv 0) xA (λ_ _=>rfl)) (yZ zcw (qv 3) (yY yU (by rfl) T.b_len be (zR (xT hu (qv 0) xA (λ_ _=>rfl)) yQ))) (λ_ _=>rfl)))) zd9)
   (ya (zmt (QW.pt (znm (zcA zl3 (qv 3) (yY yU (by rfl) T.b_len be (zR (xT hu (qv 0) xA (λ_ _=>rfl)) yQ)) (zV _)) (zkq (zcA zve (yY zix (by rfl) T.b_abs eB (zR (qv 4) yQ)) (yZ zj4 yo yo) (zV _))))) (ya (zgf hu (qv 0) xA (yZ zgb (yY zix (by rfl) T.b_abs eB (zR (qv 4) yQ)) (qv 1)) BC)
   (uV (zbt (yZ zcw (yY zix (by rfl) T.b_abs eB (zR (qv 4) yQ)) (qv 1))))) zd9)
   (ya (ux (i:=5) yh.nd BC (Or.inl BC) (yZ xi (yZ xi (yZ zat (yZ xi (yZ zcw (qv 4) yo) yo) (yZ xi (yZ zat yo (qv 3)) yo)) (yZ zat (yZ zat yo (qv 3)) (qv 3))) (yZ zat yo (qv 3))))
   (ya (ux (i:=5) yh.nd BC (Or.inl BC) (yZ zcw (yZ zj4 (qv 5) yo) yo))
   (ya (ux (i:=5) yh.nd BC (Or.inl BC) (yZ zcw (yZ zj4 (yZ xi (yZ xi (qv 5) (yZ zat yo (qv 3))) yo) yo) yo))
   (uV (zbt (yZ zcw (yZ zgb (qv 5) yo) (qv 1))))))))))))),?_]
  show#[_,BC,p,_,BC,zj9 hp,_,_,BC,BC,_,BC,zty (λhl=>?_) (λhl=>?_)];have hl':0<l:=bD hl;show#[_,BC,p,_,BC,zj9 hp,_,BC,_,_,BC,BC,(by change (0:Int)<zu;lia),?_];show#[_,BC,p,_,BC,zj9 hp,_,BC,_,_,BC,BC,#[by change (0:Int)<zu;lia,h2],_,BC,p,_,BC,znj hp _,?_];show#[_,BC,k _ _ (dg _ (by lia)) (cB _ (by lia)) #[#[a,_,zj,ha0,by lia,Int.ediv_nonneg hl0 (by lia)],#[ob,by rw[ze npc];show hc],hlen] (zef hp)]
  ·show#[_,BC,p,_,BC,zr2 hp,?_];show#[_,BC,_,_,BC,BC,_,BC,p,_,BC,zr6 hp _,?_];have hp1:upd H p (.dK (zaE c (a+1) l)) p=some (.dK (zaE c (a+1) l)):=zj;have hc1:upd H p (.dK (zaE c (a+1) l)) c=some (.frz ob (.lst (ns.map V.int))):=by rw[ze npc];show hc
   generalize hH1:upd H p (.dK (zaE c (a+1) l))=H1 at hp1 hc1 ⊢;have st1:zo H H1:=hH1 ▸ zef hp;show#[_,BC,_,_,BC,BC,.inl #[by lia,by lia],_,_,BC,BC,?_];refine' meet (α:=Int) _ (λyD=>?_) ?_;rotate_left
   
   show#[_,BC,p,_,BC,zg5 hp1,_,_,BC,.inl #[_,.inl (.inr #[ob,hc1]),BC],_,_,BC,BC,_,BC,zty (λhz=>?_) (λhz=>?_)];have hz':0<((ns.map V.int).length:Int):=bD hz;obtain⟨cell,hget⟩:=zqB ns a hz';show#[_,BC,p,_,BC,zg5 hp1,_,BC,_,BC,p,_,BC,zg5 hp1,_,_,BC,.inl #[_,.inl (.inr #[ob,hc1]),BC],_,_,BC,BC,hz',c,_,_,_,BC,BC,.inl (.inr #[ob,hc1]),hget,?_];show yD cell;show yD (31 * a+7)
   ·intro cell;have nqp:∀ {q:Addr},H1 q=none->p≠q:=λhq=>zb hp1 hq;refine' zu3 _ (λyD=>?_) ?_;rotate_left
    ·show#[_,BC,_,BC,p,_,BC,zg5 hp1,_,_,BC,.inl #[_,.inl (.inr #[ob,hc1]),BC],_,_,BC,BC,_,BC,zty (λh3=>?_) (λh3=>?_)];rotate_left;show iteF ?_;show yD;show#[_,BC,_,BC,_,_,BC,BC,#[by ext,by ext,by ext],_,_,BC,BC,_,BC,zty (λh4=>?_) (λh4=>?_)];rotate_left;show yD;have ha:0<=(if cell<0 then -cell else cell):=by split <;> lia
     show#[_,BC,_,BC,_,BC,_,_,BC,BC,#[by change (0:Int)<zu;lia,h2],_,BC,p,_,BC,znj hp1 _,?_];show#[_,BC,_,BC,_,BC,_,_,BC,BC,(by change (0:Int)<zu;lia),k _ _ (dg _ (by lia)) (cB _ (by lia)) #[#[a+1,_,zj,by lia,by lia,Int.ediv_nonneg ha (by lia)],#[ob,by rw[ze npc];show hc1],hlen] (st1.trans (zef hp1))]
    obtain⟨sq0,sq1⟩:=zmL ha0 han hn;have mm0:=dg cell (show (2147483549:Int)≠0 by ext);have mm1:=cB cell (show (0:Int)<2147483549 by ext);obtain⟨mx0,mx1⟩:=zjO ha0 han hn mm0 mm1;show#[_,BC,_,_,BC,BC,(by change (0:Int)<2147483549;decide),_,_,BC,BC,_,BC,_,_,BC,BC,.inl #[by ext,by ext],_,_,BC,BC,_,_,BC,BC,.inr #[by lia,by lia],_,BC,_,_,BC,BC,.inl #[by ext,by ext],_,BC,_,_,BC,BC,.inr #[by lia,by lia],_,_,BC,BC,_,BC,_,_,BC,BC,.inl #[by ext,by ext],_,_,BC,BC,_,BC,_,_,BC,BC,#[by ext,by ext,?_],_,_,BC,BC,(by change (0:Int)<2147483647;decide),?_];change ((cell % 2147483549+70009) * (2 * a+1)+6133 * a * a+577 * a).natAbs<2 ^ 64;lia;generalize hw1:(((cell % 2147483549+70009) * (2 * a+1)+6133 * a * a+577 * a) ^ (5:Int).toNat:Int)=w1;have w0:=dg w1 (show (2147483647:Int)≠0 by ext);have w2:=cB w1 (show (0:Int)<2147483647 by ext);show#[_,BC,_,BC,_,_,BC,BC,.inl #[by ext,by ext],_,_,BC,BC,_,_,BC,BC,_,_,BC,BC,#[by ext,by ext,?_],_,_,BC,BC,(by change (0:Int)<2147483587;decide),?_];change (w1 % 2147483647+5 * a+1).natAbs<2 ^ 64;lia;show#[_,BC,_,_,BC,BC,#[by ext,by ext],_,BC,_,_,BC,BC,(by change (0:Int)<zu;lia),?_];show k _ _ (dg _ (by lia)) (cB _ (by lia)) #[#[a+1,l,hp1,by lia,by lia,hl0],#[ob,hc1],hlen] st1
def yx (T:Txt K mg t):FnOk P w K mg base CX0 1 t.f1 t.d1 ln (spV 2 false zic):=FnOk.lift (FnOk.mono (zbr T) (by ext)) zjx
def zeY (T:Txt K mg t):FnOk P w K mg base CX0 2 t.f2 t.d2 lx znt:=by
 have G1:FnOk P w K mg base CX0 1 t.f1 t.d1 ln zkM:=zbr T;show T.q2.F.okQ zbB (λvs H Q E h=>?_) (λcdv A outer s H vs Q E hr h=>?_);obtain⟨p,c,a,ns,n,xs,rfl,_⟩:=h;rfl;obtain⟨p,c,a,ns,n,xs,rfl,hP,hn,hx,ha,k⟩:=h
 show#[_,(ya (ux (i:=2) zbB.nd BC (Or.inr BC) (zaY zfI (by rfl) T.b_list cW (zR (qv 1) yQ)))
  (uV (zbt (zg9 (N:=lI) (BF:=[none,some 2,some 0]) BC (by fail"c") (zkl (qv 1)) (λ_ _ _ _=>(zkk (i:=0) (show (lI:AN).Nodup by decide +kernel) BC (Or.inl BC))) (λ_ _ _ _=>zkp) (λ_ _ _ _=>(zpy K BC (qv 1) (zR (zpv T.q1 G1 hr (zR (qv 2) (zR (yY (znL K BC) (by rfl) T.b_len be (zR (qv 1) yQ)) yQ))) yQ))))))),?_]
 show#[_,BC,a,xs,BC,.inl (.inl ha),λb H1 hb0 hb1 S1=>?_];show#[_,BC,a,BC,#[_,.inl (ha.same S1)],λacc hacc=>?_];have P1:=hP.same S1;have hca:c≠acc:=zb P1.ls.choose_spec hacc;have hba:b≠acc:=zb hb1 hacc;have hcb:c≠b:=zb hP.ls.choose_spec hb0
 show ziu (xs:=xs) hacc (λi σ' H'=>(∃v,σ'=[v,some (.ref b),some (.ref p)])/\∃ys zs:AU,H' acc=some (.lst ys)/\H' b=some (.lst zs)/\(ys++zs).Perm xs/\ys.length=i/\Pen H' p c ns (n+i)/\zo H H')
  (λH' z1 z2=>#[#[_,BC],[],xs,z1,z2 _ _ hb1,.refl _,BC,P1.same z2,zo.same (S1.trans z2)]) (λ_ _ _ _ ⟨_,_,_,_,_,_,_,_,S⟩=>.inl (S.rdl ha)) ?_ ?_
 rintro i y σ' H' hx' ⟨⟨v,rfl⟩,ys,zs,hac,hb,hp,hi,P',S'⟩;have hi':=(ae.mp hx').1;have hz:=hp.length_eq;rw[ay,hi] at hz;show zqI #[_,BC,.inl #[BC,_,SqL.of hb],_,BC,_,BC,_,_,BC,.inl #[_,.of hb,BC],p,c,ns,n+i,(zs.length:Int),BC,P',by lia,by lia,by lia,λr H2 r0 r1 P2 S2=>?_];have hk:r.toNat<zs.length:=by lia
 have hb2:=S2.lst hb;have hac2:=S2.lst hac;show#[b,zs,r,r.toNat,zs[r.toNat],BC,BC,hb2,by lia,by lia,L3.zsU r0 r1,aj hk,ys,by rw[ze (Ne.symm hba)];show hac2,aY (by lia:ys.length<=100000) (by ext),#[_,BC],ys++[zs[r.toNat]],zs.eraseIdx r.toNat,zj,by rw[ze hba];show zj,L3.zhC hk hp,by rw[ay,hi];rfl,(P2.app hb2 hcb).app (by rw[ze (Ne.symm hba)];show hac2) hca,?_];have Sa:zo H (upd H2 b (.lst (zs.eraseIdx r.toNat))):=zhi hb0 (S'.trans S2);show zhi (S1.free hacc) Sa;rintro σ' H' ⟨⟨v,rfl⟩,ys,zs,hac,hb,hp,hi,P',S'⟩;have hz:=hp.length_eq;rw[ay,hi] at hz;have:zs=[]:=eE (by lia);subst this;rw[eP] at hp;show k acc ys H' (S1.free hacc) hac hp P' S'
def uf (T:Txt K mg t):FnOk P w K mg base CX0 2 t.f2 t.d2 lx (spV 2 true zid):=FnOk.lift (FnOk.mono (zeY T) (by ext)) zjy
inductive F_kps  (Pn:PN):AV->Nat->AW->Prop
 | i {n:Nat} {R:AW} {st:AH} {g:List (Int×Int)} (hg:∀q∈g,0<=q.1/\q.1<st.length) (h:R (.d (.bl (yW st g))) n)  : F_kps Pn [.d (stD st),.d (xC g)] n R
def zjW (T:Txt K mg t):FnOk P w K mg base CX0 1 t.f3 t.d3 lP (spV 2 false F_kps):=by
 show Fun.okW (k:=0) (fr:=false) [] 2 T.q3.F zeb BC (by ext) BC λcdv A outer s H E Pn hr=>#[_,(zc (yt aO BC (wI xl <| uu K BC (kv 1)) (wG yO <| yP (n:=2) K BC BC (wH zx <| zk (wG zt <| zd (i:=2) zeb.nd) (wH zx <| zk (wG zt <| zd (i:=3) zeb.nd) (wH yN yc)))) (zh (wS ye <| x3 (wT zp <| zT zoX zvI (JE.bo (zbN xt zaj (kb 0) (kb 2) (λ_ _=>rfl))) (kb 3) (zV _)) (zh (zF zk5)) yd)))
   (zh (zF zk5))),λws n R hF=>?_]
 obtain @⟨_,_,st,g,hg,r⟩:=hF;left;show zW g (λq=>.d (zK q)) (by rw[ar];rfl) (λi D m=>m=n/\(∃v2 v3,D=[some (.d (stD st)),some (.d (xC g)),v2,v3])/\yW st (g.take i)=true) #[BC,#[_,_,BC],BC] ?_ ?_;rintro i q D m hq ⟨rfl,⟨v2,v3,rfl⟩,hk⟩ C B E hC _ hE;have hb:=hg q (az hq);left;show onA hb.1 hb.2 ?_;left;show zoO (λh=>?_) (λh=>?_);left;show hE ?_;have e:yW st g=false:=by unfold yW;show List.all_eq_false.mpr #[q,az hq,λz=>h (bD z)]
 rw[e] at r;show r;left;show hC #[BC,#[_,_,BC],?_];unfold yW at hk ⊢;rw[zi hq,List.all_append,hk];simp[h];rintro D m ⟨rfl,⟨v2,v3,rfl⟩,hk⟩;rw[aV] at hk;rw[hk] at r;left;show r
inductive F_chg  (Pn:PN):AV->Nat->AW->Prop
 | i {n:Nat} {R:AW} {st:AH} {b x:Int} (b0:0<=b) (hz:st.length<=1000) (h:R (.d (stD (chg st b x))) n)  : F_chg Pn [.d (stD st),.d (.int b),.d (.int x)] n R
def zga (T:Txt K mg t):FnOk P w K mg base CX0 1 t.f4 t.d4 lB (spV 3 false F_chg):=by show Fun.okW (k:=0) (fr:=false) [] 0 T.q4.F zhZ BC (by ext) BC λcdv A outer s H E Pn hr=>#[_,(zh (zF (zaD xo uB (JE.bo (zaD xo uB (JE.bo (wE zbe <| zhG (kb 0) xR (wO xb <| xS (kb 1)))) (JE.bo (yG (za (kv 2) zg))))) (JE.bo (wE zbe <| zhG (kb 0) (wO xb <| xS (JE.bo (zaD xi zek (kb 1) (JE.bo zP)))) xR))))),λws n R hF=>?_];obtain @⟨_,_,st,b,x,b0,hz,r⟩:=hF;left;show#[zdy hz,?_];left;show#[zdz hz,?_];rw[zfG b0 hz];show r
inductive F_lw  (Pn:PN):AV->Nat->AW->Prop
 | i {n:Nat} {R:AW} {E:List (Int×Int)} {ks lf:AH} (hN:lf.Nodup) (hs:∀h∈lf,h∈ks) (hl:lf.length<=100) (hE:E.length<=1000) (h:R (.dk (ldK (onF E lf) (inF E lf))) n)  : F_lw Pn [.kf (ldK ks (zbD E)),.d (lsD lf)] n R
def zbH (T:Txt K mg t):FnOk P w K mg base CX0 1 t.f5 t.d5 lV (spV 2 true F_lw):=by
 show Fun.okW (k:=0) (fr:=true) [] 1 T.q5.F u4 BC (by ext) BC λcdv A outer s H E Pn hr=>#[_,(zc (wS zv <| zM (i:=2) u4.nd (zgU (zaP hr) (N:=[A8,A9,BA]) (BF:=[none,some 0,some 1]) BC (by fail"c") (wI zN <| zQ K BC (kv 1)) (λ_ _ _ _=>(wG zt <| zd (i:=0) (show ([A8,A9,BA]:AN).Nodup by decide +kernel))) (λ_ _ _ _=>yi) (λ_ _ _ _=>(kb 0)) (λ_ _ _ _=>(xG (N:=["there",BA]) (BF:=[none,some 2]) BC (by fail"c") (wI zN <| zQ K BC (zjo (zaP hr) (kb 1) (kb 0) (λ_ _=>rfl))) (λ_ _ _ _=>(wG zt <| zd (i:=0) (show (["there",BA]:AN).Nodup by decide +kernel))) (λ_ _ _ _=>(y6 (wT zp <| zT zcv zqa (kb 0) (kb 1) (by with_unfolding_all rfl)))) (λ_ _ _ _=>(kv 0))))))
   (zh (zF (zgU (zaP hr) (N:=[A8,"told"]) (BF:=[none,some 2]) BC (by fail"c") (wI zN <| zQ K BC (kv 1)) (λ_ _ _ _=>(wG zt <| zd (i:=0) (show ([A8,"told"]:AN).Nodup by decide +kernel))) (λ_ _ _ _=>(y6 (wT zf5 <| zdM (JE.bo (wE zbP <| zgV (zaP hr) (kb 1) (kb 0) (λ_ _=>rfl)))))) (λ_ _ _ _=>(kb 0)) (λ_ _ _ _=>(wE zbP <| zgV (zaP hr) (kb 1) (kb 0) (λ_ _=>rfl))))))),λws n R hF=>?_]
 obtain @⟨_,_,E,ks,lf,hN,hs,hl,hE,r⟩:=hF;left;show zdD lf (by rw[ar];rfl) (λD=>∃a,D=[a,some (.kf (ldK ks (zbD E))),some (.d (lsD lf))]) (λ_=>true) (λh=>lsD (inF E lf h)) hN (av hl (by ext)) #[_,BC] ?_ ?_;rintro h hh ρ' ⟨a,rfl⟩ C hY hN';left;show zcu (zab (hs h hh)) ?_;left;have hsf:=zhl E h;show za9 (zbD E h) (λb=>W.d (.int b)) (by rw[ar];rfl) (λD=>∃v,D=[v,some (.d (lsD lf))]) (λb=>lf.contains b) (λb=>.int b) (av (by lia:_<=1000) (by ext)) #[_,BC] ?_ ?_;rintro b hb ρ2 ⟨v,rfl⟩ BI dY dN;left;show#[lf,BC,?_];left;show ze4 (λz=>dY z #[_,BC]) (λz=>dN z #[_,BC]);show hY BC #[_,BC];rw[fg.mpr λ_ _=>rfl];left;show zdD lf (by rw[ar];rfl) (λD=>∃a,D=[a,some (.dk (ldK lf (inF E lf)))]) (λh=>!(inF E lf h).isEmpty) (λh=>lsD (inF E lf h)) hN (av hl (by ext)) #[_,BC] ?_ ?_;rintro h hh ρ' ⟨a,rfl⟩ C hY hN';left;show zcu (zab hh) ?_;left;have e1:(!((inF E lf h).map Dt.int).isEmpty) = !(inF E lf h).isEmpty:=by rw[List.isEmpty_map]
 rw[e1];show ze4 (λz=>?_) (λz=>hN' z #[_,BC]);left;show zcu (zab hh) ?_;left;show hY z #[_,BC];show r
inductive F_rd  (Pn:PN):AV->Nat->AW->Prop
 | i {n:Nat} {R:AW} {E:List (Int×Int)} {m:Nat} (hE:∀q∈E,0<=q.1/\q.1<m/\0<=q.2/\q.2<m) (hm:m<=100) (hEl:E.length<=1000) (h:(¬ Cyc E->R (.d .non) n)/\∀row,IsRd E row->Cyc E->R (.d (lsD row)) n)  : F_rd Pn [.kf (ldK (zn (m:Int)) (zbD E))] n R
def zbs (T:Txt K mg t):FnOk P w K mg base CX0 2 t.f6 t.d6 [A9] (spV 1 false F_rd):=by
 have G5:=zbH (P:=P) (w:=w) (base:=base) T
 show Fun.okW (k:=1) (fr:=false) [3] 4 T.q6.F yu BC (by ext) BC λcdv A outer s H E Pn hr=>#[_,(zc (wS zv <| zM (i:=1) yu.nd (xF (zgH BC) zqc (by rfl) T.b_list cW (zl (kb 0) zr)))
   (zc (wS zv <| zM (i:=2) yu.nd (wE zq <| yT T.q5 G5 hr (za (kv 0) (za (kv 1) zg))))
   (zc (zdL aO (wT zp <| zT zl3 zvH (JE.bo (z7 zlj ztc (by rfl) T.b_len be (zl (kb 2) zr))) (JE.bo (z7 yU zaC (by rfl) T.b_len be (zl (kb 1) zr))) (zV _)) (zc (wS zv <| zM (i:=1) yu.nd (xF (zgH BC) zqb (by rfl) T.b_list cW (zl (kb 2) zr)))
   (zh (wS zv <| zM (i:=2) yu.nd (wE zq <| yT T.q5 G5 hr (za (kv 0) (za (kv 1) zg)))))))
   (zc (wS ye <| x3 (wT uQ <| zbq (wT zf5 <| zdM (kb 1))) (zh (zF zok)) yd)
   (zc (wS xm <| uK (i:=3) yu.nd (zbb zg))
   (zc (wS zv <| zM (i:=4) yu.nd (zbN ur zft (kb 1) (JE.bo zP) (λ_ _=>rfl)))
   (zc (zdL aO (wT zp <| zT xL zbT (kb 4) (kb 3) (by with_unfolding_all rfl)) (zc (wS uP <| zbp 3 (kv 4))
   (zh (wS zv <| zM (i:=4) yu.nd (zbN ur zft (JE.bo (wE zbP <| zgV (zaP hr) (kb 2) (kb 4) (λ_ _=>rfl))) (JE.bo zP) (λ_ _=>rfl))))))
   (zh (zF (zra (wE zdR <| zlH (kb 3) (wO xb <| xS (JE.bo (zoi K BC (kb 3) (kb 4)))) xR))))))))))),λws n R hF=>?_]
 obtain @⟨_,_,E,m,hE,hm,hEl,r⟩:=hF;left;obtain⟨rN,rS⟩:=r;show#[zn (m:Int),zdP,?_];left;have hml:(zn (m:Int)).length=m:=by rw[zI];lia
 show F_lw.i (yg _) (λh hh=>hh) (by lia) hEl ?_;left;have hfix:∀ (BI:Int->Prop),PF E BI->∀a,BI a->a∈zn (m:Int):=λBI hD a ha=>by obtain⟨b,_,h⟩:=hD a ha;have:=hE _ h;show zE.mpr #[this.1,this.2.1]
 show zkZ (λk D n'=>n'=n/\∃lf:AH,k=lf.length/\D=[some (.kf (ldK (zn (m:Int)) (zbD E))),some (.d (lsD lf)),some (.dk (ldK (onF E lf) (inF E lf))),none,none]/\lf.Nodup/\(∀h∈lf,h∈zn (m:Int))/\lf.length<=m/\∀BI,PF E BI->∀a,BI a->a∈lf) m #[BC,zn (m:Int),hml.symm,BC,yg _,λh hh=>hh,by lia,hfix] ?_;rintro k D n' ⟨rfl,lf,rfl,rfl,hN,hs,hl,hfx⟩ C B X hC hB hX;left;rw[zov,ab];show uh (λhlt=>?_) (λhge=>?_);have hlt:(onF E lf).length<lf.length:=by lia
 have hsub:(onF E lf).Sublist lf:=e8;left;show#[onF E lf,zdP,?_];left;show F_lw.i (hN.sublist hsub) (λh hh=>hs h (hsub.subset hh)) (by lia) hEl ?_;left;show hC _ hlt #[BC,onF E lf,BC,BC,hN.sublist hsub,λh hh=>hs h (hsub.subset hh),by lia,λBI hD a ha=>zrG hD (hfx BI hD) a ha];have hall:=zoP (E:=E) (lf:=lf) (by lia);have hself:onF E lf=lf:=eK e8 (by lia);show hB ?_;left;rw[hself]
 cases lf with
 | nil=>
  fail"cf";show rN λ⟨BI,a,hD,ha⟩=>by have:=hfx BI hD a ha;simp at this
 | cons x r0=>
  have hcy:Cyc E:=#[λa=>a∈x::r0,x,λa ha=>hall a ha,am];have hx:x∈x::r0:=am;have h0:atI ((x::r0).map Dt.int) 0=some (.int x):=zeq (i:=0) BC;with_reducible show zhP ?_ ?_
  rfl;generalize x::r0=lf at hN hs hl hfx hall hcy hx h0;left;show zcu h0 ?_;left;show zkZ (λk D n2=>n2=n'/\∃ (rs:AH) (h:Int),k=lf.length - rs.length/\D=[some (.kf (ldK (zn (m:Int)) (zbD E))),some (.d (lsD lf)),some (.dk (ldK lf (inF E lf))),some (.d (lsD rs)),some (.d (.int h))]/\rs.Nodup/\(∀a∈rs,a∈lf)/\h∈lf/\∀i,i<rs.length->((rs++[h]).getD i 0,(rs++[h]).getD (i+1) 0)∈E) lf.length #[BC,[],x,BC,BC,.nil,by simp,hx,λi hi=>by simp at hi] ?_;rintro k D n2 ⟨rfl,rs,h,rfl,rfl,hrN,hrs,hh,hch⟩ C' B' X' hC' hB' hX';have hrl:=yf hrN hrs;left;show#[rs,BC,?_];left;show zjY (λhn=>?_) (λhi=>?_);have hnot:h∉rs:=λz=>by rw[bf.mpr z] at hn;cases hn
  have hN2:(rs++[h]).Nodup:=by rw[fN];show#[hrN,by simp,λa ha c hc e=>hnot (by rw[<- au.mp hc,<- e];show ha)]
  have hsub2:∀a∈rs++[h],a∈lf:=λa ha=>(aE.mp ha).elim (hrs a) λz=>by rw[au.mp z];show hh
  have hrl2:=yf hN2 hsub2;rw[ay] at hrl2;simp at hrl2;obtain⟨b,hb,hE2⟩:=hall h hh;have hin:=zdS.mpr #[hE2,hb];left;show#[by rw[ab];show aY (by lia:_<=100) (by ext),?_];left;show zcu (zab hh) ?_;left
  cases e:inF E lf h with
  | nil=>rw[e] at hin;simp at hin
  | cons c cs=>
   have hc:=zdS.mp (show c∈inF E lf h by rw[e];show am);show zcu (zeq (i:=0) BC) ?_;left;show hC' (lf.length - (rs++[h]).length) (by rw[ay];simp;lia) #[BC,rs++[h],c,BC,?_,hN2,hsub2,hc.2,λi hi=>?_];rw[show lsD (rs++[h])=Dt.lst (rs.map Dt.int++[Dt.int h]) by unfold lsD;rw[aH];rfl];rw[ay] at hi;simp at hi;by_cases hi2:i<rs.length;have:=hch i hi2;have q1:(rs++[h]++[c]).getD i 0=(rs++[h]).getD i 0:=xZ (by rw[ay];simp;lia);have q2:(rs++[h]++[c]).getD (i+1) 0=(rs++[h]).getD (i+1) 0:=xZ (by rw[ay];simp;lia);rw[q1,q2];show this;have hie:i=rs.length:=by lia
   subst hie;have q1:(rs++[h]++[c]).getD rs.length 0=(rs++[h]).getD rs.length 0:=xZ (by rw[ay];simp);have q2:(rs++[h]++[c]).getD (rs++[h]).length 0=c:=zb7;rw[ay] at q2;rw[q1,zb7,show rs.length+1=rs.length+[h].length from rfl,q2];show hc.1
  show hB' ?_;left;have hmem:=bf.mp hi;show#[rs,BC,hmem,?_];left;rw[uH,ziF];show rS _ (rdOf hrN hmem hch) hcy
inductive F_rb  (Pn:PN):AV->Nat->AW->Prop
 | i {n:Nat} {R:AW} {E:List (Int×Int)} {m:Nat} (hE:∀q∈E,0<=q.1/\q.1<m/\0<=q.2/\q.2<m) (hm:m<=100) (hEl:E.length<=1000) (h:(¬ Cyc E->R (.d .non) n)/\∀row,IsRd E row->Cyc E->R (.d (lsD row)) n)  : F_rb Pn [.d (.int (m:Int)),.d (.lst (E.map zK))] n R
def ze3 (T:Txt K mg t):FnOk P w K mg base CX0 3 t.f7 t.d7 lr (spV 2 false F_rb):=by
 have G6:=zbs (P:=P) (w:=w) (base:=base) T;show Fun.okW (k:=2) (fr:=false) [] 0 T.q7.F zgs BC (by ext) BC λcdv A outer s H E Pn hr=>#[_,(zh (zF (wE zq <| yT T.q6 G6 hr (za (zm7 (zeH (zaP hr) (z := "here") (N:=[A8,"pairs"]) (BF:=[none,some 1]) BC (by fail"c") (wI yX <| z6 BC T.b_range (zl (kb 0) zr)) (λ_ _ _ _ _=>(wG zt <| zd (i:=0) (show ([A8,"pairs"]:AN).Nodup by decide +kernel))) (λ_ _ _ _ _=>yi) (λ_ _ _ _ _=>(kb 0)) (λ_ _ _ _ _=>(xG (N:=lL) (BF:=[none,none,some 0]) BC (by fail"c") (wI zN <| zQ K BC (kv 1)) (λ_ _ _ _=>(wG yO <| yP (n:=2) K BC BC (wH zx <| zk (wG zt <| zd (i:=0) (show (lL:AN).Nodup by decide +kernel)) (wH zx <| zk (wG zt <| zd (i:=1) (show (lL:AN).Nodup by decide +kernel)) (wH yN yc))))) (λ_ _ _ _=>(y6 (wT zp <| zT zaB zgx (kb 0) (kb 2) (zV _)))) (λ_ _ _ _=>(kv 1)))))) zg)))),λws n R hF=>?_];obtain @⟨_,_,E,m,hE,hm,hEl,r⟩:=hF;left;show#[#[by lia,by lia],?_];rw[xu,aP];have e0:((List.range m).map λk:Nat=>W.d (.int (k:Int)))=(zn (m:Int)).map λi=>W.d (.int i):=by unfold zn;rw[ar,aP];rfl
 rw[e0];have hml:(zn (m:Int)).length=m:=by rw[zI];lia
 show zdD (zn (m:Int)) BC (λD=>∃a,D=[a,some (.d (.lst (E.map zK)))]) (λ_=>true) (λh=>lsD (zbD E h)) (yg _) (av (by lia:_<=100) (by ext)) #[_,BC] ?_ ?_;rintro h hh ρ' ⟨a,rfl⟩ C hY hN';left;show za9 E (λq=>W.d (zK q)) (by rw[ar];rfl) (λD=>∃u v,D=[u,v,some (.d (.int h))]) (λq=>decide (q.1=h)) (λq=>.int q.2) (av hEl (by ext)) #[_,_,BC] ?_ ?_;rintro q hq ρ2 ⟨u,v,rfl⟩ BI dY dN;left;show uh (λz=>dY (aN z) #[_,_,BC]) (λz=>dN (aT z) #[_,_,BC]);rw[show (E.filter λq=>decide (q.1=h)).map (λq=>Dt.int q.2)=(zbD E h).map Dt.int by unfold zbD;rw[ar];rfl];show hY BC #[_,BC];rw[fg.mpr λ_ _=>rfl];left;show F_rd.i hE hm hEl r
def zai (E:List (Int×Int))(m:Nat):AH:=(zn (m:Int)).filter λw=>!(E.map (·.1)).contains w
inductive F_tb  (Pn:PN):AV->Nat->AW->Prop
 | i {n:Nat} {R:AW} {E:List (Int×Int)} {m:Nat} (hm:m<=100) (hEl:E.length<=1000) (h:R (.d (lsD (zai E m))) n)  : F_tb Pn [.d (.int (m:Int)),.d (.lst (E.map zK))] n R
def zcs (T:Txt K mg t):FnOk P w K mg base CX0 1 t.f8 t.d8 lr (spV 2 true F_tb):=by
 show Fun.okW (k:=0) (fr:=true) [] 1 T.q8.F zdr BC (by ext) BC λcdv A outer s H E Pn hr=>#[_,(zc (wS zv <| zM (i:=2) zdr.nd (xG (N:=lT) (BF:=[none,none]) BC (by fail"c") (wI zN <| zQ K BC (kv 1)) (λ_ _ _ _=>(wG yO <| yP (n:=2) K BC BC (wH zx <| zk (wG zt <| zd (i:=0) (show (lT:AN).Nodup by decide +kernel)) (wH zx <| zk (wG zt <| zd (i:=1) (show (lT:AN).Nodup by decide +kernel)) (wH yN yc))))) (λ_ _ _ _=>yi) (λ_ _ _ _=>(kv 0))))
   (zh (zF (xG (N:=[An,"bettered"]) (BF:=[none,some 2]) BC (by fail"c") (wI yX <| z6 BC T.b_range (zl (kb 0) zr)) (λ_ _ _ _=>(wG zt <| zd (i:=0) (show ([An,"bettered"]:AN).Nodup by decide +kernel))) (λ_ _ _ _=>(y6 (wT zp <| zT xL zbT (kb 0) (kb 1) (by with_unfolding_all rfl)))) (λ_ _ _ _=>(kv 0)))))),λws n R hF=>?_]
 obtain @⟨_,_,E,m,hm,hEl,r⟩:=hF;left;show zam E (λq=>W.d (zK q)) (by rw[ar];rfl) (λD=>∃u v,D=[u,v]) (λq=>.int q.1) (av hEl (by ext)) #[_,_,BC] ?_ ?_;rintro q hq ρ2 ⟨u,v,rfl⟩ BI dY;left;show dY #[_,_,BC];have e1:(E.map λq=>Dt.int q.1)=(E.map (·.1)).map Dt.int:=by rw[ar];rfl
 rw[e1];left;show#[#[by lia,by lia],?_];rw[xu,aP];have e0:((List.range m).map λk:Nat=>W.d (.int (k:Int)))=(zn (m:Int)).map λi=>W.d (.int i):=by unfold zn;rw[ar,aP];rfl
 rw[e0];have hml:(zn (m:Int)).length=m:=by rw[zI];lia
 show za9 (zn (m:Int)) (λi=>W.d (.int i)) BC (λD=>∃u,D=[u,some (.d (.lst ((E.map (·.1)).map Dt.int)))]) (λw=>!(E.map (·.1)).contains w) (λw=>.int w) (av (by lia:_<=100) (by ext)) #[_,BC] ?_ ?_;rintro w hw ρ2 ⟨u,rfl⟩ BI dY dN;left;show#[_,BC,?_];left;show ze4 (λz=>dY z #[_,BC]) (λz=>dN z #[_,BC]);show r
def zeB (E:List (Int×Int))(m:Nat)(row:AH):AH:=(zn (m:Int)).filter λb=>!row.contains b&&(zbD E b).all λo=>row.contains o
def zia (E:List (Int×Int))(m:Nat):Nat->AH->Option AH
 | 0,row=>some row
 | k+1,row=>match zeB E m row with
  | []=>none
  | b::_=>zia E m k (row++[b])
def zsW {E:List (Int×Int)}{m:Nat}{row:AH}(hE:∀q∈E,0<=q.1/\q.1<m/\0<=q.2/\q.2<m)(hl:row.length<m)(h:zeB E m row=[]):Cyc E:=by
 have hx:∃a,a∈zn (m:Int)/\a∉row:=by
  by_cases hh:∀a∈zn (m:Int),a∈row;have:=yf (yg _) hh;rw[zI] at this;lia;by_cases h2:∃a,a∈zn (m:Int)/\a∉row;show h2;show absurd (λa ha=>by by_cases z:a∈row;show z;show absurd #[a,ha,z] h2) hh
 obtain⟨a,ha,hn⟩:=hx;show#[λa=>a∈zn (m:Int)/\a∉row,a,λa ⟨h1,h2⟩=>?_,ha,hn];have:a∉zeB E m row:=by rw[h];simp
 by_cases hh:∃b,b∉row/\(a,b)∈E;obtain⟨b,hb,he⟩:=hh;have:=hE _ he;show#[b,#[zE.mpr #[this.2.2.1,this.2.2.2],hb],he];show absurd (aK.mpr #[h1,?_]) this;have e1:row.contains a=false:=by cases e:row.contains a;rfl;show absurd (bf.mp e) h2
 rw[e1,Bool.not_false,fT,a8];intro o ho;rw[bf];by_cases z:o∈row;show z;show absurd #[o,z,zdT.mp ho] hh
inductive F_pio  (Pn:PN):AV->Nat->AW->Prop
 | i {n:Nat} {R:AW} {rm:AH} {E:List (Int×Int)} (hE:∀q∈E,0<=q.1/\q.1<rm.length/\0<=q.2/\q.2<rm.length) (h8:rm.length<=16) (hEl:E.length<=1000) (h:(∀row,row.length<=16->zia E rm.length rm.length []=some row->R (.d (.tup [.str "order",lsD row])) n)/\(∀rd,zia E rm.length rm.length []=none->IsRd E rd->R (.d (.tup [.str "ring",lsD rd])) n))  : F_pio Pn [.d (stD rm),.d (.lst (E.map zK))] n R
def zbI (T:Txt K mg t):FnOk P w K mg base CX0 3 t.f9 t.d9 lW (spV 2 false F_pio):=by
 have G6:=zbs (P:=P) (w:=w) (base:=base) T
 show Fun.okW (k:=2) (fr:=false) [3] 3 T.q9.F y3 BC (by ext) BC λcdv A outer s H E Pn hr=>#[_,(zc (wS zv <| zM (i:=2) y3.nd (zm7 (zeH (zaP hr) (z := "box") (N:=[Ao,"pairs"]) (BF:=[none,some 1]) BC (by fail"c") (wI yX <| z6 BC T.b_range (zl (JE.bo (z7 yU zaC (by rfl) T.b_len be (zl (kb 0) zr))) zr)) (λ_ _ _ _ _=>(wG zt <| zd (i:=0) (show ([Ao,"pairs"]:AN).Nodup by decide +kernel))) (λ_ _ _ _ _=>yi) (λ_ _ _ _ _=>(kb 0)) (λ_ _ _ _ _=>(xG (N:=lQ) (BF:=[none,none,some 0]) BC (by fail"c") (wI zN <| zQ K BC (kv 1)) (λ_ _ _ _=>(wG yO <| yP (n:=2) K BC BC (wH zx <| zk (wG zt <| zd (i:=0) (show (lQ:AN).Nodup by decide +kernel)) (wH zx <| zk (wG zt <| zd (i:=1) (show (lQ:AN).Nodup by decide +kernel)) (wH yN yc))))) (λ_ _ _ _=>(y6 (wT zp <| zT zaB zgx (kb 0) (kb 2) (zV _)))) (λ_ _ _ _=>(kv 1)))))))
   (zc (wS xm <| uK (i:=3) y3.nd (zbb zg))
   (zc (zdL aO (wT zp <| zT zl3 zvH (JE.bo (z7 yU zaC (by rfl) T.b_len be (zl (kb 3) zr))) (JE.bo (z7 yU zaC (by rfl) T.b_len be (zl (kb 0) zr))) (zV _)) (zc (wS zv <| zbc (i:=4) (zaR (ix:=4) y3.nd BC BC (N:=[Ao,"row","ahead"]) (BF:=[none,some 3,some 2]) BC (by fail"c") (zuH (kv 2)) (λ_ _ _ _=>(wG zt <| zd (i:=0) (show ([Ao,"row","ahead"]:AN).Nodup by decide +kernel))) (λ_ _ _ _=>(y6 (JW.t (wW zbd <| zc8 (wT zp <| zT xL zbT (kb 0) (kb 1) (by with_unfolding_all rfl)) (zap (.inl BC) (wT zp <| uM (JE.bo (z7 (ziy BC) zp8 (by rfl) T.b_all eC (zl (JE.bo (xG (N:=["other","row"]) (BF:=[none,some 1]) BC (by fail"c") (wI zN <| zQ K BC (zjo (zaP hr) (kb 2) (kb 0) (λ_ _=>rfl))) (λ_ _ _ _=>(wG zt <| zd (i:=0) (show (["other","row"]:AN).Nodup by decide +kernel))) (λ_ _ _ _=>yi) (λ_ _ _ _=>(zjn zcv zqa (kb 0) (kb 1) (by with_unfolding_all rfl))))) zr))))))))) (λ_ _ _ _=>(kv 0))))
   (zc (wS ye <| x3 (wT uQ <| zbq (wT zf5 <| zdM (kb 4))) (zh (zF (yG (za zhH (za (wE zq <| yT T.q6 G6 hr (za (kv 2) zg)) zg))))) yd)
   (zh (wS uP <| zbp 3 (zbN ur zft (kb 4) (JE.bo zP) (λ_ _=>rfl)))))))
   (zh (zop 3 zhH))))),λws n R hF=>?_]
 obtain @⟨_,_,rm,E,hE,h8,hEl,r⟩:=hF;left;obtain⟨rO,rR⟩:=r;rw[ab];show#[#[by lia,by lia],?_];generalize em:rm.length=m at *;rw[xu,aP];have e0:((List.range m).map λk:Nat=>W.d (.int (k:Int)))=(zn (m:Int)).map λi=>W.d (.int i):=by unfold zn;rw[ar,aP];rfl
 rw[e0];have hml:(zn (m:Int)).length=m:=by rw[zI];lia
 show zdD (zn (m:Int)) BC (λD=>∃a,D=[a,some (.d (.lst (E.map zK)))]) (λ_=>true) (λh=>lsD (zbD E h)) (yg _) (av (by lia:_<=100) (by ext)) #[_,BC] ?_ ?_;rintro h hh ρ' ⟨a,rfl⟩ C hY hN';left;show za9 E (λq=>W.d (zK q)) (by rw[ar];rfl) (λD=>∃u v,D=[u,v,some (.d (.int h))]) (λq=>decide (q.1=h)) (λq=>.int q.2) (av hEl (by ext)) #[_,_,BC] ?_ ?_;rintro q hq ρ2 ⟨u,v,rfl⟩ BI dY dN;left;show uh (λz=>dY (aN z) #[_,_,BC]) (λz=>dN (aT z) #[_,_,BC]);rw[show (E.filter λq=>decide (q.1=h)).map (λq=>Dt.int q.2)=(zbD E h).map Dt.int by unfold zbD;rw[ar];rfl];show hY BC #[_,BC];rw[fg.mpr λ_ _=>rfl];left;show zkZ (λk D n'=>n'=n/\∃ (row:AH) (v4:Option W),k=m - row.length/\D=[some (.d (stD rm)),some (.d (.lst (E.map zK))),some (.kf (ldK (zn (m:Int)) (zbD E))),some (.d (lsD row)),v4]/\row.length<=m/\zia E m (m - row.length) row=zia E m m []) m #[BC,[],none,BC,BC,aS _,BC] ?_;rintro k D n' ⟨rfl,row,v4,rfl,rfl,hrl,hor⟩ C B X hC hB hX;left;rw[ab,ab,em];show uh (λhlt=>?_) (λhge=>?_);have hlt:row.length<m:=by lia
 left;show#[zn (m:Int),zdP,?_];show za9 (zn (m:Int)) (λb=>W.d (.int b)) BC (λD=>∃u,D=[u,some (.d (lsD row)),some (.kf (ldK (zn (m:Int)) (zbD E)))]) (λb=>!row.contains b&&(zbD E b).all λo=>row.contains o) (λb=>.int b) (av (by lia:_<=100) (by ext)) #[_,BC] ?_ ?_;rintro b hb ρ2 ⟨u,rfl⟩ BI dY dN;have hsf:=zhl E b;left;show#[row,BC,?_];left;show zjY (λhn=>?_) (λhn=>?_);left;show zcu (zab hb) ?_;left;show zam (zbD E b) (λo=>W.d (.int o)) (by rw[ar];rfl) (λD=>∃v,D=[v,some (.d (lsD row))]) (λo=>.bl (row.contains o)) (av (by lia:_<=1000) (by ext)) #[_,BC] ?_ ?_;rintro o ho ρ3 ⟨v,rfl⟩ F hF;left;show#[row,BC,?_];left;show hF #[_,BC];left;show#[(zbD E b).map λo=>row.contains o,by rw[ar];rfl,?_];rw[show ((zbD E b).map λo=>row.contains o).all id=(zbD E b).all λo=>row.contains o by rw[List.all_map];rfl];left;show ze4 (λz=>?_) (λz=>?_);left;show dY (by rw[z,hn];rfl) #[_,BC];show dN (by rw[z,dv]) #[_,BC];left;show dN (by rw[hn];rfl) #[_,BC];have e9:((zn (m:Int)).filter λb=>!row.contains b&&(zbD E b).all λo=>row.contains o)=zeB E m row:=rfl;rw[e9];left;have hk:m - row.length=(m - (row.length+1))+1:=by lia
 cases ef:zeB E m row with
 | nil=>
  have hcy:=zsW hE hlt ef;with_reducible show zhO ?_ ?_
  rfl;left;show F_rd.i hE (by lia) hEl #[λz=>absurd hcy z,λrd hr _=>?_];left;show hX (rR rd ?_ hr);rw[<- hor,hk];unfold zia;rw[ef]
 | cons b r=>
  with_reducible show zhP ?_ ?_
  rfl;left;have h0:atI ((b::r).map Dt.int) 0=some (.int b):=zeq (i:=0) BC;show zcu h0 ?_;left;show#[aY (by rw[ab];lia:_<=16) (by ext),?_];have e2:row.map Dt.int++[Dt.int b]=(row++[b]).map Dt.int:=by rw[aH];rfl
  rw[e2];show hC (m - (row++[b]).length) (by rw[ay];simp;lia) #[BC,row++[b],_,BC,BC,by rw[ay];simp;lia,?_];rw[ay,b6,<- hor,hk,zia,ef]
 have hle:row.length=m:=by lia
 show hB ?_;left;show rO row (by lia) ?_;rw[<- hor,hle,gf];rfl
inductive F_mul  (Pn:PN):AV->Nat->AW->Prop
 | i {n:Nat} {R:AW} {ns:AH} (hb:∀z∈ns,1<=z/\z<=1000000) (h:R (.d (.int (zbm ns))) n)  : F_mul Pn [.d (lsD ns)] n R
def zcY (T:Txt K mg t):FnOk P w K mg base CX0 1 t.f10 t.d10 [Ap] (spV 1 false F_mul):=by
 show Fun.okW (k:=0) (fr:=false) [] 2 T.q10.F xw BC (by ext) BC λcdv A outer s H E Pn hr=>#[_,(zc (wS zv <| zM (i:=1) xw.nd zP)
   (zc (yt aO BC (wI zN <| zQ K BC (kv 0)) (wG zt <| zd (i:=2) xw.nd) (zh (wS zv <| zM (i:=1) xw.nd (zaD zat zqd (kb 1) (kb 2)))))
   (zh (zF (kv 1))))),λws n R hF=>?_]
 obtain @⟨_,_,ns,hb,r⟩:=hF;left;show zW ns (λz=>W.d (.int z)) (by rw[ar];rfl) (λi D m=>m=n/\∃v,D=[some (.d (lsD ns)),some (.d (.int (zbm (ns.take i)))),v]) #[BC,_,BC] ?_ ?_;rintro i z D m hz ⟨rfl,v,rfl⟩ C B E hC _ _;have h1:=hb z (az hz);left;show#[.inr #[by lia,by lia],?_];have e:zbm (ns.take (i+1))=zbm (ns.take i) * z:=by rw[zi hz,zhU]
 show hC #[BC,some (.d (.int z)),by rw[e]];rintro D m ⟨rfl,v,rfl⟩;rw[aV];left;show r
structure WideOk (rm:AH):Prop where
 pos:1<=rm.length
 few:rm.length<=16
 box:∀r∈rm,2<=r/\r<=4
def zaM {rm:AH}{g:List (Int×Int)}(h:Giv rm g)(hR:WideOk rm):g.length<=16:=by have:=zfU (g:=g) (lo:=0) (m:=rm.length) (λq hq=>#[(h.ok q hq).1,(h.ok q hq).2.1]) h.up (by lia);have:=hR.few;lia
def zij:List AT->List AT:=λcs=>cs.foldl (λrs c=>rs.flatMap λr=>c.map λx=>r++[x]) [[]]
def zaH (cs:List AT)(c:AT):zij (cs++[c])=(zij cs).flatMap λr=>c.map λx=>r++[x]:=by unfold zij;rw[eh];rfl
theorem zgz:∀ {n:Nat} {cs:List AT},cs.length=n->∀r∈zij cs,r.length=n
 | 0,cs,h,r,hr=>by
  cases cs with
  | nil=>rw[au.mp hr];rfl
  | cons _ _=>cases h
 | n+1,cs,h,r,hr=>by obtain⟨cs',c,rfl⟩:∃cs' c,cs=cs'++[c]:=#[cs.dropLast,cs.getLast (by intro z;rw[z] at h;cases h),(bn _).symm];rw[zaH] at hr;obtain⟨r',h1,h2⟩:=cz.mp hr;obtain⟨x,_,rfl⟩:=aq.mp h2;rw[ay,zgz (n:=n) (by simpa using h) r' h1];rfl
def xY (rm:AH):AH->List (List (Int×Int)):=λbs=>bs.foldl (λgs b=>gs.flatMap λg=>(zn (zu rm b)).map λw=>g++[(b,w)]) [[]]
def xy (rm bs:AH)(b:Int):xY rm (bs++[b])=(xY rm bs).flatMap λg=>(zn (zu rm b)).map λw=>g++[(b,w)]:=by unfold xY;rw[eh];rfl
theorem zax {α β:Type}{f:α->List β}{k:Nat}(h:∀a,(f a).length<=k):∀l:List α,(l.flatMap f).length<=l.length * k
 | []=>aS _
 | a::l=>by rw[List.flatMap_cons,ay,bc,Nat.succ_mul];have:=h a;have:=zax h l;lia
theorem zaJ {rm:AH}(hb:∀r∈rm,2<=r/\r<=4):∀ {n:Nat} {bs:AH},bs.length=n->(∀b∈bs,0<=b/\b<rm.length)->(xY rm bs).length<=4 ^ n
 | 0,bs,h,_=>by
  cases bs with
  | nil=>show ak _
  | cons _ _=>cases h
 | n+1,bs,h,hr=>by obtain⟨cs',c,rfl⟩:∃cs' c,bs=cs'++[c]:=#[bs.dropLast,bs.getLast (by intro z;rw[z] at h;cases h),(bn _).symm];rw[xy];have h1:=zaJ hb (n:=n) (bs:=cs') (by simpa using h) λb z=>hr b (bi _ z);have hm:=zA hb (hr c (by simp)).1 (hr c (by simp)).2;have:=zax (f:=λg:List (Int×Int)=>(zn (zu rm c)).map λw=>g++[(c,w)]) (k:=4) (λg=>by rw[ab,zI];lia) (xY rm cs');rw[Nat.pow_succ];lia
theorem yw {rm:AH}{g:List (Int×Int)}:∀ {n:Nat} {bs:AH},bs.length=n->g∈xY rm bs->g.map (·.1)=bs/\∀q∈g,0<=q.2/\q.2<zu rm q.1
 | 0,bs,h,hg=>by
  cases bs with
  | nil=>rw[au.mp hg];show#[BC,by simp]
  | cons _ _=>cases h
 | n+1,bs,h,hg=>by
  obtain⟨cs',c,rfl⟩:∃cs' c,bs=cs'++[c]:=#[bs.dropLast,bs.getLast (by intro z;rw[z] at h;cases h),(bn _).symm];rw[xy] at hg;obtain⟨g',h1,h2⟩:=cz.mp hg;obtain⟨x,hx,rfl⟩:=aq.mp h2;obtain⟨e1,e2⟩:=yw (n:=n) (bs:=cs') (by simpa using h) h1;have hx:=zE.mp hx;show#[by rw[aH,e1];rfl,λq hq=>?_];rcases aE.mp hq with z | z;show e2 q z;rw[au.mp z];show hx
def zgI {rm bs:AH}{g:List (Int×Int)}(hs:bs.Pairwise (· < ·))(hb:∀b∈bs,0<=b/\b<rm.length)(hg:g∈xY rm bs):Giv rm g:=by
 obtain⟨e1,e2⟩:=yw BC hg;show#[λq hq=>?_,?_];have hq1:q.1∈bs:=by rw[<- e1];show aq.mpr #[q,hq,BC]
 show#[(hb _ hq1).1,(hb _ hq1).2,(e2 q hq).1,(e2 q hq).2];rw[<- e1] at hs;show cH.mp hs
theorem zfL {rm:AH}:∀ {n:Nat} {bs:AH},bs.length=n->zij (bs.map λb=>(zn (zu rm b)).map λw=>zK (b,w))=(xY rm bs).map λg=>g.map zK
 | 0,bs,h=>by
  cases bs with
  | nil=>rfl
  | cons _ _=>cases h
 | n+1,bs,h=>by obtain⟨cs',c,rfl⟩:∃cs' c,bs=cs'++[c]:=#[bs.dropLast,bs.getLast (by intro z;rw[z] at h;cases h),(bn _).symm];rw[aH,aC,fw,zaH,xy,zfL (n:=n) (bs:=cs') (by simpa using h),List.flatMap_map,gb];show congrArg (λf=>List.flatMap f (xY rm cs')) (funext λg=>?_);rw[ar,ar];show dE λw _=>?_;change _=(g++[(c,w)]).map zK;rw[aH];rfl
def zgn {l m:AH}(h1:l.Pairwise (· < ·))(h2:m.Pairwise (· < ·))(h:∀z,z∈l↔z∈m):l=m:=
 PySem.W.lks_uniq (ui (h1.imp λh=>by lia) (h2.imp λh=>by lia) h) (h1.imp λh=>by lia) (h2.imp λh=>by lia)
def zaG (bk:AY)(b z:Int):Prop:=∃x∈bk,x.b=b/\∃q∈x.g,q.1=z
def zjC {bk:AY}{i:Nat}{x:Wi}{b:Int}(hx:bk[i]?=some x)(z:Int):zaG (bk.take (i+1)) b z↔zaG (bk.take i) b z\/(x.b=b/\∃q∈x.g,q.1=z):=by
 rw[zi hx];unfold zaG;constructor;rintro⟨y,hy,h1⟩;rcases aE.mp hy with h | h;show .inl #[y,h,h1];rw[au.mp h] at h1;show .inr h1;rintro (⟨y,hy,h1⟩ | h1);show#[y,bi _ hy,h1];show#[x,ba _ (by simp),h1]
def uw (bk:AY)(b:Int)(P:List (Int×Int)->Bool):AG:=zcI ((bk.filter λx=>decide (x.b=b)&&P x.g).map λx=>[x.w,x.r])
def zcZ (st:AH)(g:List (Int×Int)):AH:=g.foldl (λs q=>chg s q.1 q.2) st
def u16:AG:=(zn 4).flatMap λw=>(zn 4).map λr=>[w,r]
def zoK {w r:Int}(h0:0<=w)(h1:w<4)(h2:0<=r)(h3:r<4):[w,r]∈u16:=cz.mpr #[w,zE.mpr #[h0,h1],aq.mpr #[r,zE.mpr #[h2,h3],BC]]
def zel {rm:AH}{bk:AY}(hb:∀r∈rm,2<=r/\r<=4)(hB:u7 rm bk):∀x∈bk,[x.w,x.r]∈u16:=λx hx=>by have hW:=hB x hx;have hm:=zA hb hW.b0 hW.b1;have h1:=hW.w1;have h2:=hW.r1;show zoK hW.w0 (by lia) hW.r0 (by lia)
def zbM {st:AH}{b w:Int}(h:b<st.length)(h0:0<=b):(chg st b w).length=st.length:=by unfold chg;simp;lia
theorem zg8:∀ {g:List (Int×Int)} {st:AH},(∀q∈g,0<=q.1/\q.1<st.length)->(zcZ st g).length=st.length
 | [],_,_=>rfl
 | q::g,st,h=>by have hq:=h q am;have e:=zbM (w:=q.2) hq.2 hq.1;change (zcZ (chg st q.1 q.2) g).length=_;rw[zg8 (st:=chg st q.1 q.2) λp hp=>by rw[e];show h p (ao _ hp)];show e
def zuL {w r w' r':Int}:HT.lexLt [w,r] [w',r']=true↔w<w'\/(w=w'/\r<r'):=by
 rw[HT.lexLt_cons,HT.lexLt_cons];by_cases e:w=w';rw[if_pos e];by_cases e2:r=r';rw[if_pos e2,HT.lexLt_nil_nil];simp;lia;rw[if_neg e2];simp;lia;rw[if_neg e];simp;lia
theorem zbO {k:Nat}:∀so:AH,(Dt.toWs (so.map Dt.int)).all (PySem.W.kqdOk k)=true
 | []=>rfl
 | _::so=>by simp only[aC,Dt.toWs,cO,zbO (k:=k) so,cT];cases k <;> rfl
theorem zeN {k:Nat}:∀g:List (Int×Int),(Dt.toWs (g.map zK)).all (PySem.W.kqdOk (k+1))=true
 | []=>rfl
 | _::g=>by simp only[aC,Dt.toWs,cO,zeN (k:=k) g,cT];show zbO (k:=k) [_,_]
def eqGs {l:List (List (Int×Int))}:(Dt.lst (l.map xC)).eqOk:=by
 have e:∀l:List (List (Int×Int)),(Dt.toWs (l.map xC)).all (PySem.W.kqdOk 7)=true:=λl=>by
  induction l with
  | nil=>rfl
  | cons g l ih=>
   simp only[aC,Dt.toWs,cO,ih,cT];show zeN (k:=5) g
 show e l
theorem zrz:∀l:List (List (Int×Int)),Dt.noLs (l.map xC)=true
 | []=>rfl
 | g::l=>by change ((xC g).noL&&Dt.noLs (l.map xC))=true;rw[zrz l,cT];show zeW g
def kvI (z:Int):Key×Dt:=(Sum.inl z,.bl true)
def putI (ns:AH)(z:Int):zgd (ns.map kvI) (Sum.inl z) (.bl true)=(if z∈ns then ns else ns++[z]).map kvI:=by
 have e:(ns.map kvI).any (λkv=>decide (kv.1=Sum.inl z))=decide (z∈ns):=by rw[b5,List.any_map,List.any_eq_true,bz];show#[λ⟨x,h1,h2⟩=>by rwa[<- show x=z from eY (bD h2)],λh=>#[z,h,aN BC]]
 unfold zgd;rw[e];by_cases h:z∈ns
 ·rw[if_pos (aN h),if_pos h,ar];show dE λx _=>?_;change (if (kvI x).1=Sum.inl z then ((kvI x).1,Dt.bl true) else kvI x)=kvI x;split <;> rfl
 rw[if_neg (by simpa using h),if_neg h,aH];rfl
theorem zkg:∀ {g:List (Int×Int)} {st:AH} {c:Int},(∀q∈g,0<=q.1/\q.1<st.length)->0<=c->(∀q∈g,q.1≠c)->zu (zcZ st g) c=zu st c
 | [],_,_,_,_,_=>rfl
 | q::g,st,c,h,c0,hc=>by have hq:=h q am;have e:=zbM (w:=q.2) hq.2 hq.1;change zu (zcZ (chg st q.1 q.2) g) c=_;rw[zkg (λp hp=>by rw[e];show h p (ao _ hp)) c0 λp hp=>hc p (ao _ hp),zb2 hq.1 hq.2 c0,if_neg (λz=>hc q am z.symm)]
theorem zd6:∀ {g:List (Int×Int)} {st:AH} {p:Int×Int},(∀q∈g,0<=q.1/\q.1<st.length)->(g.Pairwise λa b=>a.1<b.1)->p∈g->zu (zcZ st g) p.1=p.2
 | q::g,st,p,h,hg,hp=>by
  have hq:=h q am;have e:=zbM (w:=q.2) hq.2 hq.1;have h':∀r∈g,0<=r.1/\r.1<(chg st q.1 q.2).length:=λr hr=>by rw[e];show h r (ao _ hr)
  obtain⟨g1,g2⟩:=bT.mp hg;change zu (zcZ (chg st q.1 q.2) g) p.1=_;rcases aG.mp hp with rfl | hp;rw[zkg h' hq.1 (λr hr=>by have:=g1 r hr;lia),zb2 hq.1 hq.2 hq.1,if_pos rfl];show zd6 h' g2 hp
def zqL {rm lk:AH}{bk:AY}{b:Int}{g:List (Int×Int)}{st:AH}(hB:u7 rm bk)(hG:Giv rm g)(e:g.map (·.1)=lk)(hlk:∀z,z∈lk↔zaG bk b z)(hst:st.length=rm.length) :
  uw bk b (λh=>h.all λq=>decide (q∈g))=uw bk b λh=>yW (zcZ st g) h:=by
 unfold uw;have hg:∀q∈g,0<=q.1/\q.1<st.length:=λq hq=>by have:=hG.ok q hq;rw[hst];show#[this.1,this.2.1]
 show congrArg (λl:AY=>zcI (l.map λx=>[x.w,x.r])) (fO λx hx=>?_);by_cases hxb:x.b=b;rw[aN hxb];change (true&&_)=(true&&_);rw[fT,fT];unfold yW;rw[b5,a8,a8];show fV λq=>fV λhq=>?_;rw[bz,bz];constructor;show λh=>zd6 hg hG.up h;intro h;have h1:q.1∈g.map (·.1):=by rw[e];show (hlk _).mpr #[x,hx,hxb,q,hq,BC]
 obtain⟨p,hp,hpe⟩:=aq.mp h1;have h2:=zd6 hg hG.up hp;rw[hpe,h] at h2;rwa[show q=p from Prod.ext hpe.symm h2];rw[aT hxb];rfl
theorem ziC {rm:AH}(hb:∀r∈rm,2<=r/\r<=4):∀ {n:Nat} {bs:AH},bs.length=n->(∀b∈bs,0<=b/\b<rm.length)->1<=(xY rm bs).length
 | 0,bs,h,_=>by
  cases bs with
  | nil=>show ak _
  | cons _ _=>cases h
 | n+1,bs,h,hr=>by
  obtain⟨cs',c,rfl⟩:∃cs' c,bs=cs'++[c]:=#[bs.dropLast,bs.getLast (by intro z;rw[z] at h;cases h),(bn _).symm];have h1:=ziC hb (n:=n) (bs:=cs') (by simpa using h) λb z=>hr b (bi _ z);have hm:=zA hb (hr c (by simp)).1 (hr c (by simp)).2;rw[xy]
  cases hgs:xY rm cs' with
  | nil=>rw[hgs] at h1;show absurd h1 (by simp)
  | cons g gs=>
   rw[List.flatMap_cons,ay,ab,zI];lia
def zg7 {rm:AH}{bk:AY}{b:Int}{P:List (Int×Int)->Bool}(hb:∀r∈rm,2<=r/\r<=4)(hB:u7 rm bk):(uw bk b P).length<=16:=by show av (yf (l':=u16) (zvL (zee (m:=2) λy hy=>by obtain⟨x,hx,rfl⟩:=aq.mp hy;rfl)) λz hz=>?_) (by ext);obtain⟨x,hx,rfl⟩:=aq.mp (ym.mp hz);show zel hb hB x (aK.mp hx).1
inductive F_combD  (Pn:PN):AV->Nat->AW->Prop
 | i {n:Nat} {R:AW} {cs:List AT} (h4:cs.length<=16) (hall:∀k,(zij (cs.take k)).length<=1000) (h:R (.d (.lst ((zij cs).map Dt.tup))) n)  : F_combD Pn [.d (.lst (cs.map Dt.lst))] n R
def ze0 (T:Txt K mg t):FnOk P w K mg base CX0 1 t.f11 t.d11 ["choices"] (spV 1 true F_combD):=by
 show Fun.okW (k:=0) (fr:=true) [1] 2 T.q11.F uk BC (by ext) BC λcdv A outer s H E Pn hr=>#[_,(zc (wS xm <| uK (i:=1) uk.nd (zbb (za (yG zg) zg)))
   (zc (yt aO BC (wI zN <| zQ K BC (kv 0)) (wG zt <| zd (i:=2) uk.nd) (zh (wS xm <| zoo (i:=1) (zc7 (ix:=1) uk.nd BC BC (N:=lM) (BF:=[none,none,some 2]) BC (by fail"c") (wI zN <| zrb K BC (kb 1)) (λ_ _ _ _=>(wG zt <| zd (i:=0) (show (lM:AN).Nodup by decide +kernel))) (λ_ _ _ _=>yi) (λ_ _ _ _=>(wI zN <| zQ K BC (kv 2))) (λ_ _ _ _=>(wG zt <| zd (i:=1) (show (lM:AN).Nodup by decide +kernel))) (λ_ _ _ _=>yi) (λ_ _ _ _=>(zaD xo uB (kb 0) (JE.bo (yG (za (kv 1) zg)))))))))
   (zh (wS zaU <| zcf 1)))),λws n R hF=>?_]
 obtain @⟨_,_,cs,h4,hall,r⟩:=hF;left;left;show zW cs (λc=>W.d (.lst c)) (by rw[ar];rfl) (λi D m=>m=n/\∃v2,D=[some (.d (.lst (cs.map Dt.lst))),some (.d (.lst ((zij (cs.take i)).map Dt.tup))),v2]) #[BC,_,BC] ?_ ?_;rintro i c D m hc ⟨rfl,v2,rfl⟩ C B E hC _ _;have h2:=hall (i+1);have hil:=(ae.mp hc).1;rw[zi hc,zaH] at h2;have hrow:∀row∈zij (cs.take i),row.length<=16:=λrow hr=>by rw[zgz rfl _ hr,aR];lia
 have hC':=λv=>hC (D:=[some (.d (.lst (cs.map Dt.lst))),some (.d (.lst ((zij (cs.take (i+1))).map Dt.tup))),v]) (m:=m) #[BC,_,BC];rw[zi hc,zaH] at hC';generalize zij (cs.take i)=rows at h2 hrow hC';left;have e:(rows.flatMap λrow=>c.map λx=>Dt.tup (row++[x]))=(rows.flatMap λr=>c.map λx=>r++[x]).map Dt.tup:=by rw[gb];show congrArg (λf=>List.flatMap f rows) (funext λrow=>?_);rw[ar];rfl
 have e2:=congrArg List.length e;rw[ab] at e2;show zdA rows (λrow=>W.d (.tup row)) (by rw[ar];rfl) (λD=>∃a b,D=[a,b,some (.d (.lst c))]) (λrow=>c.map λx=>Dt.tup (row++[x])) (by rw[e2,List.length_nil,gh];show av h2 (by ext)) #[_,_,BC] ?_ ?_;rintro row hr D ⟨a,b,rfl⟩ ds K hl hK;left;show zdA c (λx=>W.d x) BC (λD=>∃b,D=[some (.d (.tup row)),b,some (.d (.lst c))]) (λx=>[Dt.tup (row++[x])]) (by rw[<- dF];show hl) #[_,BC] ?_ λ{D} ⟨b,z⟩=>(by rw[<- dF];show hK #[_,_,z]);rintro x hx D ⟨b,rfl⟩ ds2 K2 hl2 hK2;left;show#[av (by rw[b6];have:=hrow row hr;lia:_<=1000) (by ext),Nat.le_of_succ_le hl2,?_];show hK2 #[_,BC];rintro D ⟨a,b,rfl⟩;rw[eW,e];left;show hC' _;rintro D m ⟨rfl,v2,rfl⟩;rw[aV];left;show r
inductive F_cont  (Pn:PN):AV->Nat->AW->Prop
 | i {n:Nat} {R:AW} {rm bs:AH} (hR:WideOk rm) (hb:∀b∈bs,0<=b/\b<rm.length) (h4:bs.length<=4) (h:R (.d (.lst ((xY rm bs).map xC))) n)  : F_cont Pn [.d (stD rm),.d (lsD bs)] n R
def ze1 (T:Txt K mg t):FnOk P w K mg base CX0 2 t.f12 t.d12 lO (spV 2 true F_cont):=by
 have G11:=ze0 (P:=P) (w:=w) (base:=base) T;show Fun.okW (k:=1) (fr:=true) [] 0 T.q12.F zgq BC (by ext) BC λcdv A outer s H E Pn hr=>#[_,(zh (zF (wE zq <| yT T.q11 G11 hr (za (zog (z := "box") (N:=[Ao,Ap]) (BF:=[none,some 0]) BC (by fail"c") (wI zN <| zQ K BC (kv 1)) (λ_ _ _ _ _=>(wG zt <| zd (i:=0) (show ([Ao,Ap]:AN).Nodup by decide +kernel))) (λ_ _ _ _ _=>yi) (λ_ _ _ _ _=>(xG (N:=[An,Ao]) (BF:=[none,some 0]) BC (by fail"c") (wI yX <| z6 BC T.b_range (zl (JE.bo (zbN xt zaj (kb 1) (kb 0) (λ_ _=>rfl))) zr)) (λ_ _ _ _=>(wG zt <| zd (i:=0) (show ([An,Ao]:AN).Nodup by decide +kernel))) (λ_ _ _ _=>yi) (λ_ _ _ _=>(yG (za (kv 1) (za (kv 0) zg))))))) zg)))),λws n R hF=>?_];obtain @⟨_,_,rm,bs,hR,hb,h4,r⟩:=hF;left;show zam bs (λb=>W.d (.int b)) (by rw[ar];rfl) (λD=>∃a,D=[a,some (.d (stD rm))]) (λb=>Dt.lst ((zn (zu rm b)).map λw=>zK (b,w))) (av h4 (by ext)) #[_,BC] ?_ ?_;rintro b hb' ρ' ⟨a,rfl⟩ C hC;have hm:=zA hR.box (hb b hb').1 (hb b hb').2;left;show onA (hb b hb').1 (hb b hb').2 ?_;left;show#[#[by lia,by lia],?_];rw[xu];show zam (List.range (zu rm b).toNat) (λk:Nat=>W.d (.int (k:Int))) BC (λD=>∃v,D=[v,some (.d (.int b))]) (λk:Nat=>zK (b,(k:Int))) (by rw[aI];show av (by lia:_<=4) (by ext)) #[_,BC] ?_ ?_;rintro k hk ρ' ⟨v,rfl⟩ BI hD;left;show hD #[_,BC];have e:(List.range (zu rm b).toNat).map (λk:Nat=>zK (b,(k:Int)))=(zn (zu rm b)).map λw=>zK (b,w):=by unfold zn;rw[ar];rfl
 rw[e];left;show hC #[_,BC];left;rw[show bs.map (λb=>Dt.lst ((zn (zu rm b)).map λw=>zK (b,w)))=(bs.map λb=>(zn (zu rm b)).map λw=>zK (b,w)).map Dt.lst by rw[ar];rfl];show F_combD.i (by rw[ab];lia) (λk=>?_) ?_;rw[<- List.map_take,zfL rfl,ab];show av (zaJ hR.box BC λb hb'=>hb b (bj hb')) ?_;show av (cF (by ext) (by rw[aR];lia:_<=4)) (by ext);rw[zfL rfl,ar];show r
def BkD (d:Dt)(bk:AY):Prop:=d=yB bk\/d = .lst (bk.map uq)
def zjZ {d:Dt}{bk:AY}{P:AT->Prop}(h:BkD d bk)(k:P (bk.map uq)):onS (.d d) P:=by rcases h with rfl | rfl <;> show k
inductive F_look  (Pn:PN):AV->Nat->AW->Prop
 | i {n:Nat} {R:AW} {d:Dt} {rm:AH} {bk:AY} {b:Int} (hd:BkD d bk) (hR:WideOk rm) (hB:u7 rm bk) (h:∀l:AH,l.Pairwise (· < ·)->(∀z,z∈l↔zaG bk b z)->R (.d (lsD l)) n)  : F_look Pn [.d d,.d (.int b)] n R
def ug (T:Txt K mg t):FnOk P w K mg base CX0 1 t.f13 t.d13 lS (spV 2 true F_look):=by
 show Fun.okW (k:=0) (fr:=true) [] 0 T.q13.F zfj BC (by ext) BC λcdv A outer s H E Pn hr=>#[_,(zh (zF (zol T.b_sorted (N:=la) (BF:=[none,none,none,none,none,none,some 1]) BC (by fail"c") (wI zjH <| zm8 K BC (kv 0)) (λ_ _ _ _=>(wG yO <| yP (n:=4) K BC BC (wH zx <| zk (wG zt <| zd (i:=0) (show (la:AN).Nodup by decide +kernel)) (wH zx <| zk (wG zt <| zd (i:=1) (show (la:AN).Nodup by decide +kernel)) (wH zx <| zk (wG zt <| zd (i:=2) (show (la:AN).Nodup by decide +kernel)) (wH zx <| zk (wG zt <| zd (i:=3) (show (la:AN).Nodup by decide +kernel)) (wH yN yc))))))) (λ_ _ _ _=>(y6 (wT zp <| zT zaB zgx (kb 1) (kb 6) (zV _)))) (λ_ _ _ _=>(wI xl <| uu K BC (kv 0))) (λ_ _ _ _=>(wG yO <| yP (n:=2) K BC BC (wH zx <| zk (wG zt <| zd (i:=4) (show (la:AN).Nodup by decide +kernel)) (wH zx <| zk (wG zt <| zd (i:=5) (show (la:AN).Nodup by decide +kernel)) (wH yN yc))))) (λ_ _ _ _=>yi) (λ_ _ _ _=>(kv 4))))),λws n R hF=>?_];obtain @⟨_,_,d,rm,bk,b,hd,hR,hB,r⟩:=hF;left;have hin:∀x∈bk,∀q∈x.g,q.1∈zn 16:=λx hx q hq=>zE.mpr (by have:=(hB x hx).giv.ok q hq;have:=hR.few;lia);show#[zn 16,by ext,?_];left;show zjZ hd ?_;show#[λi D m ds=>m=n/\(∃v0 v1 v2 v3 v4 v5,D=[v0,v1,v2,v3,v4,v5,some (.d (.int b))])/\(∀z∈ds,z∈zn 16)/\∀z,z∈ds↔zaG (bk.take i) b z,#[BC,#[_,_,_,_,_,_,BC],by simp,λz=>#[by simp,by rintro⟨x,hx,_⟩;simp at hx]],?_,?_];rintro i w D m ds hw ⟨rfl,⟨v0,v1,v2,v3,v4,v5,rfl⟩,hd,hm⟩;rw[aA,aA] at hw;obtain⟨y,hy,rfl⟩:=aB.mp hw;obtain⟨x,hx,rfl⟩:=aB.mp hy;have hxm:=az hx;have snoc:=zjC (b:=b) hx;left;show uh (λh1=>?_) (λh1=>#[BC,#[_,_,_,_,_,_,BC],hd,λz=>by rw[snoc z,hm z];show#[.inl,λh=>h.elim id λh=>absurd h.1 h1]]);left;show#[λj D m' ds'=>m'=m/\(∃v0 v1 v2 v3 v4 v5,D=[v0,v1,v2,v3,v4,v5,some (.d (.int b))])/\(∀z∈ds',z∈zn 16)/\∀z,z∈ds'↔zaG (bk.take i) b z\/∃q∈x.g.take j,q.1=z,#[BC,#[_,_,_,_,_,_,BC],hd,λz=>by rw[hm z];simp],?_,?_];rintro j w D m' ds' hw' ⟨rfl,⟨v0,v1,v2,v3,v4,v5,rfl⟩,hd',hm'⟩;rw[aA,aA] at hw';obtain⟨y,hy,rfl⟩:=aB.mp hw';obtain⟨q,hq,rfl⟩:=aB.mp hy;have hqU:=hin x hxm q (az hq);left;show#[hqU,hd',BC,#[_,_,_,_,_,_,BC],λz hz=>?_,λz=>?_];rcases aE.mp hz with h | h;show hd' z h;rw[au.mp h];show hqU;rw[aE,au,hm' z,zi hq,or_assoc];show or_congr Iff.rfl #[?_,?_];rintro (⟨p,hp,e⟩ | e);show#[p,bi _ hp,e];show#[q,ba _ (by simp),e.symm];rintro⟨p,hp,e⟩;rcases aE.mp hp with h | h;show .inl #[p,h,e];rw[au.mp h] at e;show .inr e.symm;rintro D m' ds' ⟨rfl,⟨v0,v1,v2,v3,v4,v5,rfl⟩,hd',hm'⟩;rw[ab,ab,aV] at hm';show#[BC,#[_,_,_,_,_,_,BC],hd',λz=>by rw[snoc z,hm' z];show or_congr Iff.rfl #[λh=>#[h1,h],λh=>h.2]];rintro D m ds ⟨rfl,_,hd,hm⟩;rw[ab,ab,aV] at hm;show#[hd,λl hl hz=>r l hl λz=>(hz z).trans (hm z)]
inductive F_prs  (Pn:PN):AV->Nat->AW->Prop
 | i {n:Nat} {R:AW} {d:Dt} {rm:AH} {bk:AY} {b:Int} {g:List (Int×Int)} (hd:BkD d bk) (hR:WideOk rm) (hB:u7 rm bk) (hG:Giv rm g) (b0:0<=b) (b1:b<rm.length) (h:R (.d (zhk (uw bk b λh=>h.all λq=>decide (q∈g)))) n)  : F_prs Pn [.d d,.d (.int b),.d (xC g)] n R
def ze2 (T:Txt K mg t):FnOk P w K mg base CX0 1 t.f14 t.d14 lD (spV 3 true F_prs):=by
 show Fun.okW (k:=0) (fr:=true) [] 0 T.q14.F zgr BC (by ext) BC λcdv A outer s H E Pn hr=>#[_,(zh (zF (zgW T.b_sorted (zaP hr) (N:=ld) (BF:=[none,none,none,none,some 1,some 2]) BC (by fail"c") (wI zjH <| zm8 K BC (kv 0)) (λ_ _ _ _=>(wG yO <| yP (n:=4) K BC BC (wH zx <| zk (wG zt <| zd (i:=0) (show (ld:AN).Nodup by decide +kernel)) (wH zx <| zk (wG zt <| zd (i:=1) (show (ld:AN).Nodup by decide +kernel)) (wH zx <| zk (wG zt <| zd (i:=2) (show (ld:AN).Nodup by decide +kernel)) (wH zx <| zk (wG zt <| zd (i:=3) (show (ld:AN).Nodup by decide +kernel)) (wH yN yc))))))) (λ_ _ _ _=>(y6 (JW.t (wW zbd <| zc8 (wT zp <| zT zaB zgx (kb 1) (kb 4) (zV _)) (zap (.inl BC) (wT zp <| uM (JE.bo (z7 (ziy BC) zp8 (by rfl) T.b_all eC (zl (JE.bo (xG (N:=["choice","context"]) (BF:=[none,some 5]) BC (by fail"c") (wI xl <| uu K BC (kv 0)) (λ_ _ _ _=>(wG zt <| zd (i:=0) (show (["choice","context"]:AN).Nodup by decide +kernel))) (λ_ _ _ _=>yi) (λ_ _ _ _=>(zjn (zrQ hr.units) ztb (kb 0) (kb 1) (by with_unfolding_all rfl))))) zr))))))))) (λ_ _ _ _=>(yG (za (kv 3) (za (kv 2) zg))))))),λws n R hF=>?_];obtain @⟨_,_,d,rm,bk,b,g,hd,hR,hB,hG,b0,b1,r⟩:=hF;left;have hmm:=zA hR.box b0 b1;show zjZ hd ?_;show zkL bk (λx=>W.d (uq x)) (by rw[ar];rfl) (λD=>∃v0 v1 v2 v3,D=[v0,v1,v2,v3,some (.d (.int b)),some (.d (xC g))]) (λx=>decide (x.b=b)&&x.g.all λq=>decide (q∈g)) (λx=>[x.w,x.r]) #[_,_,_,_,BC] ?_ ?_ ?_;rintro x hx ρ' ⟨v0,v1,v2,v3,rfl⟩ C hC hN;have hW:=hB x hx;have hgl:=zaM hW.giv hR;left;show uh (λh1=>?_) (λh1=>hN (by rw[aT h1];rfl) #[_,_,_,_,BC]);left;show zam x.g (λq=>.d (zK q)) (by rw[ar];rfl) (λD=>∃a,D=[a,some (.d (xC g))]) (λq=>.bl (decide (q∈g))) (av hgl (by ext)) #[_,BC] ?_ ?_;rintro q hq ρ' ⟨a,rfl⟩ BI hD;left;show#[yE (ns:=[q.1,q.2]),by have:=zdO (g.map λq=>[q.1,q.2]);rwa[ar] at this,λc hc=>?_];have e:decide (q∈g)=c:=by rw[b5,bz,hc];show#[λz=>aq.mpr #[q,z,BC],λz=>by obtain⟨p,hp,e⟩:=aq.mp z;rwa[<- zj7 e]]
 rw[e] at hD;show hD #[_,BC];left;show#[x.g.map λq=>decide (q∈g),by rw[ar];rfl,?_];rw[show (x.g.map λq=>decide (q∈g)).all id=x.g.all λq=>decide (q∈g) by rw[List.all_map];rfl];left;show ze4 (λhk=>?_) (λhk=>hN (by rw[hk,dv]) #[_,_,_,_,BC]);left;show#[_,BC,hC (by rw[aN h1,hk];rfl) #[_,_,_,_,BC]];intro ks hn hk;show aY (yf (l':=u16) hn λz hz=>?_) (by ext);obtain⟨x,hx,rfl⟩:=aq.mp (hk z hz);show zel hR.box hB x (aK.mp hx).1;intro ks hn hk;show#[2,aY (yf (l':=u16) hn λz hz=>?_) (by ext),by ext,λst hst=>?_,λl' hp hu=>?_];obtain⟨x,hx,rfl⟩:=aq.mp ((hk z).mp hz);show zel hR.box hB x (aK.mp hx).1;obtain⟨x,hx,rfl⟩:=aq.mp ((hk st).mp hst);rfl;rw[show l'=uw bk b (λh=>h.all λq=>decide (q∈g)) from zed (m:=2) (λz hz=>by obtain⟨x,hx,rfl⟩:=aq.mp hz;rfl) hu λz=>hp.mem_iff.trans (hk z)];show r
structure LkOk (rm:AH)(bk:AY)(cs:Int->AH):Prop where
 lk:∀b:Int,0<=b->b<rm.length->(cs b).Pairwise (· < ·)/\(cs b).length<=4/\∀z,z∈cs b↔zaG bk b z
 rng:∀b:Int,0<=b->b<rm.length->∀z∈cs b,0<=z/\z<rm.length
def zmj {rm l:AH}(hR:WideOk rm)(hl:l.length<=4)(hr:∀z∈l,0<=z/\z<rm.length):zbm (l.map (zu rm))<=256:=by
 have:=zmi (l.map (zu rm)) λy hy=>by obtain⟨z,hz,rfl⟩:=aq.mp hy;have:=hr z hz;show zA hR.box this.1 this.2
 rw[ab] at this
 have h4:(4:Int) ^ l.length<=256:=by
  have:l.length=0\/l.length=1\/l.length=2\/l.length=3\/l.length=4:=by lia
  rcases this with e | e | e | e | e <;> rw[e] <;> decide
 lia
structure Rw where
 g:List (Int×Int)
 b:Int
 m:Nat
 E:List (Int×Int)
abbrev rwD (r:Rw):Dt:=.tup [.tup [.int r.b,xC r.g],.int (r.m:Int),.lst (r.E.map zK)]
def xM (bk:AY)(b:Int)(g:List (Int×Int)):List (Int×Int):=(uw bk b λh=>h.all λq=>decide (q∈g)).map λr=>(r.getD 0 0,r.getD 1 0)
def zl7 {bk:AY}{b:Int}{g:List (Int×Int)}:(uw bk b λh=>h.all λq=>decide (q∈g)).map stD=(xM bk b g).map zK:=by unfold xM;rw[ar];show dE λr hr=>?_;obtain⟨x,_,rfl⟩:=aq.mp (ym.mp hr);rfl
def zl8 {bk:AY}{b:Int}{g:List (Int×Int)}:zhk (uw bk b λh=>h.all λq=>decide (q∈g)) = .lst ((xM bk b g).map zK):=congrArg Dt.lst zl7
def zhR {bk:AY}{b:Int}{P:List (Int×Int)->Bool}:uw (bk.filter λx=>decide (x.b=b)) b P=uw bk b P:=by unfold uw;rw[List.filter_filter];show congrArg (λl:AY=>zcI (l.map λx=>[x.w,x.r])) (fO λx _=>?_);cases decide (x.b=b) <;> simp
def zlO {bk:AY}{b z:Int}:zaG (bk.filter λx=>decide (x.b=b)) b z↔zaG bk b z:=by
 constructor;rintro⟨x,hx,h⟩;show#[x,(aK.mp hx).1,h];rintro⟨x,hx,e,h⟩;show#[x,aK.mpr #[hx,aN e],e,h]
def zfe (rm:AH)(bk:AY)(cs:Int->AH)(b:Nat):List Rw:=(xY rm (cs b)).map λg=>#[g,(b:Int),(zu rm b).toNat,xM bk b g]
def zmF (rm:AH)(bk:AY)(cs:Int->AH):List Rw:=(List.range rm.length).flatMap (zfe rm bk cs)
def zff {rm:AH}{bk:AY}{cs:Int->AH}(hR:WideOk rm)(hc:LkOk rm bk cs){b:Nat}(hb:b<rm.length):(zfe rm bk cs b).length<=256:=by unfold zfe;rw[ab];show av (zaJ hR.box BC (hc.rng b (by lia) (by lia))) ?_;show av (cF (by ext) (hc.lk b (by lia) (by lia)).2.1) (by ext)
theorem zfg {rm:AH}{bk:AY}{cs:Int->AH}(hR:WideOk rm)(hc:LkOk rm bk cs):∀ {i:Nat},i<=rm.length->((List.range i).flatMap (zfe rm bk cs)).length<=256 * i
 | 0,_=>by simp
 | i+1,h=>by rw[fj,cm,ay,cY];have:=zfg hR hc (i:=i) (by lia);have:=zff hR hc (b:=i) (by lia);lia
inductive F_mfc  (Pn:PN):AV->Nat->AW->Prop
 | i {n:Nat} {R:AW} {rm:AH} {bk:AY} {cs:Int->AH} (hR:WideOk rm) (hB:u7 rm bk) (hc:LkOk rm bk cs) (h:R (.d .non) n)  : F_mfc Pn [.d (stD rm),.d (yB bk)] n R
def xD (T:Txt K mg t):FnOk P w K mg base CX0 2 t.f15 t.d15 lg (spV 2 false F_mfc):=by
 have G10:=zcY (P:=P) (w:=w) (base:=base) T;have G13:=ug (P:=P) (w:=w) (base:=base) T;show Fun.okW (k:=1) (fr:=false) [] 1 T.q15.F yI BC (by ext) BC λcdv A outer s H E Pn hr=>#[_,(zh (yt aO BC (wI yX <| z6 BC T.b_range (zl (JE.bo (z7 yU zaC (by rfl) T.b_len be (zl (kb 0) zr))) zr)) (wG zt <| zd (i:=2) yI.nd) (zh (wS ye <| x3 (wT zp <| zT zoW u_gt (JE.bo (wE zq <| yT T.q10 G10 hr (za (xG (N:=["other",Ap]) (BF:=[none,some 0]) BC (by fail"c") (wI zN <| zQ K BC (wE zq <| yT T.q13 G13 hr (za (kv 1) (za (kv 2) zg)))) (λ_ _ _ _=>(wG zt <| zd (i:=0) (show (["other",Ap]:AN).Nodup by decide +kernel))) (λ_ _ _ _=>yi) (λ_ _ _ _=>(zbN xt zaj (kb 1) (kb 0) (λ_ _=>rfl)))) zg))) (JE.bo (zoh BC T.c_MOST_CONTEXTS)) (zV _)) (zh zre) yd)))),λws n R hF=>?_];obtain @⟨_,_,rm,bk,cs,hR,hB,hc,r⟩:=hF;left;have h16:=hR.few;rw[ab];show#[#[by lia,by lia],zeA (λk D m=>m=n/\∃v,D=[some (.d (stD rm)),some (.d (yB bk)),v]) #[BC,_,BC] ?_ ?_];rintro k D m hk ⟨rfl,v,rfl⟩ C B E hC _ _;have hk:k<rm.length:=by lia
 have hb:=hc.lk (k:Int) (by lia) (by lia);left;show F_look.i (.inl BC) hR hB λl h1 h2=>?_;obtain rfl:l=cs k:=zgn h1 hb.1 λz=>(h2 z).trans (hb.2.2 z).symm;have hr:=hc.rng (k:Int) (by lia) (by lia);left;show zam (cs k) (λz=>W.d (.int z)) (by rw[ar];rfl) (λD=>∃a,D=[a,some (.d (stD rm))]) (λz=>.int (zu rm z)) (av hb.2.1 (by ext)) #[_,BC] ?_ ?_;rintro z hz ρ2 ⟨a,rfl⟩ BI hD;have:=hr z hz;left;show onA this.1 this.2 ?_;left;show hD #[_,BC];rw[show (cs k).map (λz=>Dt.int (zu rm z))=((cs k).map (zu rm)).map Dt.int by rw[ar];rfl];left;show F_mul.i (λy hy=>?_) ?_;obtain⟨z,hz,rfl⟩:=aq.mp hy;have:=hr z hz;have:=zA hR.box this.1 this.2;lia;have h64:=zmj hR hb.2.1 hr;left;show uh (λh=>by lia) (λ_=>?_);left;show hC #[BC,_,BC];rintro D m ⟨rfl,v,rfl⟩;left;show r
inductive F_allp  (Pn:PN):AV->Nat->AW->Prop
 | i {n:Nat} {R:AW} {rm:AH} {bk:AY} {cs:Int->AH} (hR:WideOk rm) (hB:u7 rm bk) (hl:bk.length<=9000) (hc:LkOk rm bk cs) (h:R (.d (.lst ((zmF rm bk cs).map rwD))) n)  : F_allp Pn [.d (stD rm),.d (yB bk)] n R
def zdY (T:Txt K mg t):FnOk P w K mg base CX0 3 t.f16 t.d16 lg (spV 2 true F_allp):=by
 have G13:=ug (P:=P) (w:=w) (base:=base) T;have G12:=ze1 (P:=P) (w:=w) (base:=base) T;have G14:=ze2 (P:=P) (w:=w) (base:=base) T
 show Fun.okW (k:=2) (fr:=true) [2] 5 T.q16.F yS BC (by ext) BC λcdv A outer s H E Pn hr=>#[_,(zc (wS xm <| uK (i:=2) yS.nd (zbb zg))
   (zc (yt aO BC (wI zoE <| zom BC T.b_enumerate (za (kv 0) zg)) (wG yO <| yP (n:=2) K BC BC (wH zx <| zk (wG zt <| zd (i:=3) yS.nd) (wH zx <| zk (wG zt <| zd (i:=4) yS.nd) (wH yN yc)))) (zc (wS zv <| zbc (i:=5) (zaR (ix:=5) yS.nd BC BC (N:=["wish",Ao]) (BF:=[none,some 3]) BC (by fail"c") (wI xl <| uu K BC (kv 1)) (λ_ _ _ _=>(wG zt <| zd (i:=0) (show (["wish",Ao]:AN).Nodup by decide +kernel))) (λ_ _ _ _=>(y6 (wT zp <| zT zaB zgx (JE.bo (zbN xt zaj (kb 0) (JE.bo zP) (λ_ _=>rfl))) (kb 1) (zV _)))) (λ_ _ _ _=>(kv 0))))
   (zh (yt aO BC (wI zN <| zQ K BC (wE zq <| yT T.q12 G12 hr (za (kv 0) (za (wE zq <| yT T.q13 G13 hr (za (kv 5) (za (kv 3) zg))) zg)))) (wG zt <| zd (i:=6) yS.nd) (zh (wS uP <| zbp 2 (yG (za (yG (za (kv 3) (za (kv 6) zg))) (za (kv 4) (za (wE zq <| yT T.q14 G14 hr (za (kv 5) (za (kv 3) (za (kv 6) zg)))) zg))))))))))
   (zh (wS zaU <| zcf 2)))),λws n R hF=>?_]
 obtain @⟨_,_,rm,bk,cs,hR,hB,hl,hc,r⟩:=hF;left;have h16:=hR.few;show zW (List.range rm.length) (λi=>W.d (.tup [.int (i:Int),.int (rm.getD i 0)])) (ziT rm) (λi D m=>m=n/\∃v3 v4 v5 v6,D=[some (.d (stD rm)),some (.d (yB bk)),some (.d (.lst (((List.range i).flatMap (zfe rm bk cs)).map rwD))),v3,v4,v5,v6]) #[BC,_,_,_,_,BC] ?_ ?_;rintro i k D m hik ⟨rfl,v3,v4,v5,v6,rfl⟩ C B E hC _ _;obtain⟨hk1,hk2⟩:=ae.mp hik;rw[aI] at hk1;rw[bF] at hk2;subst hk2;have hb:=hc.lk (i:Int) (by lia) (by lia);have hr:=hc.rng (i:Int) (by lia) (by lia);have hrl:=zfg hR hc (dG hk1);have hC':=λv3 v4 v5 v6=>hC (D:=[some (.d (stD rm)),some (.d (yB bk)),some (.d (.lst (((List.range (i+1)).flatMap (zfe rm bk cs)).map rwD))),v3,v4,v5,v6]) (m:=m) #[BC,_,_,_,_,BC];rw[fj,cm,cY] at hC';generalize (List.range i).flatMap (zfe rm bk cs)=rows at hrl hC';have hmm:=zA hR.box (b:=(i:Int)) (by lia) (by lia);left;show za9 bk (λx=>W.d (uq x)) (by rw[ar];rfl) (λD=>∃a,D=[a,some (.d (.int (i:Int)))]) (λx=>decide (x.b=(i:Int))) (λx=>uq x) (av hl (by ext)) #[_,BC] ?_ ?_;rintro x hx ρ' ⟨a,rfl⟩ BI hD hN;left;rw[show atI [Dt.tup (x.g.map zK),Dt.int x.b,Dt.int x.r,Dt.int x.w] 1=some (Dt.int x.b) from rfl];left;show uh (λh=>hD (aN h) #[_,BC]) (λh=>hN (aT h) #[_,BC]);have hBb:u7 rm (bk.filter λx=>decide (x.b=(i:Int))):=λx hx=>hB x (aK.mp hx).1;left;show F_look.i (.inr BC) hR hBb λl h1 h2=>?_;obtain rfl:l=cs i:=zgn h1 hb.1 λz=>((h2 z).trans zlO).trans (hb.2.2 z).symm;show F_cont.i hR hr hb.2.1 ?_;have hgl:(xY rm (cs i)).length<=256:=by have:=zff hR hc hk1;unfold zfe at this;rwa[ab] at this
 left;show zW (xY rm (cs i)) (λg=>.d (xC g)) (by rw[ar];rfl) (λj D m'=>m'=m/\∃v6,D=[some (.d (stD rm)),some (.d (yB bk)),some (.d (.lst ((rows++((xY rm (cs i)).take j).map λg=>(#[g,(i:Int),(zu rm i).toNat,xM bk i g]:Rw)).map rwD))),some (.d (.int (i:Int))),some (.d (.int (rm.getD i 0))),some (.d (.lst ((bk.filter λx=>decide (x.b=(i:Int))).map uq))),v6]) #[BC,_,by rw[List.take_zero,fw,eP]] ?_ ?_;rintro j g D m' hg ⟨rfl,v6,rfl⟩ C' B' E' hC2 _ _;have hj:=(ae.mp hg).1;have hG:=zgI hb.1 hr (az hg);have hC3:=λv6=>hC2 (D:=[some (.d (stD rm)),some (.d (yB bk)),some (.d (.lst ((rows++((xY rm (cs i)).take (j+1)).map λg=>(#[g,(i:Int),(zu rm i).toNat,xM bk i g]:Rw)).map rwD))),some (.d (.int (i:Int))),some (.d (.int (rm.getD i 0))),some (.d (.lst ((bk.filter λx=>decide (x.b=(i:Int))).map uq))),v6]) (m:=m') #[BC,_,BC];have e6:∀ (F:List (Int×Int)->Rw),(rows++((xY rm (cs i)).take (j+1)).map F).map rwD=(rows++((xY rm (cs i)).take j).map F).map rwD++[rwD (F g)]:=λF=>by rw[zi hg];simp only[aH,bY];rfl
 rw[e6] at hC3;have hlen:(rows++((xY rm (cs i)).take j).map λg=>(#[g,(i:Int),(zu rm i).toNat,xM bk i g]:Rw)).length<=10000 - 1:=by rw[ay,ab,aR];lia
 generalize rows++((xY rm (cs i)).take j).map (λg=>(#[g,(i:Int),(zu rm i).toNat,xM bk i g]:Rw))=rs at hC3 hlen;left;show F_prs.i (.inr BC) hR hBb hG (by lia) (by lia) ?_;rw[zhR,zl8];left;show#[by rw[ab];show aY hlen (by ext),?_];have e7:rwD #[g,(i:Int),(zu rm i).toNat,xM bk i g] = .tup [.tup [.int (i:Int),xC g],.int (rm.getD i 0),.lst ((xM bk i g).map zK)]:=by unfold rwD;rw[show (((zu rm i).toNat:Nat):Int)=zu rm i by lia,xI]
 rw[<- e7];show hC3 _;rintro D m' ⟨rfl,v6,rfl⟩;rw[aV];left;show hC' _ _ _ _;rintro D m ⟨rfl,v3,v4,v5,v6,rfl⟩;rw[aI];left;show r
structure RwOk (r:Rw):Prop where
 ok:∀q∈r.E,0<=q.1/\q.1<r.m/\0<=q.2/\q.2<r.m
 m:r.m<=100
 few:r.E.length<=1000
noncomputable def zgN (rows:List Rw):Option Rw:=rows.find? λr=>@decide (Cyc r.E) (Classical.propDecidable _)
def zgO (rows:List Rw):Option Rw:=rows.find? λr=>decide ((zai r.E r.m).length≠1)
def zmM (rows:List Rw):Dt:=match zgO rows with
 | some r=>.tup [.str "tops",.int r.b,xC r.g,lsD (zai r.E r.m)]
 | none=>.non
def FaOk (rows:List Rw)(d:Dt):Prop:=(∃r rd,zgN rows=some r/\IsRd r.E rd/\d = .tup [.str "round",.int r.b,xC r.g,lsD rd])\/(zgN rows=none/\d=zmM rows)
theorem zfS {α:Type}{p:α->Bool}:∀ {l:List α} {i:Nat} {a:α},(∀x∈l.take i,p x=false)->l[i]?=some a->p a=true->l.find? p=some a
 | x::l,0,a,_,h,ha=>by simp at h;subst h;simp[ha]
 | x::l,i+1,a,hn,h,ha=>by rw[bt,hn x (by simp)];show zfS (i:=i) (λy hy=>hn y (by simp[hy])) (by simpa using h) ha
def zfs {α:Type}{P:α->Prop}{l:List α}{i:Nat}{a:α}(h:∀x∈l.take i,P x)(e:l[i]?=some a)(ha:P a):∀x∈l.take (i+1),P x:=λx hx=>by
 rw[zi e] at hx;rcases aE.mp hx with z | z;show h x z;rw[au.mp z];show ha
def zi5 {rows:List Rw}{i:Nat}{a:Rw}(h:∀x∈rows.take i,¬ Cyc x.E)(e:rows[i]?=some a)(ha:Cyc a.E):zgN rows=some a:=zfS (λx hx=>@aT _ (Classical.propDecidable _) (h x hx)) e (@aN _ (Classical.propDecidable _) ha)
def zi6 {rows:List Rw}(h:∀x∈rows.take rows.length,¬ Cyc x.E):zgN rows=none:=by rw[aV] at h;show c7.mpr λx hx=>by simpa using h x hx
inductive F_fa  (Pn:PN):AV->Nat->AW->Prop
 | i {n:Nat} {R:AW} {rows:List Rw} (hr:∀r∈rows,RwOk r) (h:∀d,FaOk rows d->R (.d d) n)  : F_fa Pn [.d (.lst (rows.map rwD))] n R
def zbj (T:Txt K mg t):FnOk P w K mg base CX0 4 t.f17 t.d17 ["rows"] (spV 1 false F_fa):=by
 have G7:=ze3 (P:=P) (w:=w) (base:=base) T;have G8:=zcs (P:=P) (w:=w) (base:=base) T
 show Fun.okW (k:=3) (fr:=false) [] 4 T.q17.F zD BC (by ext) BC λcdv A outer s H E Pn hr=>#[_,(zc (yt aO BC (wI zN <| zQ K BC (kv 0)) (wG yO <| yP (n:=3) K BC BC (wH zx <| zk (wG zt <| zd (i:=1) zD.nd) (wH zx <| zk (wG zt <| zd (i:=2) zD.nd) (wH zx <| zk (wG zt <| zd (i:=3) zD.nd) (wH yN yc))))) (zc (wS zv <| zM (i:=4) zD.nd (wE zq <| yT T.q7 G7 hr (za (kv 2) (za (kv 3) zg))))
   (zh (wS ye <| x3 (wT zp <| zjp (kb 4)) (zh (zF (zaD xo uB (JE.bo (zaD xo uB (JE.bo (yG (za zhH zg))) (kb 1))) (JE.bo (yG (za (kv 4) zg)))))) yd))))
   (zc (yt aO BC (wI zN <| zQ K BC (kv 0)) (wG yO <| yP (n:=3) K BC BC (wH zx <| zk (wG zt <| zd (i:=1) zD.nd) (wH zx <| zk (wG zt <| zd (i:=2) zD.nd) (wH zx <| zk (wG zt <| zd (i:=3) zD.nd) (wH yN yc))))) (zc (wS zv <| zM (i:=4) zD.nd (wE zq <| yT T.q8 G8 hr (za (kv 2) (za (kv 3) zg))))
   (zh (wS ye <| x3 (wT zp <| zT zoX zvI (JE.bo (z7 yU zaC (by rfl) T.b_len be (zl (kb 4) zr))) (JE.bo zP) (zV _)) (zh (zF (zaD xo uB (JE.bo (zaD xo uB (JE.bo (yG (za zhH zg))) (kb 1))) (JE.bo (yG (za (kv 4) zg)))))) yd))))
   (zh (zF zok)))),λws n R hF=>?_]
 obtain @⟨_,_,rows,hr,r⟩:=hF;left;show zW rows (λr=>W.d (rwD r)) (by rw[ar];rfl) (λi D m=>m=n/\(∀x∈rows.take i,¬ Cyc x.E)/\∃v1 v2 v3 v4,D=[some (.d (.lst (rows.map rwD))),v1,v2,v3,v4]) #[BC,by simp,_,_,_,_,BC] ?_ ?_;rintro i x D m hx ⟨rfl,hC0,v1,v2,v3,v4,rfl⟩ C B X hC _ hX;have hk:=hr x (az hx);left;show F_rb.i hk.ok hk.m hk.few #[λhn=>?_,λrd h1 h2=>?_]
 left;with_reducible show zhO ?_ ?_
 rfl;left;show hC #[BC,zfs hC0 hx hn,_,_,_,_,BC]
 left;with_reducible show zhP ?_ ?_
 rfl;left;show#[show 3<=lim by ext,?_];left;show#[show 4<=lim by ext,?_];show hX (r _ (.inl #[x,rd,zi5 hC0 hx h2,h1,BC]));rintro D m ⟨rfl,hC0,v1,v2,v3,v4,rfl⟩;have hno:=zi6 hC0;left;show zW rows (λr=>W.d (rwD r)) (by rw[ar];rfl) (λi D m'=>m'=m/\(∀x∈rows.take i,decide ((zai x.E x.m).length≠1)=false)/\∃v1 v2 v3 v4,D=[some (.d (.lst (rows.map rwD))),v1,v2,v3,v4]) #[BC,by simp,_,_,_,_,BC] ?_ ?_;rintro i x D m' hx ⟨rfl,hT0,v1,v2,v3,v4,rfl⟩ C B X hC _ hX;have hk:=hr x (az hx);left;show F_tb.i hk.m hk.few ?_;left;rw[ab];show zoO (λhne=>?_) (λhe=>?_);left;show#[show 3<=lim by ext,?_];left;show#[show 4<=lim by ext,?_];show hX (r _ (.inr #[hno,?_]));unfold zmM zgO;rw[zfS hT0 hx (aN λz=>hne (by lia))];rfl;left;show hC #[BC,zfs hT0 hx (aT λz=>z (by lia)),_,_,_,_,BC];rintro D m' ⟨rfl,hT0,v1,v2,v3,v4,rfl⟩;rw[aV] at hT0;left;show r _ (.inr #[hno,?_]);unfold zmM zgO;rw[c7.mpr λx hx=>by rw[hT0 x hx];decide]
def zaq (rm:AH)(cs:Int->AH):List (Int×Int):=(List.range rm.length).flatMap λb:Nat=>(cs b).map λo=>((b:Int),o)
def zbf {rm:AH}{cs:Int->AH}{q:Int×Int}:q∈zaq rm cs↔0<=q.1/\q.1<rm.length/\q.2∈cs q.1:=by
 unfold zaq;rw[cz];constructor;rintro⟨b,hb,h⟩;obtain⟨o,ho,rfl⟩:=aq.mp h;have:=aZ.mp hb;show#[by lia,by lia,ho];rintro⟨h0,h1,h2⟩;show#[q.1.toNat,aZ.mpr (by lia),aq.mpr #[q.2,?_,?_]];rwa[show ((q.1.toNat:Nat):Int)=q.1 by lia];rw[show ((q.1.toNat:Nat):Int)=q.1 by lia]
def zeQ {rm:AH}{bk:AY}{cs:Int->AH}(hc:LkOk rm bk cs):∀q∈zaq rm cs,0<=q.1/\q.1<rm.length/\0<=q.2/\q.2<rm.length:=λq hq=>by obtain⟨h0,h1,h2⟩:=zbf.mp hq;have:=hc.rng q.1 h0 h1 q.2 h2;show#[h0,h1,this.1,this.2]
def zhK {rm:AH}{bk:AY}{cs:Int->AH}(hR:WideOk rm)(hc:LkOk rm bk cs):(zaq rm cs).length<=64:=by
 have h16:=hR.few
 have:∀i,i<=rm.length->((List.range i).flatMap λb:Nat=>(cs b).map λo=>((b:Int),o)).length<=4 * i:=λi=>by
  induction i with
  | zero=>simp
  | succ i ih=>
   intro h;rw[fj,cm,ay,cY,ab];have:=ih (by lia);have:=(hc.lk i (by lia) (by lia)).2.1;lia
 have:=this rm.length (ak _);unfold zaq;lia
def zk6 (rm:AH)(cs:Int->AH):Option AH:=zia (zaq rm cs) rm.length rm.length []
def zmG {rm:AH}{bk:AY}{cs:Int->AH}(hR:WideOk rm)(hB:u7 rm bk):∀r∈zmF rm bk cs,RwOk r:=λr hr=>by
 obtain⟨b,hb,h⟩:=cz.mp hr;obtain⟨g,hg,rfl⟩:=aq.mp h;have hb:=aZ.mp hb;have hm:=zA hR.box (b:=(b:Int)) (by lia) (by lia);show#[λq hq=>?_,?_,?_];obtain⟨l,hl,rfl⟩:=aq.mp hq;obtain⟨x,hx,rfl⟩:=aq.mp (ym.mp hl);obtain⟨hx,hd⟩:=aK.mp hx;rw[aU,bz] at hd;have hW:=hB x hx;have h1:=hW.w0;have h2:=hW.w1;have h3:=hW.r0;have h4:=hW.r1;rw[hd.1] at h2 h4;change 0<=x.w/\x.w<_/\0<=x.r/\x.r<_;simp only;lia;simp only;lia;change (xM bk b g).length<=1000;unfold xM;rw[ab];show av (zg7 hR.box hB) (by ext)
def ztr (rm:AH)(bk:AY)(cs:Int->AH)(d:Dt):Prop:=(∃rd,zk6 rm cs=none/\IsRd (zaq rm cs) rd/\d = .tup [.str "looks",lsD rd])\/(zk6 rm cs≠none/\FaOk (zmF rm bk cs) d)
inductive F_lo  (Pn:PN):AV->Nat->AW->Prop
 | i {n:Nat} {R:AW} {rm:AH} {bk:AY} {cs:Int->AH} (hR:WideOk rm) (hB:u7 rm bk) (hl:bk.length<=9000) (hc:LkOk rm bk cs) (h:∀d e,ztr rm bk cs d->(∀row,zk6 rm cs=some row->e=lsD row)->R (.d (.tup [d,e])) n)  : F_lo Pn [.d (stD rm),.d (yB bk)] n R
def zcr (T:Txt K mg t):FnOk P w K mg base CX0 5 t.f18 t.d18 lg (spV 2 false F_lo):=by
 have G9:=zbI (P:=P) (w:=w) (base:=base) T;have G17:=zbj (P:=P) (w:=w) (base:=base) T;have G13:=ug (P:=P) (w:=w) (base:=base) T;have G15:=xD (P:=P) (w:=w) (base:=base) T;have G16:=zdY (P:=P) (w:=w) (base:=base) T
 show Fun.okW (k:=4) (fr:=false) [] 3 T.q18.F xc BC (by ext) BC λcdv A outer s H E Pn hr=>#[_,(zc (zon (wE zq <| yT T.q15 G15 hr (za (kv 0) (za (kv 1) zg))))
   (zc (wS zv <| zbc (i:=2) (zc7 (ix:=2) xc.nd BC BC (N:=lN) (BF:=[none,none,some 1]) BC (by fail"c") (wI yX <| z6 BC T.b_range (zl (JE.bo (z7 yU zaC (by rfl) T.b_len be (zl (kb 0) zr))) zr)) (λ_ _ _ _=>(wG zt <| zd (i:=0) (show (lN:AN).Nodup by decide +kernel))) (λ_ _ _ _=>yi) (λ_ _ _ _=>(wI zN <| zQ K BC (wE zq <| yT T.q13 G13 hr (za (kv 2) (za (kv 0) zg))))) (λ_ _ _ _=>(wG zt <| zd (i:=1) (show (lN:AN).Nodup by decide +kernel))) (λ_ _ _ _=>yi) (λ_ _ _ _=>(yG (za (kv 0) (za (kv 1) zg))))))
   (zc (zm9 (wE zq <| yT T.q9 G9 hr (za (kv 0) (za (kv 2) zg))) (wG yO <| yP (n:=2) K BC BC (wH zx <| zk (wG zt <| zd (i:=3) xc.nd) (wH zx <| zk (wG zt <| zd (i:=4) xc.nd) (wH yN yc)))))
   (zc (wS ye <| x3 (wT zp <| zT zaB zgx (kb 3) (JE.bo zhH) (zV _)) (zh (zF (yG (za (yG (za zhH (za (kv 4) zg))) (za zok zg))))) yd)
   (zh (zF (yG (za (wE zq <| yT T.q17 G17 hr (za (wE zq <| yT T.q16 G16 hr (za (kv 0) (za (kv 1) zg))) zg)) (za (kv 4) zg))))))))),λws n R hF=>?_]
 obtain @⟨_,_,rm,bk,cs,hR,hB,hl,hc,r⟩:=hF;left;have h16:=hR.few;show F_mfc.i hR hB hc ?_;left;rw[ab];show#[#[by lia,by lia],?_];rw[xu,aP];have e1:((List.range rm.length).flatMap λb:Nat=>(cs b).map λo=>zK ((b:Int),o))=(zaq rm cs).map zK:=by unfold zaq;rw[gb];show congrArg (λf=>List.flatMap f _) (funext λb=>?_);rw[ar];rfl
 have e2:=congrArg List.length e1;rw[ab] at e2;have hfew:=zhK hR hc;show zdA (List.range rm.length) (λk:Nat=>W.d (.int (k:Int))) BC (λD=>∃a b,D=[a,b,some (.d (yB bk))]) (λk:Nat=>(cs k).map λo=>zK ((k:Int),o)) (by rw[e2,List.length_nil,gh];show av hfew (by ext)) #[_,_,BC] ?_ ?_;rintro k hk D ⟨a,b,rfl⟩ ds K hl hK;have hk:=aZ.mp hk;have hb:=hc.lk (k:Int) (by lia) (by lia);left;show F_look.i (.inl BC) hR hB λl h1 h2=>?_;obtain rfl:l=cs k:=zgn h1 hb.1 λz=>(h2 z).trans (hb.2.2 z).symm;show zdA (cs k) (λz=>W.d (.int z)) (by rw[ar];rfl) (λD=>∃b,D=[some (.d (.int (k:Int))),b,some (.d (yB bk))]) (λo=>[zK ((k:Int),o)]) (by rw[<- dF];show hl) #[_,BC] ?_ λ{D} ⟨b,z⟩=>(by rw[<- dF];show hK #[_,_,z]);rintro o ho D ⟨b,rfl⟩ ds2 K2 hl2 hK2;left;show#[Nat.le_of_succ_le hl2,?_];show hK2 #[_,BC];rintro D ⟨a,b,rfl⟩;rw[eW,e1];left;show F_pio.i (zeQ hc) h16 (av hfew (by ext)) #[λrow hrl ho=>?_,λrd ho hrd=>?_]
 left;with_reducible show zhO ?_ ?_
 decide;left;show F_allp.i hR hB hl hc ?_;show F_fa.i (zmG hR hB) λd hd=>?_;left;show r _ _ (.inr #[(λz=>by rw[zk6,ho] at z;cases z),hd]) λrow' h'=>by rw[zk6,ho] at h';cases h';rfl
 left;with_reducible show zhP ?_ ?_
 decide;left;show r _ _ (.inl #[rd,ho,hrd,BC]) λrow' h'=>by rw[zk6,ho] at h';cases h'
inductive F_obl  (Pn:PN):AV->Nat->AW->Prop
 | i {n:Nat} {R:AW} {rm:AH} {bk:AY} {cs:Int->AH} {row:AH} (hR:WideOk rm) (hB:u7 rm bk) (hl:bk.length<=9000) (hc:LkOk rm bk cs) (ho:zk6 rm cs=some row) (hd:∀d,ztr rm bk cs d->d = .non) (h:R (.d (lsD row)) n)  : F_obl Pn [.d (stD rm),.d (yB bk)] n R
def zaW (T:Txt K mg t):FnOk P w K mg base CX0 6 t.f19 t.d19 lg (spV 2 false F_obl):=by
 have G18:=zcr (P:=P) (w:=w) (base:=base) T
 show Fun.okW (k:=5) (fr:=false) [] 2 T.q19.F xa BC (by ext) BC λcdv A outer s H E Pn hr=>#[_,(zc (zm9 (wE zq <| yT T.q18 G18 hr (za (kv 0) (za (kv 1) zg))) (wG yO <| yP (n:=2) K BC BC (wH zx <| zk (wG zt <| zd (i:=2) xa.nd) (wH zx <| zk (wG zt <| zd (i:=3) xa.nd) (wH yN yc)))))
   (zc (wS ye <| x3 (wT zp <| zjp (kb 2)) (zh zre) yd)
   (zh (zF (kv 3))))),λws n R hF=>?_]
 obtain @⟨_,_,rm,bk,cs,row,hR,hB,hl,hc,ho,hd,r⟩:=hF;left;show F_lo.i hR hB hl hc λd e h1 h2=>?_;obtain rfl:=hd d h1;obtain rfl:=h2 row ho;left;with_reducible show zhO ?_ ?_
 rfl;left;show r
structure Ordd (rm:AH)(bk:AY)(row:AH):Prop where
 all:∀b:Int,0<=b->b<rm.length->b∈row
 ok:∀b∈row,0<=b/\b<rm.length
 nd:row.Nodup
 bef:∀k,k<row.length->∀o,zaG bk (row.getD k 0) o->o∈row.take k
theorem zj5 {E:List (Int×Int)}{m:Nat}:∀ (k:Nat) (row row':AH),zia E m k row=some row'->row.Nodup->(∀b∈row,0<=b/\b<m)->(∀k,k<row.length->∀o,(row.getD k 0,o)∈E->o∈row.take k)->row'.length=row.length+k/\row'.Nodup/\(∀b∈row',0<=b/\b<m)/\∀k,k<row'.length->∀o,(row'.getD k 0,o)∈E->o∈row'.take k
 | 0,row,row',h,h1,h2,h3=>by cases h;show#[BC,h1,h2,h3]
 | k+1,row,row',h,h1,h2,h3=>by
  unfold zia at h
  cases ef:zeB E m row with
  | nil=>rw[ef] at h;cases h
  | cons b l=>
   rw[ef] at h;have hb:b∈zeB E m row:=by rw[ef];simp
   obtain⟨q1,q2⟩:=aK.mp hb;rw[aU,a8] at q2;have hbr:b∉row:=λz=>by have:=q2.1;rw[bf.mpr z] at this;cases this
   have:=zj5 k (row++[b]) row' h (fN.mpr #[h1,by simp,λx hx y hy=>by rw[au.mp hy];show λz=>hbr (z ▸ hx)]) (λx hx=>(aE.mp hx).elim (h2 x) λz=>by rw[au.mp z];show zE.mp q1) (λj hj o ho=>?_);rw[ay,b6] at this;show#[by lia,this.2];rw[ay,b6] at hj;by_cases e:j<row.length;rw[eF (by lia)];show h3 j e o ?_;rwa[aD,bv e,<- aD] at ho;obtain rfl:j=row.length:=by lia
   rw[aD,bm (ak _)] at ho;simp at ho;rw[eF (ak _),aV];show bf.mp (q2.2 o (zdT.mpr ho))
def zjE {bk:AY}{b:Int}{s t:AH}(h:∀o:Int,zaG bk b o->zu s o=zu t o):lpE bk b s=lpE bk b t:=by
 unfold lpE lpF;show congrArg (λl:AY=>(zcI (l.map λx=>[x.w,x.r])).map λr=>(r.getD 0 0,r.getD 1 0)) (fO λx hx=>?_);by_cases e:x.b=b;rw[aN e];change (true&&_)=(true&&_);show congrArg (λz=>true&&z) ?_;unfold yW;rw[b5,a8,a8];show fV λq=>fV λhq=>?_;rw[h q.1 #[x,hx,e,q,hq,BC]];rw[aT e];rfl
def zj6 {rm:AH}{bk:AY}{cs:Int->AH}{row:AH}(hc:LkOk rm bk cs)(h:zk6 rm cs=some row):Ordd rm bk row:=by
 obtain⟨h1,h2,h3,h4⟩:=zj5 rm.length [] row h .nil (by simp) (by simp);show#[λb b0 b1=>?_,h3,h2,λk hk o ho=>?_];rotate_left;obtain⟨q0,q1⟩:=h3 (row.getD k 0) (by rw[aD,aj hk];show bu _);show h4 k hk o (zbf.mpr #[q0,q1,((hc.lk _ q0 q1).2.2 o).mpr ho]);by_cases z:b∈row;show z
 have h5:(b::row).length<=(zn (rm.length:Int)).length:=yf (bJ.mpr #[z,h2]) λx hx=>by
  rcases aG.mp hx with y | y;subst y;show zE.mpr #[b0,b1];show zE.mpr (h3 x y)
 rw[zI,bc] at h5;simp at h1;lia
def zhp (rm:AH)(bk:AY)(b:Int)(st:AH):Int:=(zai (lpE bk b st) (zu rm b).toNat).getD 0 0
structure IsBest (rm:AH)(bk:AY)(g:List (Int×Int))(s:AH):Prop where
 ok:StOk rm s
 giv:∀q∈g,zu s q.1=q.2
 top:∀b:Int,0<=b->b<rm.length->b∉g.map (·.1)->zu s b=zhp rm bk b s
def zbY {rm:AH}{bk:AY}{g:List (Int×Int)}{row s t:AH}(hR:WideOk rm)(hB:u7 rm bk)(hO:Ordd rm bk row)(hs:IsBest rm bk g s)(ht:IsBest rm bk g t):s=t:=by
 have key:∀k,k<=row.length->∀b∈row.take k,zu s b=zu t b:=λk=>by
  induction k with
  | zero=>intro _ b hb;simp at hb
  | succ k ih=>
   intro hk b hb;have ih:=ih (by lia);rw[dW (by lia)] at hb;rcases aE.mp hb with z | z;show ih b z;have hbe:=au.mp z;have hm:b∈row:=by rw[hbe];show bu _
   obtain⟨b0,b1⟩:=hO.ok b hm;by_cases hg:b∈g.map (·.1);obtain⟨q,hq,rfl⟩:=aq.mp hg;rw[hs.giv q hq,ht.giv q hq];rw[hs.top b b0 b1 hg,ht.top b b0 b1 hg];unfold zhp;rw[zjE λo z=>ih o ?_];show hO.bef k (by lia) o ?_;rw[aD,aj (by lia)];change zaG bk row[k] o;rw[<- hbe];show z
 show zgM (by rw[hs.ok.len,ht.ok.len]) λb b0 b1=>?_;have:=key row.length (ak _) b (by rw[aV];show hO.all b b0 (by rw[<- hs.ok.len];show b1));show this
structure Gone (rm:AH)(bk:AY)(g:List (Int×Int))(row:AH)(k:Nat)(s:AH):Prop where
 ok:StOk rm s
 giv:∀q∈g,q.1∈row.take k->zu s q.1=q.2
 top:∀b∈row.take k,b∉g.map (·.1)->zu s b=zhp rm bk b s
def Gone.step {rm:AH}{bk:AY}{g:List (Int×Int)}{row s:AH}{k:Nat}{b v:Int}(hR:WideOk rm)(hB:u7 rm bk)(hO:Ordd rm bk row)(hk:row[k]?=some b)(hg:∀q∈g,∀q'∈g,q.1=q'.1->q.2=q'.2)(h:Gone rm bk g row k s)(v0:0<=v)(v1:v<zu rm b)(hv:(b,v)∈g\/(b∉g.map (·.1)/\v=zhp rm bk b s)):Gone rm bk g row (k+1) (chg s b v):=by
 obtain⟨hk1,hk2⟩:=ae.mp hk;have hm:b∈row:=by rw[<- hk2];show bu _
 obtain⟨b0,b1⟩:=hO.ok b hm;have hl:=h.ok.len;have hnk:b∉row.take k:=λz=>by obtain⟨j,hj,e⟩:=bO z;rw[aR] at hj;rw[cj] at e;show cD.mp hO.nd j k (by lia) hk1 (by lia) (e.trans hk2.symm)
 have hok:StOk rm (chg s b v):=zhg h.ok b0 b1 v0 v1;have hcg:∀c:Int,0<=c->zu (chg s b v) c=if c=b then v else zu s c:=λc c0=>zb2 b0 (by lia) c0
 have same:∀c:Int,c∈row.take (k+1)->zhp rm bk c (chg s b v)=zhp rm bk c s:=λc hc=>by
  obtain⟨j,hj,e⟩:=bO hc;rw[aR] at hj;rw[cj] at e;obtain⟨c0,c1⟩:=hO.ok c (by rw[<- e];show bu _);unfold zhp;rw[zjE λo z=>?_];obtain⟨o0,o1⟩:0<=o/\o<rm.length:=by obtain⟨x,hx,_,q,hq,rfl⟩:=z;have:=(hB x hx).giv.ok q hq;show#[this.1,this.2.1]
  rw[hcg o o0];by_cases eo:o=b;subst eo;exfalso;have h1:=hO.bef j (by lia) o (by rw[aD,aj (by lia)];change zaG bk row[j] o;rw[e];show z);show hnk ((List.take_subset_take_left _ (by lia)) h1);rw[if_neg eo]
 have tk:∀c,c∈row.take (k+1)↔c∈row.take k\/c=b:=λc=>by rw[dW hk1,aE,au,hk2]
 show#[hok,λq hq hqk=>?_,λc hc hcg'=>?_];rcases (tk q.1).mp hqk with z | z;have hq0:=(hO.ok q.1 (bj z)).1;rw[hcg _ hq0,if_neg λ(e:q.1=b)=>hnk (by rw[<- e];show z)];show h.giv q hq z;rw[z,hcg b b0,if_pos rfl];rcases hv with y | y;show (hg q hq _ y z).symm;show absurd (aq.mpr #[q,hq,z]) y.1;rw[same c hc];rcases (tk c).mp hc with z | z;have hc0:=(hO.ok c (bj z)).1;rw[hcg _ hc0,if_neg λ(e:c=b)=>hnk (by rw[<- e];show z)];show h.top c z hcg';subst z;rw[hcg c b0,if_pos rfl];rcases hv with y | y;show absurd (aq.mpr #[_,y,BC]) hcg';show y.2
def Gone.done {rm:AH}{bk:AY}{g:List (Int×Int)}{row s:AH}(hO:Ordd rm bk row)(hg:∀q∈g,0<=q.1/\q.1<rm.length)(h:Gone rm bk g row row.length s):IsBest rm bk g s:=
 #[h.ok,λq hq=>h.giv q hq (by rw[aV];show hO.all _ (hg q hq).1 (hg q hq).2),λb b0 b1=>h.top b (by rw[aV];show hO.all b b0 b1)]
def zf2 {bk:AY}{b:Int}{st:AH}{q:Int×Int}:q∈lpE bk b st↔∃x∈bk,x.b=b/\yW st x.g=true/\q=(x.w,x.r):=by
 constructor;intro h;obtain⟨r,hr,rfl⟩:=aq.mp h;obtain⟨x,hx,rfl⟩:=aq.mp (ym.mp hr);obtain⟨h1,h2⟩:=aK.mp hx;rw[aU,bz] at h2;show#[x,h1,h2.1,h2.2,BC];rintro⟨x,h1,h2,h3,rfl⟩;show aq.mpr #[_,ym.mpr (aq.mpr #[x,aK.mpr #[h1,by rw[h3,aN h2];rfl],BC]),BC]
def znA (rm:AH)(bk:AY):Prop:=∀st,StOk rm st->∀b:Int,0<=b->b<rm.length->(zai (lpE bk b st) (zu rm b).toNat).length=1
def zhq {rm:AH}{bk:AY}{st:AH}{b v:Int}(hR:WideOk rm)(hT:znA rm bk)(hs:StOk rm st)(b0:0<=b)(b1:b<rm.length)(v0:0<=v)(v1:v<zu rm b):v=zhp rm bk b st↔∀x∈bk,x.b=b->yW st x.g=true->x.w≠v:=by
 have h1:=hT st hs b b0 b1
 have hmem:v∈zai (lpE bk b st) (zu rm b).toNat↔∀x∈bk,x.b=b->yW st x.g=true->x.w≠v:=by
  unfold zai;rw[aK,Bool.not_eq_true',<- Bool.not_eq_true,bf];constructor;rintro⟨_,h⟩ x hx e1 e2 e3;show h (aq.mpr #[_,zf2.mpr #[x,hx,e1,e2,BC],e3]);intro h;show#[zE.mpr #[v0,by lia],λz=>?_];obtain⟨q,hq,e⟩:=aq.mp z;obtain⟨x,hx,e1,e2,rfl⟩:=zf2.mp hq;show h x hx e1 e2 e
 rw[<- hmem];unfold zhp
 match zai (lpE bk b st) (zu rm b).toNat,h1 with
 | [t],_=>simp
def zp6 {rm:AH}{bk:AY}{st:AH}{b:Int}(hT:znA rm bk)(hs:StOk rm st)(b0:0<=b)(b1:b<rm.length)(hm:0<=zu rm b):0<=zhp rm bk b st/\zhp rm bk b st<zu rm b:=by
 have h1:=hT st hs b b0 b1
 have h2:zhp rm bk b st∈zai (lpE bk b st) (zu rm b).toNat:=by
  unfold zhp
  match zai (lpE bk b st) (zu rm b).toNat,h1 with
  | [t],_=>simp
 have:=zE.mp (aK.mp h2).1;lia
def zlP {rm:AH}{bk:AY}{box:Int}{st:AH}(hR:WideOk rm)(hB:u7 rm bk):(lpE bk box st).length<=16:=by unfold lpE lpF;rw[ab];show zg7 (P:=λh=>yW st h) hR.box hB
structure Pln (rm:AH)(bk:AY)(bs:AH)(cs:Int->AH):Prop where
 perm:bs.Perm (zn (rm.length:Int))
 look:∀i b,bs[i]?=some b->(cs b).Pairwise (· < ·)/\(cs b).length<=3/\∀z∈cs b,z∈bs.take i
 giv:∀x∈bk,x.b∈bs/\x.g∈xY rm (cs x.b)
 rk:∀b∈bs,∀g∈xY rm (cs b),∃ks:AH,ks.Perm (zn (zu rm b))/\∀r w,(#[g,b,r,w]:Wi)∈bk↔∃k,ks[k]?=some r/\ks[k+1]?=some w
def Pln.mem {rm:AH}{bk bk':AY}{bs:AH}{cs:Int->AH}(h:Pln rm bk bs cs)(e:∀x,x∈bk'↔x∈bk):Pln rm bk' bs cs:=
 #[h.perm,h.look,λx hx=>h.giv x ((e x).mp hx),λb hb g hg=>by obtain⟨ks,h1,h2⟩:=h.rk b hb g hg;show#[ks,h1,λr w=>(e _).trans (h2 r w)]]
def znd {E:List (Int×Int)}(f:Int->Nat)(h:∀q∈E,f q.2<f q.1):¬ Cyc E:=by
 rintro⟨S,a,hS,ha⟩
 have:∀n a,S a->f a<n->False:=λn=>by
  induction n with
  | zero=>show λa _ h=>absurd h (by lia)
  | succ n ih=>
   intro a ha hn;obtain⟨b,hb,he⟩:=hS a ha;have:=h _ he;show ih b hb (by simp only at this;lia)
 show this (f a+1) a ha (by lia)
def Pln.inb {rm:AH}{bk:AY}{bs:AH}{cs:Int->AH}(h:Pln rm bk bs cs){b:Int}:b∈bs↔0<=b/\b<rm.length:=h.perm.mem_iff.trans zE
def Pln.at {rm:AH}{bk:AY}{bs:AH}{cs:Int->AH}(h:Pln rm bk bs cs){b:Int}(hb:b∈bs):(cs b).Pairwise (· < ·)/\(cs b).length<=3/\∀z∈cs b,0<=z/\z<rm.length:=by obtain⟨i,hi,e⟩:=bO hb;have:=h.look i b (by rw[<- e];show aj hi);show#[this.1,this.2.1,λz hz=>h.inb.mp (bj (this.2.2 z hz))]
def Pln.few {rm:AH}{bk:AY}{bs:AH}{cs:Int->AH}(h:Pln rm bk bs cs)(hR:WideOk rm){b:Int}{ks:AH}(hb:b∈bs)(hp:ks.Perm (zn (zu rm b))):2<=ks.length/\ks.Nodup:=by have hm:=zA hR.box (h.inb.mp hb).1 (h.inb.mp hb).2;have:=hp.length_eq;rw[zI] at this;show#[by lia,hp.nodup_iff.mpr (yg _)]
def Pln.lk {rm:AH}{bk:AY}{bs:AH}{cs:Int->AH}(h:Pln rm bk bs cs)(hR:WideOk rm):LkOk rm bk cs:=by
 show#[λb b0 b1=>?_,λb b0 b1=>(h.at (h.inb.mpr #[b0,b1])).2.2];have hb:=h.inb.mpr #[b0,b1];obtain⟨h1,h2,h3⟩:=h.at hb;show#[h1,by lia,λz=>#[λhz=>?_,?_]];obtain⟨g,hg⟩:=List.exists_mem_of_length_pos (aL Nat.zero_lt_one (ziC hR.box BC h3));obtain⟨ks,hp,hk⟩:=h.rk b hb g hg;obtain⟨hl,_⟩:=h.few hR hb hp;have hx:=(hk ks[0] ks[1]).mpr #[0,aj (by lia),aj (by lia)];have e:=(yw BC hg).1;rw[<- e] at hz;obtain⟨q,hq,e2⟩:=aq.mp hz;show#[_,hx,BC,q,hq,e2];rintro⟨x,hx,rfl,q,hq,rfl⟩;rw[<- (yw BC (h.giv x hx).2).1];show aq.mpr #[q,hq,BC]
def zgQ {l:AH}(hN:l.Nodup){i:Nat}{b z:Int}(e:l[i]?=some b)(h:z∈l.take i):l.idxOf z<l.idxOf b:=by obtain⟨j,hj,e2⟩:=bO h;rw[aR] at hj;rw[cj] at e2;obtain⟨hi,e1⟩:=ae.mp e;rw[<- e1,<- e2,List.Nodup.idxOf_getElem hN,List.Nodup.idxOf_getElem hN];lia
def Pln.noc {rm:AH}{bk:AY}{bs:AH}{cs:Int->AH}(h:Pln rm bk bs cs):¬ Cyc (zaq rm cs):=znd (λb=>bs.idxOf b) λq hq=>by
 obtain⟨h0,h1,h2⟩:=zbf.mp hq;obtain⟨i,hi,e⟩:=bO (h.inb.mpr #[h0,h1]);have e':bs[i]?=some q.1:=by rw[<- e];show aj hi
 show zgQ (h.perm.nodup_iff.mpr (yg _)) e' ((h.look i q.1 e').2.2 _ h2)
structure Chn (E:List (Int×Int))(ks:AH)(m:Nat):Prop where
 perm:ks.Perm (zn (m:Int))
 two:2<=m
 mem:∀q,q∈E↔∃k,ks[k]?=some q.2/\ks[k+1]?=some q.1
def Chn.noc {E:List (Int×Int)}{ks:AH}{m:Nat}(h:Chn E ks m):¬ Cyc E:=znd (λb=>ks.idxOf b) λq hq=>by obtain⟨k,h1,h2⟩:=(h.mem q).mp hq;show zgQ (h.perm.nodup_iff.mpr (yg _)) h2 ?_;rw[zi h1];simp
def Chn.one {E:List (Int×Int)}{ks:AH}{m:Nat}(h:Chn E ks m):(zai E m).length=1:=by
 have hN:ks.Nodup:=h.perm.nodup_iff.mpr (yg _);have hl:=h.perm.length_eq;rw[zI] at hl;have h2:=h.two;have hT:(zai E m).Nodup:=(yg _).filter _
 have key:∀v,v∈zai E m↔v∈[ks[0]'(by lia)]:=λv=>by
  unfold zai;rw[aK,Bool.not_eq_true',<- Bool.not_eq_true,bf,au,<- h.perm.mem_iff];constructor;rintro⟨hv,hn⟩;obtain⟨j,hj,e⟩:=bO hv
  cases j with
  | zero=>show e.symm
  | succ j=>
   show absurd (aq.mpr #[(v,ks[j]'(by lia)),(h.mem _).mpr #[j,aj (by lia),?_],BC]) hn;change ks[j+1]?=some v;rw[<- e];show aj hj
  rintro rfl;show#[bu _,λz=>?_];obtain⟨q,hq,e⟩:=aq.mp z;obtain⟨k,h3,h4⟩:=(h.mem q).mp hq;obtain⟨hk,e4⟩:=ae.mp h4;have:=(bM hN).mp (e4.trans e);lia
 show (ui hT (by simp) key).length_eq
def zmD (st:AH)(bs:AH):List (Int×Int):=bs.map λz=>(z,zu st z)
theorem zdB:∀ {g h:List (Int×Int)},g.map (·.1)=h.map (·.1)->(∀q∈h,q∈g)->(g.map (·.1)).Nodup->h=g
 | [],[],_,_,_=>rfl
 | [],q::h,e,_,_=>by cases e
 | q::g,[],e,_,_=>by cases e
 | p::g,q::h,e,hs,hN=>by
  rw[aC,aC,List.cons.injEq] at e;rw[aC,bJ] at hN
  have hq:q=p:=by
   rcases aG.mp (hs q am) with z | z;show z;show absurd (aq.mpr #[q,z,e.1.symm]) hN.1
  rw[hq,zdB e.2 (λr hr=>?_) hN.2];rcases aG.mp (hs r (ao _ hr)) with z | z;show absurd (aq.mpr #[r,hr,congrArg Prod.fst z]) ?_;rw[<- e.2];show hN.1;show z
theorem zfd {rm st:AH}(hs:StOk rm st):∀ {n:Nat} {bs:AH},bs.length=n->(∀b∈bs,0<=b/\b<rm.length)->zmD st bs∈xY rm bs
 | 0,bs,h,_=>by
  cases bs with
  | nil=>show au.mpr BC
  | cons _ _=>cases h
 | n+1,bs,h,hr=>by obtain⟨cs',c,rfl⟩:∃cs' c,bs=cs'++[c]:=#[bs.dropLast,bs.getLast (by intro z;rw[z] at h;cases h),(bn _).symm];rw[xy,cz];have hc:=hs.box c (hr c (by simp)).1 (hr c (by simp)).2;show#[zmD st cs',zfd hs (n:=n) (by simpa using h) λb z=>hr b (bi _ z),aq.mpr #[zu st c,zE.mpr hc,?_]];unfold zmD;rw[aH];rfl
def Pln.lp {rm:AH}{bk:AY}{bs:AH}{cs:Int->AH}(h:Pln rm bk bs cs)(hR:WideOk rm){st:AH}(hs:StOk rm st){b:Int}(b0:0<=b)(b1:b<rm.length):∃ks,Chn (lpE bk b st) ks (zu rm b).toNat:=by
 have hb:=h.inb.mpr #[b0,b1];obtain⟨h1,h2,h3⟩:=h.at hb;have hm:=zA hR.box b0 b1;have hg:=zfd hs BC h3;obtain⟨ks,hp,hk⟩:=h.rk b hb _ hg;show#[ks,by rwa[show (((zu rm b).toNat:Nat):Int)=zu rm b by lia],by lia,λq=>?_];rw[<- hk q.2 q.1,zf2];constructor;rintro⟨x,hx,e1,e2,rfl⟩;have hxg:=(h.giv x hx).2;rw[e1] at hxg;have e3:x.g=zmD st (cs b):=zdB (by rw[(yw BC hg).1,(yw BC hxg).1]) (λq hq=>by have e4:=bD (a8.mp e2 q hq);show aq.mpr #[q.1,?_,by rw[e4]];rw[<- (yw BC hxg).1];show aq.mpr #[q,hq,BC]) (by rw[(yw BC hg).1];show h1.imp λh=>by lia);rw[<- e3,<- e1];show hx;intro hx;show#[_,hx,BC,a8.mpr λq hq=>?_,BC];obtain⟨z,_,rfl⟩:=aq.mp hq;show aN BC
def zhS {bk:AY}{b:Int}{g:List (Int×Int)}{q:Int×Int}:q∈xM bk b g↔∃x∈bk,x.b=b/\(∀p∈x.g,p∈g)/\q=(x.w,x.r):=by
 constructor;intro h;obtain⟨r,hr,rfl⟩:=aq.mp h;obtain⟨x,hx,rfl⟩:=aq.mp (ym.mp hr);obtain⟨h1,h2⟩:=aK.mp hx;rw[aU,bz,a8] at h2;show#[x,h1,h2.1,λp hp=>bD (h2.2 p hp),BC];rintro⟨x,h1,h2,h3,rfl⟩;show aq.mpr #[_,ym.mpr (aq.mpr #[x,aK.mpr #[h1,?_],BC]),BC];rw[aU,bz,a8];show#[h2,λp hp=>aN (h3 p hp)]
def Pln.pr {rm:AH}{bk:AY}{bs:AH}{cs:Int->AH}(h:Pln rm bk bs cs)(hR:WideOk rm){b:Int}(b0:0<=b)(b1:b<rm.length){g:List (Int×Int)}(hg:g∈xY rm (cs b)):∃ks,Chn (xM bk b g) ks (zu rm b).toNat:=by
 have hb:=h.inb.mpr #[b0,b1];obtain⟨h1,h2,h3⟩:=h.at hb;have hm:=zA hR.box b0 b1;obtain⟨ks,hp,hk⟩:=h.rk b hb _ hg;show#[ks,by rwa[show (((zu rm b).toNat:Nat):Int)=zu rm b by lia],by lia,λq=>?_];rw[<- hk q.2 q.1,zhS];constructor;rintro⟨x,hx,e1,e2,rfl⟩;have hxg:=(h.giv x hx).2;rw[e1] at hxg;have e3:x.g=g:=zdB (by rw[(yw BC hg).1,(yw BC hxg).1]) e2 (by rw[(yw BC hg).1];show h1.imp λh=>by lia);rw[<- e3,<- e1];show hx;show λhx=>#[_,hx,BC,λp hp=>hp,BC]
theorem zni {E:List (Int×Int)}{m:Nat}(hE:∀q∈E,0<=q.1/\q.1<m/\0<=q.2/\q.2<m)(hn:¬ Cyc E):∀ (k:Nat) (row:AH),row.length+k<=m->∃row',zia E m k row=some row'
 | 0,row,_=>#[row,BC]
 | k+1,row,h=>by
  unfold zia
  cases ef:zeB E m row with
  | nil=>show absurd (zsW hE (by lia) ef) hn
  | cons b l=>show zni hE hn k (row++[b]) (by rw[ay,b6];lia)
def Pln.ord {rm:AH}{bk:AY}{bs:AH}{cs:Int->AH}(h:Pln rm bk bs cs)(hR:WideOk rm):∃row,zk6 rm cs=some row:=zni (zeQ (h.lk hR)) h.noc rm.length [] (by simp)
def Pln.oneT {rm:AH}{bk:AY}{bs:AH}{cs:Int->AH}(h:Pln rm bk bs cs)(hR:WideOk rm):znA rm bk:=λst hs b b0 b1=>by obtain⟨ks,hc⟩:=h.lp hR hs b0 b1;show hc.one
def Pln.set {rm:AH}{bk:AY}{bs:AH}{cs:Int->AH}(h:Pln rm bk bs cs)(hR:WideOk rm):∀d,ztr rm bk cs d->d = .non:=λd hd=>by
 have rw1:∀r∈zmF rm bk cs,∃ks,Chn r.E ks r.m:=λr hr=>by obtain⟨b,hb,h2⟩:=cz.mp hr;obtain⟨g,hg,rfl⟩:=aq.mp h2;have hb:=aZ.mp hb;show h.pr hR (by lia) (by lia) hg
 rcases hd with ⟨rd,ho,_⟩ | ⟨_,⟨r,rd,hf,_⟩ | ⟨_,rfl⟩⟩;obtain⟨row,e⟩:=h.ord hR;rw[e] at ho;cases ho;obtain⟨ks,hc⟩:=rw1 r (List.mem_of_find?_eq_some hf);have:=List.find?_some hf;show absurd (by simpa using this) hc.noc;unfold zmM zgO;rw[c7.mpr λr hr=>by obtain⟨ks,hc⟩:=rw1 r hr;rw[hc.one];decide]
inductive F_lp  (Pn:PN):AV->Nat->AW->Prop
 | i {n:Nat} {R:AW} {rm:AH} {bk:AY} {box:Int} {st:AH} (hR:WideOk rm) (hB:u7 rm bk) (hst:st.length=rm.length) (h:R (.d (.lst ((lpE bk box st).map zK))) n)  : F_lp Pn [.d (stD rm),.d (yB bk),.d (.int box),.d (stD st)] n R
def zcq (T:Txt K mg t):FnOk P w K mg base CX0 2 t.f20 t.d20 lb (spV 4 true F_lp):=by
 have G3:=zjW (P:=P) (w:=w) (base:=base) T;show Fun.okW (k:=1) (fr:=true) [] 0 T.q20.F zc0 BC (by ext) BC λcdv A outer s H E Pn hr=>#[_,(zh (zF (zgW T.b_sorted (zaP hr) (N:=lc) (BF:=[none,none,none,none,some 2,some 3]) BC (by fail"c") (wI xl <| uu K BC (kv 1)) (λ_ _ _ _=>(wG yO <| yP (n:=4) K BC BC (wH zx <| zk (wG zt <| zd (i:=0) (show (lc:AN).Nodup by decide +kernel)) (wH zx <| zk (wG zt <| zd (i:=1) (show (lc:AN).Nodup by decide +kernel)) (wH zx <| zk (wG zt <| zd (i:=2) (show (lc:AN).Nodup by decide +kernel)) (wH zx <| zk (wG zt <| zd (i:=3) (show (lc:AN).Nodup by decide +kernel)) (wH yN yc))))))) (λ_ _ _ _=>(y6 (JW.t (wW zbd <| zc8 (wT zp <| zT zaB zgx (kb 1) (kb 4) (zV _)) (zap (.inl BC) (wT zp <| uM (JE.bo (wE zq <| yT T.q3 G3 hr (za (kv 5) (za (kv 0) zg)))))))))) (λ_ _ _ _=>(yG (za (kv 3) (za (kv 2) zg))))))),λws n R hF=>?_];obtain @⟨_,_,rm,bk,box,st,hR,hB,hst,r⟩:=hF;left;show zkL bk (λx=>W.d (uq x)) (by rw[ar];rfl) (λD=>∃a b c d,D=[a,b,c,d,some (.d (.int box)),some (.d (stD st))]) (λx=>decide (x.b=box)&&yW st x.g) (λx=>[x.w,x.r]) #[_,_,_,_,BC] ?_ (λks h1 h2=>by have:=zdh hB hR.box h1 h2;lia) ?_;rintro x hx ρ' ⟨a,b,c,d,rfl⟩ C hY hN;have hW:=hB x hx;left;show uh (λhb=>?_) (λhb=>hN (by rw[aT hb];rfl) #[_,_,_,_,BC]);left;show F_kps.i (λq hq=>?_) ?_;have:=hW.giv.ok q hq;rw[hst];show#[this.1,this.2.1];left;show ze4 (λhk=>?_) (λhk=>hN (by rw[hk,dv]) #[_,_,_,_,BC]);show#[[x.w,x.r],BC,hY (by rw[aN hb,hk];rfl) #[_,_,_,_,BC]];intro ks h1 h2;show#[2,by have:=zdh hB hR.box h1 λz hz=>(h2 z).mp hz;lia,by ext,λz hz=>zbl z ((h2 z).mp hz),λl' hp hu=>?_];rw[show l'=lpF bk box st from zed zbl hu λz=>(hp.mem_iff).trans (h2 z)];have:=r;rw[<- zuM] at this;show this
inductive F_tp  (Pn:PN):AV->Nat->AW->Prop
 | i {n:Nat} {R:AW} {rm:AH} {bk:AY} {box:Int} {st:AH} (hR:WideOk rm) (hB:u7 rm bk) (hst:st.length=rm.length) (b0:0<=box) (b1:box<rm.length) (h:R (.d (lsD (zai (lpE bk box st) (zu rm box).toNat))) n)  : F_tp Pn [.d (stD rm),.d (yB bk),.d (.int box),.d (stD st)] n R
def zl2 (T:Txt K mg t):FnOk P w K mg base CX0 3 t.f21 t.d21 lb (spV 4 true F_tp):=by have G20:=zcq (P:=P) (w:=w) (base:=base) T;have G8:=zcs (P:=P) (w:=w) (base:=base) T;show Fun.okW (k:=2) (fr:=true) [] 0 T.q21.F zpU BC (by ext) BC λcdv A outer s H E Pn hr=>#[_,(zh (zF (wE zq <| yT T.q8 G8 hr (za (zbN xt zaj (kb 0) (kb 2) (λ_ _=>rfl)) (za (wE zq <| yT T.q20 G20 hr (za (kv 0) (za (kv 1) (za (kv 2) (za (kv 3) zg))))) zg))))),λws n R hF=>?_];obtain @⟨_,_,rm,bk,box,st,hR,hB,hst,b0,b1,r⟩:=hF;left;have hm:=zA hR.box b0 b1;show onA b0 b1 ?_;left;show F_lp.i hR hB hst ?_;left;have hfew:=zlP (box:=box) (st:=st) hR hB;obtain⟨m,em⟩:∃m:Nat,zu rm box=(m:Int):=#[(zu rm box).toNat,by lia];rw[em] at r ⊢;rw[aP] at r;show F_tb.i (by lia) (by lia) r
inductive F_ba  (Pn:PN):AV->Nat->AW->Prop
 | i {n:Nat} {R:AW} {rm:AH} {bk:AY} {row:AH} {g:List (Int×Int)} (hR:WideOk rm) (hB:u7 rm bk) (hG:Giv rm g) (hO:Ordd rm bk row) (hT:znA rm bk) (h:∀s,IsBest rm bk g s->R (.d (stD s)) n)  : F_ba Pn [.d (stD rm),.d (yB bk),.d (lsD row),.d (xC g)] n R
def zcX (T:Txt K mg t):FnOk P w K mg base CX0 4 t.f22 t.d22 lE (spV 4 false F_ba):=by
 have G4:=zga (P:=P) (w:=w) (base:=base) T;have G21:=zl2 (P:=P) (w:=w) (base:=base) T
 show Fun.okW (k:=3) (fr:=false) [] 4 T.q22.F yA BC (by ext) BC λcdv A outer s H E Pn hr=>#[_,(zc (wS zv <| zM (i:=4) yA.nd (xF (zli BC) zp9 (by rfl) T.b_dict PyProof.Rows.boot_dict (zl (kb 3) zr)))
   (zc (wS zv <| zM (i:=5) yA.nd (zaD zd2 zhr (JE.bo (yG (za zP zg))) (JE.bo (z7 yU zaC (by rfl) T.b_len be (zl (kb 0) zr)))))
   (zc (yt aO BC (wI zN <| zQ K BC (kv 2)) (wG zt <| zd (i:=6) yA.nd) (zc (wS zv <| zM (i:=7) yA.nd (wE zrq <| j_if (wT zlW <| zrf (zaP hr) (kb 6) (kb 4)) (wE zbP <| zgV (zaP hr) (kb 4) (kb 6) (λ_ _=>rfl)) (zbN ur zft (JE.bo (wE zq <| yT T.q21 G21 hr (za (kv 0) (za (kv 1) (za (kv 6) (za (kv 5) zg)))))) (JE.bo zP) (λ_ _=>rfl))))
   (zh (wS zv <| zM (i:=5) yA.nd (wE zq <| yT T.q4 G4 hr (za (kv 5) (za (kv 6) (za (kv 7) zg))))))))
   (zh (zF (kv 5)))))),λws n R hF=>?_]
 obtain @⟨_,_,rm,bk,row,g,hR,hB,hG,hO,hT,r⟩:=hF;left;have h8:=hR.few;have hps:g.map zK=(g.map λq=>(q.1,Dt.int q.2)).map prD:=by rw[ar];rfl
 have hfew:=zaM hG hR;have hnd:(g.map (·.1)).Nodup:=List.Pairwise.map (λq:Int×Int=>q.1) (λa b h e=>by lia) hG.up;show#[g.map λq=>(q.1,Dt.int q.2),hps,?_,by rw[ab];lia,?_];rw[ar];show hnd;generalize hkv:List.map kvD (List.map (λq:Int×Int=>(q.1,Dt.int q.2)) g)=BE;have hlook:∀i:Nat,yp BE (Sum.inl (i:Int))=(gw g i).map Dt.int:=λi=>by rw[<- hkv];show zow g i
 left;have hrl:(↑(List.map Dt.int rm).length:Int).toNat=rm.length:=by rw[ab];lia
 have hpos:=hR.pos;show#[#[by rw[ab];lia,by rw[ab];lia,?_],?_];rw[hrl];show av (show 1 * rm.length<=100 by lia) (by ext);rw[hrl,show (List.replicate rm.length [Dt.int 0]).flatten=(List.replicate rm.length (0:Int)).map Dt.int by simp[List.map_replicate]]
 have hz:StOk rm (List.replicate rm.length (0:Int)):=by
  show#[by simp,λk k0 k1=>?_];have hm:=zA hR.box k0 k1;have e:zu (List.replicate rm.length (0:Int)) k=0:=by unfold zu;simp[aD,show k.toNat<rm.length by lia]
  rw[e];lia
 left;show zW row (λb=>W.d (.int b)) (by rw[ar];rfl) (λi D m=>m=n/\∃ (s:AH) (v6 v7:Option W),D=[some (.d (stD rm)),some (.d (yB bk)),some (.d (lsD row)),some (.d (xC g)),some (.dk BE),some (.d (stD s)),v6,v7]/\Gone rm bk g row i s) #[BC,_,_,_,BC,hz,by simp,by simp] ?_ ?_;rintro i b D m hb ⟨rfl,s,v6,v7,rfl,hG0⟩ C B E hC _ _;obtain⟨b0,b1⟩:=hO.ok b (az hb);have hsl:=hG0.ok.len;have hm:=zA hR.box b0 b1;have hgg:∀q∈g,∀q'∈g,q.1=q'.1->q.2=q'.2:=λq hq q' hq' e=>by rw[zn5 hG hq hq' e]
 have go:∀v,0<=v->v<zu rm b->((b,v)∈g\/(b∉g.map (·.1)/\v=zhp rm bk b s))->Gone rm bk g row (i+1) (chg s b v):=λv v0 v1 hv=>hG0.step hR hB hO hb hgg v0 v1 hv;obtain⟨c,rfl⟩:∃c:Nat,b=(c:Int):=#[b.toNat,by lia];have hl:=hlook c;left
 cases hg:gw g c with
 | some v=>
  rw[hg] at hl;have hv:=zi9 hG hg;have hv2:=hG.ok _ hv;show zhP (by rw[hl];rfl) ?_;left;show zcu hl ?_;left;show F_chg.i (by lia) (by lia) ?_;left;show hC #[BC,_,_,_,BC,go v hv2.2.2.1 hv2.2.2.2 (.inl hv)]
 | none=>
  rw[hg] at hl;have hn:=(zq2 hG).mp hg;have ht:=zp6 hT hG0.ok b0 b1 (by lia);have h1:=hT s hG0.ok _ b0 b1;show zhO (by rw[hl];rfl) ?_;left;show F_tp.i hR hB hsl b0 b1 ?_;left;show onA (by lia) (by rw[h1];decide) ?_;left;show F_chg.i (by lia) (by lia) ?_;left;show hC #[BC,_,_,_,BC,go _ ht.1 ht.2 (.inr #[hn,BC])]
 ·rintro D m ⟨rfl,s,v6,v7,rfl,hG0⟩;left;show r s (hG0.done hO λq hq=>#[(hG.ok q hq).1,(hG.ok q hq).2.1])
inductive F_wb  (Pn:PN):AV->Nat->AW->Prop
 | i {n:Nat} {R:AW} {rm:AH} {bk:AY} {cs:Int->AH} {row:AH} {g:List (Int×Int)} (hR:WideOk rm) (hB:u7 rm bk) (hl:bk.length<=9000) (hc:LkOk rm bk cs) (hG:Giv rm g) (ho:zk6 rm cs=some row) (hd:∀d,ztr rm bk cs d->d = .non) (hT:znA rm bk) (h:∀s,IsBest rm bk g s->R (.d (stD s)) n)  : F_wb Pn [.d (stD rm),.d (yB bk),.d (xC g)] n R
def zdZ (T:Txt K mg t):FnOk P w K mg base CX0 7 t.f23 t.d23 lF (spV 3 false F_wb):=by have G22:=zcX (P:=P) (w:=w) (base:=base) T;have G19:=zaW (P:=P) (w:=w) (base:=base) T;show Fun.okW (k:=6) (fr:=false) [] 0 T.q23.F zfk BC (by ext) BC λcdv A outer s H E Pn hr=>#[_,(zh (zF (wE zq <| yT T.q22 G22 hr (za (kv 0) (za (kv 1) (za (wE zq <| yT T.q19 G19 hr (za (kv 0) (za (kv 1) zg))) (za (kv 2) zg))))))),λws n R hF=>?_];obtain @⟨_,_,rm,bk,cs,row,g,hR,hB,hl,hc,hG,ho,hd,hT,r⟩:=hF;left;show F_obl.i hR hB hl hc ho hd ?_;left;show F_ba.i hR hB hG (zj6 hc ho) hT r
inductive F_wide  (Pn:PN):AV->Nat->AW->Prop
 | i {n:Nat} {R:AW} {p:Addr} (hP:IsP Pn p) (h:∀rm m,WideOk rm->m<=n+30->R (.d (stD rm)) m) (hn:n+60<=1000000:=by lia):F_wide Pn [.pen p] n R
def zdX (T:Txt K mg t):FnOk P w K mg base CX0 2 t.f24 t.d24 lU (spV 1 false F_wide):=by
 have G1:=yx (P:=P) (w:=w) (base:=base) T
 show Fun.okW (k:=1) (fr:=false) [] 1 T.q24.F zbC BC (by ext) BC λcdv A outer s H E Pn hr=>#[_,(zc (wS zv <| zM (i:=1) zbC.nd (wE zq <| yT T.q1 G1 hr (za (kv 0) (za zP zg))))
   (zc (wS ye <| x3 (wT zp <| zT zaB zgx (kb 1) (JE.bo zP) (zV _)) (zh (zF (zbN ur zft (JE.bo (zbb (za (zaD zd2 zhr (JE.bo (yG (za zP zg))) (JE.bo zP)) (za (zaD zd2 zhr (JE.bo (yG (za zP zg))) (JE.bo zP)) (za (yG (za zP zg)) (za (zaD zd2 zhr (JE.bo (yG (za zP (za zP zg)))) (JE.bo zP)) zg)))))) (JE.bo (wE zq <| yT T.q1 G1 hr (za (kv 0) (za zP zg)))) (λ_ _=>rfl)))) yd)
   (zh (zF (xF xf zcK (by rfl) T.b_tuple bV (zl (JE.bo (xG (N:=[BB,As]) (BF:=[none,some 0]) BC (by fail"c") (wI yX <| z6 BC T.b_range (zl (JE.bo (zaD xi zek (JE.bo zP) (JE.bo (wE zq <| yT T.q1 G1 hr (za (kv 0) (za zP zg)))))) zr)) (λ_ _ _ _=>(wG zt <| zd (i:=0) (show ([BB,As]:AN).Nodup by decide +kernel))) (λ_ _ _ _=>yi) (λ_ _ _ _=>(zaD xi zek (JE.bo zP) (JE.bo (wE zq <| yT T.q1 G1 hr (za (kv 1) (za zP zg)))))))) zr)))))),λws n R hF=>?_]
 obtain @⟨_,_,p,hP,r,hn⟩:=hF;left;show dc hP λw0 a0 a1=>?_;left;show uh (λ_=>?_) (λ_=>?_);left;show#[#[by ext,by ext,by ext],?_];left;show#[#[by ext,by ext,by ext],?_];left;show#[#[by ext,by ext,by ext],?_];left;show dc hP λx x0 x1=>?_;left;show zu7 x0 x1 λy hy=>?_
 obtain⟨zs,rfl,h0⟩:∃zs:AH,y=stD zs/\(1<=zs.length/\zs.length<=16/\∀r∈zs,2<=r/\r<=4):=by
  simp only[aG,dC,or_false] at hy;rcases hy with rfl | rfl | rfl | rfl;show#[List.replicate 16 4,BC,by ext];show#[List.replicate 16 2,BC,by ext];show#[[3],BC,by ext];show#[[4,2,4,2,4,2,4,2,4,2,4,2,4,2,4,2],BC,by ext]
 left;show r zs _ #[h0.1,h0.2.1,h0.2.2] (by lia);left;show dc hP λt t0 t1=>?_;left;show#[#[by lia,by lia],?_];rw[xu];show zgF (List.range (1+t).toNat) (λk:Nat=>W.d (.int (k:Int))) BC (by rw[aI];show av (by lia:_<=100) (by ext)) (λi ρ' n' acc=>n'=n+2+i/\i<=16/\∃ (v:Option W) (ws:AH),ρ'=[v,some (.pen p)]/\acc=ws.map Dt.int/\(∀r∈ws,2<=r/\r<=4)/\ws.length=i) #[by lia,by lia,none,[],BC,BC,by simp,BC] ?_ ?_;rintro i k ρ' n' acc hk ⟨rfl,hi,v,ws,rfl,rfl,hb,hl⟩ C hC;have hk1:=(ae.mp hk).1;rw[aI] at hk1;left;show dc hP λx x0 x1=>?_
 show hC #[by lia,by lia,_,ws++[2+x],BC,by rw[aH];rfl,λr hr=>by
  rcases aE.mp hr with z | z;show hb r z;rw[au.mp z];lia,by rw[ay,hl];rfl]
 rintro ρ' n' acc ⟨rfl,hi,v,ws,rfl,rfl,hb,hl⟩;rw[aI] at hi hl;rw[aI];left;show r ws _ #[by lia,by lia,hb] (by lia)
inductive F_ctx  (Pn:PN):AV->Nat->AW->Prop
 | i {n:Nat} {R:AW} {rm bs:AH} (hR:WideOk rm) (hN:bs.Nodup) (hb:∀b∈bs,0<=b/\b<rm.length) (h4:bs.length<=4) (h:∀cs:AH,cs.Pairwise (· < ·)->cs.Perm bs->R (.d (.lst ((xY rm cs).map xC))) n)  : F_ctx Pn [.d (stD rm),.d (lsD bs)] n R
def zbi (T:Txt K mg t):FnOk P w K mg base CX0 1 t.f25 t.d25 lJ (spV 2 true F_ctx):=by
 show Fun.okW (k:=0) (fr:=true) [2,4] 4 T.q25.F zZ BC (by ext) BC λcdv A outer s H E Pn hr=>#[_,(zc (wS xm <| uK (i:=2) zZ.nd (zbb (za (yG zg) zg)))
   (zc (yt aO BC (wI zN <| zQ K BC (z7 zll zqf (by rfl) T.b_sorted cI (zl (kb 1) zr))) (wG zt <| zd (i:=3) zZ.nd) (zc (wS xm <| uK (i:=4) zZ.nd (zbb zg))
   (zlJ (i:=2) [4] 4 (yt aO BC (wI zN <| zQ K BC (kv 2)) (wG zt <| zd (i:=5) zZ.nd) (zh (wS zoB <| zrd 4 (xG (N:=lH) (BF:=[none,some 5,some 3]) BC (by fail"c") (wI yX <| z6 BC T.b_range (zl (JE.bo (zbN xt zaj (kb 0) (kb 3) (λ_ _=>rfl))) zr)) (λ_ _ _ _=>(wG zt <| zd (i:=0) (show (lH:AN).Nodup by decide +kernel))) (λ_ _ _ _=>yi) (λ_ _ _ _=>(zaD xo uB (kb 1) (JE.bo (yG (za (yG (za (kv 2) (za (kv 0) zg))) zg))))))))) zZ.nd BC (Or.inl BC))))
   (zh (wS zaU <| zcf 2)))),λws n R hF=>?_]
 obtain @⟨_,_,rm,bs,hR,hN,hb,h4,r⟩:=hF;left;show#[bs,BC,by lia,λcs hp hs=>?_];have hlt:cs.Pairwise (· < ·):=zkz hs (hp.nodup_iff.mpr hN);have hcb:∀c∈cs,0<=c/\c<rm.length:=λc hc=>hb c (hp.mem_iff.mp hc);have hcl:=hp.length_eq;left;show zW cs (λi=>.d (.int i)) (by rw[ar];rfl) (λi D m=>m=n/\∃ (v3 v4 v5:Option W),D=[some (.d (stD rm)),some (.d (lsD bs)),some (.d (.lst ((xY rm (cs.take i)).map xC))),v3,v4,v5]) #[BC,_,_,_,BC] ?_ ?_;rintro i c D m hc ⟨rfl,v3,v4,v5,rfl⟩ C B E hC _ _;have hcr:=hcb c (az hc);have hmm:=zA hR.box hcr.1 hcr.2;have hi:=(ae.mp hc).1;have htb:∀b∈cs.take i,0<=b/\b<rm.length:=λb hb'=>hcb b (bj hb');have hfew:(xY rm (cs.take i)).length<=64:=by show av (zaJ hR.box BC htb) ?_;show av (cF (by ext) (by rw[aR];lia:_<=3)) (by ext)
 have hgl:∀g∈xY rm (cs.take i),g.length<=16:=λg hg=>by have:=(yw BC hg).1;have:=congrArg List.length this;rw[ab,aR] at this;lia
 have hC':=λv3 v4 v5=>hC (D:=[some (.d (stD rm)),some (.d (lsD bs)),some (.d (.lst ((xY rm (cs.take (i+1))).map xC))),v3,v4,v5]) (m:=m) #[BC,_,_,_,BC];rw[zi hc,xy] at hC';generalize xY rm (cs.take i)=gs at hfew hgl hC';left;show zW gs (λg=>.d (xC g)) (by rw[ar];rfl) (λj D m'=>m'=m/\∃ (v5:Option W),D=[some (.d (stD rm)),some (.d (lsD bs)),some (.d (.lst (gs.map xC))),some (.d (.int c)),some (.d (.lst (((gs.take j).flatMap λg=>(zn (zu rm c)).map λw=>g++[(c,w)]).map xC))),v5]) #[BC,_,BC] ?_ ?_;rintro j g D m' hg ⟨rfl,v5,rfl⟩ C' B' E' hC2 _ _;have hg8:=hgl g (az hg);have hj:=(ae.mp hg).1;have hlen:=zax (f:=λg:List (Int×Int)=>(zn (zu rm c)).map λw=>g++[(c,w)]) (k:=4) (λg=>by rw[ab,zI];lia) (gs.take j);rw[aR] at hlen;have hC3:=λv5=>hC2 (D:=[some (.d (stD rm)),some (.d (lsD bs)),some (.d (.lst (gs.map xC))),some (.d (.int c)),some (.d (.lst (((gs.take (j+1)).flatMap λg=>(zn (zu rm c)).map λw=>g++[(c,w)]).map xC))),v5]) (m:=m') #[BC,_,BC];rw[zi hg,cm,cY,aH] at hC3;left;show onA hcr.1 hcr.2 ?_;left;show#[#[by lia,by lia],?_];rw[xu];show zam (List.range (zu rm c).toNat) (λk:Nat=>W.d (.int (k:Int))) BC (λD=>∃v,D=[v,some (.d (xC g)),some (.d (.int c))]) (λk:Nat=>xC (g++[(c,(k:Int))])) (by rw[aI];show av (by lia:_<=4) (by ext)) #[_,BC] ?_ ?_;rintro k hk ρ' ⟨v,rfl⟩ BI hD;left;show#[by rw[ab];show av (by simp;lia:_<=101) (by ext),?_];rw[show g.map zK++[Dt.tup [Dt.int c,Dt.int (k:Int)]]=(g++[(c,(k:Int))]).map zK by rw[aH];rfl];show hD #[_,BC];have e:(List.range (zu rm c).toNat).map (λk:Nat=>xC (g++[(c,(k:Int))]))=((zn (zu rm c)).map λw=>g++[(c,w)]).map xC:=by unfold zn;rw[ar,ar];rfl
 rw[e];show#[by rw[ab,ab,ab,zI];show av (by lia:_<=1000) (by ext),?_];show hC3 _;rintro D m' ⟨rfl,v5,rfl⟩;rw[aV];left;show hC' _ _ _;rintro D m ⟨rfl,v3,v4,v5,rfl⟩;rw[aV];left;show r cs hlt hp
inductive F_lkd  (Pn:PN):AV->Nat->AW->Prop
 | i {n:Nat} {R:AW} {p:Addr} {rm ah:AH} {mo:Int} (hP:IsP Pn p) (hR:WideOk rm) (hN:ah.Nodup) (hb:∀b∈ah,0<=b/\b<rm.length) (hl:ah.length<=16) (h:∀bs m,bs.Nodup->(∀b∈bs,b∈ah)->bs.length<=3->m<=n+30->R (.d (lsD bs)) m) (hn:n+60<=1000000:=by lia):F_lkd Pn [.pen p,.d (stD rm),.d (lsD ah),.d (.int mo)] n R
def zcp (T:Txt K mg t):FnOk P w K mg base CX0 3 t.f26 t.d26 li (spV 4 false F_lkd):=by
 have G1:=yx (P:=P) (w:=w) (base:=base) T;have G2:=uf (P:=P) (w:=w) (base:=base) T
 show Fun.okW (k:=2) (fr:=false) [4] 3 T.q26.F yH BC (by ext) BC λcdv A outer s H E Pn hr=>#[_,(zc (wS xm <| uK (i:=4) yH.nd (zbb zg))
   (zc (wS zv <| zM (i:=5) yH.nd zP)
   (zc (yt aO BC (wI zN <| zQ K BC (wE zdR <| zlH (JE.bo (wE zq <| yT T.q2 G2 hr (za (kv 0) (za (kv 2) zg)))) xR (wO xb <| xS (JE.bo (zaD xi zek (JE.bo zP) (JE.bo (wE zq <| yT T.q1 G1 hr (za (kv 0) (za zP zg))))))))) (wG zt <| zd (i:=6) yH.nd) (zh (wS ye <| x3 (wT zp <| zT zrR u_le (JE.bo (zaD zat zqd (kb 5) (JE.bo (zbN xt zaj (kb 1) (kb 6) (λ_ _=>rfl))))) (kb 3) (zV _)) (zc (wS zv <| zM (i:=5) yH.nd (zaD zat zqd (kb 5) (JE.bo (zbN xt zaj (kb 1) (kb 6) (λ_ _=>rfl)))))
   (zh (wS uP <| zbp 4 (kv 6)))) yd)))
   (zh (wS zaU <| zcf 4))))),λws n R hF=>?_]
 obtain @⟨_,_,p,rm,ah,mo,hP,hR,hN,hb,hl,r,hn⟩:=hF;left;show tc hP (λl hl'=>?_) (by rw[ab];lia) (by rw[ab];lia);rw[ab];obtain⟨bs,hbp,rfl⟩:=xj hl' BC;have hbN:bs.Nodup:=hbp.nodup_iff.mpr hN;left;show dc hP λu u0 u1=>?_;left;rw[uH,show (1+u:Int)=(((1+u).toNat:Nat):Int) by lia,L3.zdC];have h3:(bs.take (1+u).toNat).length<=3:=by rw[aR];lia
 have hsub:(bs.take (1+u).toNat).Sublist bs:=fH _ _;have htN:(bs.take (1+u).toNat).Nodup:=hbN.sublist hsub;have hta:∀b∈bs.take (1+u).toNat,b∈ah:=λb hb'=>hbp.mem_iff.mp (hsub.subset hb');generalize bs.take (1+u).toNat=ts at h3 htN hta;left;show zW ts (λi=>.d (.int i)) (by rw[ar];rfl) (λi D m=>m=n+ah.length+1/\∃ (ls:AH) (k:Int) (v:Option W),D=[some (.pen p),some (.d (stD rm)),some (.d (lsD ah)),some (.d (.int mo)),some (.d (.lst (ls.map Dt.int))),some (.d (.int k)),v]/\ls.Sublist (ts.take i)/\1<=k/\k<=4 ^ i) #[BC,[],1,_,BC,List.nil_sublist _,by lia,by ext] ?_ ?_
 ·rintro i c D m hc ⟨rfl,ls,k,v,rfl,hs,k0,k1⟩ C B E hC _ _;have hcr:=hb c (hta c (az hc));have hmm:=zA hR.box hcr.1 hcr.2;have hi:=(ae.mp hc).1
  have h64:(4:Int) ^ i<=64:=by
   have:i=0\/i=1\/i=2:=by lia
   rcases this with rfl | rfl | rfl <;> decide
  have hk2:k * zu rm c<=4 ^ (i+1):=by have:k * zu rm c<=k * 4:=cV hmm.2 (by lia);rw[Int.pow_succ];lia
  have hk3:1<=k * zu rm c:=by have:k * 1<=k * zu rm c:=cV (by lia) (by lia);lia
  left;show onA hcr.1 hcr.2 ?_;left;show#[.inl #[by lia,by lia],?_];left;show uh (λ_=>?_) (λ_=>#[hC #[BC,ls,k,_,BC,hs.trans (List.take_sublist_take_left (cQ i)),k0,by rw[Int.pow_succ];lia]]);left;show onA hcr.1 hcr.2 ?_;left;show#[.inl #[by lia,by lia],?_];left;have hll:=hs.length_le;rw[aR] at hll;show#[by rw[ab];show aY (by lia:_<=8) (by ext),?_];show hC #[BC,ls++[c],_,_,by rw[aH];rfl,?_,hk3,hk2];rw[zi hc];show hs.append (List.Sublist.refl _)
 rintro D m ⟨rfl,ls,k,v,rfl,hs,k0,k1⟩;rw[aV] at hs;left;show r ls _ (htN.sublist hs) (λb hb'=>hta b (hs.subset hb')) (av hs.length_le h3) (by lia)
theorem ziB {rm:AH}(hb:∀r∈rm,2<=r/\r<=4):∀ {n:Nat} {bs:AH},bs.length=n->(∀b∈bs,0<=b/\b<rm.length)->(xY rm bs).Nodup
 | 0,bs,h,_=>by
  cases bs with
  | nil=>show bJ.mpr #[by simp,.nil]
  | cons _ _=>cases h
 | n+1,bs,h,hr=>by
  obtain⟨cs',c,rfl⟩:∃cs' c,bs=cs'++[c]:=#[bs.dropLast,bs.getLast (by intro z;rw[z] at h;cases h),(bn _).symm];rw[xy];show List.pairwise_flatMap.mpr #[λg hg=>cH.mpr ((yg _).imp λhne e=>hne ?_),(ziB hb (n:=n) (bs:=cs') (by simpa using h) λb z=>hr b (bi _ z)).imp λ{g g'} hne x hx y hy e=>hne ?_];have:=List.append_cancel_left e;simp at this;show this;obtain⟨w,_,rfl⟩:=aq.mp hx;obtain⟨w',_,rfl⟩:=aq.mp hy;show (List.append_inj' e BC).1
structure PT (rm:AH)(bk:AY)(bs:AH)(cs:Int->AH)(i:Nat):Prop where
 look:∀j b,j<i->bs[j]?=some b->(cs b).Pairwise (· < ·)/\(cs b).length<=3/\∀z∈cs b,z∈bs.take j
 giv:∀x∈bk,x.b∈bs.take i/\x.g∈xY rm (cs x.b)
 rk:∀b∈bs.take i,∀g∈xY rm (cs b),∃ks:AH,ks.Perm (zn (zu rm b))/\∀r w,(#[g,b,r,w]:Wi)∈bk↔∃k,ks[k]?=some r/\ks[k+1]?=some w
structure PG (rm:AH)(new:AY)(box:Int)(gs:List (List (Int×Int)))(j:Nat):Prop where
 giv:∀x∈new,x.b=box/\x.g∈gs.take j
 rk:∀g∈gs.take j,∃ks:AH,ks.Perm (zn (zu rm box))/\∀r w,(#[g,box,r,w]:Wi)∈new↔∃k,ks[k]?=some r/\ks[k+1]?=some w
def PT.zero {rm bs:AH}{cs:Int->AH}:PT rm [] bs cs 0:=#[λj b h=>absurd h (by lia),by simp,by simp]
def PG.zero {rm:AH}{box:Int}{gs:List (List (Int×Int))}:PG rm [] box gs 0:=#[by simp,by simp]
def cnw (g:List (Int×Int))(box:Int)(rs:AH)(k:Nat):AY:=(List.range k).map λk=>#[g,box,rs.getD k 0,rs.getD (k+1) 0]
def zle {g:List (Int×Int)}{box:Int}{rs:AH}{k:Nat}:cnw g box rs (k+1)=cnw g box rs k++[#[g,box,rs.getD k 0,rs.getD (k+1) 0]]:=by unfold cnw;rw[fj,aH];rfl
def zoJ {g:List (Int×Int)}{box r w:Int}{rs:AH}:(#[g,box,r,w]:Wi)∈cnw g box rs (rs.length - 1)↔∃k,rs[k]?=some r/\rs[k+1]?=some w:=by
 unfold cnw;rw[aq];constructor;rintro⟨k,hk,e⟩;have hk:=aZ.mp hk;simp only[Wi.mk.injEq,true_and] at e;show#[k,?_,?_];rw[<- e.1,aD,aj (by lia)];rfl;rw[<- e.2,aD,aj (by lia)];rfl;rintro⟨k,h1,h2⟩;have:=(ae.mp h2).1;show#[k,aZ.mpr (by lia),?_];rw[aD,aD,h1,h2];rfl
def PG.step {rm:AH}{new:AY}{box:Int}{gs:List (List (Int×Int))}{j:Nat}{g:List (Int×Int)}{rs:AH}(h:PG rm new box gs j)(hN:gs.Nodup)(hg:gs[j]?=some g)(hp:rs.Perm (zn (zu rm box))):PG rm (new++cnw g box rs (rs.length - 1)) box gs (j+1):=by
 have hgn:g∉gs.take j:=λz=>by obtain⟨k,hk,e⟩:=bO z;rw[aR] at hk;rw[cj] at e;obtain⟨hj,e2⟩:=ae.mp hg;have:=(bM hN).mp (e.trans e2.symm);lia
 have hc:∀x∈cnw g box rs (rs.length - 1),x.b=box/\x.g=g:=λx hx=>by obtain⟨k,_,rfl⟩:=aq.mp hx;show#[BC,BC]
 show#[λx hx=>?_,λg' hg'=>?_];rw[zi hg];rcases aE.mp hx with z | z;show#[(h.giv x z).1,bi _ (h.giv x z).2];show#[(hc x z).1,ba _ (by rw[(hc x z).2];simp)];rw[zi hg] at hg';rcases aE.mp hg' with z | z;obtain⟨ks,h1,h2⟩:=h.rk g' z;show#[ks,h1,λr w=>?_];rw[aE,<- h2 r w];show#[λy=>y.elim id λy=>absurd z (by rw[show g'=g from (hc _ y).2];show hgn),.inl];rw[au.mp z];show#[rs,hp,λr w=>?_];rw[aE,<- zoJ (g:=g) (box:=box)];show#[λy=>y.elim (λy=>absurd (h.giv _ y).2 hgn) id,.inr]
def PT.step {rm:AH}{bk new:AY}{bs ss:AH}{cs:Int->AH}{i:Nat}{box:Int}(h:PT rm bk bs cs i)(hN:bs.Nodup)(hb:bs[i]?=some box)(s1:ss.Pairwise (· < ·))(s2:ss.length<=3)(s3:∀z∈ss,z∈bs.take i)(hG:PG rm new box (xY rm ss) (xY rm ss).length):PT rm (bk++new) bs (λb=>if b=box then ss else cs b) (i+1):=by
 have hbn:∀j,j<i->bs[j]?≠some box:=λj hj e=>by obtain⟨h1,e1⟩:=ae.mp e;obtain⟨h2,e2⟩:=ae.mp hb;have:=(bM hN).mp (e1.trans e2.symm);lia
 have hbt:box∉bs.take i:=λz=>by obtain⟨j,hj,e⟩:=bO z;rw[aR] at hj;rw[cj] at e;show hbn j (by lia) (by rw[<- e];show aj _)
 have hG1:=hG.giv;have hG2:=hG.rk;rw[aV] at hG1 hG2;show#[λj b hj e=>?_,λx hx=>?_,λb hb' g hg=>?_];by_cases z:b=box;subst z
 have:j=i:=by
  by_cases y:j=i;show y;show absurd e (hbn j (by lia))
 subst this;simp only[if_true];show#[s1,s2,s3]
 have hji:j<i:=by
  by_cases y:j=i;rw[y,hb] at e;cases e;show absurd BC z;lia
 simp only[if_neg z];show h.look j b hji e;rw[zi hb];rcases aE.mp hx with z | z;have:=h.giv x z;have hne:x.b≠box:=λe=>hbt (e ▸ this.1);simp only[if_neg hne];show#[bi _ this.1,this.2];have:=hG1 x z;simp only[if_pos this.1];show#[ba _ (by rw[this.1];simp),this.2];rw[zi hb] at hb';rcases aE.mp hb' with z | z;have hne:b≠box:=λe=>hbt (e ▸ z);simp only[if_neg hne] at hg;obtain⟨ks,h1,h2⟩:=h.rk b z g hg;show#[ks,h1,λr w=>?_];rw[aE,<- h2 r w];show#[λy=>y.elim id λy=>absurd (hG1 _ y).1 hne,.inl];have e:=au.mp z;subst e;simp only[if_true] at hg;obtain⟨ks,h1,h2⟩:=hG2 g hg;show#[ks,h1,λr w=>?_];rw[aE,<- h2 r w];show#[λy=>y.elim (λy=>absurd (h.giv _ y).1 hbt) id,.inr]
def PT.done {rm:AH}{bk:AY}{bs:AH}{cs:Int->AH}(h:PT rm bk bs cs bs.length)(hp:bs.Perm (zn (rm.length:Int))):Pln rm bk bs cs:=by have h2:=h.giv;have h3:=h.rk;rw[aV] at h2 h3;show#[hp,λi b e=>h.look i b (ae.mp e).1 e,h2,h3]
inductive F_plB  (Pn:PN):AV->Nat->AW->Prop
 | i {n:Nat} {R:AW} {p:Addr} {rm:AH} {mo:Int} (hP:IsP Pn p) (hR:WideOk rm) (h:∀bk m,u7 rm bk->bk.length<=4000->(∃bs cs,Pln rm bk bs cs)->m<=n+10000->R (.d (.lst (bk.map uq))) m) (hn:n+20000<=1000000:=by lia):F_plB Pn [.pen p,.d (stD rm),.d (.int mo)] n R
def zaA (T:Txt K mg t):FnOk P w K mg base CX0 4 t.f27 t.d27 lv (spV 3 true F_plB):=by
 have G2:=uf (P:=P) (w:=w) (base:=base) T;have G25:=zbi (P:=P) (w:=w) (base:=base) T;have G26:=zcp (P:=P) (w:=w) (base:=base) T
 show Fun.okW (k:=3) (fr:=true) [4] 7 T.q27.F zC BC (by ext) BC λcdv A outer s H E Pn hr=>#[_,(zc (wS zv <| zM (i:=3) zC.nd (wE zq <| yT T.q2 G2 hr (za (kv 0) (za (wE zcl <| zeJ T.b_list T.b_range (zl (JE.bo (z7 yU zaC (by rfl) T.b_len be (zl (kb 1) zr))) zr)) zg))))
   (zc (wS xm <| uK (i:=4) zC.nd (zbb zg))
   (zc (yt aO BC (wI zlT <| zlI BC T.b_enumerate (za (kv 3) zg)) (wG yO <| yP (n:=2) K BC BC (wH zx <| zk (wG zt <| zd (i:=5) zC.nd) (wH zx <| zk (wG zt <| zd (i:=6) zC.nd) (wH yN yc)))) (zh (yt aO BC (wI zN <| zQ K BC (wE zq <| yT T.q25 G25 hr (za (kv 1) (za (wE zq <| yT T.q26 G26 hr (za (kv 0) (za (kv 1) (za (wE zdR <| zlH (kb 3) xR (wO xb <| xS (kb 5))) (za (kv 2) zg))))) zg)))) (wG zt <| zd (i:=7) zC.nd) (zc (wS zv <| zM (i:=8) zC.nd (wE zq <| yT T.q2 G2 hr (za (kv 0) (za (wE zcl <| zeJ T.b_list T.b_range (zl (JE.bo (zbN xt zaj (kb 1) (kb 6) (λ_ _=>rfl))) zr)) zg))))
   (zh (yt aO BC (wI yX <| z6 BC T.b_range (zl (JE.bo (zaD zrS zvJ (JE.bo (z7 yU zaC (by rfl) T.b_len be (zl (kb 8) zr))) (JE.bo zP))) zr)) (wG zt <| zd (i:=9) zC.nd) (zh (wS uP <| zbp 4 (yG (za (kv 7) (za (kv 6) (za (zbN ur zft (kb 8) (kb 9) (λ_ _=>rfl)) (za (zbN ur zft (kb 8) (JE.bo (zaD xi zek (kb 9) (JE.bo zP))) (λ_ _=>rfl)) zg)))))))))))))
   (zh (wS zaU <| zcf 4))))),λws n R hF=>?_]
 obtain @⟨_,_,p,rm,mo,hP,hR,r,hn⟩:=hF;left;have h16:=hR.few;rw[ab];show#[#[by lia,by lia],?_];left;show tc hP (λl hl=>?_) (by rw[zad];lia) (by rw[zad];lia);rw[zad];obtain⟨bs,rfl,hbp⟩:=zg6 hl;have hbN:bs.Nodup:=hbp.nodup_iff.mpr (yg _);have hbm:∀b∈bs,0<=b/\b<rm.length:=λb hb=>by have:=zE.mp (hbp.mem_iff.mp hb);lia
 have hbl:=hbp.length_eq;rw[zI] at hbl;left;have hbl16:bs.length<=16:=by lia
 generalize hn1:n+(rm.length:Int).toNat=n1;show zW (List.range bs.length) (λi=>W.d (.tup [.int (i:Int),.int (bs.getD i 0)])) (ziT bs) (λi D m=>m<=n1+400 * i/\∃ (bk:AY) (v5 v6 v7 v8 v9:Option W),D=[some (.pen p),some (.d (stD rm)),some (.d (.int mo)),some (.d (.lst (bs.map Dt.int))),some (.d (.lst (bk.map uq))),v5,v6,v7,v8,v9]/\u7 rm bk/\bk.length<=192 * i/\∃cs,PT rm bk bs cs i) #[by lia,[],_,_,_,_,_,BC,by intro x hx;simp at hx,by simp,λ_=>[],PT.zero] ?_ ?_;rintro i k D m hik ⟨hm,bk0,v5,v6,v7,v8,v9,rfl,hB,hl',csO,hPT⟩ C B E hC _ _;obtain⟨hk1,hk2⟩:=ae.mp hik;rw[aI] at hk1;rw[bF] at hk2;subst hk2;have hbi:bs[i]?=some (bs.getD i 0):=by rw[aD,aj hk1];rfl
 have hbox:=hbm _ (zb8 hk1);have hnot:=zp5 hbN hk1;generalize bs.getD i 0=box at hbox hnot hbi;have hmm:=zA hR.box hbox.1 hbox.2;left;rw[uH,L3.zdC];have htl:(bs.take i).length<=16:=by rw[aR];lia
 show F_lkd.i hP hR (hbN.sublist (fH _ _)) (λb hb=>hbm b (bj hb)) htl λlk n2 hsN hs3 hs4 hn2=>?_;left;show F_ctx.i hR hsN (λb hb=>hbm b (bj (hs3 b hb))) (by lia) λcs hcs hcp=>?_;have hcm:∀c∈cs,(0<=c/\c<rm.length)/\c≠box:=λc hc=>by have h1:=hs3 c (hcp.mem_iff.mp hc);show#[hbm c (bj h1),λe=>hnot (e ▸ h1)]
 have hgs:∀g∈xY rm cs,Giv rm g/\∀q∈g,q.1≠box:=λg hg=>#[zgI hcs (λb hb=>(hcm b hb).1) hg,λq hq=>by have h1:=(yw BC hg).1;show (hcm q.1 (by rw[<- h1];show aq.mpr #[q,hq,BC])).2];have hgl:(xY rm cs).length<=64:=by show av (zaJ hR.box BC λb hb=>(hcm b hb).1) ?_;have:=hcp.length_eq;show av (cF (by ext) (by lia:_<=3)) (by ext)
 have hgN:=ziB hR.box BC λb hb=>(hcm b hb).1;have hfin:=λ(new:AY) (hG:PG rm new box (xY rm cs) (xY rm cs).length)=>hPT.step hbN hbi hcs (by have:=hcp.length_eq;lia) (λz hz=>hs3 z (hcp.mem_iff.mp hz)) hG;generalize xY rm cs=gs at hgs hgl hgN hfin;left;show zW gs (λg=>.d (xC g)) (by rw[ar];rfl) (λj D m'=>m'<=n2+4 * j/\∃ (bk:AY) (v7 v8 v9:Option W),D=[some (.pen p),some (.d (stD rm)),some (.d (.int mo)),some (.d (.lst (bs.map Dt.int))),some (.d (.lst (bk.map uq))),some (.d (.int (i:Int))),some (.d (.int box)),v7,v8,v9]/\u7 rm bk/\bk.length<=192 * i+3 * j/\∃new,bk=bk0++new/\PG rm new box gs j) #[by lia,bk0,_,_,_,BC,hB,by lia,[],by simp,PG.zero] ?_ ?_;rintro j g D m' hg ⟨hm',bk,v7,v8,v9,rfl,hB,hl',new,hnew,hPG⟩ C' B' E' hC' _ _;have hgg:=hgs g (az hg);have hj:=(ae.mp hg).1;left;show onA hbox.1 hbox.2 ?_;left;show#[#[by lia,by lia],?_];left;show tc hP (λl hl=>?_) (by rw[zad];lia) (by rw[zad];lia);rw[zad];obtain⟨rs,rfl,hrp⟩:=zg6 hl;have hrN:rs.Nodup:=hrp.nodup_iff.mpr (yg _);have hrl:=hrp.length_eq;rw[zI] at hrl;have hrm:∀x∈rs,0<=x/\x<zu rm box:=λx hx=>by have:=zE.mp (hrp.mem_iff.mp hx);lia
 left;rw[ab];show#[#[by lia,by lia],zeA (λk D m2=>m2=m'+(zu rm box).toNat/\∃ (bk:AY) (v9:Option W),D=[some (.pen p),some (.d (stD rm)),some (.d (.int mo)),some (.d (.lst (bs.map Dt.int))),some (.d (.lst (bk.map uq))),some (.d (.int (i:Int))),some (.d (.int box)),some (.d (xC g)),some (.d (.lst (rs.map Dt.int))),v9]/\u7 rm bk/\bk.length<=192 * i+3 * j+k/\bk=bk0++(new++cnw g box rs k)) #[BC,bk,_,BC,hB,by lia,by rw[hnew];simp[cnw]] ?_ ?_];rintro k D m2 hk ⟨rfl,bk,v9,rfl,hB,hl',ebk⟩ C2 B2 E2 hC2 _ _;have hk1:k+1<rs.length:=by lia
 left;show onA (Int.natCast_nonneg k) (by lia) ?_;left;show onA (by lia) (by lia) ?_;rw[show ((k:Int)+1)=((k+1:Nat):Int) from rfl,xI,xI];have q1:=hrm _ (zb8 (i:=k) (by lia));have q2:=hrm _ (zb8 hk1)
 have q3:rs.getD k 0≠rs.getD (k+1) 0:=λe=>by
  have e1:rs.getD k 0=rs[k]:=by simp[show k<rs.length by lia]
  have e2:rs.getD (k+1) 0=rs[k+1]:=by simp[hk1]
  rw[e1,e2] at e;have:=(bM hrN).mp e;lia
 left;show#[by rw[ab];show aY (by lia:_<=10000) (by ext),?_];show hC2 #[BC,bk++[#[g,box,rs.getD k 0,rs.getD (k+1) 0]],_,by rw[aH];rfl,hB.app λy hy=>?_,by rw[ay];simp;lia,by rw[ebk,zle];simp];rw[au.mp hy];show#[hgg.1,hbox.1,hbox.2,hgg.2,q1.1,q1.2,q2.1,q2.2,q3];rintro D m2 ⟨rfl,bk,v9,rfl,hB,hl',ebk⟩;left;show hC' #[by lia,bk,_,_,_,BC,hB,by lia,_,ebk,?_];rw[show (((rs.length:Nat):Int) - 1).toNat=rs.length - 1 by lia];show hPG.step hgN hg hrp;rintro D m' ⟨hm',bk,v7,v8,v9,rfl,hB,hl',new,rfl,hPG⟩;left;show hC #[by lia,_,_,_,_,_,_,BC,hB,by lia,_,hfin new hPG]
 ·rintro D m ⟨hm,bk,v5,v6,v7,v8,v9,rfl,hB,hl',cs,hPT⟩;rw[aI] at hm hl' hPT;left;show r bk m hB (by lia) #[bs,cs,hPT.done hbp] (by lia)
def ztm (s rm:AH)(hl:s.length=rm.length):ziW (s.map Dt.int) (rm.map Dt.int)=(List.range rm.length).map λi:Nat=>W.d (.tup [.int (zu s i),.int (zu rm i)]):=by
 show List.ext_getElem? λi=>?_;rw[zk1,aA,aA,aA];by_cases hi:i<rm.length;rw[aj hi,aj (show i<s.length by lia),List.getElem?_range hi];change some (W.d (.tup [.int s[i],.int rm[i]]))=some (W.d (.tup [.int (zu s i),.int (zu rm i)]));rw[xI,xI];simp[hi,show i<s.length by lia];rw[cC (l:=rm) (by lia),cC (l:=List.range _) (by rw[aI];lia),cC (l:=s) (by lia)];rfl
inductive F_isS  (Pn:PN):AV->Nat->AW->Prop
 | i {n:Nat} {R:AW} {rm s:AH} (hs:StOk rm s) (h:R (.d (.bl true)) n)  : F_isS Pn [.d (stD rm),.d (stD s)] n R
def zag (T:Txt K mg t):FnOk P w K mg base CX0 1 t.f28 t.d28 lK (spV 2 false F_isS):=by
 show Fun.okW (k:=0) (fr:=false) [] 2 T.q28.F yM BC (by ext) BC λcdv A outer s H E Pn hr=>#[_,(zc (wS ye <| x3 (JW.t (wW zdc <| zhI (wT uQ <| zbq (wT zp <| uM (JE.bo (wE zf4 <| zcR (by rfl) T.b_isinstance T.b_tuple (kb 1))))) (zap (.inr BC) (wT zp <| zT zoX zvI (JE.bo (z7 yU zaC (by rfl) T.b_len be (zl (kb 1) zr))) (JE.bo (z7 yU zaC (by rfl) T.b_len be (zl (kb 0) zr))) (zV _))))) (zh (zF zk5)) yd)
   (zc (yt aO BC (wI zoF <| zrc BC T.b_zip (za (kv 1) (za (kv 0) zg))) (wG yO <| yP (n:=2) K BC BC (wH zx <| zk (wG zt <| zd (i:=2) yM.nd) (wH zx <| zk (wG zt <| zd (i:=3) yM.nd) (wH yN yc)))) (zh (wS ye <| x3 (JW.t (wW zdc <| zhI (wT uQ <| zbq (wT zp <| uM (JE.bo (wE zf4 <| zeI (by rfl) T.b_isinstance T.b_int (kb 2))))) (wW zdc <| zhI (wT zp <| uM (JE.bo (wE zf4 <| zdK (by rfl) T.b_isinstance T.b_bool (kb 2)))) (zap (.inr BC) (wT uQ <| zbq (wT zlV <| zlK zrR zl3 u_le zvH (JE.bo zP) (kb 2) (kb 3))))))) (zh (zF zk5)) yd)))
   (zh (zF zk5)))),λws n R hF=>?_]
 obtain @⟨_,_,rm,s,hs,r⟩:=hF;left;have hl:=hs.len;rw[ab,ab];show zoO (λh=>by lia) (λh=>?_);left;show#[by rw[ab,ab];show hl,?_];rw[ztm s rm hl];show zW (List.range rm.length) (λi:Nat=>W.d (.tup [.int (zu s i),.int (zu rm i)])) BC (λi D m=>m=n/\∃v2 v3,D=[some (.d (stD rm)),some (.d (stD s)),v2,v3]) #[BC,_,_,BC] ?_ ?_;rintro i k D m hk ⟨rfl,v2,v3,rfl⟩ C B E hC _ hE;obtain⟨hk1,hk2⟩:=ae.mp hk;rw[aI] at hk1;rw[bF] at hk2;subst hk2;have h1:=hs.box (i:Int) (by lia) (by lia);left;show uh (λ_=>?_) (λh=>by lia);left;show uh (λ_=>?_) (λh=>by lia);left;show hC #[BC,_,_,BC];rintro D m ⟨rfl,v2,v3,rfl⟩;left;show r
inductive F_put  (Pn:PN):AV->Nat->AW->Prop
 | i {n:Nat} {R:AW} {st:AH} {g:List (Int×Int)} (hg:∀q∈g,0<=q.1/\q.1<st.length) (hgl:g.length<=16) (hl:st.length<=16) (h:R (.d (stD (zcZ st g))) n)  : F_put Pn [.d (stD st),.d (xC g)] n R
def zeZ (T:Txt K mg t):FnOk P w K mg base CX0 1 t.f29 t.d29 lw (spV 2 false F_put):=by
 show Fun.okW (k:=0) (fr:=false) [] 2 T.q29.F uj BC (by ext) BC λcdv A outer s H E Pn hr=>#[_,(zc (yt aO BC (wI xl <| uu K BC (kv 1)) (wG yO <| yP (n:=2) K BC BC (wH zx <| zk (wG zt <| zd (i:=2) uj.nd) (wH zx <| zk (wG zt <| zd (i:=3) uj.nd) (wH yN yc)))) (zh (wS zv <| zM (i:=0) uj.nd (zaD xo uB (JE.bo (zaD xo uB (JE.bo (wE zbe <| zhG (kb 0) xR (wO xb <| xS (kb 2)))) (JE.bo (yG (za (kv 3) zg))))) (JE.bo (wE zbe <| zhG (kb 0) (wO xb <| xS (JE.bo (zaD xi zek (kb 2) (JE.bo zP)))) xR))))))
   (zh (zF (kv 0)))),λws n R hF=>?_]
 obtain @⟨_,_,st,g,hg,hgl,hl,r⟩:=hF;left;show zW g (λq=>.d (zK q)) (by rw[ar];rfl) (λi D m=>m=n/\∃ (v2 v3:Option W),D=[some (.d (stD (zcZ st (g.take i)))),some (.d (xC g)),v2,v3]) #[BC,_,_,BC] ?_ ?_;rintro i q D m hq ⟨rfl,v2,v3,rfl⟩ C B E hC _ _;have hb:=hg q (az hq);have hpl:(zcZ st (g.take i)).length=st.length:=zg8 λq hq=>hg q (bj hq);have hC':=λv2 v3=>hC (D:=[some (.d (stD (zcZ st (g.take (i+1))))),some (.d (xC g)),v2,v3]) (m:=m) #[BC,_,_,BC];rw[zi hq,show zcZ st (g.take i++[q])=chg (zcZ st (g.take i)) q.1 q.2 by unfold zcZ;rw[eh];rfl] at hC';generalize zcZ st (g.take i)=s0 at hpl hC';left;show#[zdy (by lia),?_];left;show#[zdz (by lia),?_];rw[zfG hb.1 (by lia)];left;show hC' _ _;rintro D m ⟨rfl,v2,v3,rfl⟩;rw[aV];left;show r
inductive F_stpW  (Pn:PN):AV->Nat->AW->Prop
 | i {n:Nat} {R:AW} {rm:AH} {bk:AY} {st:AH} {bb:Int} (hR:WideOk rm) (hB:u7 rm bk) (hbb:∀x∈bk,x.b=bb) (hst:st.length=rm.length) (h:R (.d (zhk (znG bk st []))) n)  : F_stpW Pn [.d (yB bk),.d (stD st)] n R
def zcW (T:Txt K mg t):FnOk P w K mg base CX0 1 t.f30 t.d30 lC (spV 2 true F_stpW):=by
 show Fun.okW (k:=0) (fr:=true) [2] 6 T.q30.F yj BC (by ext) BC λcdv A outer s H E Pn hr=>#[_,(zc (wS xm <| uK (i:=2) yj.nd (zbb zg))
   (zc (yt aO BC (wI xl <| uu K BC (kv 0)) (wG yO <| yP (n:=4) K BC BC (wH zx <| zk (wG zt <| zd (i:=3) yj.nd) (wH zx <| zk (wG zt <| zd (i:=4) yj.nd) (wH zx <| zk (wG zt <| zd (i:=5) yj.nd) (wH zx <| zk (wG zt <| zd (i:=6) yj.nd) (wH yN yc)))))) (zh (wS ye <| x3 (JW.t (wW zbd <| zc8 (wT zp <| zT zaB zgx (JE.bo (zbN xt zaj (kb 1) (kb 4) (λ_ _=>rfl))) (kb 6) (zV _)) (zap (.inl BC) (wT zp <| uM (JE.bo (z7 (ziy BC) zp8 (by rfl) T.b_all eC (zl (JE.bo (xG (N:=lq) (BF:=[none,none,some 1]) BC (by fail"c") (wI xl <| uu K BC (kv 3)) (λ_ _ _ _=>(wG yO <| yP (n:=2) K BC BC (wH zx <| zk (wG zt <| zd (i:=0) (show (lq:AN).Nodup by decide +kernel)) (wH zx <| zk (wG zt <| zd (i:=1) (show (lq:AN).Nodup by decide +kernel)) (wH yN yc))))) (λ_ _ _ _=>yi) (λ_ _ _ _=>(zjn zaB zgx (JE.bo (zbN xt zaj (kb 2) (kb 0) (λ_ _=>rfl))) (kb 1) (zV _))))) zr))))))) (zc (wS zv <| zM (i:=7) yj.nd (zaD xo uB (JE.bo (zaD xo uB (JE.bo (wE zbe <| zhG (kb 1) xR (wO xb <| xS (kb 4)))) (JE.bo (yG (za (kv 5) zg))))) (JE.bo (wE zbe <| zhG (kb 1) (wO xb <| xS (JE.bo (zaD xi zek (kb 4) (JE.bo zP)))) xR))))
   (zh (wS ye <| x3 (wT zp <| zT (zj3 hr.units) ztb (kb 7) (kb 2) (by with_unfolding_all rfl)) (zh (wS uP <| zbp 2 (kv 7))) yd))) yd)))
   (zh (zF (z7 znM zqg (by rfl) T.b_sorted cI (zl (kb 2) zr)))))),λws n R hF=>?_]
 obtain @⟨_,_,rm,bk,st,bb,hR,hB,hbb,hst,r⟩:=hF;left;have h16:=hR.few;have hfewA:∀ (m:AY),(∀x∈m,x∈bk)->∀l:AG,l.Nodup->(∀z∈l,z∈zaO m st [])->l.length<=4:=λm hm l hN hz=>by show av (yf (l':=(zn 4).map (chg st bb)) hN λz hz'=>?_) (by rw[ab,zI];decide);obtain⟨x,hx,rfl⟩:=aq.mp (hz z hz');have hxb:=hm x (aK.mp hx).1;have hW:=hB x hxb;have h1:=zA hR.box hW.b0 hW.b1;have h2:=hW.r1;show aq.mpr #[x.r,zE.mpr #[hW.r0,by lia],by rw[hbb x hxb]]
 show zW bk (λx=>W.d (uq x)) (by rw[ar];rfl) (λi D m=>m=n/\∃ (l:AG) (v3 v4 v5 v6 v7:Option W),D=[some (.d (yB bk)),some (.d (stD st)),some (.d (.lst (l.map stD))),v3,v4,v5,v6,v7]/\l.Nodup/\(∀z,z∈l↔z∈zaO (bk.take i) st [])) #[BC,[],_,_,_,_,_,BC,.nil,by simp[zaO]] ?_ ?_;rintro i x D m hx ⟨rfl,l,v3,v4,v5,v6,v7,rfl,hN,hm⟩ C B E hC _ _;have hW:=hB x (az hx);have b0:=hW.b0;have b1:=hW.b1;have hgi:∀q∈x.g,0<=q.1/\q.1<st.length:=λq hq=>by have:=hW.giv.ok q hq;rw[hst];show#[this.1,this.2.1]
 have els:zaN st x=false->∀v3 v4 v5 v6 v7,C [some (.d (yB bk)),some (.d (stD st)),some (.d (.lst (l.map stD))),v3,v4,v5,v6,v7] m:=λhg v3 v4 v5 v6 v7=>by show hC #[BC,l,_,_,_,_,_,BC,hN,λz=>?_];rw[hm z,zi hx,zc5,hg];simp
 left;show onA b0 (by lia) ?_;left;show uh (λhw=>?_) (λhw=>#[els (by unfold zaN;rw[aT hw];rfl) _ _ _ _ _]);left;show zam x.g (λq=>.d (zK q)) (by rw[ar];rfl) (λD=>∃a b,D=[a,b,some (.d (stD st))]) (λq=>.bl (decide (zu st q.1=q.2))) (av (zaM hW.giv hR) (by ext)) #[_,_,BC] ?_ ?_;rintro q hq ρ' ⟨a,b,rfl⟩ BI hD;have hb:=hgi q hq;left;show onA hb.1 hb.2 ?_;left;show hD #[_,_,BC];left;show#[x.g.map λq=>decide (zu st q.1=q.2),by rw[ar];rfl,?_];rw[show (x.g.map λq=>decide (zu st q.1=q.2)).all id=yW st x.g by unfold yW;rw[List.all_map];rfl];left;show ze4 (λhk=>?_) (λhk=>#[els (by unfold zaN;rw[hk,dv]) _ _ _ _ _]);have hg:zaN st x=true:=by unfold zaN;rw[aN hw,hk];rfl
 left;show#[zdy (by lia),?_];left;show#[zdz (by lia),?_];rw[zfG b0 (by lia)];left;show#[yE,zdO l,λb hb=>?_];left;have hgs:∀z,z∈zaO (bk.take (i+1)) st []↔z∈zaO (bk.take i) st []\/z=chg st x.b x.r:=λz=>by rw[zi hx,zc5,hg];simp
 have hfew:l.length<=4:=hfewA _ (λy hy=>bj hy) l hN λz hz=>(hm z).mp hz
 cases b with
 | true=>
  have hin:=zjN.mp (hb.mp BC);fail"cf";show hC #[BC,l,_,_,_,_,_,BC,hN,λz=>?_];rw[hgs z,hm z];constructor;show .inl;rintro (z1 | rfl);show z1;show (hm _).mp hin
 | false=>
  have hnin:chg st x.b x.r∉l:=λz=>by have:=hb.mpr (zjN.mpr z);cases this
  fail"ct";show#[by rw[ab];show aY hfew (by ext),hC #[BC,l++[chg st x.b x.r],_,_,_,_,_,by rw[aH];rfl,?_,λz=>?_]];rw[fN];show#[hN,by simp,λa ha c hc e=>hnin (by rw[<- au.mp hc,<- e];show ha)];rw[aE,au,hgs z,hm z]
 rintro D m ⟨rfl,l,v3,v4,v5,v6,v7,rfl,hN,hm⟩;rw[aV] at hm;left;show#[l,rm.length,BC,?_,hR.pos,λz hz=>zeD hB hst z ((hm z).mp hz),hN,λl' hp hu=>?_];have:=hfewA bk (λx hx=>hx) l hN λz hz=>(hm z).mp hz;lia;rw[show l'=znG bk st [] from zed (zeD hB hst) hu λz=>hp.mem_iff.trans (hm z)];show r
inductive F_mkGv  (Pn:PN):AV->Nat->AW->Prop
 | i {n:Nat} {R:AW} {p:Addr} {rm:AH} (hP:IsP Pn p) (hR:WideOk rm) (h:∀g m,Giv rm g->m<=n+40->R (.d (xC g)) m) (hn:n+60<=1000000:=by lia):F_mkGv Pn [.pen p,.d (stD rm)] n R
def zcT (T:Txt K mg t):FnOk P w K mg base CX0 2 t.f31 t.d31 lG (spV 2 false F_mkGv):=by
 have G1:=yx (P:=P) (w:=w) (base:=base) T
 show Fun.okW (k:=1) (fr:=false) [] 1 T.q31.F za2 BC (by ext) BC λcdv A outer s H E Pn hr=>#[_,(zc (wS zv <| zM (i:=2) za2.nd (zaD xi zek (JE.bo zP) (JE.bo (wE zq <| yT T.q1 G1 hr (za (kv 0) (za zP zg))))))
   (zc (wS ye <| x3 (wT zp <| zT zaB zgx (JE.bo (wE zq <| yT T.q1 G1 hr (za (kv 0) (za zP zg)))) (JE.bo zP) (zV _)) (zh (zF (yG zg))) yd)
   (zh (zF (xF xf zcK (by rfl) T.b_tuple bV (zl (JE.bo (xG (N:=ly) (BF:=[none,some 0,some 1,some 2]) BC (by fail"c") (wI yX <| z6 BC T.b_range (zl (JE.bo (z7 yU zaC (by rfl) T.b_len be (zl (kb 1) zr))) zr)) (λ_ _ _ _=>(wG zt <| zd (i:=0) (show (ly:AN).Nodup by decide +kernel))) (λ_ _ _ _=>(y6 (wT zp <| zT zaB zgx (JE.bo (wE zq <| yT T.q1 G1 hr (za (kv 1) (za (kv 3) zg)))) (JE.bo zP) (zV _)))) (λ_ _ _ _=>(yG (za (kv 0) (za (wE zq <| yT T.q1 G1 hr (za (kv 1) (za (zbN xt zaj (kb 2) (kb 0) (λ_ _=>rfl)) zg))) zg)))))) zr)))))),λws n R hF=>?_]
 obtain @⟨_,_,p,rm,hP,hR,r,hn⟩:=hF;left;have h16:=hR.few;show dc hP λsh s0 s1=>?_;left;show dc hP λz z0 z1=>?_;left;show uh (λ_=>?_) (λ_=>?_);left;show r [] _ #[by simp,.nil] (by lia);left;rw[ab];show#[#[by lia,by lia],?_];rw[xu,aP];show zgF (List.range rm.length) (λk:Nat=>W.d (.int (k:Int))) BC (by rw[aI];show av (by lia:_<=100) (by ext)) (λi ρ' n' acc=>n'<=n+2+2 * i/\i<=rm.length/\∃ (v:Option W) (g:List (Int×Int)),ρ'=[v,some (.pen p),some (.d (stD rm)),some (.d (.int (1+sh)))]/\acc=g.map zK/\Giv rm g/\∀q∈g,q.1<(i:Int)) #[by lia,by lia,none,[],BC,BC,#[by simp,.nil],by simp] ?_ ?_;rintro i k ρ' n' acc hk ⟨hn',hi,v,g,rfl,rfl,hG,hlt⟩ C hC;obtain⟨hk1,hk2⟩:=ae.mp hk;rw[aI] at hk1;rw[bF] at hk2;subst hk2;have hmb:=zA hR.box (b:=(i:Int)) (by lia) (by lia);left;show dc hP λy y0 y1=>?_;left;show uh (λ_=>?_) (λ_=>hC #[by lia,by lia,_,g,BC,BC,hG,λq hq=>by have:=hlt q hq;lia]);left;show onA (by lia) (by lia) ?_;left;show dc hP λu u0 u1=>?_;left
 show hC #[by lia,by lia,_,g++[((i:Int),u)],BC,by rw[aH];rfl,hG.snoc hlt (by lia) (by lia) u0 u1,λq hq=>by
  rcases aE.mp hq with z | z;have:=hlt q z;lia;rw[au.mp z];change (i:Int)<((i+1:Nat):Int);lia]
 rintro ρ' n' acc ⟨hn',hi,v,g,rfl,rfl,hG,hlt⟩;rw[aI] at hn';left;show r g _ hG (by lia)
def ztn (bk:AY)(st:AH)(g:List (Int×Int)):Prop:=∃x∈bk,x.b∉g.map (·.1)/\zaN st x=true
inductive F_btd  (Pn:PN):AV->Nat->AW->Prop
 | i {n:Nat} {R:AW} {rm:AH} {bk:AY} {st:AH} {g:List (Int×Int)} (hR:WideOk rm) (hB:u7 rm bk) (hG:Giv rm g) (hst:st.length=rm.length) (h:∀c:Bool,(c=true↔ztn bk st g)->R (.d (.bl c)) n)  : F_btd Pn [.d (yB bk),.d (stD st),.d (xC g)] n R
def zbh (T:Txt K mg t):FnOk P w K mg base CX0 2 t.f32 t.d32 lj (spV 3 false F_btd):=by
 have G30:=zcW (P:=P) (w:=w) (base:=base) T
 show Fun.okW (k:=1) (fr:=false) [] 2 T.q32.F xp BC (by ext) BC λcdv A outer s H E Pn hr=>#[_,(zc (wS zv <| zbc (i:=3) (zaR (ix:=3) xp.nd BC BC (N:=lm) (BF:=[none,none]) BC (by fail"c") (wI xl <| uu K BC (kv 2)) (λ_ _ _ _=>(wG yO <| yP (n:=2) K BC BC (wH zx <| zk (wG zt <| zd (i:=0) (show (lm:AN).Nodup by decide +kernel)) (wH zx <| zk (wG zt <| zd (i:=1) (show (lm:AN).Nodup by decide +kernel)) (wH yN yc))))) (λ_ _ _ _=>yi) (λ_ _ _ _=>(kv 0))))
   (zc (yt aO BC (wI xl <| uu K BC (kv 0)) (wG zt <| zd (i:=4) xp.nd) (zh (wS ye <| x3 (JW.t (wW zbd <| zc8 (wT zp <| zT xL zbT (JE.bo (zbN xt zaj (kb 4) (JE.bo zP) (λ_ _=>rfl))) (kb 3) (by with_unfolding_all rfl)) (zap (.inl BC) (wT zp <| zT (zj2 hr.units) zqe (JE.bo (wE zq <| yT T.q30 G30 hr (za (yG (za (kv 4) zg)) (za (kv 1) zg)))) (JE.bo (zbb zg)) (zV _))))) (zh (zF zk5)) yd)))
   (zh (zF zk5)))),λws n R hF=>?_]
 obtain @⟨_,_,rm,bk,st,g,hR,hB,hG,hst,r⟩:=hF;left;have hgl:=zaM hG hR;show zam g (λq=>W.d (zK q)) (by rw[ar];rfl) (λD=>∃a b,D=[a,b]) (λq=>.int q.1) (av hgl (by ext)) #[_,_,BC] ?_ ?_;rintro q hq ρ2 ⟨a,b,rfl⟩ BI hD;left;show hD #[_,_,BC];rw[show g.map (λq=>Dt.int q.1)=(g.map (·.1)).map Dt.int by rw[ar];rfl];left;show zW bk (λx=>W.d (uq x)) (by rw[ar];rfl) (λi D m=>m=n/\(∀x∈bk.take i,¬ (x.b∉g.map (·.1)/\zaN st x=true))/\∃v,D=[some (.d (yB bk)),some (.d (stD st)),some (.d (xC g)),some (.d (.lst ((g.map (·.1)).map Dt.int))),v]) #[BC,by simp,_,BC] ?_ ?_;rintro i x D m hx ⟨rfl,hno,v,rfl⟩ C B E hC _ hE;have hxm:=az hx;have hBx:u7 rm [x]:=λy hy=>by rw[au.mp hy];show hB x hxm
 have els:¬ (x.b∉g.map (·.1)/\zaN st x=true)->∀v,C [some (.d (yB bk)),some (.d (stD st)),some (.d (xC g)),some (.d (.lst ((g.map (·.1)).map Dt.int))),v] m:=λh v=>hC #[BC,λy hy=>by
  rw[zi hx] at hy;rcases aE.mp hy with z | z;show hno y z;rw[au.mp z];show h,_,BC]
 left;rw[show atI [Dt.tup (x.g.map zK),Dt.int x.b,Dt.int x.r,Dt.int x.w] 1=some (Dt.int x.b) from rfl];left;show#[g.map (·.1),BC,?_];left;show zjY (λhk=>?_) (λhk=>#[els (λh=>h.1 (bf.mp hk)) _]);have hkn:x.b∉g.map (·.1):=λz=>by rw[bf.mpr z] at hk;cases hk
 left;show F_stpW.i (bk:=[x]) (bb:=x.b) hR hBx (λy hy=>by rw[au.mp hy]) hst ?_
 have hbe:zaN st x=true↔znG [x] st []≠[]:=by
  unfold znG;constructor;intro hg e;have:=(ym (l:=zaO [x] st [])).mpr (zb9.mpr #[x,by simp,hg,by simp,BC]);rw[e] at this;cases this;intro h;obtain⟨z,hz⟩:=List.exists_mem_of_ne_nil _ h;obtain⟨y,hy,hg,_⟩:=zb9.mp (ym.mp hz);rwa[au.mp hy] at hg
 show#[zdO _,zdO [],λc hc=>?_]
 cases c with
 | true=>
  have e:=hc.mp BC;have e2:znG [x] st []=[]:=by simpa [zhk] using e
  fail"cf";left;show els (λh=>hbe.mp h.2 e2) _
 | false=>
  have e2:znG [x] st []≠[]:=λz=>by have:=hc.mpr (by rw[z];rfl);cases this
  fail"ct";left;show hE (r true #[λ_=>#[x,hxm,hkn,hbe.mpr e2],λ_=>rfl])
 rintro D m ⟨rfl,hno,v,rfl⟩;rw[aV] at hno;left;show r false #[λz=>(by cases z),λ⟨x,hx,h⟩=>absurd h (hno x hx)]
inductive F_oth  (Pn:PN):AV->Nat->AW->Prop
 | i {n:Nat} {R:AW} {p:Addr} {rm s:AH} (hP:IsP Pn p) (hR:WideOk rm) (hs:StOk rm s) (h:∀t m,StOk rm t->m<=n+40->R (.d (stD t)) m) (hn:n+60<=1000000:=by lia):F_oth Pn [.pen p,.d (stD rm),.d (stD s)] n R
def zcU (T:Txt K mg t):FnOk P w K mg base CX0 2 t.f33 t.d33 lu (spV 3 false F_oth):=by
 have G1:=yx (P:=P) (w:=w) (base:=base) T
 show Fun.okW (k:=1) (fr:=false) [4] 4 T.q33.F yy BC (by ext) BC λcdv A outer s H E Pn hr=>#[_,(zc (wS zv <| zM (i:=3) yy.nd (zaD xi zek (JE.bo zP) (JE.bo (wE zq <| yT T.q1 G1 hr (za (kv 0) (za zP zg))))))
   (zc (wS xm <| uK (i:=4) yy.nd (zbb zg))
   (zc (yt aO BC (wI yX <| z6 BC T.b_range (zl (JE.bo (z7 yU zaC (by rfl) T.b_len be (zl (kb 1) zr))) zr)) (wG zt <| zd (i:=5) yy.nd) (zc (wS zv <| zM (i:=6) yy.nd (zbN xt zaj (kb 2) (kb 5) (λ_ _=>rfl)))
   (zc (wS ye <| x3 (wT zp <| zT zaB zgx (JE.bo (wE zq <| yT T.q1 G1 hr (za (kv 0) (za (kv 3) zg)))) (JE.bo zP) (zV _)) (zh (wS zv <| zM (i:=6) yy.nd (wE zq <| yT T.q1 G1 hr (za (kv 0) (za (zbN xt zaj (kb 1) (kb 5) (λ_ _=>rfl)) zg))))) yd)
   (zh (wS uP <| zbp 4 (kv 6))))))
   (zh (zF (xF xf zcK (by rfl) T.b_tuple bV (zl (kb 4) zr))))))),λws n R hF=>?_]
 obtain @⟨_,_,p,rm,s,hP,hR,hs,r,hn⟩:=hF;left;have h16:=hR.few;show dc hP λsh s0 s1=>?_;left;rw[ab];show#[#[by lia,by lia],zeA (λi D m=>m<=n+1+2 * i/\i<=rm.length/\∃ (t:AH) (v5 v6:Option W),D=[some (.pen p),some (.d (stD rm)),some (.d (stD s)),some (.d (.int (1+sh))),some (.d (.lst (t.map Dt.int))),v5,v6]/\t.length=i/\∀b:Int,0<=b->b<i->0<=zu t b/\zu t b<zu rm b) #[by lia,by lia,[],_,_,BC,BC,λb b0 b1=>by lia] ?_ ?_];rintro i D m hi ⟨hm,hi2,t,v5,v6,rfl,hl,hb⟩ C B E hC _ _;have hi:i<rm.length:=by lia
 have hmb:=zA hR.box (b:=(i:Int)) (by lia) (by lia);have hsb:=hs.box (i:Int) (by lia) (by lia);have hsl:=hs.len
 have go:∀m' (w:Int),0<=w->w<zu rm i->m'<=n+1+2 * (i+1)->C [some (.pen p),some (.d (stD rm)),some (.d (stD s)),some (.d (.int (1+sh))),some (.d (.lst ((t++[w]).map Dt.int))),some (.d (.int (i:Int))),some (.d (.int w))] m':=λm' w w0 w1 hm'=>hC #[hm',by lia,t++[w],_,_,BC,by rw[ay,hl];rfl,λb b0 b1=>by
  by_cases e:b=(i:Int);subst e;have:zu (t++[w]) (i:Int)=w:=by rw[xI,aD,bm (by lia),hl,gf];rfl
  rw[this];show#[w0,w1];have h1:=hb b b0 (by lia);have:zu (t++[w]) b=zu t b:=by unfold zu;rw[aD,aD,bv (by lia)]
  rw[this];show h1]
 left;show onA (by lia) (by lia) ?_;left;show dc hP λy y0 y1=>?_;left;show uh (λ_=>?_) (λ_=>?_);left;show onA (by lia) (by lia) ?_;left;show dc hP λu u0 u1=>?_;left;show#[by rw[ab];show aY (by lia:_<=16) (by ext),?_];have e2:t.map Dt.int++[Dt.int u]=(t++[u]).map Dt.int:=by rw[aH];rfl
 rw[e2];show go _ u u0 u1 (by lia);left;show#[by rw[ab];show aY (by lia:_<=16) (by ext),?_];have e2:t.map Dt.int++[Dt.int (zu s i)]=(t++[zu s i]).map Dt.int:=by rw[aH];rfl
 rw[e2];show go _ _ hsb.1 hsb.2 (by lia);rintro D m ⟨hm,hi2,t,v5,v6,rfl,hl,hb⟩;rw[aP] at hm hl hb;left;show r t m #[hl,λb b0 b1=>hb b b0 b1] (by lia)
def zld {s:AH}{b:Int}(b0:0<=b)(b1:b<s.length):chg s b (zu s b)=s:=by
 show zgM (zbM b1 b0) λc c0 c1=>?_;rw[zb2 b0 b1 c0];split
 ·rename_i e;rw[e]
 rfl
theorem zke {s:AH}:∀ {g:List (Int×Int)},(∀q∈g,(0<=q.1/\q.1<s.length)/\zu s q.1=q.2)->zcZ s g=s
 | [],_=>rfl
 | q::g,h=>by have hq:=h q am;change zcZ (chg s q.1 q.2) g=s;rw[<- hq.2,zld hq.1.1 hq.1.2];show zke λp hp=>h p (ao _ hp)
theorem zkf {rm:AH}:∀ {g:List (Int×Int)} {s:AH},(∀q∈g,0<=q.1/\q.1<rm.length/\0<=q.2/\q.2<zu rm q.1)->StOk rm s->StOk rm (zcZ s g)
 | [],_,_,hs=>hs
 | q::g,s,h,hs=>by have hq:=h q am;change StOk rm (zcZ (chg s q.1 q.2) g);show zkf (λp hp=>h p (ao _ hp)) (zhg hs hq.1 hq.2.1 hq.2.2.1 hq.2.2.2)
def zk9 {rm:AH}{bk:AY}{g:List (Int×Int)}{s:AH}(hR:WideOk rm)(hB:u7 rm bk)(hT:znA rm bk)(h:IsBest rm bk g s):¬ ztn bk s g:=by rintro⟨x,hx,hn,hg⟩;have hW:=hB x hx;have hb:=h.ok.box x.b hW.b0 hW.b1;unfold zaN at hg;rw[aU,bz] at hg;show (zhq hR hT h.ok hW.b0 hW.b1 hb.1 hb.2).mp (h.top x.b hW.b0 hW.b1 hn) x hx BC hg.2 hg.1.symm
def znF {rm:AH}{bk:AY}{g:List (Int×Int)}{s:AH}(hR:WideOk rm)(hT:znA rm bk)(hs:StOk rm s)(hg:∀q∈g,zu s q.1=q.2)(h:¬ ztn bk s g):IsBest rm bk g s:=by show#[hs,hg,λb b0 b1 hn=>?_];have hb:=hs.box b b0 b1;show (zhq hR hT hs b0 b1 hb.1 hb.2).mpr λx hx e1 e2 e3=>h #[x,hx,by rw[e1];show hn,?_];unfold zaN;rw[aU,bz];show#[by rw[e1,e3],e2]
inductive F_rgt  (Pn:PN):AV->Nat->AW->Prop
 | i {n:Nat} {R:AW} {p:Addr} {rm:AH} {bk:AY} {g:List (Int×Int)} {bs:AH} {cs:Int->AH} (hP:IsP Pn p) (hR:WideOk rm) (hB:u7 rm bk) (hl:bk.length<=9000) (hPl:Pln rm bk bs cs) (hG:Giv rm g) (h:∀m,m<=n+900->R (.d (.bl true)) m) (hn:n+1000<=1000000:=by lia):F_rgt Pn [.pen p,.d (stD rm),.d (yB bk),.d (xC g)] n R
def zcV (T:Txt K mg t):FnOk P w K mg base CX0 8 t.f34 t.d34 lh (spV 4 false F_rgt):=by
 have G23:=zdZ (P:=P) (w:=w) (base:=base) T;have G1:=yx (P:=P) (w:=w) (base:=base) T;have G29:=zeZ (P:=P) (w:=w) (base:=base) T;have G28:=zag (P:=P) (w:=w) (base:=base) T;have G32:=zbh (P:=P) (w:=w) (base:=base) T;have G33:=zcU (P:=P) (w:=w) (base:=base) T
 show Fun.okW (k:=7) (fr:=false) [] 5 T.q34.F yz BC (by ext) BC λcdv A outer s H E Pn hr=>#[_,(zc (wS zv <| zM (i:=4) yz.nd (wE zq <| yT T.q23 G23 hr (za (kv 1) (za (kv 2) (za (kv 3) zg)))))
   (zc (wS ye <| x3 (JW.t (wW zdc <| zhI (wT uQ <| zbq (wT zp <| uM (JE.bo (wE zq <| yT T.q28 G28 hr (za (kv 1) (za (kv 4) zg)))))) (wW zdc <| zhI (wT zp <| zT (zj2 hr.units) zqe (JE.bo (wE zq <| yT T.q29 G29 hr (za (kv 4) (za (kv 3) zg)))) (kb 4) (zV _)) (zap (.inr BC) (wT zp <| uM (JE.bo (wE zq <| yT T.q32 G32 hr (za (kv 2) (za (kv 4) (za (kv 3) zg)))))))))) (zh (zF zk5)) yd)
   (zc (yt aO BC (wI yX <| z6 BC T.b_range (zl (JE.bo zP) zr)) (wG zt <| zd (i:=5) yz.nd) (zc (wS zv <| zM (i:=6) yz.nd (wE zq <| yT T.q29 G29 hr (za (wE zq <| yT T.q33 G33 hr (za (kv 0) (za (kv 1) (za (kv 4) zg)))) (za (kv 3) zg))))
   (zh (wS ye <| x3 (JW.t (wW zbd <| zc8 (wT zp <| zT (zj2 hr.units) zqe (kb 6) (kb 4) (zV _)) (zap (.inl BC) (wT uQ <| zbq (wT zp <| uM (JE.bo (wE zq <| yT T.q32 G32 hr (za (kv 2) (za (kv 6) (za (kv 3) zg)))))))))) (zh (zF zk5)) yd))))
   (zc (wS zv <| zM (i:=7) yz.nd (xG (N:=lm) (BF:=[none,none]) BC (by fail"c") (wI xl <| uu K BC (kv 3)) (λ_ _ _ _=>(wG yO <| yP (n:=2) K BC BC (wH zx <| zk (wG zt <| zd (i:=0) (show (lm:AN).Nodup by decide +kernel)) (wH zx <| zk (wG zt <| zd (i:=1) (show (lm:AN).Nodup by decide +kernel)) (wH yN yc))))) (λ_ _ _ _=>yi) (λ_ _ _ _=>(kv 0))))
   (zc (wS zv <| zbc (i:=8) (zaR (ix:=8) yz.nd BC BC (N:=lA) (BF:=[none,some 4,some 7,some 0]) BC (by fail"c") (wI yX <| z6 BC T.b_range (zl (JE.bo (z7 yU zaC (by rfl) T.b_len be (zl (kb 1) zr))) zr)) (λ_ _ _ _=>(wG zt <| zd (i:=0) (show (lA:AN).Nodup by decide +kernel))) (λ_ _ _ _=>(y6 (JW.t (wW zdc <| zhI (wT zp <| zT zcv zqa (kb 0) (kb 2) (by with_unfolding_all rfl)) (zap (.inr BC) (wT zp <| zT zaB zgx (JE.bo (wE zq <| yT T.q1 G1 hr (za (kv 3) (za zP zg)))) (JE.bo zP) (zV _))))))) (λ_ _ _ _=>(yG (za (kv 0) (za (zbN xt zaj (kb 1) (kb 0) (λ_ _=>rfl)) zg))))))
   (zh (zF (wE zlR <| zuD (JE.bo (zjn (znh hr.units) zta (JE.bo (wE zq <| yT T.q23 G23 hr (za (kv 1) (za (kv 2) (za (xF xf zcK (by rfl) T.b_tuple bV (zl (kb 8) zr)) zg))))) (kb 4) (zV _))) (zuF (zjn (znh hr.units) zta (JE.bo (wE zq <| yT T.q23 G23 hr (za (kv 1) (za (kv 2) (za (kv 3) zg))))) (kb 4) (zV _))))))))))),λws n R hF=>?_]
 obtain @⟨_,_,p,rm,bk,g,bs,cs,hP,hR,hB,hl,hPl,hG,r,hn⟩:=hF;left;have h16:=hR.few;obtain⟨row,ho⟩:=hPl.ord hR;have hc:=hPl.lk hR;have hT:=hPl.oneT hR;have hd:=hPl.set hR;have hO:=zj6 hc ho;have hgl:=zaM hG hR;show F_wb.i hR hB hl hc hG ho hd hT λs hs=>?_;have hsl:=hs.ok.len;have hgs:∀t:AH,StOk rm t->∀q∈g,0<=q.1/\q.1<t.length:=λt ht q hq=>by have:=hG.ok q hq;rw[ht.len];show#[this.1,this.2.1]
 left;show F_isS.i hs.ok ?_;left;show F_put.i (hgs s hs.ok) hgl (by lia) ?_;rw[zke λq hq=>#[hgs s hs.ok q hq,hs.giv q hq]];show#[yE,yE,λc hc'=>?_];obtain rfl:c=true:=hc'.mpr BC;fail"cf";show F_btd.i hR hB hG hsl λc hc'=>?_
 obtain rfl:c=false:=by
  cases c with
  | false=>rfl
  | true=>show absurd (hc'.mp BC) (zk9 hR hB hT hs)
 left;show#[#[by ext,by ext],zeA (λk D m=>k<=10/\m<=n+50 * k/\∃v5 v6:Option W,D=[some (.pen p),some (.d (stD rm)),some (.d (yB bk)),some (.d (xC g)),some (.d (stD s)),v5,v6,none,none]) #[by lia,by lia,_,_,BC] ?_ ?_];rintro k D m hk ⟨_,hm,v5,v6,rfl⟩ C B E hC _ hE;have hk:k<10:=hk;left;show F_oth.i hP hR hs.ok λt m2 ht hm2=>?_;left;show F_put.i (hgs t ht) hgl (by rw[ht.len];lia) ?_;have ho2:=zkf hG.ok ht;have hgv:∀q∈g,zu (zcZ t g) q.1=q.2:=λq hq=>zd6 (hgs t ht) hG.up hq;generalize zcZ t g=u at ho2 hgv;left;show#[yE,yE,λc hc'=>?_]
 cases c with
 | true=>
  fail"cf";left;show hC #[by lia,by lia,_,_,BC]
 | false=>
  have hne:u≠s:=λz=>by have:=hc'.mpr (by rw[z]);cases this
  fail"ct";show F_btd.i hR hB hG ho2.len λc2 hc2=>?_
  obtain rfl:c2=true:=by
   by_cases z:ztn bk u g;show hc2.mpr z;show absurd (zbY hR hB hO (znF hR hT ho2 hgv z) hs) hne
  left;show hC #[by lia,by lia,_,_,BC]
 rintro D m ⟨_,hm,v5,v6,rfl⟩;have hm:m<=n+500:=hm;left;show zam g (λq=>W.d (zK q)) (by rw[ar];rfl) (λD=>∃a b,D=[a,b]) (λq=>.int q.1) (av hgl (by ext)) #[_,_,BC] ?_ ?_;rintro q hq ρ2 ⟨a,b,rfl⟩ BI hD;left;show hD #[_,_,BC];rw[show g.map (λq=>Dt.int q.1)=(g.map (·.1)).map Dt.int by rw[ar];rfl];left;rw[ab];show#[#[by lia,by lia],?_];rw[xu,aP];show zgF (List.range rm.length) (λk:Nat=>W.d (.int (k:Int))) BC (by rw[aI];show av (by lia:_<=100) (by ext)) (λi ρ' n' acc=>n'<=m+i/\i<=rm.length/\∃ (v:Option W) (h:List (Int×Int)),ρ'=[v,some (.d (stD s)),some (.d (.lst ((g.map (·.1)).map Dt.int))),some (.pen p)]/\acc=h.map zK/\Giv rm h/\(∀q∈h,q.1<(i:Int)/\zu s q.1=q.2)/\∀b∈g.map (·.1),b<(i:Int)->b∈h.map (·.1)) #[by lia,by lia,none,[],BC,BC,#[by simp,.nil],by simp,λb hb h=>?_] ?_ ?_;obtain⟨q,hq,rfl⟩:=aq.mp hb;have:=(hG.ok q hq).1;show absurd h (by lia);rintro i k ρ' n' acc hk ⟨hn',hi,v,h,rfl,rfl,hH,hlt,hin⟩ C hC;obtain⟨hk1,hk2⟩:=ae.mp hk;rw[aI] at hk1;rw[bF] at hk2;subst hk2;have hsb:=hs.ok.box (i:Int) (by lia) (by lia)
 have yes:∀m',m'<=m+(i+1)->C [some (.d (.int (i:Int))),some (.d (stD s)),some (.d (.lst ((g.map (·.1)).map Dt.int))),some (.pen p)] m' (h.map zK++[zK ((i:Int),zu s i)]):=λm' hm'=>hC #[hm',by lia,_,h++[((i:Int),zu s i)],BC,by rw[aH];rfl,hH.snoc (λq hq=>(hlt q hq).1) (by lia) (by lia) hsb.1 hsb.2,λq hq=>by
  rcases aE.mp hq with z | z;show#[by have:=(hlt q z).1;lia,(hlt q z).2]
  rw[au.mp z];show#[show (i:Int)<((i+1:Nat):Int) by lia,BC],λb hb hbi=>by
  rw[aH];by_cases e:b=(i:Int);show ba _ (by rw[e];simp);show bi _ (hin b hb (by lia))]
 left;show#[g.map (·.1),BC,?_];left;show ze4 (λhk=>?_) (λhk=>?_);left;show onA (by lia) (by lia) ?_;left;show yes _ (by lia);have hkn:(i:Int)∉g.map (·.1):=λz=>by rw[bf.mpr z] at hk;cases hk
 left;show dc hP λy y0 y1=>?_;left;show uh (λ_=>?_) (λ_=>hC #[by lia,by lia,_,h,BC,BC,hH,λq hq=>#[by have:=(hlt q hq).1;lia,(hlt q hq).2],λb hb hbi=>?_]);left;show onA (by lia) (by lia) ?_;left;show yes _ (by lia);by_cases e:b=(i:Int);show absurd (e ▸ hb) hkn;show hin b hb (by lia);rintro ρ' n' acc ⟨hn',hi,v,h,rfl,rfl,hH,hlt,hin⟩;rw[aI] at hn' hin;have hsh:IsBest rm bk h s:=#[hs.ok,λq hq=>(hlt q hq).2,λb b0 b1 hb=>hs.top b b0 b1 λz=>hb (hin b z b1)];left;show F_wb.i hR hB hl hc hH ho hd hT λs2 hs2=>?_;obtain rfl:s2=s:=zbY hR hB hO hs2 hsh;left;show#[yE,yE,λc hc'=>?_];obtain rfl:c=true:=hc'.mpr BC;left;show F_wb.i hR hB hl hc hG ho hd hT λs3 hs3=>?_;obtain rfl:s3=s2:=zbY hR hB hO hs3 hs;left;show#[yE,yE,λc hc'=>?_];obtain rfl:c=true:=hc'.mpr BC;left;show r _ (by lia)
def zqu (rm:AH)(bk:AY):Prop:=u7 rm bk/\bk.length<=9000/\∃bs cs,Pln rm bk bs cs
def zrE (T:Txt K mg t):FnOk P w K mg base CX0 9 t.f35 t.d35 ll (zkN K):=by
 have G0:FnOk P w K mg base CX0 1 t.f0 t.d0 ll (zmK K):=zf9 T;have G1:=yx (P:=P) (w:=w) (base:=base) T;have G2:=uf (P:=P) (w:=w) (base:=base) T;have G24:=zdX (P:=P) (w:=w) (base:=base) T;have G27:=zaA (P:=P) (w:=w) (base:=base) T;have G31:=zcT (P:=P) (w:=w) (base:=base) T;have G34:=zcV (P:=P) (w:=w) (base:=base) T
 show zu6 (S:=[]) (k:=8) (r:=6) [3] T.q35.F za3 BC BC (by ext) λcdv A outer s H E Pn hr=>#[_,_,_,BC,(ux (i:=1) za3.nd BC (Or.inr BC) (zpv T.q0 G0 hr (zR (qv 0) yQ))),(zc (wS zv <| zM (i:=2) za3.nd (wE zq <| yT T.q24 G24 hr (za (kv 1) zg)))
   (zc (wS xm <| uK (i:=3) za3.nd (zbb zg))
   (zc (yt aO BC (wI yX <| z6 BC T.b_range (zl (JE.bo zP) zr)) (wG zt <| zd (i:=4) za3.nd) (zc (wS zv <| zM (i:=5) za3.nd (wE zq <| yT T.q27 G27 hr (za (kv 1) (za (kv 2) (za zP zg)))))
   (zc (wS zv <| zbc (i:=6) (zaR (ix:=6) za3.nd BC BC (N:=lR) (BF:=[none,some 1]) BC (by fail"c") (wI zN <| zQ K BC (kv 5)) (λ_ _ _ _=>(wG zt <| zd (i:=0) (show (lR:AN).Nodup by decide +kernel))) (λ_ _ _ _=>(y6 (wT zp <| zT zaB zgx (JE.bo (wE zq <| yT T.q1 G1 hr (za (kv 1) (za zP zg)))) (JE.bo zP) (zV _)))) (λ_ _ _ _=>(kv 0))))
   (zh (wS uP <| zbp 3 (xF xf zcK (by rfl) T.b_tuple bV (zl (JE.bo (wE zq <| yT T.q2 G2 hr (za (kv 1) (za (zaD zoV zs9 (kb 5) (JE.bo (wE zdR <| zlH (kb 6) xR (wO xb <| xS (JE.bo zP))))) zg)))) zr)))))))
   (zoq [] 3 (zc (wS zv <| zM (i:=7) za3.nd (wE zq <| yT T.q31 G31 hr (za (kv 1) (za (kv 2) zg))))
   (zc (yt aO BC (wI zN <| zQ K BC (kv 3)) (wG zt <| zd (i:=5) za3.nd) (zh (wS ye <| x3 (wT uQ <| zbq (wT zp <| uM (JE.bo (wE zq <| yT T.q34 G34 hr (za (kv 1) (za (kv 2) (za (kv 5) (za (kv 7) zg)))))))) (zh (zF zk5)) yd)))
   (zh (zF (wE zq <| yT T.q34 G34 hr (za (kv 1) (za (kv 2) (za (zbN ur zft (kb 3) (JE.bo zP) (λ_ _=>rfl)) (za (wE zq <| yT T.q31 G31 hr (za (kv 1) (za (kv 2) zg))) zg))))))))))))),λp c ns hPn=>?_]
 subst hPn;have hP:IsP #[some (p,c,ns),J0] p:=#[c,ns,BC];show zsG ?_;left;show F_wide.i hP λrm m1 hR hm1=>?_;have h16:=hR.few;left;show#[#[by ext,by ext],zeA (λk D m=>k<=2/\m<=m1+20000 * k/\∃ (bks:List AY) (v4 v5 v6:Option W),D=[none,some (.pen p),some (.d (stD rm)),some (.d (.lst (bks.map yB))),v4,v5,v6,none]/\bks.length=k/\∀b∈bks,zqu rm b) #[by lia,by lia,[],_,_,_,BC,BC,by simp] ?_ ?_];rintro k D m hk ⟨_,hm,bks,v4,v5,v6,rfl,hbl,hbk⟩ C B E hC _ _;have hk:k<2:=hk;have hn9:m<=40030:=by lia
 left;show F_plB.i hP hR λbk m2 hB hl hPl hm2=>?_;left;show zgF bk (λx=>W.d (uq x)) (by rw[ar];rfl) (av hl (by ext)) (λi ρ' n' acc=>n'<=m2+i/\∃ (v:Option W) (d:AY),ρ'=[v,some (.pen p)]/\acc=d.map uq/\∀x∈d,x∈bk) #[by lia,none,[],BC,BC,by simp] ?_ ?_;rintro i x ρ' n' acc hx ⟨hn',v,d,rfl,rfl,hd⟩ C hC;have hxm:=az hx;have hxi:=(ae.mp hx).1;left;show dc hP λy y0 y1=>?_;left;show uh (λ_=>?_) (λ_=>hC #[by lia,_,d,BC,BC,hd]);left
 show hC #[by lia,_,d++[x],BC,by rw[aH];rfl,λz hz=>by
  rcases aE.mp hz with h | h;show hd z h;rw[au.mp h];show hxm]
 rintro ρ' n' acc ⟨hn',v,d,rfl,rfl,hd⟩;left;rw[uH];have hcl:(ut d none (some 200)).length<=200:=by rw[show (200:Int)=((200:Nat):Int) from rfl,L3.zdC,aR];lia
 have hcd:∀x∈ut d none (some 200),x∈bk:=λx hx=>hd x (znN hx);generalize ut d none (some 200)=e at hcl hcd;show#[av (show _<=5000 by rw[ab,ab];lia) (by ext),?_];rw[<- aH];have hbe:(bk++e).length<=4200:=by rw[ay];lia
 show tc hP (λl hl'=>?_) (by rw[ab];lia) (by rw[ab];lia);rw[ab];obtain⟨bk2,hbp,rfl⟩:=xj hl' BC;have hmem:∀x,x∈bk2↔x∈bk:=λx=>by rw[hbp.mem_iff,aE];show#[λh=>h.elim id (hcd x),.inl]
 have hgood:zqu rm bk2:=by obtain⟨bs,cs,hP'⟩:=hPl;show#[λx hx=>hB x ((hmem x).mp hx),by rw[hbp.length_eq];lia,bs,cs,hP'.mem hmem]
 left;show#[by rw[ab];show aY (by lia:_<=8) (by ext),?_]
 show hC #[by lia,by lia,bks++[bk2],_,_,_,by rw[aH];rfl,by rw[ay,hbl];rfl,λb hb=>by
  rcases aE.mp hb with h | h;show hbk b h;rw[au.mp h];show hgood]
 rintro D m ⟨_,hm,bks,v4,v5,v6,rfl,hbl,hbk⟩;have hm:m<=m1+40000:=hm;have hbl:bks.length=2:=hbl;left;show F_mkGv.i hP hR λg m2 hG hm2=>?_;left;show zW bks (λb=>W.d (yB b)) (by rw[ar];rfl) (λi D m'=>i<=2/\m'<=m2+1000 * i/\∃v4 v5 v6:Option W,D=[none,some (.pen p),some (.d (stD rm)),some (.d (.lst (bks.map yB))),v4,v5,v6,some (.d (xC g))]) #[by lia,by lia,_,_,_,BC] ?_ ?_;rintro i bk D m' hb ⟨_,hm',v4,v5,v6,rfl⟩ C B E hC _ _;have hi:=(ae.mp hb).1;obtain⟨hB,hl,bs,cs,hPl⟩:=hbk bk (az hb);left;show F_rgt.i hP hR hB hl hPl hG λm3 hm3=>?_;left;show hC #[by lia,by lia,_,_,_,BC];rintro D m' ⟨_,hm',v4,v5,v6,rfl⟩;rw[hbl] at hm'
 match bks,hbl,hbk with
 | [b1,b2],_,hbk=>
  obtain⟨hB,hl,bs,cs,hPl⟩:=hbk b1 (by simp);left;rw[show atI ([b1,b2].map yB) 0=some (yB b1) from rfl];left;show F_mkGv.i hP hR λg2 m3 hG2 hm3=>?_;left;show F_rgt.i hP hR hB hl hPl hG2 λm4 hm4=>?_;left
end
def Dm {K:AI}{h:Heap}{mg:AJ}{x:Str}{st:Stmt}{ps:AN}{f:Addr}{oc kV dc pm cd ct:Value}{od an:Option Addr}{sl:Array AK}(X:K.In h)(BH:h.Ns mainGlobals mg)(a:PySem.W.nsIn K mainGlobals x=some (some (.ref f)))(l:K.lookup f=some #[oc,od,.func (PySem.W.fnOf x x (zaw st) (yC st) (zf st) .none kV dc pm an cd ct),sl])(c:PySem.W.codeIn K cd x=true)(k:PySem.W.keepIn K (.ref f)=true)(b:∀ (kV dc pm:Value) (an:Option Addr) (cd ct:Value) (us:AO),us.length=ps.length->bindArgs (PySem.W.fnOf x x (zaw st) (yC st) (zf st) .none kV dc pm an cd ct) #[us,[]]=pure (ps.zip us)):Dfn K mg x st ps f (PySem.W.fnOf x x (zaw st) (yC st) (zf st) .none kV dc pm an cd ct):=#[zm2 l c k,(zm2 l c k).binds b,PySem.W.mg_of X BH a]
def Ym {K:AI}{h:Heap}{mg:AJ}{x:Str}{i:Int}{u:Tok}(X:K.In h)(BH:h.Ns mainGlobals mg)(a:PySem.W.nsIn K mainGlobals x=some (some (.int i u))):∃v,yv (.int i) v/\mg x=some v:=#[_,#[_,BC],PySem.W.mg_of X BH a]
def fin {l:PySem.W.OpenLaw}{w:Ac}{K:AI}{mg:AJ}{fa:Addr}{t:Ad}(hfa:mg "law" = some (.ref fa))(T:Txt K mg t)(b:∀ (s:Aa) (v:Value),BindsTo s t.d35 #[[v],[]] [("_law_script",v)]):∃fd:Ae,(∀ (s:Aa) (v:Value),BindsTo s fd #[[v],[]] [("_law_script",v)])/\∀base:Heap,K.In base->base.Ns mainGlobals mg->FnOk l.prog w K mg base CX0 9 fa fd ll (zkN K):=by have e:=hfa.symm.trans T.q35.m;cases e;show#[_,b,λbase _ _=>zrE T]
def walk {l:PySem.W.OpenLaw}{q:Ab}{loose:AN}{XP:(AJ)->Heap->Prop}{YP:Ac->Heap->Prop}{d:DefRec}{K:Params->AI}(hn:l.most=some 63)(hdf:d.params.defaults=[])
  (hY:∀ (w:Ac) (h:Heap),YP w h->(K w.params).In h)
  (F:∀ (w:Ac) (mg:AJ) (fa:Addr) (h:Heap),(K w.params).In h->h.Ns mainGlobals mg->mg d.name=some (.ref fa)->
   ∃fd:Ae,(∀ (s:Aa) (u:Value),BindsTo s fd #[[u],[]] [("_law_script",u)])/\∀base:Heap,(K w.params).In base->base.Ns mainGlobals mg->FnOk l.prog w (K w.params) mg base CX0 9 fa fd ll (zkN (K w.params))) :
  PySem.W.WalkO q loose XP YP l.row.toRowW d [] (λf vs=>PySem.call f vs):=
 L2.zql (n:=63) (k:=9) (x := "_law_script") (CX:=λ_=>CX0) (sp:=λw=>zkN (K w.params)) hn (by ext) hdf #[BC,by ext,by ext,rfl] hY F (λ_ _ a ns hl _ hS=>#[a,ns,BC,hS,hl,λ_=>rfl]) λ_ _ _ _ _ z=>z
end Law
end
open PySem PySem.W PyProof.Rows
theorem PySem.W.Fast.te13052408679150730464:True:=.intro
theorem PySem.W.Fast.te13590782946482404596:True:=.intro
set_option maxRecDepth 100000 in
set_option maxHeartbeats 0 in
theorem PySem.Challenge.cw_allelse_k95_best_in_wide_rooms_holds : PySem.Challenge.rw_allelse_k95_best_in_wide_rooms.Holds := by
 w_on;refine holds_law (by decide +kernel) λ_=>?_;k_head;(case hw=>w_witness2)
 k_fill
 refine Law.walk (l:=PySem.Challenge.rw_allelse_k95_best_in_wide_rooms) rfl rfl (λw h Y=>PySem.W.kIn_of Y) ?F
 case F=>
  intro w mg fa h KX G hmg;refine' Law.fin (t:=⟨_,_,_,_,_,_,_,_,_,_,_,_,_,_,_,_,_,_,_,_,_,_,_,_,_,_,_,_,_,_,_,_,_,_,_,_,_,_,_,_,_,_,_,_,_,_,_,_,_,_,_,_,_,_,_,_,_,_,_,_,_,_,_,_,_,_,_,_,_,_,_,_⟩) hmg ⟨?D0,?D1,?D2,?D3,?D4,?D5,?D6,?D7,?D8,?D9,?D10,?D11,?D12,?D13,?D14,?D15,?D16,?D17,?D18,?D19,?D20,?D21,?D22,?D23,?D24,?D25,?D26,?D27,?D28,?D29,?D30,?D31,?D32,?D33,?D34,?D35,?z_ValueError,?z_list,?z_sorted,?z_dict,?z_range,?z_enumerate,?z_tuple,?z_zip,?z_len,?z_abs,?z_all,?z_isinstance,?z_bool,?z_int,?y_MOST_CONTEXTS⟩ λs v=>?b
  (case D0 | D1 | D2 | D3 | D4 | D5 | D6 | D7 | D8 | D9 | D10 | D11 | D12 | D13 | D14 | D15 | D16 | D17 | D18 | D19 | D20 | D21 | D22 | D23 | D24 | D25 | D26 | D27 | D28 | D29 | D30 | D31 | D32 | D33 | D34 | D35=>(dsimp only;refine' Law.Dm (by assumption) (by assumption) ?da ?dl ?dc ?dk ?db;(case da=>k_is);(case dl=>k_is);(case dc=>k_is);(case dk=>k_is);(case db=>(intro _ _ _ _ _ _ us hl;first | (obtain⟨_,e⟩:=L2.us_1 hl;subst e;rfl) | (obtain⟨_,_,e⟩:=L2.us_2 hl;subst e;rfl) | (obtain⟨_,_,_,e⟩:=L2.us_3 hl;subst e;rfl) | (obtain⟨_,_,_,_,e⟩:=L2.us_4 hl;subst e;rfl)))))
  (case z_ValueError | z_list | z_sorted | z_dict | z_range | z_enumerate | z_tuple | z_zip | z_len | z_abs | z_all | z_isinstance | z_bool | z_int=>(refine' PySem.W.mg_none_of (by assumption) (by assumption) ?dz;(case dz=>k_is)))
  (case y_MOST_CONTEXTS=>(refine' Law.Ym (by assumption) (by assumption) ?dz;(case dz=>k_is)))
  (case b=>exact .of_eq rfl)

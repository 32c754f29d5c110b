import PyProof.Rows.All
import Wide.All
import OpenK.AllK
import Wide.FinOn
import Lean
import PyProof.EqAt
import PyProof.EqKinds
import PyProof.TupleCall
import PySem.Challenge.RW_allelse_k47_givens_that_lie
local macro_rules | `(tactic| walk_at "v") => `(tactic| (first | exact Or.inl rfl | exact Or.inr (Or.inl rfl) | exact Or.inr (Or.inr rfl)))
local macro_rules | `(tactic| walk_at "l") => `(tactic| (first | exact Or.inl rfl | exact Or.inr rfl | assumption))
local macro_rules | `(tactic| walk_at "f") => `(tactic| (exact ⟨rfl, rfl, rfl, by decide +kernel, rfl, by decide +kernel, by decide +kernel⟩))
local macro_rules | `(tactic| walk_at "c") => `(tactic| (exact ⟨rfl, by decide +kernel, rfl⟩))
set_option Elab.async false
set_option linter.all false
set_option maxRecDepth 100000
set_option maxHeartbeats 4000000
namespace L2
open PySem PySem.Spec PyProof.Rows
abbrev aa:=@wpAny_bind
abbrev ac:=@List.length_map
abbrev ae:=@Heap.get?_push_of_some
abbrev af:=@Nat.le_refl
abbrev ah:=@Nat.le_trans
abbrev ai:=@wpAny_pure
abbrev aj:=@List.getElem?_eq_some_iff
abbrev ak:=@Heap.lt_size
abbrev am:=@Heap.get?_push_size
abbrev ao:=@List.map_cons
abbrev aq:=@List.getElem?_set_ne
abbrev ar:=@List.getElem?_eq_getElem
abbrev au:=@List.map_map
abbrev av:=@List.mem_cons_of_mem
abbrev aw:=@List.mem_map
abbrev ax:=@List.mem_cons
abbrev ay:=@Option.map_eq_some_iff
abbrev az:=@List.mem_filter
abbrev aA:=@List.map_append
abbrev aB:=@List.getElem?_map
abbrev aC:=@List.mem_of_getElem?
abbrev aD:=@Nat.ne_of_lt
abbrev aE:=@List.mem_singleton
abbrev aF:=@decide_eq_true
abbrev aG:=@Bool.false_ne_true
abbrev aH:=@Bool.and_eq_true
abbrev aI:=@Nat.lt_of_lt_of_le
abbrev aJ:=@List.length_range
abbrev aK:=@List.mem_append
abbrev aL:=@List.mem_cons_self
abbrev aM:=@List.length_append
abbrev aN:=@List.length_cons
abbrev aO:=@List.mem_append_right
abbrev aP:=@List.getElem?_set_self
abbrev aQ:=@decide_eq_false
abbrev aR:=@List.size_toArray
abbrev aS:=@of_decide_eq_true
abbrev aT:=@List.take_length
abbrev aU:=@wpAny_mono
abbrev aV:=@List.length_take
abbrev aW:=@PassesOwn.never
abbrev aX:=@List.mem_range
abbrev aY:=@wpAny_call_entry
abbrev aZ:=@List.getElem_mem
abbrev a6:=@Nat.zero_le
abbrev a8:=@Bool.eq_iff_iff
abbrev a9:=@List.all_eq_true
abbrev ba:=@List.not_mem_nil
abbrev bc:=@List.append_nil
abbrev be:=@Nat.lt_of_le_of_lt
abbrev bf:=@List.find?_cons
abbrev bg:=@List.length_filter_le
abbrev bh:=@Option.some.inj
abbrev bi:=@List.length_set
abbrev bj:=@Int.toNat_natCast
abbrev bn:=@PySem.boot_len
abbrev bp:=@List.dropLast_concat_getLast
abbrev bq:=@PySem.W.kia_one
abbrev br:=@List.getD_eq_getElem?_getD
abbrev bu:=@Heap.get?_update_other
abbrev bv:=@Nat.add_le_add
abbrev bw:=@List.cons_append
abbrev bz:=@List.eq_nil_of_length_eq_zero
abbrev bA:=@List.filterMap_cons
abbrev bB:=@wpAny_field
abbrev bC:=@Option.isSome_map
abbrev bD:=@List.pairwise_map
abbrev bE:=@PyProof.Rows.boot_isinstance
abbrev bF:=@PySem.F.slot_dict_keyiterator_next
abbrev bG:=@PyProof.Rows.callWith_type1
abbrev bH:=@Int.emod_lt_of_pos
abbrev bI:=@Array.getD_eq_getD_getElem?
abbrev bJ:=@PyProof.Rows.boot_tuple
abbrev bK:=@List.getElem?_append_right
abbrev bM:=@wpAny_newObj_type
abbrev bN:=@List.length_pos_iff
abbrev bO:=@Heap.get?_update_self
abbrev bP:=@wpAny_pyIter_tuple
abbrev bQ:=@List.pairwise_cons
abbrev bR:=@Bool.false_eq_true
abbrev bS:=@List.filter_append
abbrev bT:=@List.any_eq_true
abbrev bU:=@wpAny_typeNameOfWhole_keyiter
abbrev bV:=@List.mem_append_left
abbrev bW:=@Nat.lt_irrefl
abbrev bX:=@wpAny_holding
abbrev bY:=@List.all_cons
abbrev bZ:=@wpAny_setField
abbrev b9:=@wpAny_truthy_bool
abbrev cb:=@wpAny_loadPart_at
abbrev ce:=@PySem.mem_of_lookup
abbrev cg:=@Int.emod_nonneg
abbrev cj:=@F.slot_zip_next
abbrev ck:=@F.slot_tuple_iterator_next
abbrev cm:=@List.any_cons
abbrev cq:=@wpAny_typeOf
abbrev cr:=@List.getElem?_append_left
abbrev cu:=@wpAny_seqItems
abbrev cw:=@Heap.size_push
abbrev cy:=@Nat.pow_le_pow_right
abbrev cz:=@AutoSeq1.wpAny_loadPart'
abbrev cA:=@PySem.W.kqd_lay
abbrev cB:=@codeAny_builtin
abbrev cC:=@Nat.le_of_lt
abbrev cD:=@List.map_nil
abbrev cE:=@sizeLine_eq
abbrev cF:=@Heap.SameBut.update
abbrev cG:=@PySem.F.plainAttrs_list
abbrev cH:=@List.getElem?_cons_succ
abbrev cI:=@List.length_drop
abbrev cJ:=@wpAny_isInstance
abbrev cK:=@PyProof.Rows.boot_list
abbrev cL:=@List.mem_filterMap
abbrev cN:=@wpAny_Call_Name_kw
abbrev cO:=@decide_eq_true_iff
abbrev cP:=@Nat.ne_of_gt
abbrev cQ:=@PySem.W.kqd_eqv
abbrev cR:=@PySem.F.typeOf_object_class
abbrev cS:=@wpAny_pyIter_list
abbrev cT:=@List.reverse_cons
abbrev cU:=@wpAny_attempt
abbrev cV:=@Bool.and_true
abbrev cW:=@Calls.Name_function_global
abbrev cY:=@List.pairwise_append
abbrev cZ:=@List.mem_of_mem_take
abbrev c5:=@Around.under_plainId
abbrev c6:=@PySem.F.args_dict_keyiterator_next_1
abbrev c7:=@List.exists_mem_of_ne_nil
abbrev c8:=@beq_eq_false_iff_ne
abbrev c9:=@Array.length_toList
abbrev de:=@PySem.F.entry_dict_keyiterator_next
abbrev dg:=@List.mem_map_of_mem
abbrev dh:=@PySem.F.args_tuple_add_2
abbrev di:=@wpAny_rule
abbrev dj:=@PyProof.Rows.boot_sorted
abbrev dq:=@wpAny_passesOwn
abbrev du:=@List.nodup_cons
abbrev dv:=@tupleKind_room_in1
abbrev dw:=@PySem.F.entry_tuple_add
abbrev dB:=@wpAny_standAt
abbrev dC:=@Obj.data_mapFields
abbrev dD:=@Array.append_empty
abbrev dE:=@List.pairwise_singleton
abbrev dF:=@Option.bind_eq_some_iff
abbrev dG:=@List.contains_cons
abbrev dH:=@List.length_eq_zero_iff
abbrev dJ:=@PySem.W.mg_of
abbrev dL:=@PySem.W.cellsFrom_some
abbrev dM:=@wpAny_Assign_Subscript
abbrev dN:=@PySem.F.slot_tuple_add
abbrev dO:=@PySem.W.kitx_list
abbrev dP:=@PySem.W.kitx_dict
abbrev dQ:=@Calls.spliced_nil
abbrev dR:=@F.args_zip_next_1
abbrev dS:=@List.append_assoc
abbrev dU:=@List.nodup_append
abbrev dW:=@codeAny_mono
abbrev dX:=@wpAny_notOrdered_dict
abbrev dY:=@List.any_map
abbrev dZ:=@PyProof.Rows.boot_abs
abbrev ee:=@PyProof.Rows.boot_all
abbrev ef:=@List.getElem_inj
abbrev eg:=@wpAny_execs_cons
abbrev eh:=@F.entry_zip_next
abbrev ei:=@wpAny_pyIter_zip
abbrev el:=@List.filter_cons
abbrev en:=@PySem.W.Looks.at
abbrev eo:=@List.mem_iff_getElem
abbrev et:=@PySem.W.looks_findIn
abbrev eu:=@List.mem_of_mem_drop
abbrev ev:=@List.length_take_le'
abbrev ez:=@Paired.length
abbrev eA:=@F.args_tuple_iterator_next_1
abbrev eB:=@Nat.not_lt
abbrev eC:=@PySem.W.hideAll_get
abbrev eD:=@wpAny_execs_nil
abbrev eE:=@List.of_mem_zip
abbrev eF:=@wpAny_specialOf
abbrev eG:=@List.forIn_cons
abbrev eI:=@F.entry_tuple_iterator_next
abbrev eJ:=@List.cons.injEq
abbrev eK:=@Heap.get?_update_ne
abbrev eL:=@List.map_congr_left
abbrev eM:=@wpAny_isSubtype_exc
abbrev eO:=@List.all_append
abbrev eP:=@PySem.W.of_hideAll
abbrev eQ:=@Calls.spliced_cons
abbrev eR:=@Nat.lt_trans
abbrev eS:=@Nat.add_sub_cancel
abbrev eT:=@wpAny_tupleItemsOf
abbrev eU:=@List.getElem_range
abbrev eV:=@List.map_inj_right
abbrev eW:=@Int.mul_le_mul
abbrev eX:=@isSubtype_stop
abbrev eY:=@List.any_eq_false
abbrev eZ:=@call_meets
abbrev e7:=@wpAny_dictEntries
abbrev e8:=@List.Pairwise.map
abbrev ff:=@List.filter_congr
abbrev fg:=@wpAny_onRaise
abbrev fj:=@plainId_quiet
abbrev fq:=@Nat.add_assoc
abbrev fB:=@Bool.not_true
abbrev fD:=@noFill_tuple_add
abbrev fE:=@Nat.min_le_right
abbrev fF:=@wpAny_forIn_list
abbrev fG:=@List.sublist_nil
abbrev fH:=@List.all_map
abbrev Key:=Sum Int Str
def zge:Key->Value->Bool
 | .inl k,v=>Value.isInt k v
 | .inr x,v=>Value.isStrOf x v
def keyH (w:World):Key->Int
 | .inl k=>hashInt k
 | .inr x=>hashStr w x
def zW:∀ {k:Key} {v:Value},zge k v=true->(∃i t,k=Sum.inl i/\v=Value.int i t)\/(∃x t,k=Sum.inr x/\v=Value.str x t)
 | .inl i,v,h=>by obtain⟨t,e⟩:=Value.isInt_shape (k:=i) (v:=v) h;exact .inl ⟨i,t,rfl,e⟩
 | .inr x,v,h=>by obtain⟨t,e⟩:=Value.isStrOf_shape (x:=x) (v:=v) h;exact .inr ⟨x,t,rfl,e⟩
def zhA (i:Int)(t:Tok):zge (.inl i) (.int i t)=true:=by simp[zge,Value.isInt]
def zhB (x:Str)(t:Tok):zge (.inr x) (.str x t)=true:=by simp[zge,Value.isStrOf]
def zpb (a b:Int):decide ((Sum.inl a:Key)=Sum.inl b)=(a==b):=by grind
def zpe (a b:Str):decide ((Sum.inr a:Key)=Sum.inr b)=decide (a=b):=by grind
def zpc (a:Int)(b:Str):decide ((Sum.inl a:Key)=Sum.inr b)=false:=rfl
def zpd (a:Str)(b:Int):decide ((Sum.inr a:Key)=Sum.inl b)=false:=rfl
def ya (prog:Program)(w:World):PySem.KeyKind prog w Key where
 is:=zge
 hash:=keyH w
 inj:=λv a b I F=>by
  rcases zW I with ⟨i,t,rfl,rfl⟩ | ⟨x,t,rfl,rfl⟩
  ·rcases zW F with ⟨j,u,rfl,e⟩ | ⟨y,u,rfl,e⟩
   ·injection e with q _;rw[q]
   ·exact nomatch e
  ·rcases zW F with ⟨j,u,rfl,e⟩ | ⟨y,u,rfl,e⟩
   ·exact nomatch e
   ·injection e with q _;rw[q]
 byValue:=λk v h=>by rcases zW h with ⟨i,t,rfl,rfl⟩ | ⟨x,t,rfl,rfl⟩ <;> rfl
 pyHash:=λB h=>by
  rcases zW B with ⟨i,t,rfl,rfl⟩ | ⟨x,t,rfl,rfl⟩
  ·exact wpAny_pyHash_int h
  ·exact wpAny_pyHash_str h
 eqBool:=λJ B h=>by
  rcases zW J with ⟨i,t,rfl,rfl⟩ | ⟨x,t,rfl,rfl⟩
  ·rcases zW B with ⟨j,u,rfl,rfl⟩ | ⟨y,u,rfl,rfl⟩
   ·rw[zpb] at h;exact wpAny_eqBool_int h
   ·rw[zpc] at h;exact SeqAt.EqAt.int_str i t y u _ _ _ _ h
  ·rcases zW B with ⟨j,u,rfl,rfl⟩ | ⟨y,u,rfl,rfl⟩
   ·rw[zpd] at h;exact SeqAt.EqAt.str_int x t j u _ _ _ _ h
   ·rw[zpe] at h;exact wpAny_eqBool_str h
 «strs»:=λk x t v h=>by
  rcases zW h with ⟨i,u,rfl,e⟩ | ⟨y,u,rfl,e⟩
  ·exact nomatch e
  ·injection e with q _;subst q;cases v <;> rfl
def zbh (prog:Program)(w:World)(i:Int)(t:Tok):(ya prog w).is (.inl i) (.int i t)=true:=zhA i t
def zeH (prog:Program)(w:World)(x:Str)(t:Tok):(ya prog w).is (.inr x) (.str x t)=true:=zhB x t
inductive V where
 | non | bl (b:Bool) | int (i:Int) | str (x:Str) | byt (b:Array UInt8) | flt (b:UInt64) | ref (a:Addr) | ty (n:String)
 deriving DecidableEq
def zX:V->Value->Prop
 | .non,u=>u=Value.none
 | .bl b,u=>u=Value.bool b
 | .int i,u=>∃t,u=Value.int i t
 | .str x,u=>∃t,u=Value.str x t
 | .byt b,u=>∃t,u=Value.bytes b t
 | .flt b,u=>∃t,u=Value.float b t
 | .ref a,u=>u=Value.ref a
 | .ty n,u=>u=Value.type n
abbrev zY:List V->List Value->Prop:=Paired zX
def zY.length(r:zY xs us):xs.length=us.length:=ez r
def zY.get:∀ {xs:List V} {us:List Value} {i:Nat} {x:V},zY xs us->xs[i]?=some x->∃u,us[i]?=some u/\zX x u
 | _,_,_,_,.nil,e=>by simp at e
 | _,_,0,_,.cons r _,e=>by simp_all
 | _,_,i+1,x,.cons _ t,e=>by
  obtain⟨u,h1,h2⟩:=zY.get (i:=i) (x:=x) t (by simpa using e)
  simp_all
def zY.append:∀ {xs ys:List V} {us q:List Value},zY xs us->zY ys q->zY (xs++ys) (us++q)
 | _,_,_,_,.nil,s=>s
 | _,_,_,_,.cons r t,s=>.cons r (zY.append t s)
def zY.take:∀ {xs:List V} {us:List Value} (n:Nat),zY xs us->zY (xs.take n) (us.take n)
 | _,_,0,_=>.nil
 | _,_,_+1,.nil=>.nil
 | _,_,n+1,.cons r t=>.cons r (zY.take n t)
def zY.drop:∀ {xs:List V} {us:List Value} (n:Nat),zY xs us->zY (xs.drop n) (us.drop n)
 | _,_,0,r=>r
 | _,_,_+1,.nil=>.nil
 | _,_,n+1,.cons _ t=>zY.drop n t
def zfZ:Option V->Option Value->Prop
 | some v,some u=>zX v u
 | none,none=>True
 | _,_=>False
def KV {κ:Type}:List (κ×V)->List (κ×Value)->Prop:=Paired λ(p:κ×V) (q:κ×Value)=>p.1=q.1/\zX p.2 q.2
def kV:Key->V
 | .inl i=>.int i
 | .inr x=>.str x
inductive HO where
  | lst (xs:List V)
  | tup (xs:List V)
  | dK (kvs:List (Key×V)) | dT (kvs:List (List Key×V))
  | set (S:Int->Bool) (n:Nat)
  | ins (C dx:Addr) (fs:List (Str×V))
  | own (x:Addr)
  | xd (fs:List (Str×V))
  | met (f x:Addr)
  | rng (lo hi:Int)
  | frz (o:Obj) (u:HO)
  | tbl (ps:Array Value)
  | ext (φ:Heap->Prop)
abbrev Hp:=Addr->Option HO
def upd (H:Hp)(a:Addr)(o:HO):Hp:=λb=>if b=a then some o else H b
def zg:upd H a o a=some o:=by unfold upd;rw[if_pos rfl]
def zb(h:b≠a):upd H a o b=H b:=by unfold upd;rw[if_neg h]
def ze8:upd (upd H a o) a u=upd H a u:=by funext b;unfold upd;split <;> rfl
def zpv {H:Hp}{a b:Addr}{o u:HO}(h:H a=some o)(h':H b=some u)(d:o≠u):a≠b:=by grind
def zc {H:Hp}{a b:Addr}{o:HO}(h:H a=some o)(h':H b=none):a≠b:=by grind
def uj (h:Heap)(a:Addr)(items:Array Value):Prop:=∃o,h.get? a=some o/\o.cls = .type "tuple" /\ (∃n,o.data = .seq items n)/\o.dict=none
def uj.tup(x:uj h a items):IsTup h a items:=let ⟨o,h1,h2,h3,_⟩:=x;⟨o,h1,h2,h3⟩
def uj.lt(x:uj h a items):a<h.objs.size:=x.tup.lt
def uj.new (h:Heap)(items:Array Value):uj (h.push { cls:=.type "tuple",data:=.seq items }) h.objs.size items:=⟨_,am _ rfl,rfl,⟨_,rfl⟩,rfl⟩
section
variable (P:Program)(w:World)
def zD (H:Hp)(h:Heap)(a:Addr):HO->Prop
 | .lst xs=>xs.length<=sizeLine/\∃ (its:List Value) (n:Nat),zY xs its/\h.get? a=some { cls:=.type "list",data:=.seq its.toArray n }
 | .tup xs=>xs.length<=sizeLine/\∃its:List Value,zY xs its/\uj h a its.toArray
 | .dK kvs=>kvs.length<=sizeLine/\(a==sysModules)=false/\∃vs,KV kvs vs/\h.DictOf (ya P w) a vs
 | .dT kvs=>kvs.length<=sizeLine/\(a==sysModules)=false/\∃xs:List (List Key×Addr×Value),
   Paired (λ(p:List Key×V) (q:List Key×Addr×Value)=>p.1=q.1/\H q.2.1=some (.tup (p.1.map kV))/\zX p.2 q.2.2) kvs xs/\
   ∃o es ep,h.get? a=some o/\o.ExactDict/\o.data = .dict es ep/\es.toList=xs.map (entryOfKey (tupleKind (ya P w)))/\(xs.map (·.1)).Nodup
 | .set S n=>h.SetOf (intKind P w) a S n
 | .ins C dx fs=>H dx=some (.own a)/\fs.length<=1000/\dx≠a/\h.get? a=some (PySem.W.instObj C dx)/\
   ∃mA,h.Ns1 dx mA/\(∀f,zfZ (fs.lookup f) (mA f))/\PySem.Within mA (fs.map (·.1))
 | .own _=>∃o,h.get? a=some o
 | .xd fs=>∃mA,h.Ns1 a mA/\∀f,zfZ (fs.lookup f) (mA f)
 | .rng lo hi=>∃t u v,h.get? a=some { cls:=.type "range",data:=.fields #[.int lo t,.int hi u,.int 1 v] }
 | .frz o u=>h.get? a=some o/\zD H h a u
 | .tbl ps=>h.get? a=some { cls:=.none,data:=.fields ps }
 | .met f x=>h.get? a=some (PySem.W.methodObj (.ref f) (.ref x))
 | .ext B=>B h/\(∃o,h.get? a=some o)/\∀h1 h2:Heap,B h1->(∀o,h1.get? a=some o->h2.get? a=some o)->B h2
def HOk (H:Hp)(h:Heap):Prop:=∀a o,H a=some o->zD P w H h a o
end
section
variable {P:Program}{w:World}{H H':Hp}{h h':Heap}{a:Addr}{o:HO}
def zD.lt (x:zD P w H h a o):a<h.objs.size:=by
 cases o with
 | lst xs=>obtain⟨_,_,_,_,e⟩:=x;exact ak e
 | tup xs=>obtain⟨_,_,_,p⟩:=x;exact p.lt
 | dK kvs=>obtain⟨_,_,_,_,o,_,_,e,_⟩:=x;exact ak e
 | dT kvs=>obtain⟨_,_,_,_,o,_,_,e,_⟩:=x;exact ak e
 | set S n=>obtain⟨o,_,_,_,e,_⟩:=x;exact ak e
 | ins C dx fs=>obtain⟨_,_,_,e,_⟩:=x;exact ak e
 | own y=>obtain⟨_,e⟩:=x;exact ak e
 | xd fs=>obtain⟨_,⟨_,_,_,e,_⟩,_⟩:=x;exact ak e
 | rng lo hi=>obtain⟨_,_,_,e⟩:=x;exact ak e
 | frz ob u=>obtain⟨e,_⟩:=x;exact ak e
 | tbl ps=>exact ak (show h.get? a=some _ from x)
 | met f y=>exact ak (show h.get? a=some _ from x)
 | ext q=>obtain⟨_,⟨_,e⟩,_⟩:=x;exact ak e
def Paired.mapP {α q:Type}{F G:α->q->Prop}:∀ {l₁:List α} {l₂:List q},Paired F l₁ l₂->(∀a b,F a b->G a b)->Paired G l₁ l₂
 | _,_,.nil,_=>.nil
 | _,_,.cons r t,f=>.cons (f _ _ r) (Paired.mapP t f)
def Paired.imp' {α q:Type}{F G:α->q->Prop}(f:∀a b,F a b->G a b){l₁:List α}{l₂:List q}(r:Paired F l₁ l₂):Paired G l₁ l₂:=Paired.mapP r f
def zD.stay (x:zD P w H h a o)(k:∀b u,(b=a\/H b=some (.own a))->h.get? b=some u->h'.get? b=some u)
  (F:∀b,H b=some (.own a)->H' b=some (.own a)) (I:∀b xs,H b=some (.tup xs)->H' b=some (.tup xs)):zD P w H' h' a o:=by
 induction o with
 | lst xs=>obtain⟨z,its,n,r,e⟩:=x;exact⟨z,its,n,r,k _ _ (.inl rfl) e⟩
 | tup xs=>obtain⟨z,its,r,ob,e,c⟩:=x;exact⟨z,its,r,ob,k _ _ (.inl rfl) e,c⟩
 | dK kvs=>obtain⟨z,y,vs,r,ob,es,ep,e,c⟩:=x;exact⟨z,y,vs,r,ob,es,ep,k _ _ (.inl rfl) e,c⟩
 | dT kvs=>
  obtain⟨z,y,xs,r,ob,es,ep,e,c⟩:=x;exact⟨z,y,xs,Paired.mapP r λp q z=>⟨z.1,I _ _ z.2.1,z.2.2⟩,ob,es,ep,k _ _ (.inl rfl) e,c⟩
 | set S n=>obtain⟨ob,es,ep,t,e,c⟩:=x;exact⟨ob,es,ep,t,k _ _ (.inl rfl) e,c⟩
 | ins C dx fs=>
  obtain⟨d,z,J,e,mA,⟨B,es,ep,L,c⟩,r⟩:=x;exact⟨F _ d,z,J,k _ _ (.inl rfl) e,mA,⟨B,es,ep,k _ _ (.inr d) L,c⟩,r⟩
 | own y=>obtain⟨ob,e⟩:=x;exact⟨ob,k _ _ (.inl rfl) e⟩
 | xd fs=>obtain⟨mA,⟨B,es,ep,e,c⟩,r⟩:=x;exact⟨mA,⟨B,es,ep,k _ _ (.inl rfl) e,c⟩,r⟩
 | rng lo hi=>obtain⟨t,u,v,e⟩:=x;exact⟨t,u,v,k _ _ (.inl rfl) e⟩
 | frz ob u O=>obtain⟨e,q⟩:=x;exact⟨k _ _ (.inl rfl) e,O q⟩
 | tbl ps=>
  have e:h.get? a=some { cls:=.none,data:=.fields ps }:=x;show h'.get? a=some { cls:=.none,data:=.fields ps };exact k a _ (.inl rfl) e
 | met f y=>
  have e:h.get? a=some (PySem.W.methodObj (.ref f) (.ref y)):=x;show h'.get? a=some (PySem.W.methodObj (.ref f) (.ref y));exact k a _ (.inl rfl) e
 | ext U=>obtain⟨p,⟨o,e⟩,st⟩:=x;exact⟨st _ _ p λo q=>k _ _ (.inl rfl) q,⟨o,k _ _ (.inl rfl) e⟩,st⟩
def HOk.lt (x:HOk P w H h)(e:H a=some o):a<h.objs.size:=(x a o e).lt
def HOk.fresh (x:HOk P w H h)(e:h.objs.size<=a):H a=none:=by
 cases q:H a with
 | none=>rfl
 | some u=>exact absurd (aI (x.lt q) e) (bW _)
def HOk.kept (x:HOk P w H h)(k:∀b u,h.get? b=some u->h'.get? b=some u):HOk P w H h':=λa o e=>
 (x a o e).stay (λb u _ q=>k b u q) (λ_ q=>q) λ_ _ q=>q
def HOk.laid (x:HOk P w H h)(k:∀b u,h.get? b=some u->h'.get? b=some u)(hp:h.objs.size<=a)(B:zD P w (upd H a o) h' a o):HOk P w (upd H a o) h':=λb u e=>by
 have F:=x.fresh hp;by_cases I:b=a
 ·subst I;rw[zg] at e;cases e;exact B
 ·rw[zb I] at e;exact (x b u e).stay (λc v _ q=>k c v q) (λc q=>by rw[zb (zc q F)];exact q) λc xs q=>by rw[zb (zc q F)];exact q
end
def Rd (H:Hp)(a:Addr)(u:HO):Prop:=H a=some u\/∃o,H a=some (.frz o u)
def Rd.ok(r:Rd H a u)(x:HOk P w H h):zD P w H h a u:=by
 rcases r with r | ⟨o,r⟩
 ·exact x a u r
 ·obtain⟨_,q⟩:=x a _ r;exact q
def Mut:Option HO->Prop
 | some (.lst _)=>True
 | some (.dK _)=>True
 | some (.dT _)=>True
 | some (.set _ _)=>True
 | some (.ins _ _ _)=>True
 | some (.ext _)=>True
 | _=>False
section
variable {P:Program}{w:World}{H:Hp}{h h':Heap}{x e:Addr}{o':HO}
def HOk.write (Z:HOk P w H h)(I:Mut (H x))(he:e=x\/H e=some (.own x))(k:∀b u,b≠e->h.get? b=some u->h'.get? b=some u)(J:∃u,h'.get? e=some u)
  (L:zD P w (upd H x o') h' x o'):HOk P w (upd H x o') h':=λb u q=>by
 have B:∀c y,H c=some (.own y)->c≠x:=λc y r z=>by subst z;rw[r] at I;exact I
 have F:∀c xs,H c=some (.tup xs)->c≠x:=λc xs r z=>by subst z;rw[r] at I;exact I
 by_cases U:b=x
 ·subst U;rw[zg] at q;cases q;exact L
 ·rw[zb U] at q;by_cases O:b=e
  ·have Y:H b=some (.own x):=by
    grind
   rw[q] at Y;cases Y;obtain⟨v,hv⟩:=J;exact⟨v,by rw[O];exact hv⟩
  ·refine (Z b u q).stay (λc v hc r=>k c v ?_ r) (λc r=>by rw[zb (B c b r)];exact r) λc xs r=>by rw[zb (F c xs r)];exact r
   grind
end
structure Un (fs ex:List Addr)(H H':Hp)(h h':Heap):Prop where
 keep:∀b o,h.get? b=some o->H b=none->b∉fs->b∉ex->h'.get? b=some o
 slot:∀b o,h.get? b=some o->H b=none->b∈fs->b∉ex->∃sl,h'.get? b=some { o with slots:=sl }
 free:∀b o,h.get? b=some o->H b=none->b∉ex->H' b=none
 there:∀b o,h.get? b=some o->b∉ex->∃o',h'.get? b=some o'
 tups:∀b xs,H b=some (.tup xs)->H' b=some (.tup xs)
 frzs:∀b o u,H b=some (.frz o u)->H' b=some (.frz o u)
 tbls:∀b ps,H b=some (.tbl ps)->∃more,H' b=some (.tbl (ps++more))
section
variable {fs fs' ex ex':List Addr}{H H1 H2:Hp}{h h1 h2 h':Heap}{a x e:Addr}{o:HO}
def Un.any(u:Un fs ex H H1 h h1)(q:h.get? b=some ob)(n:H b=none)(B:b∉ex):∃I,h1.get? b=some { ob with slots:=I }:=by
 by_cases F:b∈fs
 ·exact u.slot b ob q n F B
 ·exact⟨ob.slots,u.keep b ob q n F B⟩
def Un.kept (k:∀b u,h.get? b=some u->h'.get? b=some u):Un fs ex H H h h':=
 ⟨λb ob q _ _ _=>k b ob q,λb ob q _ _ _=>⟨ob.slots,k b ob q⟩,λ_ _ _ n _=>n,λb ob q _=>⟨ob,k b ob q⟩,λ_ _ q=>q,λ_ _ _ q=>q,λ_ ps q=>⟨#[],by rw[q];simp⟩⟩
def Un.refl:Un fs ex H H h h:=Un.kept λ_ _ q=>q
def Un.laid (k:∀b u,h.get? b=some u->h'.get? b=some u)(hp:h.objs.size<=a)(B:H a=none):Un fs ex H (upd H a o) h h' where
 keep:=λb u q _ _ _=>k b u q
 slot:=λb u q _ _ _=>⟨u.slots,k b u q⟩
 free:=λb u q n _=>by rw[zb (aD (aI (ak q) hp))];exact n
 there:=λb u q _=>⟨u,k b u q⟩
 tups:=λb xs q=>by rw[zb (zc q B)];exact q
 frzs:=λb u xs q=>by rw[zb (zc q B)];exact q
 tbls:=λb ps q=>⟨#[],by rw[zb (zc q B),q];simp⟩
def Un.write (B:Mut (H x))(O:e=x\/H e=some (.own x))(k:∀b u,b≠e->h.get? b=some u->h'.get? b=some u)(J:∃u,h'.get? e=some u):Un fs ex H (upd H x o) h h':=by
 have L:∀b,H b=none->b≠x:=λb n z=>by subst z;rw[n] at B;exact B
 have I:∀b,H b=none->b≠e:=λb n z=>by grind
 have F:∀b u,H b=some u->¬ Mut (some u)->b≠x:=λb u q nm z=>by subst z;rw[q] at B;exact nm B
 refine⟨λb u q n _ _=>k b u (I b n) q,λb u q n _ _=>⟨u.slots,k b u (I b n) q⟩,λb u q n _=>by rw[zb (L b n)];exact n,λb u q _=>?_,
  λb xs q=>by rw[zb (F b _ q λz=>z)];exact q,λb u xs q=>by rw[zb (F b _ q λz=>z)];exact q,λb ps q=>⟨#[],by rw[zb (F b _ q λz=>z),q];simp⟩⟩
 grind
end
def trk (h:Heap)(H:Hp):List Addr:=(List.range h.objs.size).filter λa=>(H a).isSome
def zi2 (h:Heap)(H:Hp):Heap:=PySem.W.hideAll h (trk h H)
def zhg (h:Heap)(H:Hp):(zi2 h H).objs.size=h.objs.size:=PySem.W.hideAll_size _ _
def zjv(e:h.get? b=some o)(n:H b=none):(zi2 h H).get? b=some o:=
 eC _ e λB=>by
  have q:(H b).isSome=true:=(az.mp B).2
  simp_all
def zmS(e:(zi2 h H).get? b=some o):h.get? b=some o/\H b=none:=by
 have B:h.get? b=some o:=eP (trk h H) e;refine⟨B,?_⟩
 cases q:H b with
 | none=>rfl
 | some x=>
  have F:b∈trk h H:=az.mpr ⟨aX.mpr (ak B),by simp[q]⟩;have z:(zi2 h H).get? b=none:=PySem.W.hideAll_none (trk h H) F
  grind
def zlH (g h:Heap)(L:Addr):List (Addr×Obj):=(List.range h.objs.size).filterMap λa=>if a=L\/(g.get? a).isSome=true then none else (h.get? a).map λo=>(a,o)
def ye (g h:Heap)(L d:Addr):List (Addr×Obj):=(zlH g h L).filter λp=>decide (p.1≠d)
structure Mod (K:PySem.W.Frag)(mg:Str->Option Value)(base:Heap):Prop where
 kin:K.In base
 glob:base.Ns mainGlobals mg
 blt:∃mb,base.Ns builtinsNs mb/\∀x:Str,x ≠ "__name__" -> mb x=bootBuiltins x
 nolimit:base.NoLimit
structure Cx where
 prog:Program
 w:World
 K:PySem.W.Frag
 mg:Str->Option Value
 base:Heap
 A:Around
 N:List Str
 s₀:Shared
 H₀:Hp
 env:Env
 outer:List Env
 stack:List Env
 ex:List Addr
 fn:Str->Bool
 calm:Bool
 pn:List (Addr×Obj)
 xe:Value->Shared->Prop
def frs (l:List Env):List Addr:=l.filterMap (·.frame)
abbrev Cx.fs (X:Cx):List Addr:=frs X.outer
def Vis (q:Scope)(x:Str):Prop:=q.names.lookup x=some .local\/q.names.lookup x=some .cell\/q.names.lookup x=some .free
def Loc (q:Scope)(x:Str):Prop:=q.names.lookup x=some .local\/q.names.lookup x=some .cell
def Look (env:Env)(h:Heap)(m:Str->Option Value)(x:Str)(u:Value):Prop:=
 (env.kindOf x=some .local/\m x=some u)\/((env.kindOf x=some .cell\/env.kindOf x=some .free)/\∃c,env.cells.lookup x=some c/\h.IsCell c (some u))
structure Cx.Ok (X:Cx):Prop where
 mod:Mod X.K X.mg X.base
 kind:X.env.scope.kind = .function
 glob:X.env.globals=mainGlobals
 blt:X.env.builtins=builtinsNs
 above:X.s₀.heap.objs.size<=X.env.locals
 inj:∀x y c,X.env.cells.lookup x=some c->X.env.cells.lookup y=some c->x=y
 has:∀x,(X.env.kindOf x=some .cell\/X.env.kindOf x=some .free)->∃c,X.env.cells.lookup x=some c
 cab:∀x c,X.fn x=true->X.env.cells.lookup x=some c->X.s₀.heap.objs.size<=c
 hd:X.calm=true->X.A.handled=none
 frames:X.A.frames=some X.stack
 stk:X.stack=X.outer\/(X.stack=X.env::X.outer/\X.env.frame=some X.env.locals)
 exf:∀b∈X.ex,b≠X.env.locals/\∀x c,X.env.cells.lookup x=some c->c≠b
 bs:∀b o,X.base.get? b=some o->X.s₀.heap.get? b=some o/\X.H₀ b=none
 bsz:X.base.objs.size<=X.s₀.heap.objs.size
 noex:∀b o,X.base.get? b=some o->b∉X.ex
 exfs:∀b∈X.ex,b∉X.fs
 funs:X.s₀.heap.FunFrames X.base X.outer
 frf:∀b∈X.fs,X.H₀ b=none
structure Inv (X:Cx)(pins:List (Addr×Obj))(σ:List (Option V))(H:Hp)(s:Shared):Prop where
 ok:X.Ok
 os:s.os=X.s₀.os
 bare:AllBare s.gens
 base:Un X.fs X.ex X.H₀ H X.s₀.heap s.heap
 loc:∃m,s.heap.Ns X.env.locals m/\∀ (i:Nat) (x:Str) (v:V),X.N[i]?=some x->σ[i]?=some (some v)->Vis X.env.scope x->∃u,zX v u/\Look X.env s.heap m x u
 cell:∀x c,X.env.cells.lookup x=some c->∃v,s.heap.IsCell c v
 free:H X.env.locals=none
 freeC:∀x c,X.env.cells.lookup x=some c->H c=none
 pin:∀p∈X.pn++pins,s.heap.get? p.1=some p.2/\H p.1=none/\p.1≠X.env.locals/\p.1∉X.fs/\∀v,p.2.data≠.cell v
 hok:HOk X.prog X.w H s.heap
 len:σ.length=X.N.length
section
variable {X:Cx}{pins:List (Addr×Obj)}{σ:List (Option V)}{H H':Hp}{s:Shared}{h':Heap}
def Cx.Ok.nofr(q:X.Ok)(e:X.base.get? b=some o):b∉X.fs:=λB=>by
 have:=(q.funs.mem B).1
 grind
def Inv.bs (I:Inv X pins σ H s):∀b o,X.base.get? b=some o->s.heap.get? b=some o/\H b=none:=λb o e=>
 ⟨I.base.keep b o (I.ok.bs b o e).1 (I.ok.bs b o e).2 (I.ok.nofr e) (I.ok.noex b o e),I.base.free b o (I.ok.bs b o e).1 (I.ok.bs b o e).2 (I.ok.noex b o e)⟩
def Inv.bk (I:Inv X pins σ H s):∀b o,X.base.get? b=some o->s.heap.get? b=some o:=λb o e=>(I.bs b o e).1
def Inv.mod (I:Inv X pins σ H s):Mod X.K X.mg X.base:=I.ok.mod
def Inv.kIn (I:Inv X pins σ H s):X.K.In s.heap:=I.ok.mod.kin.keeps I.bk
def Inv.lt (I:Inv X pins σ H s):X.env.locals<s.heap.objs.size:=let ⟨_,hn,_⟩:=I.loc;hn.lt
def Inv.sz (I:Inv X pins σ H s):X.s₀.heap.objs.size<=s.heap.objs.size:=ah I.ok.above (cC I.lt)
def Inv.nofs (I:Inv X pins σ H s){a:Addr}(h:s.heap.objs.size<=a):a∉X.fs:=λq=>by obtain⟨_,o,B,_⟩:=I.ok.funs.mem q;exact absurd (aI (ak B) (ah I.sz h)) (bW _)
def Inv.cne (I:Inv X pins σ H s):∀x c,X.env.cells.lookup x=some c->c≠X.env.locals:=λx c e z=>by
 obtain⟨v,o,F,J⟩:=I.cell x c e;obtain⟨m,⟨o',es,ep,q,B,_⟩,_⟩:=I.loc
 grind
def Inv.funs (I:Inv X pins σ H s):s.heap.FunFrames X.base X.outer:=by
 have all:∀ (l:List Env),(∀b∈frs l,b∈X.fs)->X.s₀.heap.FunFrames X.base l->s.heap.FunFrames X.base l:=by
  intro l
  induction l with
  | nil=>intro _ _;trivial
  | cons env r J=>
   intro F O;obtain⟨U,⟨L,o,hf,Y,Z,hd⟩,hr⟩:=O;have q:L∈X.fs:=F L (by unfold frs;rw[bA,hf];exact aL);obtain⟨sl,e⟩:=I.base.slot L o Z (I.ok.frf L q) q λz=>I.ok.exfs L z q;exact⟨U,⟨L,_,hf,Y,e,hd⟩,J (λb B=>F b (by unfold frs;rw[bA,hf];exact av _ B)) hr⟩
 exact all X.outer (λ_ B=>B) I.ok.funs
def Inv.stack (I:Inv X pins σ H s):s.heap.FunFrames X.base X.stack:=by
 rcases I.ok.stk with e | ⟨e,hf⟩
 ·rw[e];exact I.funs
 ·rw[e];obtain⟨m,q,_⟩:=I.loc;refine .cons (by rw[I.ok.kind];decide) hf q ?_ I.funs;exact Heap.get?_none_of_le (ah I.ok.bsz I.ok.above)
def Inv.stkSub (I:Inv X pins σ H s):∀b∈frs X.stack,b∈X.env.locals::X.fs:=λb q=>by
 rcases I.ok.stk with e | ⟨e,hf⟩
 ·grind
 ·rw[e] at q;unfold frs at q;rw[bA,hf] at q;exact q
def Inv.stkFree (I:Inv X pins σ H s):∀b∈frs X.stack,H b=none:=λb q=>by
 rcases ax.mp (I.stkSub b q) with e | q
 ·rw[e];exact I.free
 ·obtain⟨_,o,B,_⟩:=I.ok.funs.mem q;exact I.base.free b o B (I.ok.frf b q) λz=>I.ok.exfs b z q
def Inv.step {g':Array GenState}{t':Nat}{d':Drawn}{ch:List Addr}(I:Inv X pins σ H s)
  (F:∀b∈ch,(b∈X.ex\/X.s₀.heap.objs.size<=b)/\b≠X.env.locals/\(∀x c,X.env.cells.lookup x=some c->c≠b)/\∀p∈X.pn++pins,p.1≠b)
  (O:∀b o,b≠X.env.locals->b∉X.fs->b∉ch->s.heap.get? b=some o->H b=none->h'.get? b=some o)
  (U:∀b o,b≠X.env.locals->b∈X.fs->b∉ch->s.heap.get? b=some o->H b=none->∃sl,h'.get? b=some { o with slots:=sl }) (J:∀b o,b∉ch->s.heap.get? b=some o->H b=none->H' b=none)
  (as:∀b o,b∉ch->s.heap.get? b=some o->∃o',h'.get? b=some o')
  (ad:∀b xs,H b=some (.tup xs)->H' b=some (.tup xs)) (ag:∀b o u,H b=some (.frz o u)->H' b=some (.frz o u)) (a2:∀b ps,H b=some (.tbl ps)->∃al,H' b=some (.tbl (ps++al)))
  (ns:∀m,s.heap.Ns X.env.locals m->h'.Ns X.env.locals m) (a0:HOk X.prog X.w H' h') (hg:AllBare g') :
  Inv X pins σ H' { s with heap:=h',gens:=g',drawn:=d',toks:=t' }:=by
 have an:∀b o,X.s₀.heap.get? b=some o->b≠X.env.locals:=λb o e=>aD (aI (ak e) I.ok.above)
 have Y:∀b o,X.s₀.heap.get? b=some o->b∉X.ex->b∉ch:=λb o e B Z=>by
  rcases (F b Z).1 with z | z
  ·exact B z
  ·exact absurd (aI (ak e) z) (bW _)
 have L:∀x c,X.env.cells.lookup x=some c->∀v,s.heap.IsCell c v->h'.IsCell c v:=by
  rintro x c e v ⟨o,ho,hd⟩;have ab:c∉ch:=λz=>(F c z).2.2.1 x c e rfl;by_cases hc:c∈X.fs
  ·obtain⟨sl,q⟩:=U c o (I.cne x c e) hc ab ho (I.freeC x c e);exact⟨_,q,hd⟩
  ·exact⟨o,O c o (I.cne x c e) hc ab ho (I.freeC x c e),hd⟩
 refine⟨I.ok,I.os,hg,⟨λb o e n Z B=>?_,λb o e n Z B=>?_,λb o e n B=>?_,λb o e B=>?_,λb xs e=>ad b xs (I.base.tups b xs e),λb o xs e=>ag b o xs (I.base.frzs b o xs e),λb ps e=>?_⟩,?_,λx c e=>?_,?_,λx c e=>?_,λp hp=>?_,a0,I.len⟩
 ·exact O b o (an b o e) Z (Y b o e B) (I.base.keep b o e n Z B) (I.base.free b o e n B)
 ·obtain⟨sl,e1⟩:=I.base.slot b o e n Z B;obtain⟨a1,e2⟩:=U b _ (an b o e) Z (Y b o e B) e1 (I.base.free b o e n B);exact⟨a1,e2⟩
 ·obtain⟨o',e1⟩:=I.base.there b o e B;exact J b o' (Y b o e B) e1 (I.base.free b o e n B)
 ·obtain⟨o',e1⟩:=I.base.there b o e B
  simp_all
 ·obtain⟨m1,e1⟩:=I.base.tbls b ps e
  grind
 ·obtain⟨m,hn,hl⟩:=I.loc;refine⟨m,ns m hn,λi x v e1 e2 e3=>?_⟩;obtain⟨u,r,l⟩:=hl i x v e1 e2 e3;refine⟨u,r,?_⟩;rcases l with l | ⟨k,c,e,z⟩
  ·exact .inl l
  ·exact .inr ⟨k,c,e,L x c e _ z⟩
 ·obtain⟨v,z⟩:=I.cell x c e;exact⟨v,L x c e v z⟩
 ·obtain⟨m,⟨o,_,_,ho,_⟩,_⟩:=I.loc;exact J _ o (λz=>(F _ z).2.1 rfl) ho I.free
 ·obtain⟨v,o,ho,hd⟩:=I.cell x c e;exact J c o (λz=>(F c z).2.2.1 x c e rfl) ho (I.freeC x c e)
 ·obtain⟨e,n,ne,nf,d⟩:=I.pin p hp;have ab:p.1∉ch:=λz=>(F p.1 z).2.2.2 p hp rfl
  simp_all
def Inv.un(I:Inv X pins σ H s)(u:Un X.fs [] H H' s.heap h')(B:HOk X.prog X.w H' h'):Inv X pins σ H' { s with heap:=h',toks:=t' }:=by
 obtain⟨m,⟨o,es,ep,O,r⟩,_⟩:=id I.loc;obtain⟨sl,U⟩:=u.any O I.free (by simp)
 exact I.step (g':=s.gens) (d':=s.drawn) (ch:=[]) (λ_ z=>nomatch z) (λb o _ F _ e n=>u.keep b o e n F (by simp)) (λb o _ F _ e n=>u.slot b o e n F (by simp)) (λb o _ e n=>u.free b o e n (by simp)) (λb o _ e=>u.there b o e (by simp)) u.tups u.frzs u.tbls (λm' Y=>by obtain⟨o',J,L,q,Z⟩:=Y;rw[O] at q;cases q;exact⟨_,J,L,U,Z⟩) B I.bare
def Inv.call(I:Inv X pins σ H s)(u:Un (frs X.stack) ch H H' s.heap h')(J:HOk X.prog X.w H' h')(Z:AllBare g')(B:∀b∈ch,(b∈X.ex\/X.s₀.heap.objs.size<=b)/\b≠X.env.locals/\(∀x c,X.env.cells.lookup x=some c->c≠b)/\∀p∈X.pn++pins,p.1≠b) :
  Inv X pins σ H' { s with heap:=h',gens:=g',drawn:=d',toks:=t' }:=by
 obtain⟨m,⟨o,es,ep,Y,r⟩,_⟩:=id I.loc;obtain⟨sl,L⟩:=u.any Y I.free λz=>(B _ z).2.1 rfl
 exact I.step (ch:=ch) B (λb o L hb q e n=>u.keep b o e n (λz=>(ax.mp (I.stkSub b z)).elim L hb) q) (λb o _ _ q e n=>u.any e n q) (λb o q e n=>u.free b o e n q) (λb o q e=>u.there b o e q) u.tups u.frzs u.tbls (λm' hm=>by obtain⟨o',O,U,F,r'⟩:=hm;rw[Y] at F;cases F;exact⟨_,O,U,L,r'⟩) J Z
def Inv.turned(I:Inv X pins σ H s)(k:∀b o,b≠it->s.heap.get? b=some o->h'.get? b=some o)(J:H it=none)(F:it≠X.env.locals)(h1:it∈X.ex\/X.s₀.heap.objs.size<=it)(h2:∀x c,X.env.cells.lookup x=some c->c≠it)(L:∀p∈X.pn++pins,p.1≠it):Inv X pins σ H { s with heap:=h',toks:=t' }:=by
 have O:∀b u,H b=some u->b≠it:=λb u e z=>by rw[z,J] at e;cases e
 refine I.step (g':=s.gens) (d':=s.drawn) (ch:=[it]) (λb U=>?_) (λb o _ _ B e _=>k b o (λz=>B (by simp[z])) e) (λb o _ _ B e _=>⟨o.slots,k b o (λz=>B (by simp[z])) e⟩) (λ_ _ _ _ n=>n)
  (λb o B e=>⟨o,k b o (λz=>B (by simp[z])) e⟩) (λ_ _ e=>e) (λ_ _ _ e=>e) (λb ps e=>⟨#[],by rw[e];simp⟩) (λm Y=>?_) (λb u e=>?_) I.bare
 ·have e:b=it:=by simpa using U
  subst e;exact⟨h1,F,h2,L⟩
 ·obtain⟨o,es,ep,Z,r⟩:=Y;exact⟨o,es,ep,k _ o (Ne.symm F) Z,r⟩
 ·refine (I.hok b u e).stay (λc v B q=>k c v ?_ q) (λ_ q=>q) λ_ _ q=>q
  grind
def Inv.tok (I:Inv X pins σ H s)(t:Nat):Inv X pins σ H { s with toks:=t }:=I.un (h':=s.heap) (t':=t) Un.refl I.hok
def Inv.kept(I:Inv X pins σ H s)(k:∀b u,s.heap.get? b=some u->h'.get? b=some u):Inv X pins σ H { s with heap:=h',toks:=t' }:=I.un (Un.kept k) (I.hok.kept k)
def Inv.laid{a:Addr}(I:Inv X pins σ H s)(k:∀b u,s.heap.get? b=some u->h'.get? b=some u)(hp:s.heap.objs.size<=a)(q:zD X.prog X.w (upd H a o) h' a o) :
  Inv X pins σ (upd H a o) { s with heap:=h',toks:=t' }:=I.un (Un.laid k hp (I.hok.fresh hp)) (I.hok.laid k hp q)
def Inv.write(I:Inv X pins σ H s)(F:Mut (H x))(J:e=x\/H e=some (.own x))(k:∀b u,b≠e->s.heap.get? b=some u->h'.get? b=some u)(q:∃u,h'.get? e=some u)(B:zD X.prog X.w (upd H x o) h' x o):Inv X pins σ (upd H x o) { s with heap:=h',toks:=t' }:=I.un (Un.write F J k q) (I.hok.write F J k q B)
def Inv.pins_of(I:Inv X pins σ H s)(h:∀p∈q,s.heap.get? p.1=some p.2/\H p.1=none/\p.1≠X.env.locals/\p.1∉X.fs/\∀v,p.2.data≠.cell v):Inv X q σ H s:=
 ⟨I.ok,I.os,I.bare,I.base,I.loc,I.cell,I.free,I.freeC,λp hp=>(aK.mp hp).elim (λz=>I.pin p (bV _ z)) (h p),I.hok,I.len⟩
def zfG {N:List Str}(q:N.Nodup){i j:Nat}{x:Str}(a:N[i]?=some x)(b:N[j]?=some x):i=j:=by obtain⟨h1,B⟩:=aj.mp a;obtain⟨h2,F⟩:=aj.mp b;exact (ef q).mp (B.trans F.symm)
def zd2(I:Inv X pins σ H s)(hN:X.N.Nodup)(hi:X.N[i]?=some x)(L:Loc X.env.scope x)(r:zX v u)(h:∀s',Inv X pins (σ.set i (some v)) H s'->(∃a,Heap.SameBut a s.heap s'.heap/\(a=X.env.locals\/X.env.cells.lookup x=some a))->Q () s')(hf:X.fn x=true\/X.env.scope.names.lookup x=some .local:=by walk_at "l"):wpAny M A (storeName X.env x u) Q E s:=by
 obtain⟨m,hn,hl⟩:=id I.loc;have ad:(X.env.scope.kind==.class || (X.env.scope.kind==.module&&X.env.locals != X.env.globals))=false:=by rw[I.ok.kind];rfl
 have Y:i<σ.length:=by rw[I.len];exact (aj.mp hi).1
 have Z:=I.cne
 have F:∀ {a:Addr} {h':Heap},(∃o,s.heap.get? a=some o/\H a=none)->Heap.SameBut a s.heap h'->HOk X.prog X.w H h':=λ{a h'} ha B b ob e=>by
  obtain⟨_,_,an⟩:=ha;refine (I.hok b ob e).stay (λc w' O q=>(B.2 c ?_).trans q) (λ_ q=>q) λ_ _ q=>q
  grind
 rcases L with hk | hk
 ·refine wpAny_storeName_local hk hn (λh' as B=>?_) ad;obtain⟨oL,_,_,a0,_⟩:=id hn;refine h _ ⟨I.ok,I.os,I.bare,⟨λb o e n hb L=>?_,λb o e n hb L=>?_,I.base.free,λb o e L=>?_,I.base.tups,I.base.frzs,I.base.tbls⟩,⟨_,as,λj y v' J U e3=>?_⟩,λy c e=>?_,I.free,I.freeC,λp hp=>?_,F ⟨oL,a0,I.free⟩ B,by simpa using I.len⟩ ⟨_,B,.inl rfl⟩
  ·exact (B.2 b (aD (aI (ak e) I.ok.above))).trans (I.base.keep b o e n hb L)
  ·obtain⟨sl,J⟩:=I.base.slot b o e n hb L;exact⟨sl,(B.2 b (aD (aI (ak e) I.ok.above))).trans J⟩
  ·obtain⟨o',J⟩:=I.base.there b o e L;exact⟨o',(B.2 b (aD (aI (ak e) I.ok.above))).trans J⟩
  ·by_cases hj:j=i
   ·subst hj;rw[hi] at J;cases J;rw[aP Y] at U;cases U;exact⟨u,r,.inl ⟨hk,by simp⟩⟩
   ·rw[aq (Ne.symm hj)] at U;obtain⟨u',r',q⟩:=hl j y v' J U e3;refine⟨u',r',?_⟩;rcases q with ⟨k,e⟩ | ⟨k,c,e,z⟩
    ·refine .inl ⟨k,?_⟩;have:y≠x:=λe=>hj (zfG hN J (e ▸ hi));simp[this,e]
    ·exact .inr ⟨k,c,e,z.sameBut B (Z y c e)⟩
  ·obtain⟨w',z⟩:=I.cell y c e;exact⟨w',z.sameBut B (Z y c e)⟩
  ·obtain⟨e,n,ne,nf,d⟩:=I.pin p hp;exact⟨(B.2 p.1 ne).trans e,n,ne,nf,d⟩
 ·have ab:X.fn x=true:=by
   grind
  obtain⟨c,O⟩:=I.ok.has x (.inl hk);obtain⟨w',z⟩:=I.cell x c O;refine wpAny_storeName_cell I.ok.kind hk O z (λh' ag B=>?_);obtain⟨oc,a1,a2⟩:=id z;refine h { s with heap:=h' } ⟨I.ok,I.os,I.bare,⟨λb o e n hb L=>?_,λb o e n hb L=>?_,I.base.free,λb o e L=>?_,I.base.tups,I.base.frzs,I.base.tbls⟩,⟨m,hn.sameBut B (Ne.symm (Z x c O)),λj y v' J U e3=>?_⟩,λy c' e=>?_,I.free,I.freeC,λp hp=>?_,F ⟨oc,a1,I.freeC x c O⟩ B,by simpa using I.len⟩ ⟨c,B,.inr O⟩
  ·exact (B.2 b (aD (aI (ak e) (I.ok.cab x c ab O)))).trans (I.base.keep b o e n hb L)
  ·obtain⟨sl,J⟩:=I.base.slot b o e n hb L;exact⟨sl,(B.2 b (aD (aI (ak e) (I.ok.cab x c ab O)))).trans J⟩
  ·obtain⟨o',J⟩:=I.base.there b o e L;exact⟨o',(B.2 b (aD (aI (ak e) (I.ok.cab x c ab O)))).trans J⟩
  ·by_cases hj:j=i
   ·subst hj;rw[hi] at J;cases J;rw[aP Y] at U;cases U;exact⟨u,r,.inr ⟨.inl hk,c,O,ag⟩⟩
   ·rw[aq (Ne.symm hj)] at U;obtain⟨u',r',q⟩:=hl j y v' J U e3;refine⟨u',r',?_⟩;rcases q with q | ⟨k,c',e,z'⟩
    ·exact .inl q
    ·refine .inr ⟨k,c',e,z'.sameBut B ?_⟩;rintro rfl;exact hj (zfG hN J (I.ok.inj _ _ _ e O ▸ hi))
  ·by_cases al:c'=c
   ·subst al;exact⟨_,ag⟩
   ·obtain⟨w2,z2⟩:=I.cell y c' e;exact⟨w2,z2.sameBut B al⟩
  ·obtain⟨e,n,ne,nf,d⟩:=I.pin p hp;refine⟨(B.2 p.1 ?_).trans e,n,ne,nf,d⟩;intro q
   simp_all
def zc3(I:Inv X pins σ H s)(q:X.N.Nodup)(hi:X.N[i]?=some x)(B:Loc X.env.scope x)(r:zX v u)(h:∀s',Inv X pins (σ.set i (some v)) H s'->Q () s')(hf:X.fn x=true\/X.env.scope.names.lookup x=some .local:=by walk_at "l"):wpAny M A (storeName X.env x u) Q E s:=
 zd2 I q hi B r (λs' I' _=>h s' I') hf
def Inv.call'(I:Inv X pins σ H s)(F:s'.os=s.os)(u:Un (frs X.stack) ch H H' s.heap s'.heap)(q:HOk X.prog X.w H' s'.heap)(J:AllBare s'.gens)(B:∀b∈ch,(b∈X.ex\/X.s₀.heap.objs.size<=b)/\b≠X.env.locals/\(∀x c,X.env.cells.lookup x=some c->c≠b)/\∀p∈X.pn++pins,p.1≠b):Inv X pins σ H' s':=by
 obtain⟨h',g',d',t',o'⟩:=s';have e:o'=s.os:=F;subst e;exact I.call (g':=g') (t':=t') (d':=d') u q J B
end
abbrev XK:=Value->Option Addr->Hp->Prop
abbrev St:=List (Option V)
abbrev VK:=V->Hp->Prop
abbrev TE:=St->Hp->VK->Prop
abbrev TT:=St->Hp->(Bool->Hp->Prop)->Prop
abbrev TA:=St->Hp->(List V->Hp->Prop)->Prop
structure Ends where
 nx:St->Hp->Prop
 rt:VK
 bk:St->Hp->Prop:=λ_ _=>False
 ct:St->Hp->Prop:=λ_ _=>False
abbrev TS:=Ends->St->Hp->Prop
def EP (X:Cx)(pins:List (Addr×Obj))(σ:St)(Q:VK)(u:Value)(s':Shared):Prop:=∃v H',Inv X pins σ H' s'/\zX v u/\Q v H'
def TP (X:Cx)(pins:List (Addr×Obj))(σ:St)(Q:Bool->Hp->Prop)(b:Bool)(s':Shared):Prop:=∃H',Inv X pins σ H' s'/\Q b H'
def AP (X:Cx)(pins:List (Addr×Obj))(σ:St)(Q:List V->Hp->Prop)(us:List Value)(s':Shared):Prop:=∃vs H',Inv X pins σ H' s'/\zY vs us/\Q vs H'
def SP (X:Cx)(pins:List (Addr×Obj))(D:Ends)(f:Flow)(s':Shared):Prop:=
 match f with
 | .next=>∃ q H',Inv X pins q H' s'/\D.nx q H'
 | .brk=>∃ q H',Inv X pins q H' s'/\D.bk q H'
 | .cont=>∃ q H',Inv X pins q H' s'/\D.ct q H'
 | .ret u=>∃v q H',Inv X pins q H' s'/\zX v u/\D.rt v H'
def PE (X:Cx)(e:Expr)(t:TE):Prop:=
 ∀ (pins:List (Addr×Obj)) (s:Shared) (σ:St) (H:Hp) (Q:VK),Inv X pins σ H s->t σ H Q->wpAny (model X.prog X.w) X.A (eval e X.env) (EP X pins σ Q) X.xe s
def PT (X:Cx)(e:Expr)(t:TT):Prop:=
 ∀ (pins:List (Addr×Obj)) (s:Shared) (σ:St) (H:Hp) (Q:Bool->Hp->Prop),Inv X pins σ H s->t σ H Q->wpAny (model X.prog X.w) X.A (isTrue e X.env (eval e X.env)) (TP X pins σ Q) X.xe s
def PW (X:Cx)(e:Expr)(t:TT):Prop:=
 ∀ (q:Sem Value) (pins:List (Addr×Obj)) (s:Shared) (σ:St) (H:Hp) (Q:Bool->Hp->Prop),Inv X pins σ H s->t σ H Q->wpAny (model X.prog X.w) X.A (isTrue e X.env q) (TP X pins σ Q) X.xe s
def PW.pt(h:PW X e t):PT X e t:=h _
def PA (X:Cx)(es:List Expr)(t:TA):Prop:=
 ∀ (pos:Pos) (pins:List (Addr×Obj)) (s:Shared) (σ:St) (H:Hp) (Q:List V->Hp->Prop),Inv X pins σ H s->t σ H Q->wpAny (model X.prog X.w) X.A (spliced (backTo pos (starEach es X.env))) (AP X pins σ Q) X.xe s
def PS (X:Cx)(st:Stmt)(t:TS):Prop:=
 ∀ (pins:List (Addr×Obj)) (s:Shared) (σ:St) (H:Hp) (D:Ends),Inv X pins σ H s->t D σ H->wpAny (model X.prog X.w) X.A (exec st X.env) (SP X pins D) X.xe s
def PSs (X:Cx)(st:List Stmt)(t:TS):Prop:=
 ∀ (pins:List (Addr×Obj)) (s:Shared) (σ:St) (H:Hp) (D:Ends),Inv X pins σ H s->t D σ H->wpAny (model X.prog X.w) X.A (execs st X.env) (SP X pins D) X.xe s
def thn{α:Type}{t:Sem α}{Q Q':α->Shared->Prop}(h:wpAny M A t Q E s)(q:∀a s,Q a s->Q' a s):wpAny M A t Q' E s:=aU h q λ_ _ x=>x
section
variable {X:Cx}
def ze6 (i:Nat):TE:=λσ H Q=>∃v,σ[i]?=some (some v)/\Q v H
def tC (v:V):TE:=λ_ H Q=>Q v H
def zlk {i:Nat}{x:Str}{pos:Pos}(J:X.N[i]?=some x)(L:Vis X.env.scope x)(B:(x==("__debug__" : Str))=false:=by decide)(F:(x==("__classdict__" : Str))=false:=by decide):PE X (.Name x pos) (ze6 i):=by
 intro pins s σ H Q I h;obtain⟨v,e,h⟩:=h;obtain⟨m,O,U⟩:=I.loc;obtain⟨u,r,l⟩:=U i x v J e L;have fin:EP X pins σ Q u s:=⟨v,H,I,r,h⟩;rcases l with ⟨q,hm⟩ | ⟨q,c,hc,hcell⟩
 ·exact wpAny_Name (wpAny_loadName_local I.ok.kind q O hm fin) B
 ·rcases q with q | q
  ·exact wpAny_Name (wpAny_loadName_cell I.ok.kind q hc hcell fin) B
  ·exact wpAny_Name (wpAny_loadName_free I.ok.kind q hc hcell fin F) B
def zpX {i j pos}:PE X (.Constant (.int i) j pos) (tC (.int i)):=λ_ _ _ H _ I h=>wpAny_Constant_int ⟨.int i,H,I.tok _,⟨_,rfl⟩,h⟩
def ztg {b j pos}:PE X (.Constant (.bool b) j pos) (tC (.bl b)):=λ_ _ _ H _ I h=>Constant_bool ⟨.bl b,H,I,rfl,h⟩
def zpY {j pos}:PE X (.Constant .none j pos) (tC .non):=λ_ _ _ H _ I h=>Constant_none ⟨.non,H,I,rfl,h⟩
def zp1 {x j pos}:PE X (.Constant (.str x) j pos) (tC (.str x)):=λ_ _ _ H _ I h=>Calls.Constant_str ⟨.str x,H,I.tok _,⟨_,rfl⟩,h⟩
def Gl (X:Cx)(x:Str):Prop:=X.env.kindOf x=some .globalImplicit
def zcG{E:Value->Shared->Prop}{pins:List (Addr×Obj)}{s:Shared}{σ:St}{H:Hp}{x:Str}{u:Value}{Q:Value->Shared->Prop}(I:Inv X pins σ H s)(q:Gl X x)(B:X.mg x=some u)(h:Q u s)(F:(x==("__debug__" : Str))=false:=by decide):wpAny (model X.prog X.w) X.A (eval (.Name x pos) X.env) Q E s:=
 cW I.ok.kind q (Calls.loadGlobal_global (by rw[I.ok.glob];exact I.mod.glob.keeps I.bk) B h) F
def zbf {E:Value->Shared->Prop}{pins:List (Addr×Obj)}{s:Shared}{σ:St}{H:Hp}{x:Str}{u:Value}{pos:Pos}{Q:Value->Shared->Prop}(I:Inv X pins σ H s)(q:Gl X x)(B:X.mg x=none)(F:bootBuiltins x=some u)(h:Q u s)
  (J:x ≠ "__name__" := by decide) (L:(x==("__debug__" : Str))=false:=by decide):wpAny (model X.prog X.w) X.A (eval (.Name x pos) X.env) Q E s:=by
 obtain⟨O,h1,h2⟩:=I.mod.blt;exact cW I.ok.kind q (Calls.loadGlobal_builtin (by rw[I.ok.glob];exact I.mod.glob.keeps I.bk) B (by rw[I.ok.blt];exact h1.keeps I.bk) ((h2 x J).trans F) h) L
def zm6(q:Gl X x)(B:X.mg x=some u)(r:zX v u)(F:(x==("__debug__" : Str))=false:=by decide):PE X (.Name x pos) (tC v):=
 λ_ _ _ H _ I h=>zcG I q B ⟨v,H,I,r,h⟩ F
def zm2 {x:Str}{v:V}{u:Value}{pos:Pos}(q:Gl X x)(B:X.mg x=none)(F:bootBuiltins x=some u)(r:zX v u)(J:x ≠ "__name__" := by decide)(L:(x==("__debug__" : Str))=false:=by decide):PE X (.Name x pos) (tC v):=
 λ_ _ _ H _ I h=>zbf I q B F ⟨v,H,I,r,h⟩ J L
variable {a b:Expr}{ta tb:TE}{pos:Pos}
def PC (X:Cx)(op:CmpOp)(a b:Expr)(t:TE):Prop:=
 ∀ (pins:List (Addr×Obj)) (s:Shared) (σ:St) (H:Hp) (Q:VK),Inv X pins σ H s->t σ H Q->
  wpAny (model X.prog X.w) X.A (eval a X.env) (λv q=>wpAny (model X.prog X.w) X.A (eval b X.env) (λu B=>wpAny (model X.prog X.w) X.A (compareOp op v u) (EP X pins σ Q) X.xe B) X.xe q) X.xe s
def uU(b:Expr)(h:op≠.In)(h2:op≠.NotIn):behindInMarks op b=false:=by
 have q:(op==CmpOp.In)=false:=by cases op <;> first | rfl | exact absurd rfl h
 have B:(op==CmpOp.NotIn)=false:=by cases op <;> first | rfl | exact absurd rfl h2
 cases b <;> simp[behindInMarks,q,B]
def tB (t:TE):TT:=λσ H Q=>t σ H λx H1=>∃c,x = .bl c/\Q c H1
def zqf(h:PC X op a b t)(h1:behindInMarks op b=false:=by first | exact uU _ (by decide) (by decide) | rfl):PT X (.Compare a [op] [b] pos) (tB t):=by intro pins s σ H Q I B;refine wpAny_isTrue_Compare1 (thn (h pins s σ H _ I B) λv L h1=>thn h1 λu O h2=>thn h2 λc U ⟨x,H1,I1,F,J⟩=>?_) h1;obtain⟨d,rfl,q⟩:=J;cases F;exact b9 ⟨H1,I1,q⟩
def zqh(h:PE X e t)(he:∀whole,isTrue e X.env whole=(do let v <- whole;standAt e.pos;holding [v] (truthy v)):=by intro _;rfl):PT X e (tB t):=by intro pins s σ H Q I hw;refine isTrue_plain (thn (h pins s σ H _ I hw) λv s1 ⟨x,H1,I1,r1,q1⟩=>?_) (he _);obtain⟨d,rfl,q⟩:=q1;cases r1;exact b9 ⟨H1,I1,q⟩
variable {tA tB':TT}{ye:List Expr}
def ztB (t u:TT):TT:=λσ H Q=>t σ H λc H1=>if c=true then u σ H1 Q else Q false H1
def tOr (t u:TT):TT:=λσ H Q=>t σ H λc H1=>if c=true then Q true H1 else u σ H1 Q
def tNot (t:TT):TT:=λσ H Q=>t σ H λc H1=>Q (!c) H1
def zns (q:PT X a tA):PW X (.BoolOp .And [a] pos) tA:=by
 intro B pins s σ H Q I h;refine isTrue_and (thn (q pins s σ H Q I h) λc F e=>?_)
 cases c with
 | true=>exact isTrue_and_nil e
 | false=>exact e
def zqj (q:PT X a tA):PW X (.BoolOp .Or [a] pos) tA:=by
 intro B pins s σ H Q I h;refine isTrue_or (thn (q pins s σ H Q I h) λc F e=>?_)
 cases c with
 | false=>exact isTrue_or_nil e
 | true=>exact e
def zqi (B:PT X a tA)(F:PW X (.BoolOp .And (b::ye) pos) tB'):PW X (.BoolOp .And (a::b::ye) pos) (ztB tA tB'):=by
 intro J pins s σ H Q I h;refine isTrue_and (thn (B pins s σ H _ I h)  ?_);rintro c L ⟨H1,I1,q⟩
 cases c with
 | true=>exact F J pins L σ H1 Q I1 q
 | false=>exact⟨H1,I1,q⟩
def zto (B:PT X a tA)(F:PW X (.BoolOp .Or (b::ye) pos) tB'):PW X (.BoolOp .Or (a::b::ye) pos) (tOr tA tB'):=by
 intro J pins s σ H Q I h;refine isTrue_or (thn (B pins s σ H _ I h)  ?_);rintro c L ⟨H1,I1,q⟩
 cases c with
 | true=>exact⟨H1,I1,q⟩
 | false=>exact F J pins L σ H1 Q I1 q
def zqg (q:PT X a tA):PT X (.UnaryOp .Not a pos) (tNot tA):=by intro pins s σ H Q I h;exact isTrue_not (q pins s σ H (λc H1=>Q (!c) H1) I h)
def zqU (ta tb:TE):TE:=λσ H Q=>ta σ H λx H1=>∃c,x = .bl c/\if c=true then tb σ H1 Q else Q (.bl false) H1
def zq1 (ta:TE):TE:=λσ H Q=>ta σ H λx H1=>∃c,x = .bl c/\Q (.bl (!c)) H1
def zp0{op}(h:PE X a t):PE X (.BoolOp op [a] pos) t:=λpins s σ H Q I q=>BoolOp_one (h pins s σ H Q I q)
def zpU (B:PE X a ta)(F:PE X (.BoolOp .And (b::ye) pos) tb):PE X (.BoolOp .And (a::b::ye) pos) (zqU ta tb):=by
 intro pins s σ H Q I h;refine BoolOp_and (thn (B pins s σ H _ I h)  ?_);rintro v J ⟨x,H1,I1,L,q⟩;obtain⟨c,rfl,q⟩:=q;cases L;refine b9 ?_
 cases c with
 | true=>exact F pins J σ H1 Q I1 q
 | false=>exact⟨.bl false,H1,I1,rfl,q⟩
def zpZ (B:PE X a ta):PE X (.UnaryOp .Not a pos) (zq1 ta):=by intro pins s σ H Q I h;refine UnaryOp_ (thn (B pins s σ H _ I h)  ?_);rintro v J ⟨x,H1,I1,F,q⟩;obtain⟨c,rfl,q⟩:=q;cases F;exact not_of (b9 ⟨.bl (!c),H1,I1,rfl,q⟩)
def tIf (t:TT)(ta tb:TE):TE:=λσ H Q=>t σ H λc H1=>if c=true then ta σ H1 Q else tb σ H1 Q
def zkd(F:PT X c tA)(J:PE X a ta)(L:PE X b tb):PE X (.IfExp c a b pos) (tIf tA ta tb):=by
 intro pins s σ H Q I h;refine wpAny_IfExp (thn (F pins s σ H _ I h)  ?_);rintro d q ⟨H1,I1,B⟩
 cases d with
 | true=>exact J pins q σ H1 Q I1 B
 | false=>exact L pins q σ H1 Q I1 B
end
def SqL (K:PySem.W.Frag)(H:Hp)(a:Addr)(xs:List V):Prop:=
 Rd H a (.lst xs)\/
  ∃ (o:Obj) (its:Array Value) (n:Nat),K.lookup a=some o/\o.cls = .type "list" /\ o.dict=none/\o.data = .seq its n/\its.size<=sizeLine/\zY xs its.toList
def SqT (K:PySem.W.Frag)(H:Hp)(a:Addr)(xs:List V):Prop:=
 Rd H a (.tup xs)\/
  ∃ (o:Obj) (its:Array Value) (n:Nat),K.lookup a=some o/\o.cls = .type "tuple" /\ o.data = .seq its n/\its.size<=sizeLine/\zY xs its.toList
def absV:Value->Option V
 | .none=>some .non
 | .bool b=>some (.bl b)
 | .int i _=>some (.int i)
 | .str x _=>some (.str x)
 | .bytes b _=>some (.byt b)
 | .float b _=>some (.flt b)
 | .ref a=>some (.ref a)
 | .type n=>some (.ty n)
 | _=>none
def zX.abs(r:zX x u):absV u=some x:=by
 cases x with
 | non=>cases r;rfl
 | bl _=>cases r;rfl
 | int _=>obtain⟨t,rfl⟩:=r;rfl
 | str _=>obtain⟨t,rfl⟩:=r;rfl
 | byt _=>obtain⟨t,rfl⟩:=r;rfl
 | flt _=>obtain⟨t,rfl⟩:=r;rfl
 | ref _=>cases r;rfl
 | ty _=>cases r;rfl
def zX.inj(r:zX x u)(q:zX y u):x=y:=bh (r.abs.symm.trans q.abs)
def zY.inj:∀ {xs ys:List V} {us:List Value},zY xs us->zY ys us->xs=ys
 | _,_,_,.nil,.nil=>rfl
 | _,_,_,.cons r t,.cons q t'=>by rw[r.inj q,zY.inj t t']
section
variable {X:Cx}{pins:List (Addr×Obj)}{σ:St}{H:Hp}{s:Shared}{a:Addr}{xs ys:List V}
def SqL.of {K:PySem.W.Frag}(h:H a=some (.lst xs)):SqL K H a xs:=.inl (.inl h)
def SqT.of {K:PySem.W.Frag}(h:H a=some (.tup xs)):SqT K H a xs:=.inl (.inl h)
def Inv.list (I:Inv X pins σ H s)(h:SqL X.K H a xs):∃its:List Value,zY xs its/\PlainL s.heap a its.toArray/\xs.length<=sizeLine:=by
 rcases h with h | ⟨o,its,n,hk,hc,hd,hs,hz,r⟩
 ·obtain⟨z,its,n,r,e⟩:=h.ok I.hok;exact⟨its,r,⟨_,n,e,rfl,rfl,rfl⟩,z⟩
 ·refine⟨its.toList,r,⟨o,n,I.kIn a o hk,hc,hd,by simpa using hs⟩,?_⟩;have e:=r.length
  grind
def Inv.tuple (I:Inv X pins σ H s)(h:SqT X.K H a xs):∃its:List Value,zY xs its/\IsTup s.heap a its.toArray/\xs.length<=sizeLine:=by
 rcases h with h | ⟨o,its,n,hk,hc,hs,hz,r⟩
 ·obtain⟨z,its,r,p⟩:=h.ok I.hok;exact⟨its,r,p.tup,z⟩
 ·refine⟨its.toList,r,⟨o,I.kIn a o hk,hc,n,by simpa using hs⟩,?_⟩;have e:=r.length
  grind
def Inv.list_inj (I:Inv X pins σ H s)(h:SqL X.K H a xs)(h':SqL X.K H a ys):xs=ys:=by
 obtain⟨its,r,⟨o,n,e,_,_,d⟩,_⟩:=I.list h;obtain⟨its',B,⟨o',J,q,_,_,d'⟩,_⟩:=I.list h';rw[e] at q;cases q;rw[d] at d';injection d' with F _;have:its=its':=by simpa using congrArg Array.toList F
 subst this;exact r.inj B
def Inv.tuple_inj (I:Inv X pins σ H s)(h:SqT X.K H a xs)(h':SqT X.K H a ys):xs=ys:=by
 obtain⟨its,r,⟨o,e,_,n,d⟩,_⟩:=I.tuple h;obtain⟨its',B,⟨o',q,_,J,d'⟩,_⟩:=I.tuple h';rw[e] at q;cases q;rw[d] at d';injection d' with F _;have:its=its':=by simpa using congrArg Array.toList F
 subst this;exact r.inj B
end
abbrev Cx.wish (X:Cx)(E:Value->Shared->Prop):Cx:={ X with xe:=E }
abbrev Cx.nox (X:Cx):Cx:=X.wish λ_ _=>False
def Cx.Ok.wish {X:Cx}(q:X.Ok)(E:Value->Shared->Prop):(X.wish E).Ok:=
 ⟨q.mod,q.kind,q.glob,q.blt,q.above,q.inj,q.has,q.cab,q.hd,q.frames,q.stk,q.exf,q.bs,q.bsz,q.noex,q.exfs,q.funs,q.frf⟩
def Cx.Ok.unwish{X:Cx}(q:(X.wish E).Ok):X.Ok:=
 ⟨q.mod,q.kind,q.glob,q.blt,q.above,q.inj,q.has,q.cab,q.hd,q.frames,q.stk,q.exf,q.bs,q.bsz,q.noex,q.exfs,q.funs,q.frf⟩
section
variable {X:Cx}{pins:List (Addr×Obj)}{σ:St}{H:Hp}{s:Shared}{E:Value->Shared->Prop}
def Inv.wish (I:Inv X pins σ H s)(E:Value->Shared->Prop):Inv (X.wish E) pins σ H s:=⟨I.ok.wish E,I.os,I.bare,I.base,I.loc,I.cell,I.free,I.freeC,I.pin,I.hok,I.len⟩
def Inv.unwish (I:Inv (X.wish E) pins σ H s):Inv X pins σ H s:=⟨I.ok.unwish,I.os,I.bare,I.base,I.loc,I.cell,I.free,I.freeC,I.pin,I.hok,I.len⟩
def SP.unwish(h:SP (X.wish E) pins D f s'):SP X pins D f s':=by
 cases f with
 | next=>obtain⟨B,H',I,q⟩:=h;exact⟨B,H',I.unwish,q⟩
 | brk=>obtain⟨B,H',I,q⟩:=h;exact⟨B,H',I.unwish,q⟩
 | cont=>obtain⟨B,H',I,q⟩:=h;exact⟨B,H',I.unwish,q⟩
 | ret u=>obtain⟨v,B,H',I,r,q⟩:=h;exact⟨v,B,H',I.unwish,r,q⟩
def PSs.nox{st:List Stmt}(h:PSs X.nox st t):PSs X st t:=λpins s σ H D I B=>
 aU (h pins s σ H D (I.wish _) B) (λ_ _ q=>q.unwish) λ_ _ z=>False.elim z
end
section
variable {X:Cx}{st:Stmt}{ye:List Stmt}{t u:TS}{e:Expr}{te:TE}{pos:Pos}
def zq0:TS:=λD σ H=>D.nx σ H
def ztI (t u:TS):TS:=λD σ H=>t { D with nx:=u D } σ H
def znm:PSs X [] zq0:=λ_ _ σ H _ I h=>eD ⟨σ,H,I,h⟩
def zkl (h1:PS X st t)(h2:PSs X ye u):PSs X (st::ye) (ztI t u):=by
 intro pins s σ H D I h;refine eg (thn (h1 pins s σ H { D with nx:=u D } I h) λf F q=>?_)
 cases f with
 | next=>
  obtain⟨B,H',I',q⟩:=q;exact h2 pins F B H' D I' q
 | ret v=>exact q
 | brk=>exact q
 | cont=>exact q
def znn (h1:PS X st t):PSs X [st] t:=by
 intro pins s σ H D I h;refine eg (thn (h1 pins s σ H D I h) λf B q=>?_)
 cases f with
 | next=>exact eD q
 | ret v=>exact q
 | brk=>exact q
 | cont=>exact q
def Inv.quiet{pins:List (Addr×Obj)}{σ:St}{H:Hp}(I:Inv X pins σ H s):interactive X.env=false:=by simp[interactive,I.ok.kind]
def znR (te:TE):TS:=λD σ H=>te σ H λ_ H1=>D.nx σ H1
def zig (q:PE X e te)(B:swapsWith e none pos.line X.env=pure false:=by rfl):PS X (.Expr e pos) (znR te):=by intro pins s σ H D I h;exact wpAny_Expr_any (thn (q pins s σ H _ I h) <| by rintro v J ⟨x,H1,I1,L,F⟩;exact⟨σ,H1,I1,F⟩) I.quiet B
def zq3 (te:TE):TS:=λD σ H=>te σ H D.rt
def zqc (q:PE X e te):PS X (.Return (some e) pos) (zq3 te):=by intro pins s σ H D I h;exact wpAny_Return_some (thn (q pins s σ H _ I h) <| by rintro v J ⟨x,H1,I1,B,F⟩;exact⟨x,σ,H1,I1,B,F⟩)
def tIfS (c:TT)(t u:TS):TS:=λD σ H=>c σ H λb H1=>if b=true then t D σ H1 else u D σ H1
def ztn(F:PT X c tc)(J:PSs X a t)(L:PSs X b u):PS X (.If c a b pos) (tIfS tc t u):=by
 intro pins s σ H D I h;refine wpAny_If (thn (F pins s σ H _ I h)  ?_);rintro d q ⟨H1,I1,B⟩
 cases d with
 | true=>exact J pins q σ H1 D I1 B
 | false=>exact L pins q σ H1 D I1 B
def zqZ:TS:=λ_ _ _=>False
def zbu:PSs X sts zqZ:=λ_ _ _ _ _ _ h=>h.elim
end
abbrev TG:=V->St->Hp->(St->Hp->Prop)->Prop
abbrev TGs:=List V->St->Hp->(St->Hp->Prop)->Prop
def PG (X:Cx)(q:Expr)(t:TG):Prop:=
 ∀ (pins:List (Addr×Obj)) (s:Shared) (σ:St) (H:Hp) (v:V) (u:Value) (Q:St->Hp->Prop),Inv X pins σ H s->zX v u->t v σ H Q->
  wpAny (model X.prog X.w) X.A (assign q X.env u) (λ_ s'=>∃ B H',Inv X pins B H' s'/\Q B H') X.xe s
def PGs (X:Cx)(ts:List Expr)(t:TGs):Prop:=
 ∀ (pins:List (Addr×Obj)) (s:Shared) (σ:St) (H:Hp) (vs:List V) (us:List Value) (Q:St->Hp->Prop),Inv X pins σ H s->zY vs us->t vs σ H Q->
  wpAny (model X.prog X.w) X.A (assignInOrder ((assignEach ts X.env).map (·.2)) us) (λ_ s'=>∃ q H',Inv X pins q H' s'/\Q q H') X.xe s
section
variable {X:Cx}{pos:Pos}
def zaK (i:Nat):TG:=λv σ H Q=>Q (σ.set i (some v)) H
def znb(q:X.N.Nodup)(hi:X.N[i]?=some x)(B:Loc X.env.scope x)(hf:X.fn x=true\/X.env.scope.names.lookup x=some .local:=by walk_at "l"):PG X (.Name x pos) (zaK i):=by intro pins s σ H v u Q I r h;exact wpAny_assign_Name (zc3 I q hi B r (λs' I'=>⟨_,H,I',h⟩) hf)
def gNil:TGs:=λvs σ H Q=>vs=[]/\Q σ H
def zoV (t:TG)(u:TGs):TGs:=λvs σ H Q=>∃v r,vs=v::r/\t v σ H λq H'=>u r q H' Q
def znc:PGs X [] gNil:=by intro pins s σ H vs us Q I r h;obtain⟨e,h⟩:=h;subst e;cases r;exact assignInOrder_nil ⟨σ,H,I,h⟩
def zkh(h1:PG X e t)(h2:PGs X es u)(B:(assignEach (e::es) X.env).map (·.2)=assign e X.env::(assignEach es X.env).map (·.2):=by rfl):PGs X (e::es) (zoV t u):=by
 intro pins s σ H vs us Q I r h;obtain⟨v,U,F,h⟩:=h;subst F
 cases r with
 | cons r J=>
  rw[B];refine assignInOrder_cons (thn (h1 pins s σ H _ _ _ I r h)  ?_);rintro _ L ⟨q,H1,I1,O⟩;exact h2 pins L q H1 _ _ Q I1 J O
def zsh (K:PySem.W.Frag)(n:Nat)(t:TGs):TG:=λv σ H Q=>∃a xs,v = .ref a/\SqT K H a xs/\xs.length=n/\t xs σ H Q
def zp8 {es:List Expr}{k:Nat}{t:TGs}{n:Nat}(J:X.calm=true)(h:PGs X es t)
  (L:(assignEach es X.env).length=n:=by rfl) (q:(assignEach es X.env).findIdx? (·.1)=none:=by rfl):PG X (.Tuple es k pos) (zsh X.K n t):=by
 intro pins s σ H v u Q I r B;obtain⟨a,xs,O,U,Y,B⟩:=B;subst O;cases r;obtain⟨its,F,Z,hz⟩:=I.tuple U;refine assign_Tuple_tuple (I.ok.hd J) Z (by simp[L,<- Y,F.length]) q λh' hx=>?_;have I1:Inv X pins σ H { s with heap:=h' }:=I.kept (t':=s.toks) λb o e=>hx b o (aD (ak e)) e;exact h pins _ σ H xs _ Q I1 (by simpa using F) B
def zgu (te:TE)(g:TG):TS:=λD σ H=>te σ H λx H1=>g x σ H1 D.nx
def zqa(B:PE X e te)(F:PG X tg g)(J:swapsWithSole [tg] e pos.line X.env=pure false:=by rfl)(L:swappedStores [tg] e X.env=pure none:=by rfl)(h1:(assignEach [tg] X.env).map (·.2)=[assign tg X.env]:=by rfl):PS X (.Assign [tg] e pos) (zgu te g):=by
 intro pins s σ H D I h;refine wpAny_Assign_stores (thn (B pins s σ H _ I h) λv O ⟨x,H1,I1,U,Y⟩=>?_) J L;rw[h1];exact thn (F pins O σ H1 x v _ I1 U Y) λ_ Z q=>q
def zqd(q:X.N.Nodup)(hi:X.N[i]?=some x)(B:Loc X.env.scope x)(F:PE X e te)(J:swapsWith e (some (.Name x pos')) pos.line X.env=pure false:=by rfl)(hf:X.fn x=true\/X.env.scope.names.lookup x=some .local:=by walk_at "l") :
  PS X (.Assign [.Name x pos'] e pos) (zgu te (zaK i)):=by
 intro pins s σ H D I h;refine wpAny_Assign_Name (thn (F pins s σ H _ I h) λv U ⟨y,H1,I1,L,O⟩=>?_) J;exact zc3 I1 q hi B L (λY I2=>⟨_,H1,I2,O⟩) hf
end
section
variable {X:Cx}{pos:Pos}
end
structure It where
 go:Nat->Hp->Prop
 yld:Nat->Hp->V->Hp->Prop
 stop:Nat->Hp->Prop
def zdd (X:Cx)(pins:List (Addr×Obj))(H:Hp)(b:Addr):Prop:=
 H b=none/\b≠X.env.locals/\b∉X.fs/\(b∈X.ex\/X.s₀.heap.objs.size<=b)/\(∀x c,X.env.cells.lookup x=some c->c≠b)/\∀p∈X.pn++pins,p.1≠b
def Inv.fpOk {X:Cx}{pins:List (Addr×Obj)}{σ:St}{H H':Hp}{s:Shared}{b:Addr}(I:Inv X pins σ H s)(B:s.heap.objs.size<=b)(F:H' b=none):zdd X pins H' b:=by
 refine⟨F,cP (aI I.lt B),I.nofs B,.inr (ah I.sz B),λx c e z=>?_,λp hp z=>?_⟩
 ·obtain⟨v,q⟩:=I.cell x c e;exact absurd (aI q.lt (by rw[z];exact B)) (bW _)
 ·exact absurd (aI (ak (I.pin p hp).1) (by rw[z];exact B)) (bW _)
structure Turn (P:Program)(w:World)(K:PySem.W.Frag)(tg:Expr)(J:It)(fp:List Addr)(it:Addr)(tn:Nat->Heap->Prop):Prop where
 mem:it∈fp
 obj:∀i h,tn i h->∀b∈fp,∃o,h.get? b=some o/\∀v,o.data≠.cell v
 keep:∀i h h',tn i h->(∀b∈fp,∀o,h.get? b=some o->h'.get? b=some o)->tn i h'
 item:∀ (X:Cx),X.prog=P->X.w=w->X.K=K->X.calm=true->∀ (i:Nat) (pins:List (Addr×Obj)) (s:Shared) (σ:St) (H:Hp) (E:Value->Shared->Prop),Inv X pins σ H s->(∀b∈fp,zdd X pins H b)->tn i s.heap->J.go i H->
  wpAny (model P w) X.A (pyNext (.ref it)) (λr s1=>∃u,r=some u/\
   wpAny (model P w) X.A (letOwnedTupleGo tg (.ref it) u) (λ_ s2=>∃x H',Inv X pins σ H' s2/\zX x u/\J.yld i H x H'/\tn (i+1) s2.heap/\∀b∈fp,H' b=none) E s1) E s
 done:∀ (X:Cx),X.prog=P->X.w=w->X.K=K->X.calm=true->∀ (i:Nat) (pins:List (Addr×Obj)) (s:Shared) (σ:St) (H:Hp) (E:Value->Shared->Prop),Inv X pins σ H s->(∀b∈fp,zdd X pins H b)->tn i s.heap->J.stop i H->
  wpAny (model P w) X.A (pyNext (.ref it)) (λr s1=>r=none/\Inv X pins σ H s1) E s
 self:∀ (A:Around) (i:Nat) (s:Shared) (Q:Value->Shared->Prop) (E:Value->Shared->Prop),tn i s.heap->Q (.ref it) s->wpAny (model P w) A (pyIter (.ref it)) Q E s
abbrev TI:=St->Hp->(It->Hp->Prop)->Prop
def PIE (X:Cx)(pins:List (Addr×Obj))(σ:St)(tg:Expr)(R:It->Hp->Prop)(q:Value)(B:Shared):Prop:=
 ∃ (it:Addr) (fp:List Addr) (F:Nat->Heap->Prop) (J:It) (H':Hp),q = .ref it/\Inv X pins σ H' B/\Turn X.prog X.w X.K tg J fp it F/\F 0 B.heap/\(∀b∈fp,zdd X pins H' b)/\R J H'
def PI (X:Cx)(tg iter:Expr)(wi:TI):Prop:=
 ∀ (pins:List (Addr×Obj)) (s:Shared) (σ:St) (H:Hp) (R:It->Hp->Prop),Inv X pins σ H s->wi σ H R->
  wpAny (model X.prog X.w) X.A (eval iter X.env) (λv q=>wpAny (model X.prog X.w) X.A (pyIter v) (PIE X pins σ tg R) X.xe q) X.xe s
def zju(B:s.heap.get? it=some o)(F:o.cls = .type n)(I:o.data = .fields vs)(J:["enumerate","zip","dict_itemiterator","dict_reverseitemiterator","odict_iterator","itertools.zip_longest","itertools.pairwise"].contains n=false)(q:Q () s):wpAny M A (letOwnedTupleGo tg (.ref it) u) Q E s:=by
 unfold letOwnedTupleGo
 cases tg <;> first
  | exact ai q
  | (cases u <;> first
    | exact ai q
    | (refine aa (wpAny_load B ?_)
       rw[F,I];show wpAny M A (if (["enumerate","zip","dict_itemiterator","dict_reverseitemiterator","odict_iterator","itertools.zip_longest","itertools.pairwise"].contains n&&vs[0]?==some (rawInt _))=true then _ else _) Q E s;rw[if_neg (by lia)];exact ai q))
def Itl (K:PySem.W.Frag)(a:Addr):It:=
 ⟨λi H=>∃xs x,SqL K H a xs/\xs[i]?=some x,λi H x H'=>H'=H/\∀xs,SqL K H a xs->xs[i]?=some x,λi H=>∃xs,SqL K H a xs/\xs.length<=i⟩
def Itt (K:PySem.W.Frag)(a:Addr):It:=
 ⟨λi H=>∃xs x,SqT K H a xs/\xs[i]?=some x,λi H x H'=>H'=H/\∀xs,SqT K H a xs->xs[i]?=some x,λi H=>∃xs,SqT K H a xs/\xs.length<=i⟩
def Itr (lo:Int)(n:Nat):It:=⟨λi _=>i<n,λi H x H'=>H'=H/\x = .int (lo+i),λi _=>n<=i⟩
def ziT{P:Program}{w:World}{K:PySem.W.Frag}(a it:Addr):Turn P w K tg (Itl K a) [it] it (λi h=>h.IsListIter it a i) where
 mem:=by simp
 obj:=λi h st b q=>by
  have e:b=it:=by simpa using q
  subst e;obtain⟨o,e,c,d⟩:=st
  simp_all
 keep:=λi h h' st k=>st.at λo e=>k it (by simp) o e
 item:=by intro X J L O hc i pins s σ H E I hf st U;subst J L O;obtain⟨xs,x,F,Y⟩:=U;obtain⟨its,Z,p,hz⟩:=I.list F;obtain⟨u,hu,ru⟩:=Z.get Y;obtain⟨f0,f1,f2,f3,f4,f5⟩:=hf it (by simp);refine wpAny_pyNext_list_item st p.isList (x:=u) (by simpa using hu) λh' B sb=>?_;have I1:Inv X pins σ H { s with heap:=h' }:=I.turned (t':=s.toks) (λb o q e=>(sb.2 b q).trans e) f0 f1 f3 f4 f5;obtain⟨o,e,c,d⟩:=id B;exact⟨u,rfl,zju (s:={ s with heap:=h' }) e c d (by decide) ⟨x,H,I1,ru,⟨rfl,λys hy=>by rw[I.list_inj hy F];exact Y⟩,B,λb q=>(hf b q).1⟩⟩
 done:=by intro X J L O hc i pins s σ H E I hf st U;subst J L O;obtain⟨xs,F,Y⟩:=U;obtain⟨its,Z,p,hz⟩:=I.list F;obtain⟨f0,f1,f2,f3,f4,f5⟩:=hf it (by simp);have hl:=Z.length;exact wpAny_pyNext_list_end (I.ok.hd hc) st p.isList (by simp;lia) λh' eb=>⟨rfl,I.turned (t':=s.toks) (λb o q e=>eb b o q e) f0 f1 f3 f4 f5⟩
 self:=λ_ _ _ _ _ st h=>wpAny_pyIter_listiter st h
def zgq{P:Program}{w:World}{K:PySem.W.Frag}(a it:Addr):Turn P w K tg (Itt K a) [it] it (λi h=>h.IsTupleIter it a i) where
 mem:=by simp
 obj:=λi h st b q=>by
  have e:b=it:=by simpa using q
  subst e;obtain⟨o,e,c,d⟩:=st
  simp_all
 keep:=λi h h' st k=>st.at λo e=>k it (by simp) o e
 item:=by intro X J L O hc i pins s σ H E I hf st U;subst J L O;obtain⟨xs,x,F,Y⟩:=U;obtain⟨its,Z,p,hz⟩:=I.tuple F;obtain⟨u,hu,ru⟩:=Z.get Y;obtain⟨f0,f1,f2,f3,f4,f5⟩:=hf it (by simp);refine wpAny_pyNext_tuple_item st (show s.heap.IsTuple a its.toArray from p) (x:=u) (by simpa using hu) λh' B sb=>?_;have I1:Inv X pins σ H { s with heap:=h' }:=I.turned (t':=s.toks) (λb o q e=>(sb.2 b q).trans e) f0 f1 f3 f4 f5;obtain⟨o,e,c,d⟩:=id B;exact⟨u,rfl,zju (s:={ s with heap:=h' }) e c d (by decide) ⟨x,H,I1,ru,⟨rfl,λys hy=>by rw[I.tuple_inj hy F];exact Y⟩,B,λb q=>(hf b q).1⟩⟩
 done:=by intro X J L O hc i pins s σ H E I hf st U;subst J L O;obtain⟨xs,F,Y⟩:=U;obtain⟨its,Z,p,hz⟩:=I.tuple F;obtain⟨f0,f1,f2,f3,f4,f5⟩:=hf it (by simp);have hl:=Z.length;exact wpAny_pyNext_tuple_end (I.ok.hd hc) st (show s.heap.IsTuple a its.toArray from p) (by simp;lia) λh' eb=>⟨rfl,I.turned (t':=s.toks) (λb o q e=>eb b o q e) f0 f1 f3 f4 f5⟩
 self:=λ_ _ _ _ _ st h=>wpAny_pyIter_tupleiter st h
def zgp{P:Program}{w:World}{K:PySem.W.Frag}(it:Addr)(lo:Int)(n:Nat):Turn P w K tg (Itr lo n) [it] it (λi h=>IsRangeIter h it (lo+(i:Nat) * 1) ((n:Int) - (i:Nat)) 1) where
 mem:=by simp
 obj:=λi h st b q=>by simp_all
 keep:=λi h h' st k=>k it (by simp) _ st
 item:=by intro X F J L O i pins s σ H E I hf st U;subst F J L;obtain⟨Y,f1,f2,Z,f4,f5⟩:=hf it (by simp);have W:=Walks.range (prog:=X.prog) (w:=X.w) (I.ok.hd O) it lo 1 n;refine W.item i s _ _ U st λv h' tk hv B kk=>?_;obtain⟨t,rfl⟩:=hv;have I1:Inv X pins σ H { s with heap:=h',toks:=tk }:=I.turned (λb o q e=>kk b o (by simpa using q) e) Y f1 Z f4 f5;refine⟨_,rfl,zju (s:={ s with heap:=h',toks:=tk }) (n := "range_iterator") B rfl rfl (by decide) ⟨.int (lo+i),H,I1,⟨t,?_⟩,⟨rfl,rfl⟩,B,λb q=>(hf b q).1⟩⟩;rw[Int.mul_one]
 done:=by intro X F J L O i pins s σ H E I hf st U;subst F J L;obtain⟨Y,f1,f2,Z,f4,f5⟩:=hf it (by simp);exact wpAny_pyNext_range_end (I.ok.hd O) st (by have:n<=i:=U;lia) λh' eb=>⟨rfl,I.turned (t':=s.toks) (λb o q e=>eb b o q e) Y f1 Z f4 f5⟩
 self:=λ_ _ _ _ _ st h=>wpAny_pyIter_rangeiter st h
section
variable {X:Cx}{tg:Expr}
def zmc (K:PySem.W.Frag)(tl:TE):TI:=λσ H R=>tl σ H λx H1=>∃a,x = .ref a/\(∃xs,SqL K H1 a xs)/\R (Itl K a) H1
def zsk (K:PySem.W.Frag)(tl:TE):TI:=λσ H R=>tl σ H λx H1=>∃a,x = .ref a/\(∃xs,SqT K H1 a xs)/\R (Itt K a) H1
def zne(F:PE X l tl):PI X tg l (zmc X.K tl):=by
 intro pins s σ H R I h;refine thn (F pins s σ H _ I h)  ?_;rintro v B ⟨x,H1,I1,J,L⟩;obtain⟨a,e,⟨xs,O⟩,q⟩:=L;subst e;cases J;obtain⟨its,Y,p,Z⟩:=I1.list O;refine cS p.isList ?_;refine⟨B.heap.objs.size,[B.heap.objs.size],_,_,H1,rfl,I1.kept (t':=B.toks) λb o e=>ae _ e,ziT a _,⟨_,am _ rfl,rfl,rfl⟩,λb U=>?_,q⟩;have e:b=B.heap.objs.size:=by simpa using U
 subst e;exact I1.fpOk (af _) (I1.hok.fresh (af _))
def zp9(F:PE X l tl):PI X tg l (zsk X.K tl):=by
 intro pins s σ H R I h;refine thn (F pins s σ H _ I h)  ?_;rintro v B ⟨x,H1,I1,J,L⟩;obtain⟨a,e,⟨xs,O⟩,q⟩:=L;subst e;cases J;obtain⟨its,Y,p,Z⟩:=I1.tuple O;refine bP (show B.heap.IsTuple a its.toArray from p) ?_;refine⟨B.heap.objs.size,[B.heap.objs.size],_,_,H1,rfl,I1.kept (t':=B.toks) λb o e=>ae _ e,zgq a _,⟨_,am _ rfl,rfl,rfl⟩,λb U=>?_,q⟩;have e:b=B.heap.objs.size:=by simpa using U
 subst e;exact I1.fpOk (af _) (I1.hok.fresh (af _))
def zkx{pins:List (Addr×Obj)}{σ:St}{H:Hp}{s:Shared}{R:It->Hp->Prop}{E:Value->Shared->Prop}{lo hi:Int}{t u v:Tok}(I:Inv X pins σ H s)(h1:-(2 ^ 62)<=lo)(h2:lo<2 ^ 62)(B:-(2 ^ 62)<=hi)(F:hi<2 ^ 62)(q:R (Itr lo (hi - lo).toNat) H):wpAny (model X.prog X.w) X.A (pyIter (.ref s.heap.objs.size)) (PIE X pins σ tg R) E { s with heap:=s.heap.push { cls:=.type "range",data:=.fields #[.int lo t,.int hi u,.int 1 v] },toks:=tk }:=by
 refine wpAny_pyIter_range (IsRange.new ..) (small_one h1 h2 B F) ?_;have I1:Inv X pins σ H { s with heap:=s.heap.push { cls:=.type "range",data:=.fields #[.int lo t,.int hi u,.int 1 v] },toks:=tk }:=I.kept λb o e=>ae _ e
 refine⟨(s.heap.push { cls:=.type "range",data:=.fields #[.int lo t,.int hi u,.int 1 v] }).objs.size,[(s.heap.push { cls:=.type "range",data:=.fields #[.int lo t,.int hi u,.int 1 v] }).objs.size],_,_,H,rfl,
  I1.kept (t':=tk) λb o e=>ae _ e,zgp _ lo (hi - lo).toNat,?_,λb J=>?_,q⟩
 ·have L:lo+((0:Nat):Int) * 1=lo:=by simp
  have O:(((hi - lo).toNat:Nat):Int) - ((0:Nat):Int)=Builtin.Range.rangeSize lo hi 1:=by rw[rangeSize_one];split <;> lia
  show IsRangeIter _ _ (lo+((0:Nat):Int) * 1) ((((hi - lo).toNat:Nat):Int) - ((0:Nat):Int)) 1;rw[L,O];exact am _ rfl
 ·have e:b=(s.heap.push { cls:=.type "range",data:=.fields #[.int lo t,.int hi u,.int 1 v] }).objs.size:=by simpa using J
  subst e;exact I1.fpOk (af _) (I1.hok.fresh (af _))
def zoZ (ta:TA):TI:=λσ H R=>ta σ H λvs H1=>∃j:Int,vs=[.int j]/\-(2 ^ 62)<=j/\j<2 ^ 62/\R (Itr 0 j.toNat) H1
def zid(F:Gl X "range")(J:X.mg "range" = none)(L:PA X [a] ta)(O:starEach [a] X.env=[(false,eval a X.env)]:=by rfl):PI X tg (.Call (.Name "range" p) [a] [] pos) (zoZ ta):=by
 intro pins s σ H R I h;refine Call_ (zbf I F J boot_range (bG (thn (L pos pins s σ H _ I h) λus s1 ⟨vs,H1,I1,U,B⟩=>?_) O rfl));obtain⟨j,e,B,Y,q⟩:=B;subst e
 cases U with
 | cons r Z=>
  cases Z;obtain⟨t,rfl⟩:=r;exact call_range_1 (zkx I1 (by lia) (by lia) B Y (by simpa using q))
def ztE (wi:TI)(g:TG)(tb:TS):TS:=λD σ H=>wi σ H λJ H1=>∃W:Nat->Nat->St->Hp->Prop,(∃m,W 0 m σ H1)/\∀i m σ H,W i m σ H->
 (J.stop i H/\D.nx σ H)\/(J.go i H/\∃N:St->Hp->Prop,(∀ q H',N q H'->∃F,F<m/\W (i+1) F q H')/\∀x H',J.yld i H x H'->g x σ H' λB H2=>tb { D with nx:=N,ct:=N,bk:=D.nx } B H2)
def zdR (fp:List Addr)(h:Heap):List (Addr×Obj):=fp.filterMap λb=>(h.get? b).map λo=>(b,o)
def uf(q:b∈fp)(e:h.get? b=some o):(b,o)∈zdR fp h:=cL.mpr ⟨b,q,by rw[e];rfl⟩
def zhY(hp:p∈zdR fp h):p.1∈fp/\h.get? p.1=some p.2:=by
 obtain⟨b,B,e⟩:=cL.mp hp
 cases q:h.get? b with
 | none=>rw[q] at e;cases e
 | some o=>
  grind
def Inv.pinned {pins:List (Addr×Obj)}{σ:St}{H:Hp}{s:Shared}{fp:List Addr}(I:Inv X pins σ H s)(hf:∀b∈fp,zdd X pins H b)(B:∀b∈fp,∃o,s.heap.get? b=some o/\∀v,o.data≠.cell v):Inv X (pins++zdR fp s.heap) σ H s:=
 I.pins_of λp hp=>(aK.mp hp).elim (λz=>I.pin p (aO _ z)) λz=>by
  obtain⟨q,e⟩:=zhY z;obtain⟨F,f1,f2,_⟩:=hf p.1 q;obtain⟨o,J,d⟩:=B p.1 q
  simp_all
def Inv.unpinned{pins pl:List (Addr×Obj)}{σ:St}{H:Hp}(I:Inv X (pins++pl) σ H s):Inv X pins σ H s:=I.pins_of λp hp=>I.pin p (aO _ (bV _ hp))
def zqb(hp:PassesOwn (model X.prog X.w) X.A X.env X.xe)(hc:X.calm=true)(hi:PI X tg iter wi)(hg:PG X tg g)(B:PSs X body tb)(hs:∀x,foldedSetIterable iter X.env x=pure x:=by intro _;rfl):PS X (.For tg iter body [] pos) (ztE wi g tb):=by
 intro pins s σ H D I h;refine wpAny_For (thn (hi pins s σ H _ I h) λv s1 h1=>thn h1 λa0 s2 h2=>?_) hs;obtain⟨it,fp,tn,J,H2,e,I2,T,al,f2,W,⟨m0,w0⟩,ab⟩:=h2;subst e;have F:∀ {H':Hp},(∀b∈fp,H' b=none)->∀b∈fp,zdd X pins H' b:=λhn b B=>⟨hn b B,(f2 b B).2⟩;refine codeAny_forLoop_any (λn s'=>∃i L H',Inv X pins L H' s'/\tn i s'.heap/\(∀b∈fp,H' b=none)/\W i n L H') ?_ m0 ⟨0,σ,H2,I2,al,λb B=>(f2 b B).1,w0⟩;rintro n s3 ⟨i,O,H3,I3,ad,ag,w3⟩;rcases ab i n O H3 w3 with ⟨stop,qn⟩ | ⟨go,N,hN,step⟩
 ·refine dq hp (thn (T.done X rfl rfl rfl hc i pins s3 O H3 X.xe I3 (F ag) ad stop)  ?_);rintro r s4 ⟨hr,I4⟩;subst hr;exact eD ⟨O,H3,I4,qn⟩
 ·refine dq hp (thn (T.item X rfl rfl rfl hc i pins s3 O H3 X.xe I3 (F ag) ad go)  ?_);rintro r s4 ⟨u,hr,h4⟩;subst hr;refine dq hp (thn h4  ?_);rintro _ s5 ⟨x,H5,I5,r5,y5,Z,an⟩;have I5':=I5.pinned (F an) (T.obj _ _ Z);refine dq hp (thn (hg _ s5 O H5 x u _ I5' r5 (step x H5 y5))  ?_);rintro _ s6 ⟨as,H6,I6,q6⟩;refine dq hp (thn (B _ s6 as H6 _ I6 q6) λf s7 Y=>?_)
  have U:∀ {q:St} {H7:Hp},Inv X (pins++zdR fp s5.heap) q H7 s7->N q H7->∃m,m<n/\∃i L H',Inv X pins L H' s7/\tn i s7.heap/\(∀b∈fp,H' b=none)/\W i m L H':=λ{q H7} I7 n7=>by obtain⟨m',hm,w7⟩:=hN q H7 n7;refine⟨m',hm,i+1,q,H7,I7.unpinned,T.keep _ _ _ Z λb B o e=>(I7.pin (b,o) (aO _ (aO _ (uf B e)))).1,λb B=>?_,w7⟩;obtain⟨o,e,d⟩:=T.obj _ _ Z b B;exact (I7.pin (b,o) (aO _ (aO _ (uf B e)))).2.1
  cases f with
  | next=>obtain⟨q,H7,I7,n7⟩:=Y;exact U I7 n7
  | cont=>obtain⟨q,H7,I7,n7⟩:=Y;exact U I7 n7
  | brk=>obtain⟨q,H7,I7,Y⟩:=Y;exact⟨q,H7,I7.unpinned,Y⟩
  | ret v=>obtain⟨x7,q,H7,I7,r7,Y⟩:=Y;exact⟨x7,q,H7,I7.unpinned,r7,Y⟩
end
def zjt {K:PySem.W.Frag}{a:Addr}{xs:List V}{g:TG}{tb:TS}{D:Ends}{σ:St}{H:Hp}(Pv:Nat->St->Hp->Prop)(L:Pv 0 σ H)(O:∀i σ H,i<=xs.length->Pv i σ H->SqL K H a xs)
  (U:∀i x σ H,xs[i]?=some x->Pv i σ H->g x σ H λB H2=>tb { D with nx:=Pv (i+1),ct:=Pv (i+1),bk:=D.nx } B H2) (Y:∀ σ H,Pv xs.length σ H->D.nx σ H) :
  ∃W:Nat->Nat->St->Hp->Prop,(∃m,W 0 m σ H)/\∀i m σ H,W i m σ H->
   ((Itl K a).stop i H/\D.nx σ H)\/((Itl K a).go i H/\∃N:St->Hp->Prop,(∀ F H',N F H'->∃J,J<m/\W (i+1) J F H')/\∀x H',(Itl K a).yld i H x H'->g x σ H' λB H2=>tb { D with nx:=N,ct:=N,bk:=D.nx } B H2):=by
 refine⟨λi m σ H=>m=xs.length - i/\i<=xs.length/\Pv i σ H,⟨xs.length,by simp,a6 _,L⟩,?_⟩;rintro i m σ H ⟨rfl,hi,p⟩;have q:=O i σ H hi p;by_cases I:i<xs.length
 ·refine .inr ⟨⟨xs,xs[i],q,by simp[I]⟩,Pv (i+1),λF H' p'=>⟨xs.length - (i+1),by lia,rfl,I,p'⟩,λx H' y=>?_⟩;obtain⟨e,y⟩:=y;subst e;exact U i x σ _ (y xs q) p
 ·have e:i=xs.length:=by lia
  subst e;exact .inl ⟨⟨xs,q,af _⟩,Y σ H p⟩
def zl4 {K:PySem.W.Frag}{a:Addr}{xs:List V}{g:TG}{tb:TS}{D:Ends}{σ:St}{H:Hp}(Pv:Nat->St->Hp->Prop)(L:Pv 0 σ H)(O:∀i σ H,i<=xs.length->Pv i σ H->SqT K H a xs)
  (U:∀i x σ H,xs[i]?=some x->Pv i σ H->g x σ H λB H2=>tb { D with nx:=Pv (i+1),ct:=Pv (i+1),bk:=D.nx } B H2) (Y:∀ σ H,Pv xs.length σ H->D.nx σ H) :
  ∃W:Nat->Nat->St->Hp->Prop,(∃m,W 0 m σ H)/\∀i m σ H,W i m σ H->
   ((Itt K a).stop i H/\D.nx σ H)\/((Itt K a).go i H/\∃N:St->Hp->Prop,(∀ F H',N F H'->∃J,J<m/\W (i+1) J F H')/\∀x H',(Itt K a).yld i H x H'->g x σ H' λB H2=>tb { D with nx:=N,ct:=N,bk:=D.nx } B H2):=by
 refine⟨λi m σ H=>m=xs.length - i/\i<=xs.length/\Pv i σ H,⟨xs.length,by simp,a6 _,L⟩,?_⟩;rintro i m σ H ⟨rfl,hi,p⟩;have q:=O i σ H hi p;by_cases I:i<xs.length
 ·refine .inr ⟨⟨xs,xs[i],q,by simp[I]⟩,Pv (i+1),λF H' p'=>⟨xs.length - (i+1),by lia,rfl,I,p'⟩,λx H' y=>?_⟩;obtain⟨e,y⟩:=y;subst e;exact U i x σ _ (y xs q) p
 ·have e:i=xs.length:=by lia
  subst e;exact .inl ⟨⟨xs,q,af _⟩,Y σ H p⟩
abbrev R2:=V->V->Hp->VK->Prop
def OpR (X:Cx)(f:Value->Value->Sem Value)(r:R2):Prop:=
 ∀ (pins:List (Addr×Obj)) (s:Shared) (σ:St) (H:Hp) (x y:V) (v u:Value) (Q:VK),Inv X pins σ H s->zX x v->zX y u->r x y H Q->
  wpAny (model X.prog X.w) X.A (f v u) (EP X pins σ Q) X.xe s
def UnR (X:Cx)(f:Value->Sem Value)(r:V->Hp->VK->Prop):Prop:=
 ∀ (pins:List (Addr×Obj)) (s:Shared) (σ:St) (H:Hp) (x:V) (v:Value) (Q:VK),Inv X pins σ H s->zX x v->r x H Q->
  wpAny (model X.prog X.w) X.A (f v) (EP X pins σ Q) X.xe s
def zbS (X:Cx)(f:Value)(r:List V->Hp->VK->Prop):Prop:=
 ∀ (pins:List (Addr×Obj)) (s:Shared) (σ:St) (H:Hp) (xs:List V) (us:List Value) (Q:VK),Inv X pins σ H s->zY xs us->r xs H Q->
  wpAny (model X.prog X.w) X.A (call f us) (EP X pins σ Q) X.xe s
def tOp (r:R2)(ta tb:TE):TE:=λσ H Q=>ta σ H λx H1=>tb σ H1 λy H2=>r x y H2 Q
def tUn (r:V->Hp->VK->Prop)(ta:TE):TE:=λσ H Q=>ta σ H λx H1=>r x H1 Q
def rI (C:Int->Int->Prop)(g:Int->Int->V):R2:=λx y H Q=>∃i j,x = .int i/\y = .int j/\C i j/\Q (g i j) H
def rI0 (g:Int->Int->V):R2:=λx y H Q=>∃i j,x = .int i/\y = .int j/\Q (g i j) H
def rU (g:Int->V):V->Hp->VK->Prop:=λx H Q=>∃i,x = .int i/\Q (g i) H
section
variable {X:Cx}{a b c:Expr}{ta tb tc:TE}{pos:Pos}
def zrO(J:PE X a ta)(L:PE X b tb){pins:List (Addr×Obj)}{σ:St}{H:Hp}{R:V->V->Hp->Prop}(I:Inv X pins σ H s)(h:ta σ H λx H1=>tb σ H1 λy H2=>R x y H2){Q:Value->Shared->Prop}{f:Value->Value->Sem Value}(hf:∀v u F x y H2,Inv X pins σ H2 F->zX x v->zX y u->R x y H2->wpAny (model X.prog X.w) X.A (f v u) Q X.xe F) :
  wpAny (model X.prog X.w) X.A (eval a X.env) (λv q=>wpAny (model X.prog X.w) X.A (eval b X.env) (λu B=>wpAny (model X.prog X.w) X.A (f v u) Q X.xe B) X.xe q) X.xe s:=by
 refine thn (J pins s σ H _ I h)  ?_;rintro v O ⟨x,H1,I1,U,Y⟩;refine thn (L pins O σ H1 _ I1 Y)  ?_;rintro u F ⟨y,H2,I2,Z,q2⟩;exact hf v u F x y H2 I2 U Z q2
def ztj(B:OpR X (binaryOp op) r)(F:PE X a ta)(J:PE X b tb):PE X (.BinOp a op b pos) (tOp r ta tb):=by intro pins s σ H Q I h;exact wpAny_BinOp (zrO F J I h λv u L x y H2 I2 O U q=>B pins L σ H2 x y v u Q I2 O U q)
def ztk(q:UnR X (unaryOp op) r)(B:PE X a ta):PE X (.UnaryOp op a pos) (tUn r ta):=by intro pins s σ H Q I h;exact UnaryOp_ (thn (B pins s σ H _ I h) <| by rintro v F ⟨x,H1,I1,J,L⟩;exact q pins F σ H1 x v Q I1 J L)
def opI{C:Int->Int->Prop}{g:Int->Int->Int}(B:∀ (i j:Int) (t u:Tok) (s:Shared) (Q:Value->Shared->Prop) (E:Value->Shared->Prop),C i j->Q (.int (g i j) s.toks) { s with toks:=s.toks+1 }->wpAny (model X.prog X.w) X.A (f (.int i t) (.int j u)) Q E s) :
  OpR X f (rI C λi j=>.int (g i j)):=by
 intro pins s σ H x y v u Q I F J h;obtain⟨i,j,rfl,rfl,L,q⟩:=h;obtain⟨t,rfl⟩:=F;obtain⟨t',rfl⟩:=J;exact B i j t t' s _ _ L ⟨.int (g i j),H,I.tok _,⟨_,rfl⟩,q⟩
def opI0{g:Int->Int->Int}(B:∀ (i j:Int) (t u:Tok) (s:Shared) (Q:Value->Shared->Prop) (E:Value->Shared->Prop),Q (.int (g i j) s.toks) { s with toks:=s.toks+1 }->wpAny (model X.prog X.w) X.A (f (.int i t) (.int j u)) Q E s) :
  OpR X f (rI0 λi j=>.int (g i j)):=by
 intro pins s σ H x y v u Q I F J h;obtain⟨i,j,rfl,rfl,q⟩:=h;obtain⟨t,rfl⟩:=F;obtain⟨t',rfl⟩:=J;exact B i j t t' s _ _ ⟨.int (g i j),H,I.tok _,⟨_,rfl⟩,q⟩
def zrz{g:Int->Int->Bool}(B:∀ (i j:Int) (t u:Tok) (s:Shared) (Q:Value->Shared->Prop) (E:Value->Shared->Prop),Q (.bool (g i j)) s->wpAny (model X.prog X.w) X.A (f (.int i t) (.int j u)) Q E s) :
  OpR X f (rI0 λi j=>.bl (g i j)):=by
 intro pins s σ H x y v u Q I F J h;obtain⟨i,j,rfl,rfl,q⟩:=h;obtain⟨t,rfl⟩:=F;obtain⟨t',rfl⟩:=J;exact B i j t t' s _ _ ⟨.bl (g i j),H,I,rfl,q⟩
def CDiv (i j:Int):Prop:=0<j/\j<1073741824
def CPow (i j:Int):Prop:=0<=j/\j<=1000000/\i.natAbs<2 ^ 64
def zkP (i j:Int):Prop:=(-(2 ^ 64)<i/\i<2 ^ 64)\/(-(2 ^ 64)<j/\j<2 ^ 64)
def zkP.ok {i j:Int}(h:zkP i j):IntMulOk i j:=by
 rcases h with ⟨h1,h2⟩ | ⟨h1,h2⟩
 ·exact .of_left (intBits_le_64 h1 h2)
 ·exact .of_right (intBits_le_64 h1 h2)
def zpF:OpR X (binaryOp .Add) (rI0 λi j=>.int (i+j)):=opI0 λ_ _ _ _ _ _ _ q=>add_int q
def zpM:OpR X (binaryOp .Sub) (rI0 λi j=>.int (i - j)):=opI0 λ_ _ _ _ _ _ _ q=>sub_int q
def zpJ:OpR X (binaryOp .Mult) (rI zkP λi j=>.int (i * j)):=opI λ_ _ _ _ _ _ _ B q=>mul_int q B.ok
def zmY:OpR X (binaryOp .FloorDiv) (rI CDiv λi j=>.int (i / j)):=opI λi j _ _ _ _ _ B q=>by have h1:(0:Int)<j:=B.1;have h2:j<1073741824:=B.2;exact floordiv_int (by lia) (by rw[Int.fdiv_eq_ediv_of_nonneg i (by lia)];exact q) (.inl (PyProof.noPylong_small (by lia)))
def zpI:OpR X (binaryOp .Mod) (rI (λ_ j=>0<j) λi j=>.int (i % j)):=opI λi j _ _ _ _ _ B q=>by have h1:(0:Int)<j:=B;exact mod_int' (by lia) (by rw[Int.fmod_eq_emod_of_nonneg i (by lia)];exact q)
def zpL:OpR X (binaryOp .Pow) (rI CPow λi j=>.int (i ^ j.toNat)):=opI λ_ _ _ _ _ _ _ B q=>pow_int_small B.1 B.2.1 B.2.2 q
def unI{g:Int->Int}(B:∀ (i:Int) (t:Tok) (s:Shared) (Q:Value->Shared->Prop) (E:Value->Shared->Prop),Q (.int (g i) s.toks) { s with toks:=s.toks+1 }->wpAny (model X.prog X.w) X.A (f (.int i t)) Q E s) :
  UnR X f (rU λi=>.int (g i)):=by
 intro pins s σ H x v Q I F h;obtain⟨i,rfl,q⟩:=h;obtain⟨t,rfl⟩:=F;exact B i t s _ _ ⟨.int (g i),H,I.tok _,⟨_,rfl⟩,q⟩
def zrb:UnR X (unaryOp .USub) (rU λi=>.int (-i)):=unI λ_ _ _ _ _ q=>neg_int q
end
def ztz:V->V->Bool
 | .non,.non=>true | .non,.int _=>true | .int _,.non=>true | .non,.bl _=>true | .bl _,.non=>true | .non,.str _=>true | .str _,.non=>true
 | .int _,.int _=>true | .bl _,.bl _=>true | .str _,.str _=>true | .byt _,.byt _=>true
 | .int _,.str _=>true | .str _,.int _=>true | .bl _,.str _=>true | .str _,.bl _=>true
 | _,_=>false
def rEq:R2:=λx y H Q=>ztz x y=true/\Q (.bl (decide (x=y))) H
def rNe:R2:=λx y H Q=>ztz x y=true/\Q (.bl (!decide (x=y))) H
def zgY {i j:Int}:decide (V.int i=V.int j)=(i==j):=by rw[a8];simp
def zkZ:decide (V.bl i=V.bl j)=(i==j):=by rw[a8];simp
def zgZ:decide (V.str i=V.str j)=(i==j):=by rw[a8];simp
def zgX:decide (V.byt i=V.byt j)=(i.toList==j.toList):=by
 rw[a8]
 simp_all
section
variable {X:Cx}{a b c:Expr}{ta tb tc:TE}{pos:Pos}
def zQ{pins:List (Addr×Obj)}{σ:St}{H:Hp}{Q:VK}(I:Inv X pins σ H s)(q:Q (.bl k) H)(e:k=B):EP X pins σ Q (.bool B) s:=by subst e;exact⟨.bl k,H,I,rfl,q⟩
def zs5:OpR X (compareOp .Eq) rEq:=by
 intro pins s σ H x y v u Q I J B h;obtain⟨F,q⟩:=h
 cases x with
 | non=>
  cases J
  cases y with
  | non=>cases B;exact PySem.EqNone.eq_none_none (zQ I q (by simp))
  | bl j=>cases B;exact PySem.EqNone.eq_none_bool (zQ I q (by simp))
  | int j=>obtain⟨t',rfl⟩:=B;exact PySem.EqNone.eq_none_int (zQ I q (by simp))
  | str j=>obtain⟨t',rfl⟩:=B;exact PySem.EqNone.eq_none_str (zQ I q (by simp))
  | _=>exact absurd (show false=true from F) aG
 | bl i=>
  cases J
  cases y with
  | non=>cases B;exact PySem.EqNone.eq_bool_none (zQ I q (by simp))
  | bl j=>cases B;exact eq_bool (zQ I q zkZ)
  | str j=>obtain⟨t',rfl⟩:=B;exact PySem.EqMixed.eq_bool_str (zQ I q (by simp))
  | _=>exact absurd (show false=true from F) aG
 | int i=>
  obtain⟨t,rfl⟩:=J
  cases y with
  | non=>cases B;exact PySem.EqNone.eq_int_none (zQ I q (by simp))
  | int j=>obtain⟨t',rfl⟩:=B;exact eq_int (zQ I q zgY)
  | str j=>obtain⟨t',rfl⟩:=B;exact PySem.EqMixed.eq_int_str (zQ I q (by simp))
  | _=>exact absurd (show false=true from F) aG
 | str i=>
  obtain⟨t,rfl⟩:=J
  cases y with
  | non=>cases B;exact PySem.EqNone.eq_str_none (zQ I q (by simp))
  | bl j=>cases B;exact PySem.EqMixed.eq_str_bool (zQ I q (by simp))
  | int j=>obtain⟨t',rfl⟩:=B;exact PySem.EqMixed.eq_str_int (zQ I q (by simp))
  | str j=>obtain⟨t',rfl⟩:=B;exact eq_str (zQ I q zgZ)
  | _=>exact absurd (show false=true from F) aG
 | byt i=>
  obtain⟨t,rfl⟩:=J
  cases y with
  | byt j=>obtain⟨t',rfl⟩:=B;exact PySem.W.eq_bytes (zQ I q zgX)
  | _=>exact absurd (show false=true from F) aG
 | _=>cases y <;> exact absurd (show false=true from F) aG
def zta:OpR X (compareOp .NotEq) rNe:=by
 intro pins s σ H x y v u Q I J B h;obtain⟨F,q⟩:=h
 cases x with
 | non=>
  cases J
  cases y with
  | non=>cases B;exact PySem.EqNone.ne_none_none (zQ I q (by simp))
  | bl j=>cases B;exact PySem.EqNone.ne_none_bool (zQ I q (by simp))
  | int j=>obtain⟨t',rfl⟩:=B;exact PySem.EqNone.ne_none_int (zQ I q (by simp))
  | str j=>obtain⟨t',rfl⟩:=B;exact PySem.EqNone.ne_none_str (zQ I q (by simp))
  | _=>exact absurd (show false=true from F) aG
 | bl i=>
  cases J
  cases y with
  | non=>cases B;exact PySem.EqNone.ne_bool_none (zQ I q (by simp))
  | bl j=>cases B;exact ne_bool (zQ I q (congrArg not zkZ))
  | str j=>obtain⟨t',rfl⟩:=B;exact PySem.EqMixed.ne_bool_str (zQ I q (by simp))
  | _=>exact absurd (show false=true from F) aG
 | int i=>
  obtain⟨t,rfl⟩:=J
  cases y with
  | non=>cases B;exact PySem.EqNone.ne_int_none (zQ I q (by simp))
  | int j=>obtain⟨t',rfl⟩:=B;exact ne_int (zQ I q (congrArg not zgY))
  | str j=>obtain⟨t',rfl⟩:=B;exact PySem.EqMixed.ne_int_str (zQ I q (by simp))
  | _=>exact absurd (show false=true from F) aG
 | str i=>
  obtain⟨t,rfl⟩:=J
  cases y with
  | non=>cases B;exact PySem.EqNone.ne_str_none (zQ I q (by simp))
  | bl j=>cases B;exact PySem.EqMixed.ne_str_bool (zQ I q (by simp))
  | int j=>obtain⟨t',rfl⟩:=B;exact PySem.EqMixed.ne_str_int (zQ I q (by simp))
  | str j=>obtain⟨t',rfl⟩:=B;exact ne_str (zQ I q (congrArg not zgZ))
  | _=>exact absurd (show false=true from F) aG
 | byt i=>
  obtain⟨t,rfl⟩:=J
  cases y with
  | byt j=>obtain⟨t',rfl⟩:=B;exact PySem.W.ne_bytes (zQ I q (congrArg not zgX))
  | _=>exact absurd (show false=true from F) aG
 | _=>cases y <;> exact absurd (show false=true from F) aG
def zs9:OpR X (compareOp .Lt) (rI0 λi j=>.bl (decide (i<j))):=zrz λ_ _ _ _ _ _ _ q=>lt_int q
def zs8:OpR X (compareOp .LtE) (rI0 λi j=>.bl (decide (i<=j))):=zrz λ_ _ _ _ _ _ _ q=>le_int q
def zs7:OpR X (compareOp .Gt) (rI0 λi j=>.bl (decide (j<i))):=zrz λ_ _ _ _ _ _ _ q=>gt_int q
def zs6:OpR X (compareOp .GtE) (rI0 λi j=>.bl (decide (j<=i))):=zrz λ_ _ _ _ _ _ _ q=>ge_int q
def zT(b:Expr)(h:op≠.In:=by decide)(h2:op≠.NotIn:=by decide):behindInMarks op b=false:=by
 have q:(op==CmpOp.In)=false:=by cases op <;> first | rfl | exact absurd rfl h
 have B:(op==CmpOp.NotIn)=false:=by cases op <;> first | rfl | exact absurd rfl h2
 cases b <;> simp[behindInMarks,q,B]
def zm3(B:OpR X (compareOp op) r)(F:PE X a ta)(J:PE X b tb)(L:behindInMarks op b=false):PE X (.Compare a [op] [b] pos) (tOp r ta tb):=by intro pins s σ H Q I h;exact wpAny_Compare1 (zrO F J I h λv u O x y H2 I2 U Y q=>B pins O σ H2 x y v u Q I2 U Y q) L
def znS (t:TE):TT:=λσ H Q=>t σ H λx H'=>∃k,x = .bl k/\Q k H'
def zno(q:OpR X (compareOp op) r)(B:PE X a ta)(F:PE X b tb)(J:behindInMarks op b=false):PT X (.Compare a [op] [b] pos) (znS (tOp r ta tb)):=by
 intro pins s σ H Q I h
 refine wpAny_isTrue_Compare1 (thn (B pins s σ H _ I h) λv L ⟨x,H1,I1,O,U⟩=>thn (F pins L σ H1 _ I1 U) λu Y ⟨y,H2,I2,Z,q2⟩=>
  thn (q pins Y σ H2 x y v u _ I2 O Z q2) λc s3 ⟨z,H3,I3,r3,k,e,q3⟩=>?_) J
 subst e;cases r3;exact b9 ⟨H3,I3,q3⟩
def zhI:(sizeLine:Nat)<2 ^ 63:=by rw[cE];decide
def zbP(r:zY [x] us):∃u,us=[u]/\zX x u:=by
 cases r with
 | cons q B=>cases B;exact⟨_,rfl,q⟩
def ziY(r:zY [x,y] us):∃u w',us=[u,w']/\zX x u/\zX y w':=by
 cases r with
 | cons q B=>
  cases B with
  | cons F I=>cases I;exact⟨_,_,rfl,q,F⟩
def zi8:zbS X (.builtin "abs") (λxs H Q=>∃i,xs=[.int i]/\Q (.int (if i<0 then -i else i)) H):=by intro pins s σ H xs us Q I r h;obtain⟨i,rfl,q⟩:=h;obtain⟨u,rfl,t,rfl⟩:=zbP r;exact call_abs_int λu tk=>⟨.int (if i<0 then -i else i),H,I.tok _,⟨_,rfl⟩,q⟩
def zrn (K:PySem.W.Frag)(x:V)(H:Hp)(n:Nat):Prop:=
 match x with
 | .str y=>y.length<=sizeLine/\n=y.length
 | .byt y=>y.size<=sizeLine/\n=y.size
 | .ref p=>(∃xs,SqL K H p xs/\n=xs.length)\/∃xs,SqT K H p xs/\n=xs.length
 | _=>False
def zjb:zbS X (.builtin "len") (λxs H Q=>∃x n,xs=[x]/\zrn X.K x H n/\Q (.int n) H):=by
 intro pins s σ H xs us Q I r h;obtain⟨x,n,rfl,e,q⟩:=h;obtain⟨u,rfl,rx⟩:=zbP r;have hl:=zhI;have hs:sizeLine=16777216:=cE
 cases x with
 | str y=>
  obtain⟨t,rfl⟩:=rx;obtain⟨hy,e'⟩:y.length<=sizeLine/\n=y.length:=e;subst e';exact len_str (by lia) ⟨.int _,H,I.tok _,⟨_,rfl⟩,q⟩
 | byt y=>
  obtain⟨t,rfl⟩:=rx;obtain⟨hy,e'⟩:y.size<=sizeLine/\n=y.size:=e;subst e';exact PySem.W.len_bytes (by lia) ⟨.int _,H,I.tok _,⟨_,rfl⟩,q⟩
 | ref p=>
  cases rx;have e':(∃xs,SqL X.K H p xs/\n=xs.length)\/∃xs,SqT X.K H p xs/\n=xs.length:=e;rcases e' with ⟨xs,hx,e'⟩ | ⟨xs,hx,e'⟩
  ·subst e';obtain⟨its,r',pl,hz⟩:=I.list hx;have hlen:=r'.length;exact Calls.call_len_list pl.isList (by simp only[aR];lia) ⟨.int xs.length,H,I.tok _,⟨_,by simp only[aR];rw[hlen]⟩,q⟩
  ·subst e';obtain⟨its,r',pl,hz⟩:=I.tuple hx;have hlen:=r'.length;exact len_tuple pl (by simp only[aR];lia) ⟨.int xs.length,H,I.tok _,⟨_,by simp only[aR];rw[hlen]⟩,q⟩
 | _=>exact (show False from e).elim
end
structure ObjM (h:Heap)(x dx C:Addr)(mA:Str->Option Value):Prop where
 obj:h.get? x=some (PySem.W.instObj C dx)
 ns:h.Ns1 dx mA
 ne:dx≠x
def zhJ {h:Heap}{dx:Addr}{mA:Str->Option Value}(n:h.Ns1 dx mA):∃F,h.get? dx=some F/\∀name,PySem.W.lookIn name F=some (mA name):=by
 obtain⟨o,es,ep,I,J,L,_,O⟩:=n;refine⟨o,I,λname=>?_⟩;have e:=O name;unfold nsFind findBy at e;rw[<- Array.find?_toList] at e;unfold PySem.W.lookIn;rw[J];dsimp only;split
 ·simp_all
 ·rename_i q;rw[q] at e
  have a:es.toList.any (·.refKey)=false:=by rw[eY];intro y U;obtain⟨z,t,B⟩:=L y (Array.mem_toList_iff.mp U);simp[DictEntry.refKey,B]
  grind
def ObjM.look(I:ObjM h x dx C mA):∃q,PySem.W.InstAt h x (PySem.W.instObj C dx) C (some q)/\∀name,PySem.W.lookIn name q=some (mA name):=
 let ⟨q,ho,hl⟩:=zhJ I.ns
 ⟨q,⟨I.obj,rfl,rfl,ho⟩,hl⟩
section
variable {prog:Program}{w:World}{A:Around}{E:Value->Shared->Prop}{s:Shared}{K:PySem.W.Frag}{x dx C f:Addr}{mA:Str->Option Value}{name:Str}{v:Value}
end
def zfZ.some_of(r:zfZ (some v) o):∃u,o=some u/\zX v u:=by
 cases o with
 | none=>exact (show False from r).elim
 | some u=>exact⟨u,rfl,r⟩
section
variable {P:Program}{w:World}{H H':Hp}{h h':Heap}{a C dx:Addr}{fs fs':List (Str×V)}
def zmd (B:HOk P w H h)(e:H a=some (.ins C dx fs)):∃mA,ObjM h a dx C mA/\(∀f,zfZ (fs.lookup f) (mA f))/\PySem.Within mA (fs.map (·.1))/\fs.length<=1000/\H dx=some (.own a):=by obtain⟨d,z,F,ob,mA,n,r,q⟩:=(show zD P w H h a (.ins C dx fs) from B a _ e);exact⟨mA,⟨ob,n,F⟩,r,q,z,d⟩
end
structure Cls (K:PySem.W.Frag)(C:Addr):Prop where
 pg:PySem.W.plainGet K C Str.empty=true
 hd:PySem.W.hasDictIn K C=true
 po:PySem.W.plainOver K C=true
 sa:PySem.W.findIn K (.ref C) "__setattr__" = some (some (.builtin "object.__setattr__"))
def Cls.get {K:PySem.W.Frag}{C:Addr}(c:Cls K C)(f:Str):PySem.W.plainGet K C f=true:=c.pg
section
variable {X:Cx}{pins:List (Addr×Obj)}{σ:St}{H:Hp}{s:Shared}{a C dx:Addr}{fs:List (Str×V)}{f:Str}{v:V}{A:Around}{E:Value->Shared->Prop}
end
section
variable {X:Cx}{o e value:Expr}{f:Str}{pos pos' tpos:Pos}{ta tv:TE}
end
section
variable {X:Cx}{pins:List (Addr×Obj)}{σ:St}{H:Hp}{s:Shared}{A:Around}{E:Value->Shared->Prop}{Q:Value->Shared->Prop}{c:Value}{b:Bool}
inductive TyOf (K:PySem.W.Frag) (H:Hp):V->Value->Prop where
 | non:TyOf K H .non (.type "NoneType")
 | bl (x:Bool):TyOf K H (.bl x) (.type "bool")
 | int (i:Int):TyOf K H (.int i) (.type "int")
 | str (x:Str):TyOf K H (.str x) (.type "str")
 | flt (x:UInt64):TyOf K H (.flt x) (.type "float")
 | lst {a:Addr} {xs:List V} (e:H a=some (.lst xs)):TyOf K H (.ref a) (.type "list")
 | frz {a:Addr} {o:Obj} {xs:List V} (e:H a=some (.frz o (.lst xs))):TyOf K H (.ref a) (.type "list")
 | tup {a:Addr} {xs:List V} (e:H a=some (.tup xs)):TyOf K H (.ref a) (.type "tuple")
 | dK {a:Addr} {kvs:List (Key×V)} (e:H a=some (.dK kvs)):TyOf K H (.ref a) (.type "dict")
 | dT {a:Addr} {kvs:List (List Key×V)} (e:H a=some (.dT kvs)):TyOf K H (.ref a) (.type "dict")
 | ins {a C dx:Addr} {fs:List (Str×V)} (e:H a=some (.ins C dx fs)) (cl:Cls K C) (ha:PySem.W.findIn K (.ref C) "__class__" = some (some (.builtin "object.__class__")))
   (hn:PySem.W.specialIn K (.builtin "object.__class__") "__get__" = some (some (.builtin "getset_descriptor.__get__"))) (htk:PySem.W.takesIn K (.builtin "object.__class__")=some true)
   (hm:PySem.W.mroIn K C (.type "object")=some true):TyOf K H (.ref a) (.ref C)
def zhm(I:Inv X pins σ H s)(B:zX x u)(ty:TyOf X.K H x t)(e:PySem.W.kitOne X.K t c=some b)(h:∀tk,Q (.bool b) { s with toks:=tk }) :
  wpAny (model X.prog X.w) A (call (.builtin "isinstance") [u,c]) Q E s:=by
 cases ty with
 | non=>cases (show u=Value.none from B);exact bq PySem.W.kitx_none I.kIn True.intro e (λz=>nomatch z) h
 | bl y=>cases (show u=Value.bool y from B);exact bq PySem.W.kitx_bool I.kIn True.intro e (λz=>nomatch z) h
 | int i=>obtain⟨t,q⟩:=(show ∃t,u=Value.int i t from B);cases q;exact bq PySem.W.kitx_int I.kIn True.intro e (λz=>nomatch z) h
 | str y=>obtain⟨t,q⟩:=(show ∃t,u=Value.str y t from B);cases q;exact bq PySem.W.kitx_str I.kIn True.intro e (λz=>nomatch z) h
 | flt y=>obtain⟨t,q⟩:=(show ∃t,u=Value.float y t from B);cases q;exact bq PySem.W.kitx_float I.kIn True.intro e (λz=>nomatch z) h
 | @lst a xs F=>
  cases (show u=Value.ref a from B);obtain⟨_,_,n,_,h1⟩:=(show zD X.prog X.w H s.heap a (.lst xs) from I.hok a _ F);exact bq dO I.kIn ⟨_,h1,rfl⟩ e (λz=>nomatch z) h
 | @frz a ob xs F=>
  cases (show u=Value.ref a from B);obtain⟨_,_,_,n,_,h1⟩:=(show zD X.prog X.w H s.heap a (.frz ob (.lst xs)) from I.hok a _ F);exact bq dO I.kIn ⟨_,h1,rfl⟩ e (λz=>nomatch z) h
 | @tup a xs F=>
  cases (show u=Value.ref a from B);obtain⟨_,_,_,p⟩:=(show zD X.prog X.w H s.heap a (.tup xs) from I.hok a _ F);obtain⟨o,h1,h2,_⟩:=p;exact bq PySem.W.kitx_tuple I.kIn ⟨o,h1,h2⟩ e (λz=>nomatch z) h
 | @dK a kvs F=>
  cases (show u=Value.ref a from B);obtain⟨_,_,vs,_,p⟩:=(show zD X.prog X.w H s.heap a (.dK kvs) from I.hok a _ F);obtain⟨o,es,ep,h1,h2,_⟩:=p;exact bq dP I.kIn ⟨o,h1,h2.1⟩ e (λz=>nomatch z) h
 | @dT a kvs F=>
  cases (show u=Value.ref a from B);obtain⟨_,_,xs,_,o,es,ep,h1,h2,_⟩:=(show zD X.prog X.w H s.heap a (.dT kvs) from I.hok a _ F);exact bq dP I.kIn ⟨o,h1,h2.1⟩ e (λz=>nomatch z) h
 | @ins a C dx fs F cl U Y L Z=>
  cases (show u=Value.ref a from B);obtain⟨mA,O,_⟩:=zmd I.hok F;obtain⟨od,J,_⟩:=O.look;exact bq (PySem.W.kitx_own (cl.get _) cl.hd U Y L Z) I.kIn J e (λz=>nomatch z) h
end
structure Room (k:Nat)(A:Around):Prop where
 hd:A.handled=none
 dp:A.depth+3 * k+5<recursionLimit
 un:A.units+16 * k+200<cLine
 gd:A.guards=some []:=by rfl
def Room.mono {j k:Nat}{A:Around}(r:Room k A)(h:j<=k):Room j A:=⟨r.hd,by have:=r.dp;lia,by have:=r.un;lia,r.gd⟩
def Room.deeper(r:Room (k+1) A)(env:Env):Room k (A.deeper env):=
 ⟨r.hd,by have:=r.dp;show A.depth+1+3 * k+5<_;lia,by have:=r.un;show A.units+3+16 * k+200<_;lia,r.gd⟩
def Room.depth(r:Room k A):A.depth<recursionLimit:=by have:=r.dp;lia
def Room.units(r:Room k A):A.units+64<cLine:=by have:=r.un;lia
def zoa:TA:=λ_ H Q=>Q [] H
def zd5 (ta:TE)(q:TA):TA:=λσ H Q=>ta σ H λx H1=>q σ H1 λxs H2=>Q (x::xs) H2
section
variable {X:Cx}{e:Expr}{es:List Expr}{te:TE}{t:TA}{pos:Pos}
def zpR:PA X [] zoa:=λ_ _ _ _ H Q I h=>dQ ⟨[],H,I,.nil,h⟩
def zm1 (q:PE X e te)(B:PA X es t)(F:starEach (e::es) X.env=(false,eval e X.env)::starEach es X.env:=by rfl):PA X (e::es) (zd5 te t):=by intro pos pins s σ H Q I h;rw[F];show wpAny _ _ (spliced ((false,eval e X.env)::backTo pos (starEach es X.env))) _ _ s;refine eQ (thn (q pins s σ H _ I h)  ?_);rintro u J ⟨x,H1,I1,L,O⟩;exact thn (B pos pins J σ H1 _ I1 O) <| by rintro us Z ⟨xs,H2,I2,U,Y⟩;exact⟨x::xs,H2,I2,.cons L U,Y⟩
def tTup (t:TA):TE:=λσ H Q=>t σ H λxs H1=>xs.length<=sizeLine/\∀p,H1 p=none->Q (.ref p) (upd H1 p (.tup xs))
def zp2 {x1}(h:PA X es t):PE X (.Tuple es x1 pos) (tTup t):=by intro pins s σ H Q I F;refine wpAny_Tuple_spliced (thn (h pos pins s σ H _ I F) λus B ⟨xs,H1,I1,r,z,q⟩=>⟨by rw[<- r.length];exact z,?_⟩);have hf:H1 B.heap.objs.size=none:=I1.hok.fresh (af _);refine⟨.ref B.heap.objs.size,upd H1 B.heap.objs.size (.tup xs),I1.laid (t':=B.toks) (λb u e=>ae _ e) (af _) ?_,rfl,q _ hf⟩;exact⟨z,us,r,⟨_,am _ rfl,rfl,⟨_,rfl⟩,rfl⟩⟩
end
abbrev Sp:=List V->Hp->VK->XK->Prop
abbrev CXT:=List Env->Hp->Shared->XK->Value->Shared->Prop
structure Env0 (P:Program)(w:World)(K:PySem.W.Frag)(mg:Str->Option Value)(base:Heap)(A:Around)(outer:List Env)(s:Shared)(H:Hp):Prop where
 frames:A.frames=some outer
 mod:Mod K mg base
 bs:∀b o,base.get? b=some o->s.heap.get? b=some o/\H b=none
 bsz:base.objs.size<=s.heap.objs.size
 funs:s.heap.FunFrames base outer
 frf:∀b∈frs outer,H b=none
 hok:HOk P w H s.heap
 bare:AllBare s.gens
def CE (outer:List Env)(P:Program)(w:World)(H:Hp)(s:Shared)(Q:VK)(u:Value)(s':Shared):Prop:=
 ∃v H',s'.os=s.os/\AllBare s'.gens/\Un (frs outer) [] H H' s.heap s'.heap/\HOk P w H' s'.heap/\zX v u/\Q v H'
def CR (CX:CXT)(outer:List Env)(P:Program)(w:World)(H:Hp)(s:Shared)(Q:VK)(E:XK)(r:Result)(s':Shared):Prop:=
 match r with
 | .ok (.ret u)=>CE outer P w H s Q u s'
 | .ok _=>False
 | .error e=>CX outer H s E e s'
structure FnOk (P:Program)(w:World)(K:PySem.W.Frag)(mg:Str->Option Value)(base:Heap)(CX:CXT)(k:Nat)(f:Addr)(fd:FuncData)(ps:List Str)(sp:Sp):Prop where
 len:∀vs H Q E,sp vs H Q E->vs.length=ps.length
 run:∀ (A:Around) (outer:List Env) (s:Shared) (H:Hp) (args:Args) (us:List Value) (vs:List V) (Q:VK) (E:XK),Room k A->Env0 P w K mg base A outer s H->BindsTo s fd args (ps.zip us)->zY vs us->sp vs H Q E->
  codeAny (model P w) A (.call (.ref f) args) (CR CX outer P w H s Q E) s
def FnOk.mono{P:Program}{w:World}{K:PySem.W.Frag}{mg:Str->Option Value}{base:Heap}{CX:CXT}{f:Addr}{fd:FuncData}{ps:List Str}(F:FnOk P w K mg base CX j f fd ps sp)(h:j<=k) :
  FnOk P w K mg base CX k f fd ps sp:=⟨F.len,λA outer s H args us vs Q E q=>F.run A outer s H args us vs Q E (q.mono h)⟩
def FnOk.imp{P:Program}{w:World}{K:PySem.W.Frag}{mg:Str->Option Value}{base:Heap}{CX:CXT}{f:Addr}{fd:FuncData}{ps:List Str}{sp B:Sp}(F:FnOk P w K mg base CX k f fd ps sp)(h:∀vs H Q E,B vs H Q E->sp vs H Q E):FnOk P w K mg base CX k f fd ps B:=
 ⟨λvs H Q E q=>F.len vs H Q E (h _ _ _ _ q),λA outer s H args us vs Q E I J L O U=>F.run A outer s H args us vs Q E I J L O (h _ _ _ _ U)⟩
section
variable {X:Cx}{pins:List (Addr×Obj)}{σ:St}{H:Hp}{s s':Shared}
def Inv.env0 (I:Inv X pins σ H s):Env0 X.prog X.w X.K X.mg X.base X.A X.stack s H:=
 ⟨I.ok.frames,I.ok.mod,I.bs,ah I.ok.bsz I.sz,I.stack,I.stkFree,I.hok,I.bare⟩
def Inv.after(I:Inv X pins σ H s)(h:CE X.stack X.prog X.w H s Q u s'):EP X pins σ Q u s':=by obtain⟨v,H',L,B,O,F,r,q⟩:=h;obtain⟨U,g,d,t,J⟩:=s';obtain rfl:J=s.os:=L;exact⟨v,H',I.call (h':=U) (g':=g) (d':=d) (t':=t) (ch:=[]) O F B (λb z=>absurd z (by simp)),r,q⟩
end
def zd4 (sp:Sp)(dvs:List V)(E:XK)(t:TA):TE:=λσ H Q=>t σ H λvs H1=>sp (vs++dvs) H1 Q E
def zec (K:PySem.W.Frag)(fd:FuncData)(ps:List Str)(ds:List Value):Prop:=
 ∀ (s:Shared) (us:List Value),K.In s.heap->(us++ds).length=ps.length->BindsTo s fd ⟨us,[]⟩ (ps.zip (us++ds))
def zec.all {K:PySem.W.Frag}{fd:FuncData}{ps:List Str}(h:∀us:List Value,us.length=ps.length->bindArgs fd ⟨us,[]⟩=pure (ps.zip us)):zec K fd ps []:=λs us _ q=>by rw[bc] at q ⊢;exact .of_eq (h us q)
def zfa (CX:CXT)(X:Cx)(E:XK):Prop:=∀ (pins:List (Addr×Obj)) (σ:St) (H:Hp) (s:Shared) (e:Value) (s':Shared),Inv X pins σ H s->CX X.stack H s E e s'->X.xe e s'
section
variable {X:Cx}{CX:CXT}{k:Nat}{f C:Addr}{fd:FuncData}{ps:List Str}{sp:Sp}{dvs:List V}{ds:List Value}{E:XK}{x m:Str}{p pos apos:Pos}{e o:Expr}{es:List Expr}{ta:TE}{t:TA}
def zqL{pins:List (Addr×Obj)}{σ:St}{H:Hp}{s:Shared}{Q:VK}{vs:List V}(F:FnOk X.prog X.w X.K X.mg X.base CX k f fd ps sp)(J:Room k X.A)(L:zec X.K fd ps ds)(O:zY dvs ds)(U:zfa CX X E)(I:Inv X pins σ H s)(r:zY vs us)(h:sp (vs++dvs) H Q E):wpAny (model X.prog X.w) X.A (call (.ref f) us) (EP X pins σ Q) X.xe s:=by
 have B:zY (vs++dvs) (us++ds):=r.append O;have Y:(us++ds).length=ps.length:=by rw[<- B.length];exact F.len _ _ _ _ h
 refine wpAny_call (dW (F.run X.A X.stack s H ⟨us,[]⟩ (us++ds) (vs++dvs) Q E J I.env0 (L s us I.kIn Y) B h) λr s' q=>?_)
 cases r with
 | error e=>exact U pins σ H s e s' I q
 | ok fl=>
  cases fl with
  | ret u=>exact I.after q
  | next=>exact False.elim q
  | brk=>exact False.elim q
  | cont=>exact False.elim q
def zeP (F:FnOk X.prog X.w X.K X.mg X.base CX k f fd ps sp)(L:Room k X.A)(O:Gl X x)(U:X.mg x=some (.ref f))(Y:PySem.W.keepIn X.K (.ref f)=true)(Z:zec X.K fd ps ds)(hd:zY dvs ds)(hx:zfa CX X E)
  (ha:PA X (e::es) t) (B:(x==("__debug__" : Str))=false:=by decide) (he:starEach (e::es) X.env=(false,eval e X.env)::starEach es X.env:=by rfl) (J:(backTo pos (starEach es X.env)).any (·.1)=false:=by rfl) :
  PE X (.Call (.Name x p) (e::es) [] pos) (zd4 sp dvs E t):=by
 intro pins s σ H Q I h;refine cN (zcG I O U ?_ B);refine PySem.W.callWith_K (h₀:=X.base) I.ok.mod.kin Y (thn (ha pos pins s σ H _ I h) λus s1 ⟨vs,H1,I1,r,q⟩=>⟨I1.kIn,?_⟩) he J;exact zqL F L Z hd hx I1 r q
end
section
variable {X:Cx}{CX:CXT}{k:Nat}{f C:Addr}{fd:FuncData}{ps ks:List Str}{sp:Sp}{E:XK}{x m:Str}{p pos apos kpos:Pos}{e o:Expr}{es:List Expr}{kws:List Keyword}{te ta:TE}{t tk:TA}{nm:Option Str}
variable {g:List Value->List Value->List Value}{gV:List V->List V->List V}
end
structure FnScope (N P:List Str)(sc:Scope):Prop where
 kind:sc.kind = .function
 co:sc.isCoroutine=false
 gen:sc.isGenerator=false
 nd:N.Nodup
 pre:N.take P.length=P
 par:∀x∈P,sc.names.lookup x=some .local\/sc.names.lookup x=some .cell
 nofree:∀y∈sc.names,y.2≠.free
def zdh {B:Str->Option NameKind}{x:Str}:∀ {q:List (Str×Value)} {m:Str->Option Value},(∀v,(x,v)∉q)->bindL B q m x=m x
 | [],_,_=>rfl
 | (n,v)::r,m,h=>by
  unfold bindL;rw[zdh λw F=>h w (av _ F)];split
  all_goals grind
def zdf {B:Str->Option NameKind}{x:Str}:∀ {q:List (Str×Value)} {m:Str->Option Value},(∀v,(x,v)∉q)->bindC B q m x=m x
 | [],_,_=>rfl
 | (n,v)::r,m,h=>by
  unfold bindC;rw[zdf λw F=>h w (av _ F)];split
  all_goals grind
def zdg {q:Str->Option NameKind}{x:Str}{v:Value}:∀ {P:List Str} {vs:List Value} {i:Nat} {m:Str->Option Value},P.Nodup->P[i]?=some x->vs[i]?=some v->q x=some .local->
  bindL q (P.zip vs) m x=some v
 | [],_,_,_,_,h,_,_=>by simp at h
 | _::_,[],_,_,_,_,h,_=>by simp at h
 | p::P,w::vs,0,m,B,h1,h2,F=>by simp at h1 h2;subst h1;subst h2;show bindL q ((p,w)::P.zip vs) m p=_;unfold bindL;rw[zdh λv I=>(du.mp B).1 (eE I).1,if_pos F];simp
 | p::P,w::vs,i+1,m,B,h1,h2,F=>by show bindL q ((p,w)::P.zip vs) m x=_;unfold bindL;exact zdg (i:=i) (du.mp B).2 (by simpa using h1) (by simpa using h2) F
def zde {q:Str->Option NameKind}{x:Str}{v:Value}:∀ {P:List Str} {vs:List Value} {i:Nat} {m:Str->Option Value},P.Nodup->P[i]?=some x->vs[i]?=some v->q x≠some .local->
  bindC q (P.zip vs) m x=some v
 | [],_,_,_,_,h,_,_=>by simp at h
 | _::_,[],_,_,_,_,h,_=>by simp at h
 | p::P,w::vs,0,m,B,h1,h2,F=>by simp at h1 h2;subst h1;subst h2;show bindC q ((p,w)::P.zip vs) m p=_;unfold bindC;rw[zdf λv I=>(du.mp B).1 (eE I).1,if_neg F];simp
 | p::P,w::vs,i+1,m,B,h1,h2,F=>by show bindC q ((p,w)::P.zip vs) m x=_;unfold bindC;exact zde (i:=i) (du.mp B).2 (by simpa using h1) (by simpa using h2) F
def yO (N:List Str)(vs:List V):St:=vs.map some++List.replicate (N.length - vs.length) none
def zaN (CX:CXT)(P:Program)(w:World)(K:PySem.W.Frag)(mg:Str->Option Value)(base:Heap)(N:List Str)(qual:Str)(scope:Scope)(f:Addr)(B:Value)(A:Around)(outer:List Env)(s:Shared)(H:Hp)(E:XK):Cx where
 prog:=P
 w:=w
 K:=K
 mg:=mg
 base:=base
 A:=A.deeper (envOfC qual scope s.heap.objs.size f B)
 N:=N
 s₀:=s
 H₀:=H
 env:=envOfC qual scope s.heap.objs.size f B
 outer:=outer
 stack:=envOfC qual scope s.heap.objs.size f B::outer
 ex:=[]
 calm:=true
 fn:=λ_=>true
 pn:=[]
 xe:=λe s'=>wpAny (model P w) (A.deeper (envOfC qual scope s.heap.objs.size f B)) (leaving (envOfC qual scope s.heap.objs.size f B) e) (λ_ q=>CX outer H s E e q) (λF q=>CX outer H s E F q) s'
def zff{B:Scope}(h:B.names.lookup x=some .cell):∃c,(cellsFrom n B.names []).lookup x=some c:=by have q:=dL B.names n [] (.inl h);exact Option.isSome_iff_exists.mp q
def zdp{CX:CXT}{P:Program}{w:World}{K:PySem.W.Frag}{mg:Str->Option Value}{base:Heap}{N ps:List Str}{qual:Str}{scope:Scope}{f:Addr}{L:Value}{A:Around}{outer:List Env}{s O:Shared}{H:Hp}{E:XK}{vs:List V}(S:FnScope N ps scope)(Z:A.handled=none)(B:Env0 P w K mg base A outer s H)(hl:vs.length=ps.length)(r:zY vs us)(x:InCallC s s.heap.objs.size (bindL (envOfC qual scope s.heap.objs.size f L).kindOf (ps.zip us) λ_=>none) (cellsFrom (s.heap.objs.size+1) scope.names []) (bindC (envOfC qual scope s.heap.objs.size f L).kindOf (ps.zip us) λ_=>none) O) :
  Inv (zaN CX P w K mg base N qual scope f L A outer s H E) [] (yO N vs) H O:=by
 have ab:ps.length<=N.length:=by have:=congrArg List.length S.pre;rw[aV] at this;lia
 obtain⟨h1,tk,rfl,U⟩:=x.done;have F:∀b:Addr,b∉(zaN CX P w K mg base N qual scope f L A outer s H E).ex:=λb z=>absurd (show b∈([]:List Addr) from z) (by simp)
 refine⟨⟨B.mod,S.kind,rfl,rfl,af _,λy z c h1 h2=>?_,λy I=>?_,λy c _ h=>?_,λ_=>Z,Around.frames_deeper B.frames,.inr ⟨rfl,rfl⟩,λb z=>absurd z (F b),B.bs,B.bsz,λb _ _=>F b,λb z=>absurd z (F b),B.funs,B.frf⟩,
  rfl,B.bare,Un.kept U,⟨_,x.toInCall.ns,λi y v h1 h2 h3=>?_⟩,λy c h=>⟨_,x.cell y c h⟩,B.hok.fresh (af _),λy c h=>?_,λp hp=>absurd (show p∈([]:List (Addr×Obj)) from hp) (by simp),B.hok.kept U,?_⟩
 ·exact name_of_addr x.apart (ce h1) (ce h2)
 ·have I:scope.names.lookup y=some .cell\/scope.names.lookup y=some .free:=I;rcases I with I | I
  ·exact zff I
  ·exact absurd rfl (S.nofree _ (ce I))
 ·exact cC (x.above y c (ce h))
 ·have hi:i<vs.length:=by
   unfold yO at h2;by_cases hi:i<vs.length
   ·exact hi
   ·rw[bK (by simpa using hi)] at h2;rw[List.getElem?_replicate] at h2
    simp_all
  have ha:vs[i]?=some v:=by
   unfold yO at h2;rw[cr (by simpa using hi),aB] at h2
   simp_all
  obtain⟨u,Y,rv⟩:=r.get ha
  have hp:ps[i]?=some y:=by rw[<- S.pre,List.getElem?_take_of_lt (by lia)];exact h1
  have J:ps.Nodup:=by rw[<- S.pre];exact S.nd.sublist (List.take_sublist _ _)
  refine⟨u,rv,?_⟩;rcases S.par y (aC hp) with k | k
  ·exact .inl ⟨k,zdg J hp Y k⟩
  ·obtain⟨c,e⟩:=zff (n:=s.heap.objs.size+1) k;refine .inr ⟨.inl k,c,e,?_⟩;have q:=x.cell y c e;rw[zde J hp Y (by show scope.names.lookup y≠_;rw[k];decide)] at q;exact q
 ·exact B.hok.fresh (cC (x.above y c (ce h)))
 ·unfold yO;show _=N.length
  grind
def zl1 {CX:CXT}{P:Program}{w:World}{K:PySem.W.Frag}{mg:Str->Option Value}{base:Heap}{k:Nat}{f:Addr}{name qual:Str}{params:Arguments}{body:List Stmt}{scope:Scope}{dV kV Y pm B ct oc:Value}{an od:Option Addr}
  {ad:Array (Option Value)} {N ps:List Str} {sp:Sp} (lk:K.lookup f=some ⟨oc,od,.func (PySem.W.fnOf name qual params body scope dV kV Y pm an B ct),ad⟩) (ag:PySem.W.codeIn K B qual=true) (S:FnScope N ps scope)
  (Z:∀vs H Q E,sp vs H Q E->vs.length=ps.length)
  (L:∀ (A:Around) (outer:List Env) (s:Shared) (H:Hp) (vs:List V) (Q:VK) (E:XK),Room k (A.deeper (envOfC qual scope s.heap.objs.size f B))->sp vs H Q E->
   ∃t,PSs (zaN CX P w K mg base N qual scope f B A outer s H E) body t/\t { nx:=λ_ H'=>Q .non H',rt:=Q } (yO N vs) H) :
  FnOk P w K mg base CX (k+1) f (PySem.W.fnOf name qual params body scope dV kV Y pm an B ct) ps sp:=by
 refine⟨Z,λA outer s H args us vs Q E hr e0 hb r ab=>?_⟩;have hl:=Z _ _ _ _ ab;have KX:K.In s.heap:=e0.mod.kin.keeps λb o e=>(e0.bs b o e).1;have lim:s.heap.NoLimit:=e0.mod.nolimit.keeps λb o e=>(e0.bs b o e).1
 have O:∀y∈ps.zip us,scope.names.lookup y.1=some .local\/(scope.names.lookup y.1=some .cell/\((cellsFrom (s.heap.objs.size+1) scope.names []).lookup y.1).isSome=true):=by
  rintro⟨n,v⟩ hy;rcases S.par n (eE hy).1 with q | q
  ·exact .inl q
  ·exact .inr ⟨q,dL _ _ _ (.inl q)⟩
 refine codeAny_call_function hr.depth (KX _ _ lk) rfl S.co S.gen rfl (PySem.W.codeRec_of KX ag) (hb _ _ _ _ ?_);refine wpAny_newFunctionEnv_cells S.kind O λenv he s1 x=>?_;subst he;refine⟨lim.keeps x.toInCall.keep,codeAny_func ?_⟩;obtain⟨t,ht,hq⟩:=L A outer s H vs Q E (hr.deeper _) ab;have I:Inv (zaN CX P w K mg base N qual scope f B A outer s H E) [] (yO N vs) H s1:=zdp S hr.hd e0 hl r x;refine aU (ht [] s1 (yO N vs) H _ I hq) (λfl s' U=>?_) λe s' U=>U
 have fin:∀ {F:St} {H':Hp} {v:V} {u:Value},Inv (zaN CX P w K mg base N qual scope f B A outer s H E) [] F H' s'->zX v u->Q v H'->CE outer P w H s Q u s':=
  λ{F H' v u} J rv q=>⟨v,H',J.os,J.bare,J.base,J.hok,rv,q⟩
 cases fl with
 | ret u=>
  obtain⟨v,F,H',J,rv,q⟩:=U;exact fin J rv q
 | next=>
  obtain⟨F,H',J,q⟩:=U;exact fin (v:=V.non) (u:=Value.none) J rfl q
 | brk=>
  obtain⟨_,_,_,q⟩:=U;exact False.elim q
 | cont=>
  obtain⟨_,_,_,q⟩:=U;exact False.elim q
section
variable {X:Cx}{x:Str}{p pos:Pos}{e:Expr}{es:List Expr}{t:TA}{id T:String}{r:List V->Hp->VK->Prop}
def tCB (r:List V->Hp->VK->Prop)(t:TA):TE:=λσ H Q=>t σ H λvs H1=>r vs H1 Q
def zkc (F:zbS X (.builtin id) r)(J:Gl X x)(L:X.mg x=none)(O:bootBuiltins x=some (.builtin id))(U:PA X (e::es) t)(Y:x ≠ "__name__" := by decide)(q:(x==("__debug__" : Str))=false:=by decide)
  (Z:starEach (e::es) X.env=(false,eval e X.env)::starEach es X.env:=by rfl) (B:(backTo pos (starEach es X.env)).any (·.1)=false:=by rfl):PE X (.Call (.Name x p) (e::es) [] pos) (tCB r t):=by
 intro pins s σ H Q I h;refine cN (zbf I J L O ?_ Y q);exact PyProof.Rows.callWith_builtin1 (thn (U pos pins s σ H _ I h) <| by rintro us s1 ⟨vs,H1,I1,r1,q1⟩;exact F pins s1 σ H1 vs us Q I1 r1 q1) Z B
def zh8 (F:zbS X (.type T) r)(J:Gl X x)(L:X.mg x=none)(O:bootBuiltins x=some (.type T))(U:PA X (e::es) t)(Y:x ≠ "__name__" := by decide)(q:(x==("__debug__" : Str))=false:=by decide)
  (Z:starEach (e::es) X.env=(false,eval e X.env)::starEach es X.env:=by rfl) (B:(backTo pos (starEach es X.env)).any (·.1)=false:=by rfl):PE X (.Call (.Name x p) (e::es) [] pos) (tCB r t):=by
 intro pins s σ H Q I h;refine cN (zbf I J L O ?_ Y q);exact bG (thn (U pos pins s σ H _ I h) <| by rintro us s1 ⟨vs,H1,I1,r1,q1⟩;exact F pins s1 σ H1 vs us Q I1 r1 q1) Z B
end
section
variable {κ:Type}[DecidableEq κ]
def xg (kvs:List (κ×V))(k:κ):Option V:=(kvs.find? λkv=>decide (kv.1=k)).map (·.2)
def xI (kvs:List (κ×V))(k:κ)(v:V):List (κ×V):=
 if (kvs.any λkv=>decide (kv.1=k))=true then kvs.map (λkv=>if kv.1=k then (kv.1,v) else kv) else kvs++[(k,v)]
def zI{p:κ×V}(e:p.1=k):xg (p::r) k=some p.2:=by simp[xg,bf,e]
def zC{p:κ×V}{r:List (κ×V)}(e:¬ p.1=k):xg (p::r) k=xg r k:=by simp[xg,bf,e]
def u9 (k:κ):∀kvs:List (κ×V),(kvs.any λkv=>decide (kv.1=k))=(xg kvs k).isSome
 | []=>rfl
 | p::r=>by
  rw[cm];by_cases e:p.1=k
  ·simp only[zI e,aF e,Bool.true_or,Option.isSome_some]
  ·rw[zC e,aQ e,Bool.false_or];exact u9 k r
def zfU (k j:κ)(y:V):∀kvs:List (κ×V),xg (kvs.map λkv=>if kv.1=k then (kv.1,y) else kv) j=(xg kvs j).map λx=>if j=k then y else x
 | []=>rfl
 | p::r=>by
  have q:=zfU k j y r;rw[ao];by_cases h:p.1=k
  ·rw[if_pos h];by_cases e:p.1=j
   ·rw[zI (p:=(p.1,y)) e,zI e,Option.map_some,if_pos (e.symm.trans h)]
   ·rw[zC (p:=(p.1,y)) e,zC e,q]
  ·rw[if_neg h];by_cases e:p.1=j
   ·rw[zI (p:=p) e,zI e,Option.map_some,if_neg (λz=>h (e.trans z))]
   ·rw[zC (p:=p) e,zC e,q]
def zd7 (k j:κ)(y:V):∀kvs:List (κ×V),xg kvs k=none->xg (kvs++[(k,y)]) j=if j=k then some y else xg kvs j
 | [],_=>by
  by_cases e:k=j
  ·rw[if_pos e.symm];exact zI (p:=(k,y)) e
  ·rw[if_neg (λz=>e z.symm)];exact zC (p:=(k,y)) e
 | p::r,q=>by
  rw[bw];have B:¬ p.1=k:=λz=>by rw[zI z] at q;cases q
  rw[zC B] at q;have F:=zd7 k j y r q;by_cases e:p.1=j
  ·rw[zI e,zI e,if_neg (λz=>B (e.trans z))]
  ·rw[zC e,zC e,F]
def zkM (kvs:List (κ×V))(k j:κ)(y:V):xg (xI kvs k y) j=if j=k then some y else xg kvs j:=by
 unfold xI;by_cases a:(kvs.any λkv=>decide (kv.1=k))=true
 ·rw[if_pos a,zfU];rw[u9] at a;by_cases e:j=k
  ·obtain⟨x,q⟩:=Option.isSome_iff_exists.mp a
   grind
  ·simp_all
 ·rw[if_neg a];refine zd7 k j y kvs ?_;rw[u9] at a
  simp_all
def y9 (kvs:List (κ×V))(k:κ)(v:V):(xI kvs k v).length<=kvs.length+1:=by
 unfold xI;split
 all_goals simp_all
def zkm {kvs:List (κ×V)}{k:κ}(v:V)(h:xg kvs k=none):xI kvs k v=kvs++[(k,v)]:=by
 unfold xI;rw[u9,h]
 simp_all
def zfZ.isSome_eq(r:zfZ o u):o.isSome=u.isSome:=by
 cases o with
 | none=>cases u with
  | none=>rfl
  | some _=>exact (show False from r).elim
 | some _=>cases u with
  | none=>exact (show False from r).elim
  | some _=>rfl
def KV.val(r:KV kvs vs)(k:κ):zfZ (xg kvs k) (valueAt vs k):=by
 unfold KV at r
 induction r with
 | nil=>exact True.intro
 | @cons p q ps B h t I=>
  obtain⟨h1,h2⟩:=h;by_cases e:p.1=k
  ·have F:q.1=k:=h1.symm.trans e;have b:valueAt (q::B) k=some q.2:=by simp[valueAt,bf,F]
   rw[zI e,b];exact h2
  ·have F:¬ q.1=k:=λz=>e (h1.trans z);have b:valueAt (q::B) k=valueAt B k:=by simp[valueAt,bf,F]
   rw[zC e,b];exact I
def KV.any(r:KV kvs vs)(k:κ):(kvs.any λkv=>decide (kv.1=k))=vs.any λkv=>decide (kv.1=k):=by
 unfold KV at r
 induction r with
 | nil=>rfl
 | cons h t q=>rw[cm,cm,q,h.1]
def KV.repl {kvs:List (κ×V)}{vs:List (κ×Value)}(r:KV kvs vs)(k:κ){y:V}{u:Value}(F:zX y u) :
  KV (kvs.map λkv=>if kv.1=k then (kv.1,y) else kv) (vs.map λkv=>if kv.1=k then (kv.1,u) else kv):=by
 unfold KV at r ⊢
 induction r with
 | nil=>exact .nil
 | @cons p q ps I h t B=>
  rw[ao,ao];refine .cons ?_ B
  grind
def KV.put(r:KV kvs vs)(k:κ)(q:zX y u):KV (xI kvs k y) (stored vs k u):=by
 unfold xI stored;rw[r.any k];by_cases e:(vs.any λkv=>decide (kv.1=k))=true
 ·rw[if_pos e,if_pos e];exact r.repl k q
 ·rw[if_neg e,if_neg e];exact Paired.snoc r ⟨rfl,q⟩
def KV.length {kvs:List (κ×V)}{vs:List (κ×Value)}(r:KV kvs vs):kvs.length=vs.length:=ez r
end
def zeB(r:zX (kV k) u):(ya P w).is k u=true:=by
 cases k with
 | inl i=>obtain⟨t,e⟩:=(show ∃t,u=Value.int i t from r);subst e;exact zbh P w i t
 | inr x=>obtain⟨t,e⟩:=(show ∃t,u=Value.str x t from r);subst e;exact zeH P w x t
def zds:∀ {ks:List Key} {us:List Value},zY (ks.map kV) us->ItemsAre (ya P w) ks us
 | [],_,r=>by rw[cD] at r;cases r;exact .nil
 | k::ks,_,r=>by
  rw[ao] at r
  cases r with
  | cons h t=>exact .cons (zeB h) (zds t)
abbrev KT (H:Hp):List (List Key×V)->List (List Key×Addr×Value)->Prop:=Paired λp q=>p.1=q.1/\H q.2.1=some (.tup (p.1.map kV))/\zX p.2 q.2.2
def KT.val(r:KT H kvs xs)(k:List Key):zfZ (xg kvs k) ((atKey xs k).map (·.2)):=by
 induction r with
 | nil=>exact True.intro
 | @cons p q ps B h t I=>
  obtain⟨h1,_,h2⟩:=h;by_cases e:p.1=k
  ·have F:q.1=k:=h1.symm.trans e;have b:atKey (q::B) k=some q.2:=by simp[atKey,bf,F]
   rw[zI e,b];exact h2
  ·have F:¬ q.1=k:=λz=>e (h1.trans z);have b:atKey (q::B) k=atKey B k:=by simp[atKey,bf,F]
   rw[zC e,b];exact I
def KT.repl(r:KT H kvs xs)(k:List Key)(F:zX y u) :
  KT H (kvs.map λkv=>if kv.1=k then (kv.1,y) else kv) (xs.map (putAt k u)):=by
 induction r with
 | nil=>exact .nil
 | @cons p q ps I h t B=>
  rw[ao,ao];refine .cons ?_ B;obtain⟨h1,h2,J⟩:=h;unfold putAt;by_cases e:p.1=k
  all_goals simp_all
def KT.put(r:KT H kvs xs)(k:List Key)(F:H b=some (.tup (k.map kV)))(B:zX y u) :
  KT H (xI kvs k y) (storedH xs k b u):=by
 have e:(kvs.any λkv=>decide (kv.1=k))=(atKey xs k).isSome:=by rw[u9,(r.val k).isSome_eq,bC]
 unfold xI storedH;rw[e];by_cases q:(atKey xs k).isSome=true
 ·rw[if_pos q,if_pos q];exact r.repl k B
 ·rw[if_neg q,if_neg q];exact Paired.snoc r ⟨rfl,F,B⟩
def KT.keeps(r:KT H kvs xs)(q:∀b ys,H b=some (.tup ys)->H' b=some (.tup ys)):KT H' kvs xs:=
 Paired.mapP r λ_ _ z=>⟨z.1,q _ _ z.2.1,z.2.2⟩
section
variable {P:Program}{w:World}{H:Hp}{h:Heap}{a:Addr}
def znJ(q:HOk P w H h)(e:Rd H a u):zD P w H h a u:=e.ok q
def zg2(q:HOk P w H h)(e:Rd H a (.dK kvs)):kvs.length<=sizeLine/\(a==sysModules)=false/\∃vs,KV kvs vs/\h.DictOf (ya P w) a vs:=
 show zD P w H h a (.dK kvs) from znJ q e
def zlP(q:HOk P w H h)(e:H a=some (.dK kvs)):kvs.length<=sizeLine/\(a==sysModules)=false/\∃vs,KV kvs vs/\h.DictOf (ya P w) a vs:=zg2 q (.inl e)
def zcd(q:HOk P w H h)(e:H a=some (.tup (ks.map kV))):(tupleKind (ya P w)).is h ks a:=by obtain⟨_,its,r,o,h1,h2,⟨n,B⟩,_⟩:=(show zD P w H h a (.tup (ks.map kV)) from q a _ e);exact⟨o,its.toArray,n,h1,h2,B,by simpa using zds r⟩
def zg3(F:HOk P w H h)(e:Rd H a (.dT kvs)):kvs.length<=sizeLine/\(a==sysModules)=false/\
  ∃xs,KT H kvs xs/\h.DictOfH (tupleKind (ya P w)) a xs:=by
 obtain⟨z,y,xs,r,o,es,ep,h1,h2,I,J,L⟩:=(show zD P w H h a (.dT kvs) from znJ F e);refine⟨z,y,xs,r,o,es,ep,h1,h2,I,J,λx B=>?_,L⟩
 have all:∀ {l:List (List Key×V)} {m:List (List Key×Addr×Value)},KT H l m->∀x∈m,(tupleKind (ya P w)).is h x.1 x.2.1:=by
  intro l m q
  induction q with
  | nil=>intro x B;exact nomatch B
  | @cons p q ps U Y t O=>
   intro x B;rcases ax.mp B with e | B
   ·subst e;exact zcd F (by simp_all)
   ·exact O x B
 exact all r x B
def zoK(q:HOk P w H h)(e:H a=some (.dT kvs)):kvs.length<=sizeLine/\(a==sysModules)=false/\
  ∃xs,KT H kvs xs/\h.DictOfH (tupleKind (ya P w)) a xs:=zg3 q (.inl e)
end
def zaV (H:Hp)(a:Addr)(y:V)(r:Option V):Prop:=
 (∃kvs k,Rd H a (.dK kvs)/\y=kV k/\r=xg kvs k)\/∃kvs k b,Rd H a (.dT kvs)/\y = .ref b/\H b=some (.tup (k.map kV))/\r=xg kvs k
def zed (H:Hp)(a:Addr)(y v:V)(H':Hp):Prop:=
 (∃kvs k,H a=some (.dK kvs)/\y=kV k/\kvs.length<sizeLine/\H'=upd H a (.dK (xI kvs k v)))\/
 ∃kvs k b,H a=some (.dT kvs)/\y = .ref b/\H b=some (.tup (k.map kV))/\kvs.length<sizeLine/\H'=upd H a (.dT (xI kvs k v))
def zaV.k {H:Hp}{a:Addr}{kvs:List (Key×V)}{k:Key}(e:H a=some (.dK kvs)):zaV H a (kV k) (xg kvs k):=.inl ⟨kvs,k,.inl e,rfl,rfl⟩
def zed.k {H:Hp}{a:Addr}{kvs:List (Key×V)}{k:Key}{v:V}(e:H a=some (.dK kvs))(q:kvs.length<sizeLine):zed H a (kV k) v (upd H a (.dK (xI kvs k v))):=.inl ⟨kvs,k,e,rfl,q,rfl⟩
def zed.t {H:Hp}{a b:Addr}{kvs:List (List Key×V)}{k:List Key}{v:V}(e:H a=some (.dT kvs))(q:H b=some (.tup (k.map kV)))(B:kvs.length<sizeLine) :
  zed H a (.ref b) v (upd H a (.dT (xI kvs k v))):=.inr ⟨kvs,k,b,e,rfl,q,B,rfl⟩
section
variable {X:Cx}{pins:List (Addr×Obj)}{σ:St}{H:Hp}{s:Shared}{a:Addr}{y v:V}{u r:Value}{o:Option V}{A:Around}{E:Value->Shared->Prop}
def Inv.big (I:Inv X pins σ H s):sysModules<s.heap.objs.size:=by have h:mainGlobals<s.heap.objs.size:=(I.mod.glob.keeps I.bk).lt;exact eR (by decide) h
def zgU(O:A.units+1<cLine)(I:Inv X pins σ H s)(g:zaV H a y (some v))(L:zX y u)(h:∀w' s',Inv X pins σ H s'->zX v w'->Q w' s') :
  wpAny (model X.prog X.w) A (getItem (.ref a) u) Q E s:=by
 rcases g with ⟨kvs,k,e,ey,l⟩ | ⟨kvs,k,b,e,ey,eb,l⟩
 ·subst ey;obtain⟨z,U,vs,q,dd⟩:=zg2 I.hok e;obtain⟨w',F,B⟩:=zfZ.some_of (v:=v) (o:=valueAt vs k) (by rw[l];exact q.val k);exact wpAny_getItem_of (zeB L) dd.mapOf F (h w' _ (I.tok _) B)
 ·subst ey;cases (show u=Value.ref b from L);obtain⟨z,U,xs,q,dd⟩:=zg3 I.hok e;obtain⟨w',F,B⟩:=zfZ.some_of (v:=v) (o:=(atKey xs k).map (·.2)) (by rw[l];exact q.val k);obtain⟨p,hp,J⟩:=ay.mp F;refine wpAny_getItem_heap (dv O) (zcd I.hok eb) dd hp ?_;rw[J];exact h w' _ (I.tok _) B
def d_in(L:A.units+1<cLine)(I:Inv X pins σ H s)(g:zaV H a y o)(J:zX y u)(h:∀s',Inv X pins σ H s'->Q (.bool o.isSome) s') :
  wpAny (model X.prog X.w) A (compareOp .In u (.ref a)) Q E s:=by
 rcases g with ⟨kvs,k,e,ey,l⟩ | ⟨kvs,k,b,e,ey,eb,l⟩
 ·subst ey;obtain⟨z,F,vs,B,dd⟩:=zg2 I.hok e;refine wpAny_in_of (zeB J) F dd.mapOf ?_;rw[<- (B.val k).isSome_eq,<- l];exact h _ (I.tok _)
 ·subst ey;cases (show u=Value.ref b from J);obtain⟨z,F,xs,B,dd⟩:=zg3 I.hok e;refine wpAny_in_heap (dv L) (zcd I.hok eb) F dd ?_;have q:=(B.val k).isSome_eq;rw[bC] at q;rw[<- q,<- l];exact h _ (I.tok _)
def zlO(L:A.units+1<cLine)(I:Inv X pins σ H s)(g:zaV H a y o)(J:zX y u)(h:∀s',Inv X pins σ H s'->Q (.bool (!o.isSome)) s') :
  wpAny (model X.prog X.w) A (compareOp .NotIn u (.ref a)) Q E s:=by
 rcases g with ⟨kvs,k,e,ey,l⟩ | ⟨kvs,k,b,e,ey,eb,l⟩
 ·subst ey;obtain⟨z,F,vs,B,dd⟩:=zg2 I.hok e;refine wpAny_notIn_of (zeB J) F dd.mapOf ?_;rw[<- (B.val k).isSome_eq,<- l];exact h _ (I.tok _)
 ·subst ey;cases (show u=Value.ref b from J);obtain⟨z,F,xs,B,dd⟩:=zg3 I.hok e;refine wpAny_notIn_heap (dv L) (zcd I.hok eb) F dd ?_;have q:=(B.val k).isSome_eq;rw[bC] at q;rw[<- q,<- l];exact h _ (I.tok _)
def zaf(I:Inv X pins σ H s)(F:Mut (H a))(J:Heap.SameBut a s.heap h')(L:∃q,h'.get? a=some q)(B:zD X.prog X.w (upd H a ob) h' a ob) :
  Inv X pins σ (upd H a ob) { s with heap:=h',toks:=t' }:=
 I.write (x:=a) (e:=a) F (.inl rfl) (λb q O z=>(J.2 b O).trans z) L B
def zg1(z:kvs.length<=sizeLine)(B:(a==sysModules)=false)(q:KV kvs vs)(dd:h'.DictOf (ya P w) a vs) :
  zD P w H' h' a (.dK kvs):=⟨z,B,vs,q,dd⟩
def zgV(hu:A.units+1<cLine)(I:Inv X pins σ H s)(g:zed H a y v H')(Z:zX y u)(rv:zX v r)(h:∀s',Inv X pins σ H' s'->Q () s') :
  wpAny (model X.prog X.w) A (setItem (.ref a) u r) Q E s:=by
 rcases g with ⟨kvs,k,e,ey,l,eH⟩ | ⟨kvs,k,b,e,ey,eb,l,eH⟩
 ·subst ey eH;obtain⟨z,L,vs,B,dd⟩:=zlP I.hok e;have O:vs.length<=sizeLine:=by rw[<- B.length];exact z
  have U:(xI kvs k v).length<=sizeLine:=by have:=y9 kvs k v;lia
  refine wpAny_setItem_pairs (hsz:=O) (zeB Z) dd λh' F Y=>h _ ?_;have he:∃q,h'.get? a=some q:=let ⟨q,_,_,J,_⟩:=F;⟨q,J⟩;exact zaf I (by rw[e];exact True.intro) Y he (zg1 U L (B.put k rv) F)
 ·subst ey eH;cases (show u=Value.ref b from Z);obtain⟨z,L,xs,B,dd⟩:=zoK I.hok e;have O:xs.length<=sizeLine:=by rw[<- ez B];exact z
  have U:(xI kvs k v).length<=sizeLine:=by have:=y9 kvs k v;lia
  refine wpAny_setItem_heap (hsz:=O) (dv hu) (zcd I.hok eb) dd λh' F Y=>h _ ?_;obtain⟨q,es,ep,J,h2,h3,h4,_,h5⟩:=F;refine zaf I (by rw[e];exact True.intro) Y ⟨q,J⟩ ⟨U,L,_,(B.put k eb rv).keeps λc ys ec=>?_,q,es,ep,J,h2,h3,h4,h5⟩;rw[zb (by grind)];exact ec
end
section
variable {X:Cx}{pins:List (Addr×Obj)}{σ:St}{H:Hp}{s:Shared}{a:Addr}{kvs:List (Key×V)}{k:Key}{u:Value}{A:Around}{E:Value->Shared->Prop}
end
def zn8 (i:Expr):Prop:=∀q B,subscripted i false q B=operate [q,B] (getItem q B)
def ziM {prog:Program}{w:World}{A:Around}{E:Value->Shared->Prop}{s:Shared}{env:Env}{value q:Expr}{pos:Pos}{T id:String}{Q:Value->Shared->Prop}
  (U:typeLookup (.type T) "__getitem__" = pure (some (.builtin id))) (Y:zn8 q)
  (h:wpAny (model prog w) A (eval value env) (λo I=>wpAny (model prog w) A (eval q env) (λi B=>B.TypeIs o T/\wpAny (model prog w) A (getItem o i) Q E B) E I) E s) :
  wpAny (model prog w) A (eval (.Subscript value q pos) env) Q E s:=by
 refine Subscript_ (aU h (λo I h₁=>aU h₁ (λi B F=>?_) λ_ _ x=>x) λ_ _ x=>x);obtain⟨O,F⟩:=F;unfold subscriptTail;refine aa ?_;rw[getitemInPython_of_ne O.not_modules];refine aa (eF O U ?_)
 have fin:wpAny (model prog w) A (subscripted q false o i) (λr J=>wpAny (model prog w) A (letTemporaryGo value o r >>= λ_=>pure r) Q E J) E B:=by rw[Y o i];exact wpAny_operating (aU F (λr J L=>aa (wpAny_letTemporaryGo (ai L))) λ_ _ x=>x)
 first
  | exact ai (aa fin)
  | exact aa (by grind)
  | exact aa fin
def zep{X:Cx}{pins:List (Addr×Obj)}{σ:St}{H:Hp}{s:Shared}{a:Addr}{y:V}(I:Inv X pins σ H s)(g:zaV H a y o):s.TypeIs (.ref a) "dict" := by
 rcases g with ⟨kvs,k,e,_,_⟩ | ⟨kvs,k,b,e,_,_,_⟩
 ·obtain⟨_,_,vs,_,dd⟩:=zg2 I.hok e;exact dd.typeIs
 ·obtain⟨_,_,xs,_,dd⟩:=zg3 I.hok e;exact dd.typeIs
def zqV (td ty:TE):TE:=λσ H Q=>td σ H λx H1=>ty σ H1 λy H2=>∃a v,x = .ref a/\zaV H2 a y (some v)/\Q v H2
def ztD (ty td:TE):TE:=λσ H Q=>ty σ H λy H1=>td σ H1 λx H2=>∃a o,x = .ref a/\zaV H2 a y o/\Q (.bl o.isSome) H2
def ziP (ty td:TE):TE:=λσ H Q=>ty σ H λy H1=>td σ H1 λx H2=>∃a o,x = .ref a/\zaV H2 a y o/\Q (.bl (!o.isSome)) H2
def zqM (td ty tv:TE):TS:=λD σ H=>tv σ H λv H1=>td σ H1 λx H2=>ty σ H2 λy H3=>∃a H4,x = .ref a/\zed H3 a y v H4/\D.nx σ H4
section
variable {X:Cx}{o i e value:Expr}{pos pos' tpos:Pos}{td ty tv:TE}
def zm4 (B:X.A.units+1<cLine)(J:PE X o td)(hi:PE X i ty)(L:zn8 i):PE X (.Subscript o i pos) (zqV td ty):=by intro pins s σ H Q I h;refine ziM PySem.F.slot_dict_getitem.lookup L (thn (J pins s σ H _ I h) λu O ⟨x,H1,I1,U,Y⟩=>thn (hi pins O σ H1 _ I1 Y)  ?_);rintro iv s2 ⟨y,H2,I2,Z,a,v,ex,g,q2⟩;subst ex;obtain rfl:u=Value.ref a:=U;exact⟨zep I2 g,zgU B I2 g Z λw' s3 I3 q=>⟨v,H2,I3,q,q2⟩⟩
def zpT (q:X.A.units+1<cLine)(hi:PE X i ty)(B:PE X o td):PC X .In i o (ztD ty td):=by intro pins s σ H Q I h;refine thn (hi pins s σ H _ I h) λZ F ⟨y,H1,I1,J,L⟩=>thn (B pins F σ H1 _ I1 L)  ?_;rintro u s2 ⟨x,H2,I2,O,a,U,ex,g,Y⟩;subst ex;obtain rfl:u=Value.ref a:=O;exact d_in q I2 g J λs3 I3=>⟨.bl U.isSome,H2,I3,rfl,Y⟩
def zh7 (q:X.A.units+1<cLine)(hi:PE X i ty)(B:PE X o td):PC X .NotIn i o (ziP ty td):=by intro pins s σ H Q I h;refine thn (hi pins s σ H _ I h) λZ F ⟨y,H1,I1,J,L⟩=>thn (B pins F σ H1 _ I1 L)  ?_;rintro u s2 ⟨x,H2,I2,O,a,U,ex,g,Y⟩;subst ex;obtain rfl:u=Value.ref a:=O;exact zlO q I2 g J λs3 I3=>⟨.bl (!U.isSome),H2,I3,rfl,Y⟩
def znl (q:X.A.units+1<cLine)(B:PE X o td)(hi:PE X i ty)(F:PE X value tv)(J:swapsWith value (some (.Subscript o i pos')) pos.line X.env=pure false) :
  PS X (.Assign [.Subscript o i pos'] value pos) (zqM td ty tv):=by
 intro pins s σ H D I h;refine dM (thn (F pins s σ H _ I h) λr L ⟨v,H1,I1,O,U⟩=>thn (B pins L σ H1 _ I1 U) λu Y ⟨x,H2,I2,Z,q2⟩=>thn (hi pins Y σ H2 _ I2 q2) λiv s3 ⟨y,H3,I3,ry,a,H4,ex,g,q3⟩=>?_) J;subst ex;obtain rfl:u=Value.ref a:=Z;exact zgV q I3 g ry O λs4 I4=>⟨σ,H4,I4,q3⟩
end
def zjj(h:Heap)(q:sysModules<h.objs.size):zD P w H (h.push { cls:=.type "dict",data:=.dict #[] }) h.objs.size (.dK []):=
 ⟨a6 _,c8.mpr (Ne.symm (aD q)),[],.nil,Heap.DictOf.new h⟩
section
variable {X:Cx}{pos:Pos}
end
def ziR:List (TE×TE)->St->Hp->(List (V×V)->Hp->Prop)->Prop
 | [],_,H,Q=>Q [] H
 | (tk,tv)::r,σ,H,Q=>tk σ H λx H1=>tv σ H1 λy H2=>ziR r σ H2 λps H3=>Q ((x,y)::ps) H3
abbrev VV:List (V×V)->List (Value×Value)->Prop:=Paired λp q=>zX p.1 q.1/\zX p.2 q.2
def PPs (X:Cx)(pos:Pos)(B:List (Option Expr))(q:List Expr)(F:List (TE×TE)):Prop:=
 ∀ (pins:List (Addr×Obj)) (s:Shared) (σ:St) (H:Hp) (Q:List (V×V)->Hp->Prop),Inv X pins σ H s->ziR F σ H Q->
  wpAny (model X.prog X.w) X.A (evalPairs (pairTrees B q X.env pos)) (λvs s'=>∃ps H',Inv X pins σ H' s'/\VV ps vs/\Q ps H') X.xe s
def znj:PPs X pos [] [] []:=λpins s σ H Q I h=>pairTrees_nil_walk ⟨[],H,I,.nil,h⟩
def zkj(F:PE X k tk)(J:PE X v tv)(L:PPs X pos ks vs q) :
  PPs X pos (some k::ks) (v::vs) ((tk,tv)::q):=λpins s σ H Q I h=>
 pairTrees_cons_walk (thn (F pins s σ H _ I h) λu O ⟨x,H1,I1,U,Y⟩=>thn (J pins O σ H1 _ I1 Y) λw2 Z ⟨y,H2,I2,ry,q2⟩=>
  thn (L pins Z σ H2 _ I2 q2) <| by rintro ws s3 ⟨ps,H3,I3,B,q3⟩;exact⟨(x,y)::ps,H3,I3,.cons ⟨U,ry⟩ B,q3⟩)
def um (kvs q:List (Key×V)):List (Key×V):=q.foldl (λacc kv=>xI acc kv.1 kv.2) kvs
def KV.merge:∀ {B:List (Key×V)} {F:List (Key×Value)} {kvs:List (Key×V)} {vs:List (Key×Value)},KV B F->KV kvs vs->KV (um kvs B) (merged vs F):=by
 intro B F kvs vs r;unfold KV at r
 induction r generalizing kvs vs with
 | nil=>intro q;exact q
 | @cons p q ps L h t I=>
  intro J
  have e:KV (xI kvs p.1 p.2) (stored vs q.1 q.2):=by
   have:=J.put p.1 h.2
   simp_all
  exact I e
def uR:∀ (q kvs:List (Key×V)),(um kvs q).length<=kvs.length+q.length
 | [],kvs=>by show kvs.length<=kvs.length+0;lia
 | p::r,kvs=>by
  have h1:=uR r (xI kvs p.1 p.2);have h2:=y9 kvs p.1 p.2;show (um (xI kvs p.1 p.2) r).length<=_
  grind
def zb8:∀ {kvs:List (Key×V)} {F:List (Value×Value)},VV (kvs.map λkv=>(kV kv.1,kv.2)) F->∃B,Carries (ya P w) F B/\KV kvs B
 | [],_,r=>by rw[cD] at r;cases r;exact⟨[],True.intro,.nil⟩
 | p::kvs,_,r=>by
  rw[ao] at r
  cases r with
  | @cons a b as bs h t=>
   obtain⟨B,c,q⟩:=zb8 (P:=P) (w:=w) t;obtain⟨J,I⟩:=b;exact⟨(p.1,I)::B,⟨zeB h.1,rfl,c⟩,.cons ⟨rfl,h.2⟩ q⟩
def zqW (q:List (TE×TE)):TE:=λσ H Q=>∀p,H p=none->ziR q σ (upd H p (.dK [])) λps H2=>H2 p=some (.dK [])/\∃kvs:List (Key×V),ps=kvs.map (λkv=>(kV kv.1,kv.2))/\kvs.length<=15/\Q (.ref p) (upd H2 p (.dK (um [] kvs)))
def zm5(h:PPs X pos B F J)(L:B.all (·.isSome)=true)(Z:B.length=F.length)(h0:B≠[])(U:B.length<=15):PE X (.Dict B F pos) (zqW J):=by
 intro pins s σ H Q I q;have hn:=I.hok.fresh (af s.heap.objs.size);have I1:=I.laid (a:=s.heap.objs.size) (o:=.dK []) (h':=s.heap.push { cls:=.type "dict",data:=.dict #[] }) (t':=s.toks) (λ_ _ q=>ae _ q) (af _) (zjj s.heap I.big);refine wpAny_Dict_walk (knd:=ya X.prog X.w) L Z h0 U (thn (h pins _ σ _ _ I1 (q _ hn))  ?_);rintro ws s2 ⟨ps,H2,I2,Y,e,kvs,ep,lk,q2⟩;subst ep;obtain⟨rs,c,rk⟩:=zb8 (P:=X.prog) (w:=X.w) Y;obtain⟨z,hd,ab,r0,dd⟩:=zlP I2.hok e;cases r0;refine⟨rs,c,dd,λh' O hs=>⟨.ref s.heap.objs.size,_,?_,rfl,q2⟩⟩
 have hz:(um [] kvs).length<=sizeLine:=by have h1:=uR kvs [];rw[List.length_nil] at h1;rw[cE];lia
 have he:∃q,h'.get? s.heap.objs.size=some q:=let ⟨q,_,_,hq,_⟩:=O;⟨q,hq⟩;exact zaf I2 (by rw[e];exact True.intro) hs he (zg1 hz hd (rk.merge .nil) O)
section
variable {X:Cx}{pins:List (Addr×Obj)}{σ:St}{H:Hp}{s:Shared}{a:Addr}{y d:V}{u r:Value}{o:Option V}{A:Around}{E:Value->Shared->Prop}
end
section
variable {X:Cx}{o e f:Expr}{apos cpos:Pos}{td ty tx:TE}
end
section
variable {X:Cx}{pins:List (Addr×Obj)}{σ:St}{H:Hp}{s:Shared}{a:Addr}{kvs:List (Key×V)}{A:Around}{E:Value->Shared->Prop}
end
section
variable {X:Cx}{pins:List (Addr×Obj)}{σ:St}{H:Hp}{s:Shared}{a:Addr}{y:V}{u:Value}{A:Around}{E:Value->Shared->Prop}
end
end L2
namespace HT
open PySem PyProof.Rows
def lexLt:List Int->List Int->Bool
 | [],[]=>false
 | [],_::_=>true
 | _::_,[]=>false
 | x::xs,y::ys=>if x=y then lexLt xs ys else decide (x<y)
def lexLt_cons (x y:Int)(xs ys:List Int):lexLt (x::xs) (y::ys)=if x=y then lexLt xs ys else decide (x<y):=rfl
def lexLt_nil_nil:lexLt [] []=false:=rfl
section
open PySem.SeqAt
open PySem.AutoSeq1 (wpAny_loadPart')
open PySem.MeetsSeq PySem.MeetsSeq2 PySem.MeetsSeq3
end
section
variable {prog:Program}{w:World}{A:Around}{E:Value->Shared->Prop}{s:Shared}
def cat_tup(ht:IsTup s.heap t vs.toArray)(hb:IsTup s.heap b q.toArray)(hv:vs≠[])(h1:q=[]->Q (.ref t) s)(h2:q≠[]->Q (.ref s.heap.objs.size) { s with heap:=s.heap.push { cls:=.type "tuple",data:=.seq (vs++q).toArray } })(hsz:vs.length+q.length<=sizeLine):wpAny (model prog w) A (binaryOp .Add (.ref t) (.ref b)) Q E s:=by
 obtain⟨⟨cls,dd,data,sl⟩,U,hc,n,hd⟩:=id ht;obtain⟨⟨ab,I,Z,J⟩,B,L,n2,O⟩:=id hb;simp only at hc hd L O;subst hc hd L O;have e:vs.toArray++q.toArray=(vs++q).toArray:=by simp
 by_cases Y:q=[]
 ·exact concat_meets ⟨_,U,rfl⟩ ⟨_,B,rfl⟩ noFill_tuple_add seq_tuple_add PySem.F.slot_tuple_add PySem.F.entry_tuple_add (PySem.F.args_tuple_add_2 _ _)
   (tuple_addW1 t b vs.toArray q.toArray n n2 dd I sl J (by simpa using hv) (by simp[Y])) ⟨U,B,h1 Y⟩
 ·refine concat_meets ⟨_,U,rfl⟩ ⟨_,B,rfl⟩ noFill_tuple_add seq_tuple_add PySem.F.slot_tuple_add PySem.F.entry_tuple_add (PySem.F.args_tuple_add_2 _ _)
   (tuple_addW2 t b vs.toArray q.toArray n n2 dd I sl J (by simpa using hv) (by simpa using Y) (by simp_all)) ⟨U,B,?_⟩
  rw[e];exact h2 Y
def sIx (n d:Nat):Option Int->Nat
 | none=>d
 | some v=>if v<0 then (v+(n:Int)).toNat else min v.toNat n
def sIx_none (n d:Nat):sIx n d none=d:=rfl
def sIx_nat (n d k:Nat):sIx n d (some (k:Int))=min k n:=by show (if (k:Int)<0 then ((k:Int)+(n:Int)).toNat else min (k:Int).toNat n)=min k n;rw[if_neg (by lia),Int.toNat_natCast]
def zqN (n d:Nat)(B:d<=n)(o:Option Int):sIx n d o<=n:=by
 cases o with
 | none=>exact B
 | some v=>
  show (if v<0 then (v+(n:Int)).toNat else min v.toNat n)<=n;by_cases q:v<0
  ·rw[if_pos q];lia
  ·rw[if_neg q];exact Nat.min_le_right _ _
def zgH (v:Int)(n d:Nat):(if v<0 then max (v+(n:Int)) 0 else min v (n:Int))=((sIx n d (some v):Nat):Int):=by
 show (if v<0 then max (v+(n:Int)) 0 else min v (n:Int))=(((if v<0 then (v+(n:Int)).toNat else min v.toNat n):Nat):Int)
 grind
def zf2 (lo hi:Option Int)(n:Nat):Builtin.Slice.sliceAdjust lo hi 1 (n:Int)=(((sIx n 0 lo:Nat):Int),((sIx n n hi:Nat):Int)):=by
 have h1:¬ ((1:Int)<0):=by lia
 unfold Builtin.Slice.sliceAdjust;simp only[h1,if_false];refine Prod.ext ?_ ?_
 ·cases lo with
  | none=>rfl
  | some v=>exact zgH v n 0
 ·cases hi with
  | none=>rfl
  | some v=>exact zgH v n n
def zgm (i j:Nat):Builtin.Slice.slicePlaces (i:Int) (j:Int) 1=j - i:=by
 unfold Builtin.Slice.slicePlaces;have h1:(1:Int) > 0:=by lia
 simp only[h1,if_true,Int.ediv_one];split <;> lia
def zcn{o:Option Int}{Q:Option Int->Shared->Prop}(p:IsPart v o)(h:Q o s):wpAny (model prog w) A (Builtin.Slice.slicePartIndex v) Q E s:=by
 cases p with
 | none=>exact slicePart_none h
 | int i t=>exact slicePart_int h
def xR{lo hi:Option Int}{Q:Int×Int×Nat->Shared->Prop}(L:s.heap.IsSliceOf J F I .none)(pl:IsPart F lo)(O:IsPart I hi)(h:Q (((sIx n 0 lo:Nat):Int),1,sIx n n hi - sIx n 0 lo) s):wpAny (model prog w) A (Builtin.Slice.sliceApplied (.ref J) (pure (n:Int))) Q E s:=by
 obtain⟨Y,q,U,B⟩:=id L;unfold Builtin.Slice.sliceApplied Builtin.Slice.sliceFields;refine wpAny_bind (wpAny_bind (wpAny_field q B (x:=F) rfl (wpAny_bind (wpAny_field q B (x:=I) rfl (wpAny_bind (wpAny_field q B (x:=.none) rfl (wpAny_pure ?_)))))));refine wpAny_bind (slicePart_none ?_);show wpAny _ _ (if ((1:Int)==0)=true then _ else _) _ _ s;rw[if_neg (by decide)];refine wpAny_bind (zcn pl (wpAny_bind (zcn O (wpAny_bind (wpAny_pure ?_)))));show wpAny _ _ (match Builtin.Slice.sliceAdjust lo hi 1 (n:Int) with | (lo,hi)=>pure (lo,(1:Int),Builtin.Slice.slicePlaces lo hi 1)) _ _ s;rw[zf2 lo hi n];show wpAny _ _ (pure (((sIx n 0 lo:Nat):Int),(1:Int),Builtin.Slice.slicePlaces ((sIx n 0 lo:Nat):Int) ((sIx n n hi:Nat):Int) 1)) _ _ s;rw[zgm];exact wpAny_pure h
def zki (xs:Array Value)(i k:Nat):((List.range k).filterMap λ(m:Nat)=>xs[((i:Int)+(m:Int) * 1).toNat]?).toArray=((xs.toList.drop i).take k).toArray:=by
 have e:(λ(m:Nat)=>xs[((i:Int)+(m:Int) * 1).toNat]?)=λm=>xs[i+m]?:=by
  funext m;have:((i:Int)+(m:Int) * 1).toNat=i+m:=by lia
  rw[this]
 rw[e];have:=pick_run xs i k;rw[List.filterMap_map] at this;have q:((λx=>xs[x]?) ∘ λx=>i+x)=λm=>xs[i+m]?:=rfl
 simp_all
def getItem_tuple_cut{lo hi:Option Int}(B:IsTup s.heap t items)(Z:s.heap.IsSliceOf F U Y .none)(pl:IsPart U lo)(pu:IsPart Y hi)(hw:¬ (sIx items.size 0 lo=0/\sIx items.size items.size hi=items.size))(h:Q (.ref s.heap.objs.size) { s with heap:=s.heap.push { cls:=.type "tuple",data:=.seq ((items.toList.drop (sIx items.size 0 lo)).take (sIx items.size items.size hi - sIx items.size 0 lo)).toArray } })(hsz:items.size<=sizeLine):wpAny (model prog w) A (getItem (.ref t) (.ref F)) Q E s:=by
 have q:sizeOk (.seq ((items.toList.drop (sIx items.size 0 lo)).take (sIx items.size items.size hi - sIx items.size 0 lo)).toArray):=by show ((items.toList.drop (sIx items.size 0 lo)).take (sIx items.size items.size hi - sIx items.size 0 lo)).toArray.size<=sizeLine;rw[List.size_toArray,List.length_take,List.length_drop,Array.length_toList];lia
 have hj:sIx items.size items.size hi<=items.size:=zqN _ _ (Nat.le_refl _) hi;obtain⟨os,I,J,ab⟩:=id Z;have L:s.TypeIs (.ref F) "slice" := ⟨os,I,J⟩;unfold getItem;try with_reducible refine wpAny_holding ?_
 first | refine wpAny_bind (wpAny_pure ?_) | skip
 refine wpAny_bind (wpAny_sequenceKey B.typeIs (by decide) ?_)
 refine wpAny_bind (wpAny_callSpecial?_slot (name:=Str.ofString "__getitem__") B.typeIs PyProof.Rows.slot_tuple_getitem
  (wpAny_call_entry PyProof.Rows.slot_tuple_getitem B.typeIs entry_tuple_getitem ?_ (args_tuple_getitem _ _)))
 show wpAny _ _ (Builtin.Tuple.tupleItemsOf (.ref t) >>= _) _ _ s;refine wpAny_bind (tupleItemsOf_ B ?_);refine wpAny_bind (wpAny_typeOf L ?_);rw[if_pos (by decide)];refine wpAny_bind (xR Z pl pu ?_)
 have O:¬ ((((sIx items.size 0 lo:Nat):Int)==0&&(1:Int)==1&&(sIx items.size items.size hi - sIx items.size 0 lo)==items.size)=true):=by grind
 show wpAny _ _ (if (((sIx items.size 0 lo:Nat):Int)==0&&(1:Int)==1&&(sIx items.size items.size hi - sIx items.size 0 lo)==items.size)=true then _ else _) _ _ s;rw[if_neg O,zki]
 first
  | exact wpAny_bind (m:=Builtin.Tuple.tupleExact _) (wpAny_newObj_type (wpAny_pure ⟨_,rfl,wpAny_pure h⟩) q)
  | exact wpAny_bind (by grind) (by grind)
  | exact wpAny_bind (by grind)
  | exact wpAny_bind (by grind)
end
end HT
namespace L2
open PySem PySem.Spec PyProof.Rows
abbrev TO:=St->Hp->(Option Int->Hp->Prop)->Prop
def PO (X:Cx)(e:Option Expr)(t:TO):Prop:=
 ∀ (pins:List (Addr×Obj)) (s:Shared) (σ:St) (H:Hp) (Q:Option Int->Hp->Prop),Inv X pins σ H s->t σ H Q->
  wpAny (model X.prog X.w) X.A (evalPart e X.env) (λu s'=>∃o H',Inv X pins σ H' s'/\IsPart u o/\Q o H') X.xe s
def ziQ:TO:=λ_ H Q=>Q none H
def zq2 (t:TE):TO:=λσ H Q=>t σ H λx H1=>∃i,x = .int i/\Q (some i) H1
section
variable {X:Cx}{e:Expr}{te:TE}{lo hi:Option Expr}{tl th:TO}{pos p2:Pos}
def znh:PO X none ziQ:=by intro pins s σ H Q I h;rw[evalPart_none];exact ai ⟨none,H,I,.none,h⟩
def zni (h:PE X e te):PO X (some e) (zq2 te):=by intro pins s σ H Q I B;rw[evalPart_some];refine thn (h pins s σ H _ I B)  ?_;rintro u L ⟨x,H1,I1,F,J⟩;obtain⟨i,rfl,q⟩:=J;obtain⟨t,rfl⟩:=F;exact⟨some i,H1,I1,.int i t,q⟩
def SlR (X:Cx)(r:V->Option Int->Option Int->Hp->VK->Prop):Prop:=
 ∀ (pins:List (Addr×Obj)) (s:Shared) (σ:St) (H:Hp) (x:V) (v q B:Value) (lo hi:Option Int) (F:Addr) (Q:VK),Inv X pins σ H s->zX x v->s.heap.IsSliceOf F q B .none->IsPart q lo->IsPart B hi->r x lo hi H Q->
  ∃T id,typeLookup (.type T) "__getitem__" = pure (some (.builtin id))/\s.TypeIs v T/\wpAny (model X.prog X.w) X.A (getItem v (.ref F)) (EP X pins σ Q) X.xe s
def tSl (r:V->Option Int->Option Int->Hp->VK->Prop)(te:TE)(tl th:TO):TE:=λσ H Q=>te σ H λx H1=>tl σ H1 λl H2=>th σ H2 λu H3=>r x l u H3 Q
def zke {r:V->Option Int->Option Int->Hp->VK->Prop}(L:SlR X r)(O:PE X e te)(U:PO X lo tl)(Y:PO X hi th):PE X (.Subscript e (.Slice lo hi none p2) pos) (tSl r te tl th):=by intro pins s σ H Q I h;refine Subscript_ (thn (O pins s σ H _ I h)  ?_);rintro v Z ⟨x,H1,I1,r1,q1⟩;refine wpAny_Slice (thn (U pins Z σ H1 _ I1 q1) λF s2 ⟨l,H2,I2,pl,q2⟩=>thn (Y pins s2 σ H2 _ I2 q2)  ?_);rintro J B ⟨u,H3,I3,pu,q3⟩;rw[evalPart_none];refine ai ?_;have I4:Inv X pins σ H3 { B with heap:=B.heap.push { cls:=.type "slice",data:=.fields #[F,J,.none] } }:=I3.kept (t':=B.toks) λb ob q=>ae _ q;obtain⟨T,id,hT,ht,hg⟩:=L pins { B with heap:=B.heap.push { cls:=.type "slice",data:=.fields #[F,J,.none] } } σ H3 x v F J l u B.heap.objs.size Q I4 r1 (Heap.IsSliceOf.new ..) pl pu q3;show wpAny (model X.prog X.w) X.A (subscriptTail e (.Slice lo hi none p2) v (.ref B.heap.objs.size)) (EP X pins σ Q) X.xe { B with heap:=B.heap.push { cls:=.type "slice",data:=.fields #[F,J,.none] } };exact tail_any (ops:=[.ref B.heap.objs.size,v]) ht hT hg (by with_unfolding_all rfl)
def zgt (xs:List V)(lo hi:Option Int):List V:=(xs.drop (HT.sIx xs.length 0 lo)).take (HT.sIx xs.length xs.length hi - HT.sIx xs.length 0 lo)
def za0 (xs:List V)(lo hi:Option Int):(zgt xs lo hi).length<=xs.length:=by unfold zgt;rw[aV,cI];lia
def rSlT (K:PySem.W.Frag):V->Option Int->Option Int->Hp->VK->Prop:=λx lo hi H Q=>∃a xs,x = .ref a/\SqT K H a xs/\
 ¬ (HT.sIx xs.length 0 lo=0/\HT.sIx xs.length xs.length hi=xs.length)/\∀p,H p=none->Q (.ref p) (upd H p (.tup (zgt xs lo hi)))
def zqP:SlR X (rSlT X.K):=by
 intro pins s σ H x v vl vu lo hi sl Q I L O pl U h;obtain⟨a,xs,rfl,Y,Z,q⟩:=h;cases L;obtain⟨its,r,F,J⟩:=I.tuple Y;have B:its.toArray.size=xs.length:=by rw[aR];exact r.length.symm
 refine⟨"tuple",_,PyProof.Rows.slot_tuple_getitem.lookup,F.typeIs,?_⟩;refine HT.getItem_tuple_cut F O pl U (by rw[B];exact Z) ?_ (by rw[B];exact J);rw[B];refine⟨.ref s.heap.objs.size,_,I.laid (t':=s.toks) (o:=.tup (zgt xs lo hi)) (λb ob q=>ae _ q) (af _) ?_,rfl,q _ (I.hok.fresh (af _))⟩;exact⟨ah (za0 xs lo hi) J,_,(r.drop (HT.sIx xs.length 0 lo)).take (HT.sIx xs.length xs.length hi - HT.sIx xs.length 0 lo),uj.new _ _⟩
def ztq (K:PySem.W.Frag):R2:=λx y H Q=>∃a b xs ys,x = .ref a/\y = .ref b/\SqT K H a xs/\SqT K H b ys/\xs≠[]/\xs.length+ys.length<=sizeLine/\
 (ys=[]->Q (.ref a) H)/\(ys≠[]->∀p,H p=none->Q (.ref p) (upd H p (.tup (xs++ys))))
def zY.nil_iff(r:zY xs us):us=[]↔xs=[]:=by
 cases r with
 | nil=>simp
 | cons _ _=>simp
def zmX:OpR X (binaryOp .Add) (ztq X.K):=by intro pins s σ H x y v u Q I L O h;obtain⟨a,b,xs,ys,rfl,rfl,U,Y,Z,hz,q1,q2⟩:=h;cases L;cases O;obtain⟨its,F,p1,_⟩:=I.tuple U;obtain⟨J,B,p2,_⟩:=I.tuple Y;refine HT.cat_tup p1 p2 (λz=>Z (F.nil_iff.mp z)) (λz=>⟨.ref a,H,I,rfl,q1 (B.nil_iff.mp z)⟩) (λz=>?_) (by rw[<- F.length,<- B.length];exact hz);refine⟨.ref s.heap.objs.size,_,I.laid (t':=s.toks) (o:=.tup (xs++ys)) (λb ob q=>ae _ q) (af _) ?_,rfl,q2 (λw=>z (B.nil_iff.mpr w)) _ (I.hok.fresh (af _))⟩;exact⟨by simp_all,_,F.append B,uj.new _ _⟩
end
def ixN (n:Nat)(i:Int):Option Nat:=if 0<=i then (if i<n then some i.toNat else none) else if -(n:Int)<=i then some (i+n).toNat else none
def atI {α:Type}(xs:List α)(i:Int):Option α:=(ixN xs.length i).bind λj=>xs[j]?
def zhp {n:Nat}{i:Int}{j:Nat}(h:ixN n i=some j):seqIndex? i n=some j/\j<n/\-(n:Int)<=i/\i<n:=by
 unfold ixN at h;by_cases q:0<=i
 ·rw[if_pos q] at h;by_cases h1:i<n
  ·rw[if_pos h1] at h;have e:i.toNat=j:=bh h;exact⟨by rw[seqIndex_of q h1,e],by lia,by lia,h1⟩
  ·simp_all
 ·rw[if_neg q] at h;by_cases h1:-(n:Int)<=i
  ·rw[if_pos h1] at h;have e:(i+n).toNat=j:=bh h;exact⟨by rw[seqIndex_neg (by lia) h1,e],by lia,h1,by lia⟩
  ·simp_all
def zgB {α:Type}{xs:List α}{i:Int}{v:α}(h:atI xs i=some v):∃j,seqIndex? i xs.length=some j/\xs[j]?=some v/\j<xs.length/\-(xs.length:Int)<=i/\i<xs.length:=by
 unfold atI at h
 cases e:ixN xs.length i with
 | none=>rw[e] at h;cases h
 | some j=>
  rw[e] at h;obtain⟨h1,h2,q,B⟩:=zhp e;exact⟨j,h1,h,h2,q,B⟩
def zlI {α:Type}{xs:List α}{j:Nat}{v:α}(h:xs[j]?=some v):atI xs (j:Int)=some v:=by
 have q:j<xs.length:=(aj.mp h).1
 have e:ixN xs.length (j:Int)=some j:=by
  unfold ixN
  simp_all
 unfold atI;rw[e];exact h
def zee (b:Expr):Prop:=∀o i,subscripted b false o i=operate [o,i] (getItem o i)
def IxR (X:Cx)(r:R2):Prop:=
 ∀ (value q:Expr) (pins:List (Addr×Obj)) (s:Shared) (σ:St) (H:Hp) (x y:V) (v u:Value) (Q:VK),Inv X pins σ H s->zX x v->zX y u->r x y H Q->
  subscripted q false v u=operate [v,u] (getItem v u)->wpAny (model X.prog X.w) X.A (subscriptTail value q v u) (EP X pins σ Q) X.xe s
def MtR (X:Cx)(id:String)(r:V->List V->Hp->VK->Prop):Prop:=
 ∀ (pins:List (Addr×Obj)) (s:Shared) (σ:St) (H:Hp) (x:V) (xs:List V) (v:Value) (us:List Value) (Q:VK),Inv X pins σ H s->zX x v->zY xs us->r x xs H Q->
  wpAny (model X.prog X.w) X.A (call (.builtin id) (v::us)) (EP X pins σ Q) X.xe s
section
variable {X:Cx}{a b:Expr}{ta tb:TE}{pos:Pos}
def zti(B:IxR X r)(F:PE X a ta)(J:PE X b tb)(L:zee b):PE X (.Subscript a b pos) (tOp r ta tb):=by intro pins s σ H Q I h;exact Subscript_ (zrO F J I h λv u O x y H2 I2 U Y q=>B a b pins O σ H2 x y v u Q I2 U Y q (L _ _))
def zrB (K:PySem.W.Frag):R2:=λx y H Q=>∃p xs i v,x = .ref p/\y = .int i/\SqL K H p xs/\atI xs i=some v/\Q v H
def zrC (K:PySem.W.Frag):R2:=λx y H Q=>∃p xs i v,x = .ref p/\y = .int i/\SqT K H p xs/\atI xs i=some v/\Q v H
def zmj:IxR X (zrB X.K):=by
 intro value B pins s σ H x y v u Q I Y Z h L;obtain⟨p,xs,i,z,rfl,rfl,hq,he,q⟩:=h;cases Y;obtain⟨t,rfl⟩:=Z;obtain⟨its,r,pl,hz⟩:=I.list hq;obtain⟨j,h1,h2,h3,h4,h5⟩:=zgB he;obtain⟨w,O,F⟩:=r.get h2;have hl:=r.length;have hn:=zhI;have fin:EP X pins σ Q w s:=⟨z,H,I,F,q⟩;by_cases U:0<=i
 ·have J:i.toNat=j:=by
   rw[seqIndex_of U h5] at h1
   simp_all
  exact item_listR pl.isList U (by lia) (by rw[J];simpa using O) fin L
 ·have J:(i+(its.toArray.size:Int)).toNat=j:=by
   rw[seqIndex_neg (by lia) h4] at h1
   simp_all
  exact subscriptTail_builtinR (x:=w) pl.isList.typeIs slot_list_getitem.lookup
   (wpAny_getItem_list_neg (Q:=λr s'=>r=w/\EP X pins σ Q r s') pl.isList (by lia) (by simp_all) (by lia) (by rw[J];simpa using O) ⟨rfl,fin⟩) L
def zo4:IxR X (zrC X.K):=by
 intro value B pins s σ H x y v u Q I J L h O;obtain⟨p,xs,i,z,rfl,rfl,U,Y,q⟩:=h;cases J;obtain⟨t,rfl⟩:=L;obtain⟨its,r,pl,hz⟩:=I.tuple U;obtain⟨j,h1,h2,h3,h4,h5⟩:=zgB Y;obtain⟨w,Z,F⟩:=r.get h2;have hl:=r.length;have hn:=zhI;have fin:EP X pins σ Q w s:=⟨z,H,I,F,q⟩
 exact subscriptTail_builtinR (x:=w) pl.typeIs slot_tuple_getitem.lookup
  (getItem_tuple (j:=j) (Q:=λr s'=>r=w/\EP X pins σ Q r s') pl (by lia) (by lia) (by simp_all) (by simpa using Z) ⟨rfl,fin⟩) O
def zdZ (lo hi:Option Int)(n:Nat):(sliceBounds lo hi none n).1=((HT.sIx n 0 lo:Nat):Int)/\(sliceBounds lo hi none n).2.1=((HT.sIx n n hi:Nat):Int)/\(sliceBounds lo hi none n).2.2=1:=by
 refine⟨?_,?_,rfl⟩
 ·cases lo with
  | none=>simp[sliceBounds,HT.sIx]
  | some i=>
   simp only[sliceBounds,HT.sIx,Option.getD_none,show (1:Int) > 0 by decide,if_true];by_cases h:i<0
   ·simp only[h,if_true] <;> lia
   ·simp only[h,if_false] <;> lia
 ·cases hi with
  | none=>simp[sliceBounds,HT.sIx]
  | some i=>
   simp only[sliceBounds,HT.sIx,Option.getD_none,show (1:Int) > 0 by decide,if_true];by_cases h:i<0
   ·simp only[h,if_true] <;> lia
   ·simp only[h,if_false] <;> lia
def zc2 (its:List Value)(lo hi:Option Int):slicePick its.toArray lo hi none=((its.drop (HT.sIx its.length 0 lo)).take (HT.sIx its.length its.length hi - HT.sIx its.length 0 lo)).toArray:=by obtain⟨h1,h2,q⟩:=zdZ lo hi its.toArray.size;unfold slicePick;rw[h1,h2,q];simp only[sliceRange_one,pick_run,aR] <;> rfl
def rSlL (K:PySem.W.Frag):V->Option Int->Option Int->Hp->VK->Prop:=λx lo hi H Q=>∃a xs,x = .ref a/\SqL K H a xs/\∀p,H p=none->Q (.ref p) (upd H p (.lst (zgt xs lo hi)))
def znM:SlR X (rSlL X.K):=by intro pins s σ H x v Z vu lo hi sl Q I J L pl O h;obtain⟨a,xs,rfl,U,q⟩:=h;cases J;obtain⟨its,r,F,Y⟩:=I.list U;have B:=r.length;refine⟨"list",_,slot_list_getitem.lookup,F.isList.typeIs,?_⟩;refine wpAny_getItem_list_slice F.isList L pl O .none (by simp) ?_ (by grind);rw[zc2,<- B];refine⟨.ref s.heap.objs.size,_,I.laid (t':=s.toks) (o:=.lst (zgt xs lo hi)) (λb ob q=>ae _ q) (af _) ?_,rfl,q _ (I.hok.fresh (af _))⟩;exact⟨ah (za0 xs lo hi) Y,_,0,(r.drop (HT.sIx xs.length 0 lo)).take (HT.sIx xs.length xs.length hi - HT.sIx xs.length 0 lo),am _ rfl⟩
def zcy:V->Bool
 | .non=>true
 | .bl _=>true
 | .int _=>true
 | .str _=>true
 | _=>false
def eqV:V->V->Bool
 | .non,.non=>true
 | .bl a,.bl b=>a==b
 | .bl a,.int b=>(if a then 1 else 0)==b
 | .int a,.bl b=>a==(if b then 1 else 0)
 | .int a,.int b=>a==b
 | .str a,.str b=>a==b
 | _,_=>false
def zoN(B:zX y u)(q:zX x v)(I:zcy y=true)(F:zcy x=true):SeqAt.EqAt A s u v (eqV y x):=by
 cases y with
 | non=>
  cases B
  cases x with
  | non=>cases q;exact SeqAt.EqAt.same _
  | bl b=>cases q;exact SeqAt.EqAt.none_bool b
  | int b=>obtain⟨t,rfl⟩:=q;exact SeqAt.EqAt.none_int b t
  | str b=>obtain⟨t,rfl⟩:=q;exact SeqAt.EqAt.none_str b t
  | _=>exact absurd (show false=true from F) aG
 | bl a=>
  cases B
  cases x with
  | non=>cases q;exact SeqAt.EqAt.bool_none a
  | bl b=>cases q;exact SeqAt.EqAt.bool_bool a b
  | int b=>obtain⟨t,rfl⟩:=q;exact SeqAt.EqAt.bool_int a b t
  | str b=>obtain⟨t,rfl⟩:=q;exact SeqAt.EqAt.bool_str a b t
  | _=>exact absurd (show false=true from F) aG
 | int a=>
  obtain⟨t',rfl⟩:=B
  cases x with
  | non=>cases q;exact SeqAt.EqAt.int_none a t'
  | bl b=>cases q;exact SeqAt.EqAt.int_bool a t' b
  | int b=>obtain⟨t,rfl⟩:=q;exact SeqAt.EqAt.int_int a t' b t
  | str b=>obtain⟨t,rfl⟩:=q;exact SeqAt.EqAt.int_str a t' b t
  | _=>exact absurd (show false=true from F) aG
 | str a=>
  obtain⟨t',rfl⟩:=B
  cases x with
  | non=>cases q;exact SeqAt.EqAt.str_none a t'
  | bl b=>cases q;exact SeqAt.EqAt.str_bool a t' b
  | int b=>obtain⟨t,rfl⟩:=q;exact SeqAt.EqAt.str_int a t' b t
  | str b=>obtain⟨t,rfl⟩:=q;exact SeqAt.EqAt.str_str a t' b t
  | _=>exact absurd (show false=true from F) aG
 | _=>exact absurd (show false=true from I) aG
def eqU (x:V)(u:Value):Bool:=match u with
 | .none=>eqV .non x
 | .bool b=>eqV (.bl b) x
 | .int i _=>eqV (.int i) x
 | .str z _=>eqV (.str z) x
 | _=>false
def zk0(r:zX y u)(f:zcy y=true):eqU x u=eqV y x:=by
 cases y with
 | non=>cases r;rfl
 | bl b=>cases r;rfl
 | int i=>obtain⟨t,rfl⟩:=r;rfl
 | str z=>obtain⟨t,rfl⟩:=r;rfl
 | _=>exact absurd (show false=true from f) aG
def zaW:∀ {xs:List V} {us:List Value},zY xs us->xs.all zcy=true->us.any (eqU x)=xs.any λy=>eqV y x
 | _,_,.nil,_=>rfl
 | y::xs,u::us,.cons r t,f=>by rw[bY,aH] at f;rw[cm,cm,zk0 r f.1,zaW t f.2]
def uT {A:Around}{s:Shared}{x:V}{v:Value}(B:zX x v)(F:zcy x=true):∀ {xs:List V} {us:List Value},zY xs us->xs.all zcy=true->∀u∈us,SeqAt.EqAt A s u v (eqU x u)
 | _,_,.nil,_=>by grind
 | y::xs,u::us,.cons r t,f=>λI q=>by
  rw[bY,aH] at f;rcases ax.mp q with rfl | q
  ·rw[zk0 r f.1];exact zoN r B f.1 F
  ·exact uT B F t f.2 I q
def inV (x:V)(xs:List V):Bool:=xs.any λy=>eqV y x
def rIn (K:PySem.W.Frag)(q:Bool):R2:=λx y H Q=>∃p xs,y = .ref p/\(SqL K H p xs\/SqT K H p xs)/\zcy x=true/\xs.all zcy=true/\Q (.bl (if q then !inV x xs else inV x xs)) H
def zh2:OpR X (compareOp .In) (rIn X.K false):=by
 intro pins s σ H x y v u Q I J O h;obtain⟨p,xs,rfl,B,L,fs,q⟩:=h;cases O;rcases B with B | B
 ·obtain⟨its,r,pl,U⟩:=I.list B;refine SeqAt.in_listAt (eqU x) pl.isList (λw F=>uT J L r fs w (by simpa using F)) ⟨.bl _,H,I,rfl,?_⟩;rw[show its.toArray.any (eqU x)=its.any (eqU x) by simp,zaW r fs];exact q
 ·obtain⟨its,r,pl,U⟩:=I.tuple B;refine SeqAt.in_tupleAt (eqU x) pl (λw F=>uT J L r fs w (by simpa using F)) ⟨.bl _,H,I,rfl,?_⟩;rw[show its.toArray.any (eqU x)=its.any (eqU x) by simp,zaW r fs];exact q
def zdO:OpR X (compareOp .NotIn) (rIn X.K true):=by
 intro pins s σ H x y v u Q I J O h;obtain⟨p,xs,rfl,B,L,fs,q⟩:=h;cases O;rcases B with B | B
 ·obtain⟨its,r,pl,U⟩:=I.list B;refine SeqAt.notIn_listAt (eqU x) pl.isList (λw F=>uT J L r fs w (by simpa using F)) ⟨.bl _,H,I,rfl,?_⟩;rw[show its.toArray.any (eqU x)=its.any (eqU x) by simp,zaW r fs];exact q
 ·obtain⟨its,r,pl,U⟩:=I.tuple B;refine SeqAt.notIn_tupleAt (eqU x) pl (λw F=>uT J L r fs w (by simpa using F)) ⟨.bl _,H,I,rfl,?_⟩;rw[show its.toArray.any (eqU x)=its.any (eqU x) by simp,zaW r fs];exact q
def zdi:zbS X (.type "list") (λxs H Q=>∃p ys,xs=[.ref p]/\(SqL X.K H p ys\/SqT X.K H p ys)/\∀l,H l=none->Q (.ref l) (upd H l (.lst ys))):=by
 intro pins s σ H xs us Q I r h;obtain⟨p,ys,rfl,J,q⟩:=h;obtain⟨u,rfl,rx⟩:=zbP r;cases rx
 have fin:∀ (its:List Value),zY ys its->ys.length<=sizeLine->∀ (h':Heap) (B:Nat),(∀b o',s.heap.get? b=some o'->h'.get? b=some o')->
   h'.get? s.heap.objs.size=some { cls:=.type "list",dict:=none,data:=.seq its.toArray B,slots:=#[] }->EP X pins σ Q (.ref s.heap.objs.size) { s with heap:=h' }:=λits F L h' B kp e=>
  ⟨.ref s.heap.objs.size,_,I.laid (t':=s.toks) kp (af _) (show zD X.prog X.w _ h' _ (.lst ys) from ⟨L,its,B,F,e⟩),rfl,q _ (I.hok.fresh (af _))⟩
 rcases J with J | J
 ·obtain⟨its,F,pl,L⟩:=I.list J;have O:=F.length;obtain⟨o,U,Y,n,Z⟩:=pl.isList;exact call_list_seq p (.inl rfl) U Y Z (λh' B kp e=>fin its F L h' B kp e) (by grind)
 ·obtain⟨its,F,pl,L⟩:=I.tuple J;have O:=F.length;obtain⟨o,U,Y,n,Z⟩:=pl;exact call_list_seq p (.inr rfl) U Y Z (λh' B kp e=>fin its F L h' B kp e) (by grind)
def zct:zbS X (.type "tuple") (λxs H Q=>∃p ys,xs=[.ref p]/\((SqL X.K H p ys/\∀l,H l=none->Q (.ref l) (upd H l (.tup ys)))\/(SqT X.K H p ys/\Q (.ref p) H))):=by
 intro pins s σ H xs us Q I r h;obtain⟨p,ys,rfl,h⟩:=h;obtain⟨u,rfl,L⟩:=zbP r;cases L;rcases h with ⟨hq,q⟩ | ⟨hq,q⟩
 ·obtain⟨its,B,pl,F⟩:=I.list hq;have J:=B.length;refine call_tuple_list pl.isList (λh' kp=>?_) (by grind);have I1:Inv X pins σ H { s with heap:=h' }:=I.kept (t':=s.toks) kp
  have I2:Inv X pins σ (upd H h'.objs.size (.tup ys)) { s with heap:=h'.push { cls:=.type "tuple",data:=.seq its.toArray } }:=
   I1.laid (t':=s.toks) (λb o e=>ae _ e) (af _) (show zD X.prog X.w _ _ _ (.tup ys) from ⟨F,its,B,uj.new _ _⟩)
  exact⟨.ref h'.objs.size,_,I2,rfl,q _ (I1.hok.fresh (af _))⟩
 ·obtain⟨its,B,pl,F⟩:=I.tuple hq;exact call_tuple_same pl ⟨.ref p,H,I,rfl,q⟩
def tyV (K:PySem.W.Frag)(T:String)(x:V)(H:Hp):Prop:=match x with
 | .str _=>T = "str"
 | .int _=>T = "int"
 | .ref p=>(T = "list" /\ ∃xs,SqL K H p xs)\/(T = "tuple" /\ ∃o,K.lookup p=some o/\o.cls = .type "tuple" /\ o.dict=none)\/
   (T = "dict" /\ ((∃kvs,H p=some (.dK kvs))\/∃kvs,H p=some (.dT kvs)))\/(T = "set" /\ ∃S n,H p=some (.set S n))
 | _=>False
def zlB {pins:List (Addr×Obj)}{σ:St}{H:Hp}{s:Shared}{T:String}{x:V}{v:Value}(I:Inv X pins σ H s)(r:zX x v)(ty:tyV X.K T x H) :
  s.TypeIs v T/\∀a,v = .ref a->∃ob,s.heap.get? a=some ob/\ob.dict=none:=by
 cases x with
 | str z=>
  obtain⟨t,rfl⟩:=r;cases (show T = "str" from ty);exact⟨typeIs_str s z t,λ_ e=>nomatch e⟩
 | int i=>
  obtain⟨t,rfl⟩:=r;cases (show T = "int" from ty);exact⟨typeIs_int s i t,λ_ e=>nomatch e⟩
 | ref p=>
  cases r;rcases ty with ⟨rfl,xs,hq⟩ | ⟨rfl,o,q,hc,B⟩ | ⟨rfl,q⟩ | ⟨rfl,S,n,q⟩
  ·obtain⟨its,_,pl,_⟩:=I.list hq;refine⟨pl.isList.typeIs,λa e=>?_⟩;cases e;obtain⟨o,n,e,c,B,_⟩:=pl;exact⟨o,e,B⟩
  ·refine⟨⟨o,I.kIn p o q,hc⟩,λa e=>?_⟩;cases e;exact⟨o,I.kIn _ o q,B⟩
  ·have z:∃o,s.heap.get? p=some o/\o.ExactDict:=by
    rcases q with ⟨kvs,q⟩ | ⟨kvs,q⟩
    ·obtain⟨_,_,_,_,o,_,_,e,ex,_⟩:=I.hok p _ q;exact⟨o,e,ex⟩
    ·obtain⟨_,_,_,_,o,_,_,e,ex,_⟩:=I.hok p _ q;exact⟨o,e,ex⟩
   obtain⟨o,e,ex⟩:=z;refine⟨⟨o,e,ex.1⟩,λa F=>?_⟩;cases F;exact⟨o,e,ex.2.1⟩
  ·obtain⟨o,_,_,_,e,ex,_⟩:=I.hok p _ q;refine⟨⟨o,e,ex.1⟩,λa F=>?_⟩;cases F;exact⟨o,e,ex.2.1⟩
 | _=>exact False.elim ty
def tBM0 (K:PySem.W.Frag)(T:String)(r:V->List V->Hp->VK->Prop)(to:TE):TE:=λσ H Q=>to σ H λx H1=>tyV K T x H1/\r x [] H1 Q
def tBM (K:PySem.W.Frag)(T:String)(r:V->List V->Hp->VK->Prop)(to:TE)(t:TA):TE:=λσ H Q=>to σ H λx H1=>tyV K T x H1/\t σ H1 λxs H2=>r x xs H2 Q
variable {o e:Expr}{es:List Expr}{to:TE}{t:TA}{name:Str}{apos cpos:Pos}{T id:String}{r:V->List V->Hp->VK->Prop}
def zpW (O:PlainAttrs T)(F:Slot T name id)(J:typeOf (.builtin id)=pure (.type "method_descriptor"))(U:MtR X id r)(Y:PE X o to)
  (q:attributeBase o name X.env (eval o X.env)=eval o X.env:=by rfl) (B:(apos.endLine==cpos.line)=true:=by rfl):PE X (.Call (.Attribute o name apos) [] [] cpos) (tBM0 X.K T r to):=by
 intro pins s σ H Q I h;refine wpAny_Call_method0_late q B (thn (Y pins s σ H _ I h)  ?_);rintro v Z ⟨x,H1,I1,L,ty,q1⟩;obtain⟨h1,h2⟩:=zlB I1 L ty;exact⟨T,id,O,F,J,h1,h2,Calls.callWith_builtin rfl (PySem.evalArgs_none (U pins Z σ H1 x [] v [] Q I1 L .nil q1))⟩
def zpV (Z:PlainAttrs T)(J:Slot T name id)(O:typeOf (.builtin id)=pure (.type "method_descriptor"))(hm:MtR X id r)(ho:PE X o to)(ha:PA X (e::es) t)
  (B:attributeBase o name X.env (eval o X.env)=eval o X.env:=by rfl)
  (L:((backTo cpos (starEach (e::es) X.env)).all (λx=>!x.1)&&(backToKw cpos (keywordEach [] X.env)).all (λx=>x.1.isSome)
   && decide ((e::es).length+([]:List Keyword).length+(if ([]:List Keyword).isEmpty then 0 else 1)<30))=true:=by rfl)
  (F:(apos.endLine==cpos.line)=true:=by rfl) (hs:starEach (e::es) X.env=(false,eval e X.env)::starEach es X.env:=by rfl) (q:(backTo cpos (starEach es X.env)).any (·.1)=false:=by rfl) :
  PE X (.Call (.Attribute o name apos) (e::es) [] cpos) (tBM X.K T r to t):=by
 intro pins s σ H Q I h;refine wpAny_Call_method_late B L F rfl (thn (ho pins s σ H _ I h)  ?_);rintro v s1 ⟨x,H1,I1,U,ty,q1⟩;obtain⟨h1,h2⟩:=zlB I1 U ty;refine⟨T,id,Z,J,O,h1,h2,?_⟩;have Y:=ha cpos pins s1 σ H1 _ I1 q1;rw[hs] at Y ⊢;refine Calls.callWith_builtin (by show (false || (backTo cpos (starEach es X.env)).any (·.1))=false;rw[q] <;> rfl) (Calls.evalArgs_plain ?_);exact thn Y <| by rintro us s2 ⟨vs,H2,I2,r2,q2⟩;exact hm pins s2 σ H2 x vs v us Q I2 U r2 q2
end
def MtM (X:Cx)(id:String)(r:V->List V->Hp->VK->Prop):Prop:=
 ∀ (pins:List (Addr×Obj)) (s:Shared) (σ:St) (H:Hp) (x:V) (xs:List V) (v:Value) (us:List Value) (Q:VK),Inv X pins σ H s->zX x v->zY xs us->r x xs H Q->
  wpAny (model X.prog X.w) X.A (call (.builtin id) (v::us)) (EP X pins σ Q) X.xe s
def zY.one:∀ {x:V} {us:List Value},zY [x] us->∃u,us=[u]/\zX x u
 | _,_,.cons r .nil=>⟨_,rfl,r⟩
def zY.zero:∀ {us:List Value},zY [] us->us=[]
 | _,.nil=>rfl
def zY.eraseIdx:∀ {xs:List V} {us:List Value} (i:Nat),zY xs us->zY (xs.eraseIdx i) (us.eraseIdx i)
 | _,_,_,.nil=>.nil
 | _,_,0,.cons _ t=>t
 | _,_,i+1,.cons r t=>.cons r (zY.eraseIdx i t)
def zY.reverse(h:zY xs us):zY xs.reverse us.reverse:=by
 induction h with
 | nil=>exact .nil
 | cons r t q=>rw[cT,cT];exact zY.append q (.cons r .nil)
def zdD {α:Type}:∀ (l:List α) (i:Nat),(l.eraseIdx i).length<=l.length
 | [],_=>af _
 | _::_,0=>Nat.le_succ _
 | _::r,i+1=>Nat.succ_le_succ (zdD r i)
section
variable {X:Cx}{pins:List (Addr×Obj)}{σ:St}{H:Hp}{s:Shared}{l b:Addr}{xs ys zs:List V}
def Inv.lset{its its':List Value}{f:Array Value->Array Value}(I:Inv X pins σ H s)(B:H l=some (.lst xs))(e:s.heap.get? l=some { cls:=.type "list",data:=.seq its.toArray n })(hf:f its.toArray=its'.toArray)(F:zY ys its')(J:ys.length<=sizeLine) :
  Inv X pins σ (upd H l (.lst ys)) { s with heap:=s.heap.update l (Obj.mapSeq f),toks:=t' }:=by
 have q:=PySem.IsL.update e f;rw[hf] at q;refine I.write (x:=l) (e:=l) (by rw[B];exact trivial) (.inl rfl) (λU u L O=>(bu s.heap (Obj.mapSeq f) (Ne.symm L)).trans O) ⟨_,q⟩ ?_;exact⟨J,its',_,F,q⟩
def Inv.lnew(I:Inv X pins σ H s)(B:zY ys its)(F:ys.length<=sizeLine) :
  Inv X pins σ (upd H s.heap.objs.size (.lst ys)) { s with heap:=s.heap.push { cls:=.type "list",data:=.seq its.toArray },toks:=t' }:=
 I.laid (λ_ _ q=>ae _ q) (af _) ⟨F,its,0,B,am _ rfl⟩
def Inv.fresh (I:Inv X pins σ H s):H s.heap.objs.size=none:=I.hok.fresh (af _)
def Inv.lstM (I:Inv X pins σ H s)(q:Rd H l (.lst xs)):xs.length<=sizeLine/\∃ (its:List Value) (n:Nat),zY xs its/\xs.length=its.length/\s.heap.get? l=some { cls:=.type "list",data:=.seq its.toArray n }:=by obtain⟨z,its,n,r,e⟩:=(show zD X.prog X.w H s.heap l (.lst xs) from q.ok I.hok);exact⟨z,its,n,r,r.length,e⟩
def zj8(h:n<=sizeLine):Builtin.List.listTooLong n=false:=by
 unfold Builtin.List.listTooLong
 simp_all
end
section
variable {X:Cx}
def zeX:V->List V->Hp->VK->Prop:=λx vs H Q=>∃l xs y,x = .ref l/\vs=[y]/\H l=some (.lst xs)/\xs.length<sizeLine/\Q .non (upd H l (.lst (xs++[y])))
def zdI:MtM X "list.append" zeX:=by intro pins s σ H x vs v us Q I J L h;obtain⟨l,xs,y,rfl,rfl,B,U,q⟩:=h;cases J;obtain⟨u,rfl,O⟩:=L.one;obtain⟨z,its,n,r,Y,e⟩:=I.lstM (.inl B);refine eZ F.slot_list_append ⟨_,e,rfl⟩ F.entry_list_append (F.args_list_append_2 _ _) (PySem.list_append l its.toArray n u (by grind)) ⟨e,?_⟩;refine⟨.non,_,I.lset (its':=its++[u]) B e (by simp) (r.append (.cons O .nil)) ?_,rfl,q⟩;rw[aM,List.length_singleton];lia
def znI:V->List V->Hp->VK->Prop:=λx vs H Q=>∃l b xs zs,x = .ref l/\vs=[.ref b]/\H l=some (.lst xs)/\Rd H b (.lst zs)/\xs.length+zs.length<=sizeLine/\Q .non (upd H l (.lst (xs++zs)))
def zhR:MtM X "list.extend" znI:=by
 intro pins s σ H x vs v us Q I O U h;obtain⟨l,b,xs,zs,rfl,rfl,L,Y,hz,q⟩:=h;cases O;obtain⟨u,rfl,Z⟩:=U.one;cases Z;obtain⟨z,its,n,r,hl,e⟩:=I.lstM (.inl L);obtain⟨z2,B,n2,r2,ab,e2⟩:=I.lstM Y;have hsz:its.toArray.size+B.toArray.size<=sizeLine:=by rw[aR,aR];lia
 have J:¬ (!its.toArray.isEmpty&&Builtin.List.listTooLong (its.toArray.size+B.toArray.size))=true:=by
  rw[zj8 hsz,Bool.and_false]
  grind
 refine eZ F.slot_list_extend ⟨_,e,rfl⟩ F.entry_list_extend (F.args_list_extend_2 _ _)
  (AutoSeq1.list_extend_list_list_0 l its.toArray n b B.toArray n2 J (by lia) (by lia)) ⟨e,e2,?_⟩
 refine⟨.non,_,I.lset (its':=its++B) L e (by simp) (r.append r2) ?_,rfl,q⟩
 simp_all
def zqw:V->List V->Hp->VK->Prop:=λx vs H Q=>∃l xs i k y,x = .ref l/\vs=[.int i]/\H l=some (.lst xs)/\-(2 ^ 63)<=i/\i<2 ^ 63/\seqIndex? i xs.length=some k/\xs[k]?=some y/\Q y (upd H l (.lst (xs.eraseIdx k)))
def zj5:MtM X "list.pop" zqw:=by
 intro pins s σ H x vs v us Q I L O h;obtain⟨l,xs,i,k,y,rfl,rfl,J,h1,h2,Z,U,q⟩:=h;cases L;obtain⟨u,rfl,Y⟩:=O.one;obtain⟨t,rfl⟩:=Y;obtain⟨z,its,n,r,hl,e⟩:=I.lstM (.inl J);obtain⟨w,hw,B⟩:=r.get U
 refine eZ F.slot_list_pop ⟨_,e,rfl⟩ F.entry_list_pop (F.args_list_pop_2 _ _)
  (MeetsSeq.list_pop_at l its.toArray n i t k w (fitsIndex_both h1 h2) (by simp_all) (by simp_all) (by simp_all)) ⟨e,?_⟩
 refine⟨y,_,I.lset (its':=its.eraseIdx k) J e ?_ (r.eraseIdx k) ?_,B,q⟩
 ·simp_all
 ·have:=zdD xs k;lia
def zfM:V->List V->Hp->VK->Prop:=λx vs H Q=>∃l xs,x = .ref l/\vs=[]/\H l=some (.lst xs)/\Q .non (upd H l (.lst xs.reverse))
def zgg:MtM X "list.reverse" zfM:=by
 intro pins s σ H x vs v us Q I L O h;obtain⟨l,xs,rfl,rfl,J,q⟩:=h;cases L;have B:=O.zero;subst B;obtain⟨z,its,n,r,U,e⟩:=I.lstM (.inl J);refine eZ F.slot_list_reverse ⟨_,e,rfl⟩ F.entry_list_reverse (F.args_list_reverse_1 _) (AutoSeq1.list_reverse_list_0 l its.toArray n (by grind)) ⟨e,?_⟩;refine⟨.non,_,I.lset (its':=its.reverse) J e (by simp) r.reverse ?_,rfl,q⟩
 simp_all
def rCat:R2:=λx y H Q=>∃l b xs zs,x = .ref l/\y = .ref b/\Rd H l (.lst xs)/\Rd H b (.lst zs)/\xs.length+zs.length<=sizeLine/\∀p,H p=none->Q (.ref p) (upd H p (.lst (xs++zs)))
def zpG:OpR X (binaryOp .Add) rCat:=by
 intro pins s σ H x y v u Q I F J h;obtain⟨l,b,xs,zs,rfl,rfl,L,O,hz,q⟩:=h;cases F;cases J;obtain⟨z,its,n,r,hl,e⟩:=I.lstM L;obtain⟨z2,B,n2,U,Y,Z⟩:=I.lstM O;refine PySem.P.add_list e Z ?_ (by simp_all);have ea:its.toArray++B.toArray=(its++B).toArray:=by simp
 rw[ea];exact⟨.ref _,_,I.lnew (t':=s.toks) (r.append U) (by simp_all),rfl,q _ I.fresh⟩
end
section
variable {prog:Program}{w:World}{A:Around}{E:Value->Shared->Prop}{s:Shared}
end
section
variable {X:Cx}
end
end L2
namespace Att
open PySem PySem.W PySem.Calls PyProof.Rows
def zbb:∀ (ns:List Int) (vs:List Value),WellAll P h vs (ns.map WData.int)->IntsAre vs ns:=by
 intro ns
 induction ns with
 | nil=>
  intro vs w;rw[List.map_nil] at w;cases w;exact .nil
 | cons n ns q=>
  intro vs w;rw[List.map_cons] at w
  cases w with
  | cons a b=>
   cases a;exact .cons _ _ (q _ b)
def ziL{l:OpenLaw}(hn:l.most=some n){P:Params}{h:Heap}{q:List Value}(B:l.row.toRowW.claim.pre args=true)(J:WellAll P h q args) :
  ∃a vs ns,q=[Value.ref a]/\args=[WData.list (ns.map WData.int)]/\h.get? a=some { cls:=.type "list",data:=.seq vs.toArray }/\IntsAre vs ns/\ns.length<=n:=by
 have L:WShape.hasAll [] args [.list .int]=true:=(pre_splitW B).1;have O:l.pre.holds [] { args:=args }=true:=(pre_splitW B).2;obtain⟨d,r,rfl,h1,h2⟩:=hasAllW_cons L;obtain rfl:=hasAllW_nil h2;obtain⟨xs,rfl,Y⟩:=hasW_list h1;obtain⟨ns,rfl⟩:=items_int Y
 have F:ns.length<=n:=by
  unfold OpenLaw.pre at O
  have U:(WTm.not (.lt (.lit (.int (n:Int))) (.len (.arg 0)))).holds [] { args:=[.list (ns.map .int)] }=true:=by
   have U:=(holds_andW O).1
   simp_all
  have h5:=condW_of U (w_not (w_lt w_lit (w_len_list (w_arg rfl))))
  grind
 cases J with
 | cons Z w2=>
  cases w2
  cases Z with
  | list ho I=>exact⟨_,_,ns,rfl,rfl,ho,zbb ns _ I,F⟩
def zie (l:OpenLaw)(args:List WData):l.row.toRowW.claim.post args (.bool true) args=true:=
 postW_of (r:=l.row.toRowW) (X:=(true==true))
  (show WShape.has [] (.bool true) .bool=true by first | rfl | decide | simp[WShape.has,WShape.arms,WShape.armsAll])
  (show (WTm.eq .res (.lit (.bool true))).value [] { args:=args,res:=some (.bool true),after:=args }=some (.bool (true==true)) from w_eq_bool (w_res rfl) w_lit) rfl
def attach_call{l:OpenLaw}{q:Program}{F:List Str}{XP:(Str->Option Value)->Heap->Prop}{YP:World->Heap->Prop}{d:DefRec}(hn:l.most=some n)(ad:d.params.defaults=[])(O:∀ (w:World) (I B:Shared) (mg mb:Str->Option Value) (fa:Addr) (o:Obj) (pm cd J:Value) (a:Addr) (vs:List Value) (ns:List Int),
   Ground q F [] XP w I mg mb B.heap->YP w B.heap->
   B.heap.get? fa=some o->o.data = .func (docDef d.name d.params d.body d.scope pm cd J)->B.heap.CodeRec cd d.name->mg d.name=some (.ref fa)->
   B.heap.get? a=some { cls:=.type "list",data:=.seq vs.toArray }->IntsAre vs ns->ns.length<=n->B.gens = #[]->
   codeAny (model l.prog w) callerA (.call (.ref fa) ⟨[.ref a],[]⟩) (λr s'=>r = .ok (.ret (.bool true))/\OldK B.heap s'.heap/\s'.os=B.os/\AllBare s'.gens) B) :
  WalkO q F XP YP l.row.toRowW d [] (λf vs=>PySem.call f vs):=by
 intro w I B mg mb G Y fa o pm cd J dV kV ho hd ag hD al hg args a0 as U a1 a2 an a3;obtain rfl:dV = .none:=Dflts.none hD ad;obtain rfl:kV = .none:=Dflts.noKw hD;obtain⟨a,vs,ns,rfl,rfl,Z,L,ab⟩:=ziL hn U an;refine enter_call (codeAny_mono (O w I B mg mb fa o pm cd J a vs ns G Y ho (fd_plain hd) ag al Z L ab hg) λr s' hq=>?_);obtain⟨rfl,h2,h3,h4⟩:=hq;exact⟨.inl ⟨.bool true,.bool true,[],rfl,λ_=>rfl,.bool true,zie l _,λ_=>⟨List.Pairwise.nil,λ_ hm=>(nomatch hm)⟩⟩,h2,h3,h4⟩
section
variable {prog:Program}{w:World}{A:Around}{E:Value->Shared->Prop}{s:Shared}{K:Frag}
def ledger (h:Heap)(L d:Addr):List (Addr×Obj):=(List.range h.objs.size).filterMap λa=>if a=L\/a=d then none else (h.get? a).map λo=>(a,o)
end
end Att
namespace L2
open PySem PySem.Spec PyProof.Rows
def zd8:∀ {vs:List Value} {ns:List Int},IntsAre vs ns->zY (ns.map V.int) vs
 | _,_,.nil=>.nil
 | _,_,.cons n t h=>.cons ⟨t,rfl⟩ (zd8 h)
def uC (s:Stmt):Arguments:=match s with
 | .FunctionDef _ a _ _ _ _ _ _ _ _=>a
 | _=>{ posonlyargs:=[],args:=[],vararg:=none,kwonlyargs:=[],kw_defaults:=[],kwarg:=none,defaults:=[] }
def zU (s:Stmt):List Stmt:=match s with
 | .FunctionDef _ _ b _ _ _ _ _ _ _=>b
 | _=>[]
def zd (s:Stmt):Scope:=match s with
 | .FunctionDef _ _ _ _ _ _ q _ _ _=>q
 | _=>{ kind:=.function,names:=[],isGenerator:=false,isCoroutine:=false }
abbrev CX0:CXT:=λ_ _ _ _ _ _=>False
abbrev E0:XK:=λ_ _ _=>False
def ztf:zfa CX0 X E0:=λ_ _ _ _ _ _ _ h=>h.elim
structure Fun (K:PySem.W.Frag)(x qual:Str)(st:Stmt)(f:Addr)(fd:FuncData):Prop where
 ex:∃ (oc:Value) (od:Option Addr) (kV doc pm:Value) (an:Option Addr) (cdv ct:Value) (osl:Array (Option Value)),
  fd=PySem.W.fnOf x qual (uC st) (zU st) (zd st) .none kV doc pm an cdv ct/\K.lookup f=some ⟨oc,od,.func fd,osl⟩/\PySem.W.codeIn K cdv qual=true
 kp:PySem.W.keepIn K (.ref f)=true
section
variable {P:Program}{w:World}{K:PySem.W.Frag}{mg:Str->Option Value}{base:Heap}
def Fun.ok{x qual:Str}{st:Stmt}{f:Addr}{fd:FuncData}{N ps:List Str}{sp:Sp}(F:Fun K x qual st f fd)(S:FnScope N ps (zd st))(J:∀vs H Q E,sp vs H Q E->vs.length=ps.length)(I:∀ (B:Value) (A:Around) (outer:List Env) (s:Shared) (H:Hp) (vs:List V) (Q:VK) (E:XK),Room k (A.deeper (envOfC qual (zd st) s.heap.objs.size f B))->sp vs H Q E->
   ∃t,PSs (zaN CX0 P w K mg base N qual (zd st) f B A outer s H E).nox (zU st) t/\t { nx:=λ_ H'=>Q .non H',rt:=Q } (yO N vs) H):FnOk P w K mg base CX0 (k+1) f fd ps sp:=by
 obtain⟨oc,od,kV,U,pm,an,B,ct,Y,rfl,Z,L⟩:=F.ex;refine zl1 Z L S J λA outer s H vs Q E hr O=>?_;obtain⟨t,h,q⟩:=I B A outer s H vs Q E hr O;exact⟨t,h.nox,q⟩
def Fun.binds {x qual:Str}{st:Stmt}{f:Addr}{fd:FuncData}{ps:List Str}(F:Fun K x qual st f fd)
  (h:∀ (kV q I:Value) (J:Option Addr) (B ct:Value) (us:List Value),us.length=ps.length->bindArgs (PySem.W.fnOf x qual (uC st) (zU st) (zd st) .none kV q I J B ct) ⟨us,[]⟩=pure (ps.zip us)):zec K fd ps []:=by
 obtain⟨U,Y,kV,q,I,J,B,ct,L,rfl,Z,O⟩:=F.ex;exact .all (h kV q I J B ct)
def zk4{x qual:Str}{st:Stmt}{f:Addr}{O I:Option Addr}{F:Array (Option Value)}{kV B J q ct:Value}(l:K.lookup f=some ⟨L,O,.func (PySem.W.fnOf x qual (uC st) (zU st) (zd st) .none kV B J I q ct),F⟩)(c:PySem.W.codeIn K q qual=true)(k:PySem.W.keepIn K (.ref f)=true):Fun K x qual st f (PySem.W.fnOf x qual (uC st) (zU st) (zd st) .none kV B J I q ct):=⟨⟨L,O,kV,B,J,I,q,ct,F,rfl,l,c⟩,k⟩
end
def uh(q:Room k A):A.units+1<cLine:=be (Nat.add_le_add_left (by decide:1<=64) _) q.units
def zd0(h:n<=1000):n<sizeLine:=be h (by decide)
section
variable {X:Cx}
end
def iteF {A B:Prop}(h:B):if false=true then A else B:=by grind
def iteT {A B:Prop}(h:A):if true=true then A else B:=by grind
def zrs {c A B:Prop}[Decidable c](h1:c->A)(h2:¬ c->B):if c then A else B:=by grind
def yz (H H':Hp):Prop:=∀b o,H b=some o->H' b=some o
def yz.seq{K:PySem.W.Frag}{H H':Hp}{a:Addr}(e:yz H H')(h:SqL K H a xs):SqL K H' a xs:=by
 rcases h with (h | ⟨o,h⟩) | h
 ·exact .inl (.inl (e _ _ h))
 ·exact .inl (.inr ⟨o,e _ _ h⟩)
 ·exact .inr h
section
variable {κ:Type}[DecidableEq κ]
end
section
variable {X:Cx}
def zej:zbS X (.builtin "isinstance") (λxs H Q=>∃x T t b,xs=[x,.ty T]/\TyOf X.K H x t/\PySem.W.kitOne X.K t (.type T)=some b/\Q (.bl b) H):=by intro pins s σ H xs us Q I r h;obtain⟨x,T,t,b,rfl,ty,e,q⟩:=h;obtain⟨u,c,rfl,B,F⟩:=ziY r;cases F;exact zhm I B ty e λtk=>⟨.bl b,H,I.tok tk,rfl,q⟩
def ziw (K:PySem.W.Frag):R2:=λx y H Q=>∃a b xs ys,x = .ref a/\y = .ref b/\H a=some (.tup xs)/\H b=some (.tup ys)/\xs.length+ys.length<=sizeLine/\
 ∀p H',H' p=some (.tup (xs++ys))->yz H H'->Q (.ref p) H'
def zmW:OpR X (binaryOp .Add) (ziw X.K):=by
 intro pins s σ H x y v u Q I rx ry h;obtain⟨a,b,xs,ys,rfl,rfl,ha,O,hz,q⟩:=h;by_cases hx:xs=[]
 ·subst hx;cases rx;cases ry;obtain⟨its,r1,p1,_⟩:=I.tuple (.of ha);obtain⟨B,r2,p2,_⟩:=I.tuple (.of O);obtain⟨⟨cls,dd,data,sl⟩,ho,hc,n,hd⟩:=id p1;obtain⟨⟨ab,U,Y,Z⟩,F,J,n2,L⟩:=id p2;simp only at hc hd J L;subst hc hd J L;have hi:its=[]:=r1.nil_iff.mpr rfl
  exact concat_meets ⟨_,ho,rfl⟩ ⟨_,F,rfl⟩ fD seq_tuple_add dN dw (dh _ _)
   (tuple_addW0 a b its.toArray B.toArray n n2 dd U sl Z (by simp[hi])) ⟨ho,F,⟨.ref b,H,I,rfl,q b H O λ_ _ e=>e⟩⟩
 ·refine zmX pins s σ H _ _ v u Q I rx ry ⟨a,b,xs,ys,rfl,rfl,.of ha,.of O,hx,hz,λe=>?_,λe p hp=>?_⟩
  ·subst e;exact q a H (by simp_all) λ_ _ e=>e
  ·exact q p _ zg λc o e=>by rw[zb (zc e hp)];exact e
end
section
variable {X:Cx}
end
end L2
namespace HT
open PySem PySem.Spec PyProof.Rows
section
variable {prog:Program}{w:World}{A:Around}{E:Value->Shared->Prop}{s:Shared}
def getItem_tuple_whole{lo hi:Option Int}(q:IsTup s.heap t items)(Y:s.heap.IsSliceOf F O U .none)(pl:IsPart O lo)(Z:IsPart U hi)(hw:sIx items.size 0 lo=0/\sIx items.size items.size hi=items.size)(h:Q (.ref t) s)(hsz:items.size<=sizeLine):wpAny (model prog w) A (getItem (.ref t) (.ref F)) Q E s:=by
 obtain⟨os,I,J,ab⟩:=id Y;have L:s.TypeIs (.ref F) "slice" := ⟨os,I,J⟩;unfold getItem;try with_reducible refine wpAny_holding ?_
 first | refine wpAny_bind (wpAny_pure ?_) | skip
 refine wpAny_bind (wpAny_sequenceKey q.typeIs (by decide) ?_)
 refine wpAny_bind (wpAny_callSpecial?_slot (name:=Str.ofString "__getitem__") q.typeIs PyProof.Rows.slot_tuple_getitem
  (wpAny_call_entry PyProof.Rows.slot_tuple_getitem q.typeIs entry_tuple_getitem ?_ (args_tuple_getitem _ _)))
 show wpAny _ _ (Builtin.Tuple.tupleItemsOf (.ref t) >>= _) _ _ s;refine wpAny_bind (tupleItemsOf_ q ?_);refine wpAny_bind (wpAny_typeOf L ?_);rw[if_pos (by decide)];refine wpAny_bind (xR Y pl Z ?_)
 have B:(((sIx items.size 0 lo:Nat):Int)==0&&(1:Int)==1&&(sIx items.size items.size hi - sIx items.size 0 lo)==items.size)=true:=by simp_all
 show wpAny _ _ (if (((sIx items.size 0 lo:Nat):Int)==0&&(1:Int)==1&&(sIx items.size items.size hi - sIx items.size 0 lo)==items.size)=true then _ else _) _ _ s;rw[if_pos B];unfold Builtin.Tuple.tupleIsExact;refine wpAny_bind (wpAny_bind (wpAny_typeOf q.typeIs ?_));refine wpAny_pure ?_;rw[if_pos (by decide)];refine wpAny_bind (wpAny_rule ?_);exact wpAny_pure ⟨_,rfl,wpAny_pure h⟩
end
end HT
namespace L2
open PySem PySem.Spec PyProof.Rows
section
variable {X:Cx}
def rSlA:V->Option Int->Option Int->Hp->VK->Prop:=λx lo hi H Q=>∃a xs,x = .ref a/\H a=some (.tup xs)/\∀p H',H' p=some (.tup (zgt xs lo hi))->yz H H'->Q (.ref p) H'
def znN:SlR X rSlA:=by
 intro pins s σ H x v Z vu lo hi sl Q I F J pl L h;obtain⟨a,xs,rfl,O,q⟩:=h;by_cases U:HT.sIx xs.length 0 lo=0/\HT.sIx xs.length xs.length hi=xs.length
 ·cases F;obtain⟨its,r,Y,hz⟩:=I.tuple (.of O);have B:its.toArray.size=xs.length:=by rw[aR];exact r.length.symm
  refine⟨"tuple",_,PyProof.Rows.slot_tuple_getitem.lookup,Y.typeIs,?_⟩;refine HT.getItem_tuple_whole Y J pl L (by rw[B];exact U) ⟨.ref a,H,I,rfl,q a H ?_ λ_ _ e=>e⟩ (by rw[B];exact hz);unfold zgt
  grind
 ·exact zqP pins s σ H _ v Z vu lo hi sl Q I F J pl L ⟨a,xs,rfl,.of O,U,λp hp=>q p _ zg λc o e=>by rw[zb (zc e hp)];exact e⟩
inductive Dt where
 | non | bl (b:Bool) | int (i:Int) | str (x:Str) | tup (l:List Dt) | lst (l:List Dt) | dct
mutual
def Is (H:Hp):Dt->V->Prop
 | .non,v=>v = .non
 | .bl b,v=>v = .bl b
 | .int i,v=>v = .int i
 | .str x,v=>v = .str x
 | .tup l,v=>∃a xs,v = .ref a/\H a=some (.tup xs)/\IsL H l xs
 | .lst l,v=>∃a xs,v = .ref a/\Rd H a (.lst xs)/\IsL H l xs
 | .dct,v=>∃a kvs,v = .ref a/\H a=some (.dK kvs)/\kvs=[]
def IsL (H:Hp):List Dt->List V->Prop
 | [],xs=>xs=[]
 | d::ds,xs=>∃x r,xs=x::r/\Is H d x/\IsL H ds r
end
def kO (d:Addr)(ob:Obj):HO:=.ext λh=>h.get? d=some ob
open Classical in
@[reducible] noncomputable def pnK:HO->Option (List (Key×V))
 | .dK kvs=>some kvs
 | .ext q=>if (∃d ob,(∃h:Heap,h.get? d=some ob)/\q=λh=>h.get? d=some ob) then some [(Sum.inr "at",.non)] else none
 | _=>none
def zn (H H':Hp):Prop:=∀b o,H b=some o->(∀kvs,pnK o=some kvs->xg kvs (Sum.inr "at" : Key)=none)->H' b=some o
def zn.refl (H:Hp):zn H H:=λ_ _ e _=>e
def zn.trans(a:zn H H1)(b:zn H1 H2):zn H H2:=λc o e n=>b c o (a c o e n) n
def zn.same(a:yz H H1):zn H H1:=λc o e _=>a c o e
def zn.upd(h:H p=none):zn H (upd H p o):=λc u e _=>by rw[zb (zc e h)];exact e
def yz.upd(h:H p=none):yz H (upd H p o):=λc u e=>by rw[zb (zc e h)];exact e
def zn.tup(a:zn H H1)(h:H p=some (.tup xs)):H1 p=some (.tup xs):=a _ _ h λ_ e=>by cases e
def zn.rdl(a:zn H H1)(h:Rd H p (.lst xs)):Rd H1 p (.lst xs):=h.imp (λh=>a _ _ h λ_ e=>by cases e) λ⟨o,h⟩=>⟨o,a _ _ h λ_ e=>by cases e⟩
def Rd.same {H H1:Hp}{u:HO}{p:Addr}(h:Rd H p u)(a:yz H H1):Rd H1 p u:=h.imp (a _ _) λ⟨o,h⟩=>⟨o,a _ _ h⟩
def Rd.upd(h:Rd H p u)(k:H D=none):Rd (L2.upd H D o) p u:=h.same λb v e=>by rw[zb (zc e k)];exact e
def zn.lst(a:zn H H1)(h:H p=some (.lst xs)):H1 p=some (.lst xs):=a _ _ h λ_ e=>by cases e
mutual
def Is.stay {H H1:Hp}(a:zn H H1):∀ {d:Dt} {v:V},Is H d v->Is H1 d v
 | .non,_,h=>h
 | .bl _,_,h=>h
 | .int _,_,h=>h
 | .str _,_,h=>h
 | .tup l,v,h=>by obtain⟨p,xs,e,hp,hl⟩:=h;exact⟨p,xs,e,a.tup hp,IsL.stay a hl⟩
 | .lst l,v,h=>by obtain⟨p,xs,e,hp,hl⟩:=h;exact⟨p,xs,e,a.rdl hp,IsL.stay a hl⟩
 | .dct,v,h=>by obtain⟨p,kvs,e,hp,hl⟩:=h;exact⟨p,kvs,e,a _ _ hp λkvs' e=>by cases e;subst hl;rfl,hl⟩
def IsL.stay {H H1:Hp}(a:zn H H1):∀ {ds:List Dt} {xs:List V},IsL H ds xs->IsL H1 ds xs
 | [],_,h=>h
 | d::ds,xs,h=>by obtain⟨x,r,e,h1,h2⟩:=h;exact⟨x,r,e,Is.stay a h1,IsL.stay a h2⟩
end
def IsL.length:∀ {ds:List Dt} {xs:List V},IsL H ds xs->xs.length=ds.length
 | [],_,h=>by cases h;rfl
 | d::ds,xs,h=>by obtain⟨x,r,rfl,_,h2⟩:=h;rw[aN,aN,IsL.length h2]
def IsL.get:∀ {ds:List Dt} {xs:List V} {i:Nat} {x:V},IsL H ds xs->xs[i]?=some x->∃d,ds[i]?=some d/\Is H d x
 | [],_,_,_,h,e=>by cases h;simp at e
 | d::ds,xs,i,x,h,e=>by
  obtain⟨y,r,rfl,h1,h2⟩:=h
  cases i with
  | zero=>simp at e;subst e;exact⟨d,rfl,h1⟩
  | succ i=>
   obtain⟨d',q,B⟩:=IsL.get (i:=i) (x:=x) h2 (by simpa using e)
   simp_all
def IsL.getD:∀ {ds:List Dt} {xs:List V} {i:Nat} {d:Dt},IsL H ds xs->ds[i]?=some d->∃x,xs[i]?=some x/\Is H d x
 | [],_,_,_,_,e=>by simp at e
 | d::ds,xs,i,x,h,e=>by
  obtain⟨y,r,rfl,h1,h2⟩:=h
  cases i with
  | zero=>simp at e;subst e;exact⟨y,rfl,h1⟩
  | succ i=>
   obtain⟨d',q,B⟩:=IsL.getD (i:=i) (d:=x) h2 (by simpa using e)
   simp_all
def IsL.append:∀ {ds es:List Dt} {xs ys:List V},IsL H ds xs->IsL H es ys->IsL H (ds++es) (xs++ys)
 | [],_,_,_,h,k=>by cases h;exact k
 | d::ds,es,xs,ys,h,k=>by obtain⟨y,r,rfl,h1,h2⟩:=h;exact⟨y,r++ys,rfl,h1,IsL.append h2 k⟩
def IsL.take:∀ {ds:List Dt} {xs:List V} (n:Nat),IsL H ds xs->IsL H (ds.take n) (xs.take n)
 | _,_,0,_=>by simp[IsL]
 | [],_,n+1,h=>by cases h;simp[IsL]
 | d::ds,xs,n+1,h=>by obtain⟨y,r,rfl,h1,h2⟩:=h;exact⟨y,r.take n,rfl,h1,IsL.take n h2⟩
def IsL.drop:∀ {ds:List Dt} {xs:List V} (n:Nat),IsL H ds xs->IsL H (ds.drop n) (xs.drop n)
 | _,_,0,h=>h
 | [],_,n+1,h=>by cases h;simp[IsL]
 | d::ds,xs,n+1,h=>by obtain⟨y,r,rfl,h1,h2⟩:=h;exact IsL.drop n h2
def IsL.one(h:Is H d x):IsL H [d] [x]:=⟨x,[],rfl,h,rfl⟩
def IsL.ints:∀ {ns:List Int},IsL H (ns.map .int) (ns.map .int)
 | []=>rfl
 | n::ns=>⟨_,_,rfl,rfl,IsL.ints⟩
def IsL.of_ints:∀ {ns:List Int} {xs:List V},IsL H (ns.map .int) xs->xs=ns.map .int
 | [],_,h=>h
 | n::ns,xs,h=>by obtain⟨y,r,rfl,h1,h2⟩:=h;cases h1;rw[IsL.of_ints h2];rfl
def Dt.ty:Dt->String
 | .non => "NoneType" | .bl _ => "bool" | .int _ => "int" | .str _ => "str" | .tup _ => "tuple" | .lst _ => "list" | .dct => "dict"
def Is.ty {K:PySem.W.Frag}{H:Hp}:∀ {d:Dt} {v:V},Is H d v->TyOf K H v (.type d.ty)
 | .non,_,h=>by cases h;exact .non
 | .bl _,_,h=>by cases h;exact .bl _
 | .int _,_,h=>by cases h;exact .int _
 | .str _,_,h=>by cases h;exact .str _
 | .tup l,v,h=>by obtain⟨p,xs,rfl,hp,q⟩:=h;exact .tup hp
 | .lst l,v,h=>by obtain⟨p,xs,rfl,hp,q⟩:=h;exact hp.elim .lst λ⟨_,hp⟩=>.frz hp
 | .dct,v,h=>by obtain⟨p,xs,rfl,hp,q⟩:=h;exact .dK hp
@[reducible] def Dt.isTup:Dt->Bool
 | .tup _=>true | _=>false
@[reducible] def Dt.isLst:Dt->Bool
 | .lst _=>true | _=>false
@[reducible] def Dt.isInt:Dt->Bool
 | .int _=>true | .bl _=>true | _=>false
@[reducible] def Dt.isBl:Dt->Bool
 | .bl _=>true | _=>false
def Dt.isWhole:Dt->Bool
 | .int _=>true | _=>false
def zmx (K:PySem.W.Frag)(d:Dt):PySem.W.kitOne K (.type d.ty) (.type "tuple")=some d.isTup:=by cases d <;> rfl
def zpf (K:PySem.W.Frag)(d:Dt):PySem.W.kitOne K (.type d.ty) (.type "bool")=some d.isBl:=by cases d <;> rfl
end
open PySem PySem.Spec PyProof.Rows
def zfe (env:Env):List (Str×NameKind)->List (Str×Addr)->List (Str×Addr)
 | [],cs=>cs
 | x::r,cs=>zfe env r (if (x.2==NameKind.free)=true then (x.1,(env.cells.lookup x.1).getD 0)::cs else cs)
def zb9(h:∀x∈scope.names,x.2 = .free->∃c,env.cells.lookup x.1=some c):closureFor scope env=pure (zfe env scope.names []):=by
 have gen:∀ (names:List (Str×NameKind)) (cs:List (Str×Addr)),(∀x∈names,x.2 = .free->∃c,env.cells.lookup x.1=some c)->
   (forIn names cs (λx r=>match x with
    | (name,kind)=>if (kind==NameKind.free)=true then do let a <- cellOf env name;pure (ForInStep.yield ((name,a)::r)) else pure (ForInStep.yield r)):Sem (List (Str×Addr)))=pure (zfe env names cs):=by
  intro names
  induction names with
  | nil=>intro cs _;rfl
  | cons x r ih=>
   intro cs hh;obtain⟨n,k⟩:=x;rw[eG];by_cases hk:(k==NameKind.free)=true
   ·obtain⟨c,hc⟩:=hh (n,k) aL (eq_of_beq hk);have hc':env.cells.lookup n=some c:=hc;have e:cellOf env n=pure c:=by unfold cellOf;rw[hc']
    simp only[hk,if_true,e,pure_bind];rw[ih _ λy hy=>hh y (av _ hy)];show pure _=pure (zfe env r (if (k==NameKind.free)=true then (n,(env.cells.lookup n).getD 0)::cs else cs))
    simp_all
   ·simp only[hk,pure_bind]
    have e2:zfe env ((n,k)::r) cs=zfe env r cs:=by show zfe env r (if (k==NameKind.free)=true then _ else cs)=_;rw[if_neg hk]
    simp_all
 unfold closureFor;have:=gen scope.names [] h;simpa using this
def uM:∀ {names:List (Str×NameKind)} {cs:List (Str×Addr)} {x:Str} {c:Addr},(∀y∈names,y.2 = .free->∃c,env.cells.lookup y.1=some c)->(zfe env names cs).lookup x=some c->env.cells.lookup x=some c\/cs.lookup x=some c
 | [],_,_,_,_,h=>.inr h
 | (n,k)::r,cs,x,c,B,h=>by
  have q:=uM (names:=r) (x:=x) (c:=c) (λy F=>B y (av _ F)) h;rcases q with q | q
  ·exact .inl q
  ·by_cases I:(k==NameKind.free)=true
   ·obtain⟨J,L⟩:=B (n,k) aL (eq_of_beq I)
    grind
   ·simp_all
def zb7:∀ {names:List (Str×NameKind)} {cs:List (Str×Addr)} {x:Str},(∃c,cs.lookup x=some c)->∃c,(zfe env names cs).lookup x=some c
 | [],_,_,h=>h
 | (n,k)::r,cs,x,h=>by
  refine zb7 (names:=r) ?_
  grind
def uc:∀ {names:List (Str×NameKind)} {cs:List (Str×Addr)} {x:Str},names.lookup x=some .free->∃c,(zfe env names cs).lookup x=some c
 | [],_,_,h=>by simp at h
 | (n,k)::r,cs,x,h=>by
  rw[List.lookup_cons] at h
  cases e:x==n with
  | true=>
   rw[e] at h;have h':some k=some NameKind.free:=h;cases h';refine zb7 (names:=r) ?_
   simp_all
  | false=>
   rw[e] at h;exact uc (names:=r) h
def yt {env:Env}:∀ {names:List (Str×NameKind)} {x:Str} {k:NameKind},(∀y∈names,y.2≠.cell)->
  (names.map λ(n,k)=>if (k==NameKind.free&&env.scope.kind==.function&&env.kindOf n==some .cell) then (n,NameKind.cell) else (n,k)).lookup x=some k->(k = .cell\/k = .free)->names.lookup x=some .free
 | [],_,_,_,h,_=>by simp at h
 | (n,k)::r,x,q,B,h,I=>by
  have J:=@yt env r x q (λy F=>B y (av _ F))
  grind
def xa {env:Env}:∀ {names:List (Str×NameKind)} {x:Str},names.lookup x=some .free->
  (names.map λ(n,k)=>if (k==NameKind.free&&env.scope.kind==.function&&env.kindOf n==some .cell) then (n,NameKind.cell) else (n,k)).lookup x=some .cell\/
  (names.map λ(n,k)=>if (k==NameKind.free&&env.scope.kind==.function&&env.kindOf n==some .cell) then (n,NameKind.cell) else (n,k)).lookup x=some .free
 | [],_,h=>by simp at h
 | (n,k)::r,x,h=>by
  have q:=@xa env r x
  grind
def zH (X:Cx)(scope:Scope)(N:List Str)(C:Addr)(s:Shared)(H:Hp)(ex:List Addr):Cx where
 prog:=X.prog
 w:=X.w
 K:=X.K
 mg:=X.mg
 base:=X.base
 A:=X.A
 N:=N
 s₀:=s
 H₀:=H
 env:=compEnvC scope (zfe X.env scope.names []) C X.env
 outer:=X.stack
 stack:=X.stack
 ex:=ex
 fn:=λ_=>false
 calm:=X.calm
 pn:=[]
 xe:=λ_ _=>False
def caps (XN:List Str)(Xnames names:List (Str×NameKind))(N:List Str)(cix:List (Option Nat)):Bool:=
 N.length==cix.length&&(names.all λy=>y.2 != .cell)&&((N.zip cix).all λp=>match p.2 with
  | none=>true
  | some i=>XN[i]?==some p.1&&names.lookup p.1==some .free&&(Xnames.lookup p.1==some .cell || Xnames.lookup p.1==some .free)) &&
 (names.all λy=>y.2 != .free || (Xnames.lookup y.1==some .cell || Xnames.lookup y.1==some .free))
def zbV (σ:St)(cix:List (Option Nat)):St:=cix.map λo=>match o with
 | none=>none
 | some i=>(σ[i]?).join
structure CompOk (X:Cx)(scope:Scope)(N:List Str)(cix:List (Option Nat)):Prop where
 kind:scope.kind = .function
 names:∀x∈scope.names,x.2 = .local->scope.names.lookup x.1=some .local
 caps:caps X.N X.env.scope.names scope.names N cix=true
section
variable {X:Cx}{pins:List (Addr×Obj)}{σ:St}{H:Hp}{s:Shared}{scope:Scope}{N:List Str}{cix:List (Option Nat)}
def CompOk.cell (c:CompOk X scope N cix):∀y∈scope.names,y.2≠.cell:=λy q e=>by
 have h:=c.caps;unfold L2.caps at h;rw[aH,aH,aH] at h;have:=a9.mp h.1.1.2 y q
 simp_all
def CompOk.len (c:CompOk X scope N cix):N.length=cix.length:=by
 have h:=c.caps;unfold L2.caps at h
 simp_all
def CompOk.cells (c:CompOk X scope N cix)(B:X.Ok):∀x∈scope.names,x.2 = .free->∃a,X.env.cells.lookup x.1=some a:=λx F e=>by
 have h:=c.caps;unfold L2.caps at h;rw[aH] at h;have q:=a9.mp h.2 x F;rw[e] at q;have I:(X.env.scope.names.lookup x.1==some NameKind.cell || X.env.scope.names.lookup x.1==some NameKind.free)=true:=by simpa using q
 rcases Bool.or_eq_true_iff.mp I with q | q
 ·exact B.has _ (.inl (eq_of_beq q))
 ·exact B.has _ (.inr (eq_of_beq q))
def CompOk.cap (c:CompOk X scope N cix){j i:Nat}{x:Str}(h1:N[j]?=some x)(h2:cix[j]?=some (some i)):X.N[i]?=some x/\scope.names.lookup x=some .free/\(X.env.scope.names.lookup x=some .cell\/X.env.scope.names.lookup x=some .free):=by
 have h:=c.caps;unfold L2.caps at h;rw[aH,aH] at h
 have B:(x,some i)∈N.zip cix:=by refine aC (i:=j) ?_;rw[List.getElem?_zip_eq_some];exact⟨h1,h2⟩
 have q:=a9.mp h.1.2 _ B
 grind
def zjx {fp:List Addr}{h':Heap}{tk:Nat}{m:Str->Option Value}(I:Inv X pins σ H s)(c:CompOk X scope N cix)(hf:∀b∈fp,zdd X pins H b)(Z:∀b∈fp,b<s.heap.objs.size)
  (hn:h'.Ns s.heap.objs.size m) (Y:∀b o,s.heap.get? b=some o->h'.get? b=some o) :
  Inv (zH X scope N s.heap.objs.size s H fp) [] (zbV σ cix) H { s with heap:=h',toks:=tk }:=by
 have ab:=c.cells I.ok
 have B:∀x a,(zfe X.env scope.names []).lookup x=some a->X.env.cells.lookup x=some a:=λx a e=>by
  rcases uM ab e with z | z
  ·exact z
  ·simp at z
 refine⟨⟨I.mod,c.kind,I.ok.glob,I.ok.blt,af _,λx y a e1 e2=>I.ok.inj x y a (B x a e1) (B y a e2),λx hx=>?_,λx a z _=>absurd (show (false:Bool)=true from z) (by decide),I.ok.hd,I.ok.frames,.inl rfl,
  λb J=>⟨aD (Z b J),λx a e=>(hf b J).2.2.2.2.1 x a (B x a e)⟩,I.bs,ah I.ok.bsz I.sz,λb o e J=>?_,λb J z=>?_,I.stack,I.stkFree⟩,
  I.os ▸ rfl,I.bare,Un.kept Y,⟨m,hn,λj x v h1 h2 h3=>?_⟩,λx a e=>?_,I.hok.fresh (af _),λx a e=>I.freeC x a (B x a e),λp hp=>absurd (show p∈([]:List (Addr×Obj)) from hp) (by simp),I.hok.kept Y,?_⟩
 ·have ad:((relabel scope X.env).names.lookup x=some .cell\/(relabel scope X.env).names.lookup x=some .free):=hx;rcases ad with z | z
  ·exact uc (yt c.cell z (.inl rfl))
  ·exact uc (yt c.cell z (.inr rfl))
 ·rcases (hf b J).2.2.2.1 with z | z
  ·exact I.ok.noex b o e z
  ·exact absurd (aI (ak e) (ah I.ok.bsz z)) (bW _)
 ·rcases ax.mp (I.stkSub b z) with e | e
  ·exact (hf b J).2.1 e
  ·exact (hf b J).2.2.1 e
 ·have ag:N[j]?=some x:=h1;unfold zbV at h2;rw[aB] at h2
  cases e:cix[j]? with
  | none=>rw[e] at h2;cases h2
  | some o=>
   rw[e] at h2
   cases o with
   | none=>cases h2
   | some i=>
    have F:(σ[i]?).join=some v:=bh h2
    have O:σ[i]?=some (some v):=by
     cases q:σ[i]? with
     | none=>rw[q] at F;cases F
     | some z=>rw[q] at F;have:z=some v:=F;rw[this]
    obtain⟨q1,q2,q3⟩:=c.cap ag e;obtain⟨m0,an,al⟩:=I.loc;obtain⟨u,ru,hu⟩:=al i x v q1 O (q3.elim (λz=>.inr (.inl z)) λz=>.inr (.inr z));refine⟨u,ru,.inr ⟨xa q2,?_⟩⟩;rcases hu with ⟨z,_⟩ | ⟨_,a,ha,hcell⟩
    ·have z':X.env.scope.names.lookup x=some .local:=z
     simp_all
    ·obtain⟨a',U⟩:=uc (env:=X.env) (cs:=[]) q2;have:a'=a:=by have:=(B x a' U).symm.trans ha;exact bh this
     subst this;obtain⟨oc,L,hd⟩:=hcell;exact⟨a',U,oc,Y _ _ L,hd⟩
 ·obtain⟨v,oc,L,hd⟩:=I.cell x a (B x a e);exact⟨v,oc,Y _ _ L,hd⟩
 ·show (zbV σ cix).length=N.length;unfold zbV;rw[ac,c.len]
def zeu(x:HOk P w H h)(F:H a=none)(B:Heap.SameBut a h h'):HOk P w H h':=λb o e=>by
 refine (x b o e).stay (λc u I q=>(B.2 c ?_).trans q) (λ_ q=>q) λ_ _ q=>q
 grind
def zgb{O:St}{H':Hp}{s':Shared}(I:Inv X pins σ H s)(hf:∀b∈fp,zdd X pins H b)(I':Inv (zH X scope N s.heap.objs.size s H fp) [] O H' s')(L:Heap.SameBut s.heap.objs.size s'.heap F) :
  Inv X pins σ H' { s' with heap:=F }:=by
 have U:∀b o,s.heap.get? b=some o->b≠s.heap.objs.size:=λb o e=>aD (ak e);have u:=I'.base;refine Inv.call' (ch:=fp) I I'.os ⟨λb o e n B J=>?_,λb o e n B J=>?_,u.free,λb o e J=>?_,u.tups,u.frzs,u.tbls⟩ (zeu I'.hok I'.free L) I'.bare λb B=>⟨(hf b B).2.2.2.1,(hf b B).2.1,(hf b B).2.2.2.2.1,(hf b B).2.2.2.2.2⟩
 ·exact (L.2 b (U b o e)).trans (u.keep b o e n B J)
 ·obtain⟨Y,q⟩:=u.slot b o e n B J;exact⟨Y,(L.2 b (U b o e)).trans q⟩
 ·obtain⟨o',q⟩:=u.there b o e J;exact⟨o',(L.2 b (U b o e)).trans q⟩
end
section
variable {prog:Program}{w:World}{A:Around}{R:Result->Shared->Prop}{s:Shared}
def zcv(I:Nat->Shared->Prop)(turn:∀n s,I n s->wpAny (model prog w) A (pyNext it) (λr s₁=>match r with
   | none=>R (.ok .next) s₁
   | some v=>wpAny (model prog w) A (letOwnedTupleGo target it v) (λ_ s₂=>wpAny (model prog w) A (assign target env v) (λ_ s₃=>
     wpAny (model prog w) A (forIn ifs true λc r=>if r=true then do let ok <- isTrue c env (eval c env);pure (ForInStep.yield ok) else pure (ForInStep.yield r)) (λok s₄=>
      if ok=true then wpAny (model prog w) A (eval elt env) (λx s₅=>
       wpAny (model prog w) A (call (.builtin "list.append") [acc,x]) (λ_ s₆=>∃m,m<n/\I m s₆) (λ_ _=>False) s₅) (λ_ _=>False) s₄
      else ∃m,m<n/\I m s₄) (λ_ _=>False) s₃) (λ_ _=>False) s₂) (λ_ _=>False) s₁) (λ_ _=>False) s)(n:Nat)(h:I n s) :
  codeAny (model prog w) A (.compLoop (.ListComp elt [⟨target,iter,ifs,0⟩] scope pos) 0 it acc env) R s:=by
 refine codeAny_loop rfl I (λn s hI=>?_) n h;show wpAny _ A ((compTurn (.ListComp elt [⟨target,iter,ifs,0⟩] scope pos) 0 it acc env).onRaise (λx=>do noteFrame x env;theTreesLotGoes x)) _ _ s;refine wpAny_noted ?_;rw[compTurn_list];refine aa (dB (aa (aU (turn n s hI) (λr s₁ h₁=>?_) λ_ _ h'=>h'.elim)))
 cases r with
 | none=>exact ai h₁
 | some v=>
  refine aa (aU h₁ (λ_ s₂ h₂=>?_) λ_ _ h'=>h'.elim);refine aa (aU h₂ (λ_ s₃ h₃=>aa (aU h₃ (λok s₄ h₄=>?_) λ_ _ h'=>h'.elim)) λ_ _ h'=>h'.elim)
  cases ok with
  | false=>exact ai ⟨rfl,h₄⟩
  | true=>
   exact aa (aa (aU h₄ (λx s₅ h₅=>aa (aU h₅ (λ_ s₆ h₆=>ai (ai ⟨rfl,h₆⟩)) λ_ _ h'=>h'.elim)) λ_ _ h'=>h'.elim))
end
def PTs (X:Cx)(ifs:List Expr)(t:TT):Prop:=
 ∀ (pins:List (Addr×Obj)) (s:Shared) (σ:St) (H:Hp) (Q:Bool->Hp->Prop),Inv X pins σ H s->t σ H Q->
  wpAny (model X.prog X.w) X.A (forIn ifs true λc r=>if r=true then do let ok <- isTrue c X.env (eval c X.env);pure (ForInStep.yield ok) else pure (ForInStep.yield r)) (TP X pins σ Q) X.xe s
def zap:TT:=λ_ H Q=>Q true H
def znp:PTs X [] zap:=λpins s σ H Q I h=>wpAny_tests_nil ⟨H,I,h⟩
def znq(h:PT X c t):PTs X [c] t:=λpins s σ H Q I q=>wpAny_tests_one (h pins s σ H Q I q)
def ztC (wi:TI)(g:TG)(ti:TT)(te:TE)(cix:List (Option Nat)):TE:=λσ H Q=>wi σ H λJ H1=>∀acc,H1 acc=none->∃W:Nat->Nat->St->Hp->Prop,(∃m,W 0 m (zbV σ cix) (upd H1 acc (.lst [])))/\
 ∀i m B H',W i m B H'->(J.stop i H'/\Q (.ref acc) H')\/(J.go i H'/\∃N:St->Hp->Prop,(∀ F H2,N F H2->∃I,I<m/\W (i+1) I F H2)/\
  ∀x H2,J.yld i H' x H2->g x B H2 λq H3=>ti q H3 λL H4=>if L=true then te q H4 λv H5=>∃xs,H5 acc=some (.lst xs)/\xs.length<sizeLine/\N q (upd H5 acc (.lst (xs++[v]))) else N q H4)
def zgK (g:TG)(ti:TT)(te:TE)(acc:Addr)(N:St->Hp->Prop)(x:V)(σ:St)(H:Hp):Prop:=
 g x σ H λq H3=>ti q H3 λB H4=>if B=true then te q H4 λv H5=>∃xs,H5 acc=some (.lst xs)/\xs.length<sizeLine/\N q (upd H5 acc (.lst (xs++[v]))) else N q H4
def zkS (M:Model)(A:Around)(e:Expr)(k:Nat)(tg:Expr)(ifs:List Expr)(it acc:Value)(env:Env)(B:(Shared->Prop)->Shared->Prop):Prop:=
 ∀ (R:Result->Shared->Prop) (s:Shared) (I:Nat->Shared->Prop),(∀n s,I n s->wpAny M A (pyNext it) (λr s₁=>match r with
   | none=>R (.ok .next) s₁
   | some v=>wpAny M A (letOwnedTupleGo tg it v) (λ_ s₂=>wpAny M A (assign tg env v) (λ_ s₃=>
     wpAny M A (forIn ifs true λc r=>if r=true then do let ok <- isTrue c env (eval c env);pure (ForInStep.yield ok) else pure (ForInStep.yield r)) (λok s₄=>
      if ok=true then B (λs'=>∃m,m<n/\I m s') s₄ else ∃m,m<n/\I m s₄) (λ_ _=>False) s₃) (λ_ _=>False) s₂) (λ_ _=>False) s₁) (λ_ _=>False) s)->
  ∀n,I n s->codeAny M A (.compLoop e k it acc env) R s
def zdH{X:Cx}{ifs:List Expr}{it acc:Addr}{fp:List Addr}{tn:Nat->Heap->Prop}{J:It}{g:TG}{ti:TT}{tb:(St->Hp->Prop)->St->Hp->Prop}{B:(Shared->Prop)->Shared->Prop}{pl:List (Addr×Obj)}{Fin:St->Hp->Prop}{R:Result->Shared->Prop}{W:Nat->Nat->St->Hp->Prop}{σ0:St}{H0:Hp}{s0:Shared}(L:zkS (model X.prog X.w) X.A e k tg ifs (.ref it) (.ref acc) X.env B)(hc:X.calm=true)(xX:X.xe=λ_ _=>False)(T:Turn X.prog X.w X.K tg J fp it tn)(f4:∀ {H':Hp},(∀b∈fp,H' b=none)->∀b∈fp,zdd X pl H' b)(hg:PG X tg g)(ht:PTs X ifs ti)(I:∀pl' s σ H (Nx:St->Hp->Prop) (P:Shared->Prop),Inv X (pl++pl') σ H s->tb Nx σ H->(∀ q H' s',Inv X (pl++pl') q H' s'->Nx q H'->P s')->B P s)(Y:∀i n σ H,W i n σ H->(J.stop i H/\Fin σ H)\/(J.go i H/\∃Nx:St->Hp->Prop,(∀ q H',Nx q H'->∃m,m<n/\W (i+1) m q H')/\∀x H',J.yld i H x H'->g x σ H' λO H2=>ti O H2 λb H3=>if b=true then tb Nx O H3 else Nx O H3))(fin:∀ σ H s,Inv X pl σ H s->Fin σ H->R (.ok .next) s)(I0:Inv X pl σ0 H0 s0)(al:tn 0 s0.heap)(fr0:∀b∈fp,H0 b=none)(w0:W 0 m0 σ0 H0) :
  codeAny (model X.prog X.w) X.A (.compLoop e k (.ref it) (.ref acc) X.env) R s0:=by
 refine L R s0 (λn s'=>∃i q H',Inv X pl q H' s'/\tn i s'.heap/\(∀b∈fp,H' b=none)/\W i n q H') ?_ m0 ⟨0,σ0,H0,I0,al,fr0,w0⟩;rintro n s5 ⟨i,F,H5,I5,Z,ab,w5⟩;rcases Y i n F H5 w5 with ⟨stop,qn⟩ | ⟨go,Nx,hN,step⟩
 ·refine thn (T.done X rfl rfl rfl hc i pl s5 F H5 (λ_ _=>False) I5 (f4 ab) Z stop) ?_;rintro r s6 ⟨hr,I6⟩;subst hr;exact fin F H5 s6 I6 qn
 ·refine thn (T.item X rfl rfl rfl hc i pl s5 F H5 (λ_ _=>False) I5 (f4 ab) Z go) ?_;rintro r s6 ⟨u,hr,h6⟩;subst hr;refine thn h6 ?_;rintro _ s7 ⟨x,H7,I7,r7,y7,U,an⟩;have I7':=I7.pinned (f4 an) (T.obj _ _ U);have a7:=hg _ s7 F H7 x u _ I7' r7 (step x H7 y7);rw[xX] at a7;refine thn a7 ?_;rintro _ s8 ⟨ad,H8,I8,q8⟩;have t8:=ht _ s8 ad H8 _ I8 q8;rw[xX] at t8;refine thn t8 ?_;rintro ok s9 ⟨H9,I9,q9⟩
  have ag:∀ q H' s',Inv X (pl++zdR fp s7.heap) q H' s'->Nx q H'->∃m,m<n/\∃i q H',Inv X pl q H' s'/\tn i s'.heap/\(∀b∈fp,H' b=none)/\W i m q H':=λq H' s' J' n'=>by
   obtain⟨m',hm,w'⟩:=hN q H' n'
   have pn:∀b∈fp,∀o,s7.heap.get? b=some o->s'.heap.get? b=some o/\H' b=none:=λb I o e=>by
    have:=J'.pin (b,o) (aO _ (aO _ (uf I e)))
    simp_all
   refine⟨m',hm,i+1,q,H',J'.unpinned,T.keep _ _ _ U λb I o e=>(pn b I o e).1,λb I=>?_,w'⟩;obtain⟨o,e,_⟩:=T.obj _ _ U b I
   simp_all
  cases ok with
  | false=>exact ag _ _ _ I9 q9
  | true=>exact I _ s9 ad H9 _ _ I9 q9 ag
structure Inn (X X':Cx)(pins:List (Addr×Obj))(σ:St)(fp:List Addr)(C:Addr):Prop where
 pX:X'.prog=X.prog
 wX:X'.w=X.w
 KX:X'.K=X.K
 AX:X'.A=X.A
 cX:X'.calm=X.calm
 xX:X'.xe=λ_ _=>False
 lX:X'.env.locals=C
 f4:∀ {H':Hp},(∀b∈fp,H' b=none)->∀b∈fp,zdd X' [] H' b
 back:∀ {σ':St} {H':Hp} {s':Shared} {h'':Heap},Inv X' [] σ' H' s'->Heap.SameBut C s'.heap h''->Inv X pins σ H' { s' with heap:=h'' }
structure Opn (X:Cx)(scope:Scope)(cix:List (Option Nat))(Fam:Cx->Prop):Prop where
 kind:scope.kind = .function
 names:∀x∈scope.names,x.2 = .local->scope.names.lookup x.1=some .local
 cells:X.Ok->∀x∈scope.names,x.2 = .free->∃a,X.env.cells.lookup x.1=some a
 run:∀ (pins:List (Addr×Obj)) (σ:St) (H3:Hp) (s3:Shared) (fp:List Addr) (Q:Env->Shared->Prop),Inv X pins σ H3 s3->(∀b∈fp,zdd X pins H3 b)->(∀b∈fp,b<s3.heap.objs.size)->
  (∀X' cenv s4,Fam X'->Inn X X' pins σ fp s3.heap.objs.size->cenv.locals=s3.heap.objs.size->X'.env={ cenv with scope:=relabel scope X.env }->Inv X' [] (zbV σ cix) H3 s4->(∀b o,s3.heap.get? b=some o->s4.heap.get? b=some o)->Q cenv s4)->
  wpAny (model X.prog X.w) X.A (newFunctionEnv scope X.env.globals (zfe X.env scope.names []) [] X.env.qual none .none (some X.env)) Q X.xe s3
def zdl{X:Cx}{Fam:Cx->Prop}{scope:Scope}{cix:List (Option Nat)}{use:Option (Value->Sem Unit)}{Qp:Value->Shared->Prop}{ifs:List Expr}{pos:Pos}{L:Sem Value}{o0:Addr->HO}{B:Cx->Addr->(Shared->Prop)->Shared->Prop}{tb:Addr->(St->Hp->Prop)->St->Hp->Prop}{Fin:Addr->Hp->Prop}{wi:TI}{g:TG}{ti:TT}{Kk:It->Hp->Prop}{pins:List (Addr×Obj)}{σ:St}{H:Hp}{s:Shared}(O:Opn X scope cix Fam)(hc:X.calm=true)(a5:clausesOf e=⟨tg,iter,ifs,0⟩::gs)(hs:∀x,foldedSetIterable iter X.env x=pure x)(a7:∀ (R:Result->Shared->Prop) (s:Shared) (it acc:Value) (env:Env),codeAny (model X.prog X.w) X.A (.compLoop e 0 it acc env) R s->wpAny (model X.prog X.w) X.A (pyIter it) (λbb s'=>codeAny (model X.prog X.w) X.A (.compLoop e 0 bb acc env) R s') (notedBy (model X.prog X.w) X.A env λx s'=>R (.error x) s') s->codeAny (model X.prog X.w) X.A (.compStart e 0 it acc env) R s)(hL:∀X',Fam X'->∀it acc,zkS (model X'.prog X'.w) X'.A e 0 tg ifs it (.ref acc) X'.env (B X' acc))(al:∀ (s:Shared) (Q:Value->Shared->Prop),Q (.ref s.heap.objs.size) { s with heap:=s.heap.push ob }->wpAny (model X.prog X.w) X.A L Q X.xe s)(bd:∀ {pins σ H s},Inv X pins σ H s->∀H',zD X.prog X.w H' (s.heap.push ob) s.heap.objs.size (o0 s.heap.objs.size))(hi:PI X tg iter wi)(hg:∀X',Fam X'->PG X' tg g)(ht:∀X',Fam X'->PTs X' ifs ti)(U:∀X',Fam X'->X'.prog=X.prog->X'.w=X.w->X'.A=X.A->X'.calm=true->X'.xe=(λ_ _=>False)->∀acc pl s σ H (Nx:St->Hp->Prop) (P:Shared->Prop),Inv X' pl σ H s->tb acc Nx σ H->(∀ Y H' s',Inv X' pl Y H' s'->Nx Y H'->P s')->B X' acc P s)(I:Inv X pins σ H s)(h:wi σ H Kk)(hK:∀J H1 acc,Kk J H1->H1 acc=none->∃W:Nat->Nat->St->Hp->Prop,(∃m,W 0 m (zbV σ cix) (upd H1 acc (o0 acc)))/\∀i n σ H,W i n σ H->(J.stop i H/\Fin acc H)\/(J.go i H/\∃Nx:St->Hp->Prop,(∀ Y H',Nx Y H'->∃m,m<n/\W (i+1) m Y H')/\∀x H',J.yld i H x H'->g x σ H' λab H2=>ti ab H2 λb H3=>if b=true then tb acc Nx ab H3 else Nx ab H3))(an:∀acc C H5 s6,zdd X pins H5 C->(∃m,s6.heap.Ns C m)->(∀ad,Heap.SameBut C s6.heap ad->Inv X pins σ H5 { s6 with heap:=ad })->Fin acc H5->compPost (model X.prog X.w) X.A X.xe use Qp (.ref acc) C (.ok .next) s6) :
  wpAny (model X.prog X.w) X.A (comprehension e scope X.env pos L false (eval iter X.env) use) Qp X.xe s:=by
 refine wpAny_comprehension_free (use:=use) a5 hs (zb9 (O.cells I.ok)) O.kind O.names (thn (hi pins s σ H _ I h) λxv s1 h1=>thn h1 λbm F h2=>?_);obtain⟨it,fp,tn,J,H2,e,I2,T,as,f2,q2⟩:=h2;subst e;refine al F _ ?_;have ag:=I2.hok.fresh (af F.heap.objs.size);obtain⟨W,⟨m0,w0⟩,a0⟩:=hK J H2 F.heap.objs.size q2 ag;have a1:∀b o,F.heap.get? b=some o->(F.heap.push ob).get? b=some o:=λb u e=>ae _ e;have I3:Inv X pins σ (upd H2 F.heap.objs.size (o0 F.heap.objs.size)) { F with heap:=F.heap.push ob,toks:=F.toks }:=I2.laid (t':=F.toks) a1 (af _) (bd I2 _)
 have a2:∀b∈fp,b<F.heap.objs.size:=λb U=>by obtain⟨o,ho,_⟩:=T.obj _ _ as b U;exact ak ho
 have fn:∀b∈fp,upd H2 F.heap.objs.size (o0 F.heap.objs.size) b=none:=λb U=>by rw[zb (aD (a2 b U))];exact (f2 b U).1
 refine O.run pins σ _ _ fp _ I3 (λb U=>⟨fn b U,(f2 b U).2⟩) (λb U=>eR (a2 b U) (by simp)) λX' bl s4 hF N hl hE I4 kp=>?_;rw[<- hE,hl];have a3:tn 0 s4.heap:=T.keep _ _ _ as λb U o e=>kp b o (a1 b o e);have cX:=N.cX.trans hc;have Z:=zdH (X:=X') (R:=compPost (model X.prog X.w) X.A X.xe use Qp (.ref F.heap.objs.size) (F.heap.push ob).objs.size) (Fin:=λ_ H=>Fin F.heap.objs.size H) (pl:=[]) (hL X' hF (.ref it) F.heap.objs.size) cX N.xX (by rw[N.pX,N.wX,N.KX];exact T) N.f4 (hg X' hF) (ht X' hF) (U X' hF N.pX N.wX N.AX cX N.xX F.heap.objs.size) a0 (λbo H5 s6 I6 q=>?_) I4 a3 fn w0
 ·rw[N.pX,N.wX,N.AX] at Z;exact a7 _ _ _ _ _ Z (T.self X.A 0 _ _ _ a3 Z)
 ·have bk:H5 (F.heap.push ob).objs.size=none:=by have:=I6.free;rwa[N.lX] at this
  obtain⟨m6,a4,_⟩:=I6.loc;rw[N.lX] at a4;exact an _ _ H5 s6 (I3.fpOk (af _) bk) ⟨m6,a4⟩ (λad hs=>N.back I6 hs) q
section
variable {X:Cx}{scope:Scope}{N:List Str}{cix:List (Option Nat)}{z:Str}
def zbr (c:CompOk X scope N cix):Opn X scope cix (λX'=>∃C s H ex,X'=zH X scope N C s H ex) where
 kind:=c.kind
 names:=c.names
 cells:=c.cells
 run:=λpins σ H3 O fp Q I3 B F k=>by
  refine wpAny_newFunctionEnv c.cell (by simp) (λU J L=>?_) c.kind;have kp:∀b o,O.heap.get? b=some o->U.get? b=some o:=λb o e=>L.extBut b o (aD (ak e)) (ae _ e);refine k (zH X scope N O.heap.objs.size O H3 fp) _ _ ⟨_,_,_,_,rfl⟩ ⟨rfl,rfl,rfl,rfl,rfl,rfl,rfl,λ{H'} Y b q=>⟨Y b q,aD (F b q),λy=>?_,.inl q,λx a e=>?_,λp hp=>?_⟩,λI' Z=>zgb I3 B I' Z⟩ rfl rfl (zjx I3 c B F J kp) kp
  ·rcases ax.mp (I3.stkSub b y) with e | e
   ·exact (B b q).2.1 e
   ·exact (B b q).2.2.1 e
  ·rcases uM (c.cells I3.ok) e with y | y
   ·exact (B b q).2.2.2.2.1 x a y
   ·simp at y
  ·exact absurd (show p∈([]:List (Addr×Obj))++[] from hp) (by simp)
def zjp {pins:List (Addr×Obj)}{σ:St}{Q:VK}{acc C:Addr}{H5:Hp}{F:Shared}(J:∃m,F.heap.Ns C m)(L:∀B,Heap.SameBut C F.heap B->Inv X pins σ H5 { F with heap:=B })(q:Q (.ref acc) H5):compPost (model X.prog X.w) X.A X.xe none (EP X pins σ Q) (.ref acc) C (.ok .next) F:=
 let ⟨m,hn⟩:=J;⟨m,hn,λO I=>⟨.ref acc,H5,L O I,rfl,q⟩⟩
def zfc{pos spos px:Pos}{nx:Str}{B first:Sem Value}{D:Ends}{pins:List (Addr×Obj)}{σ:St}{s:Shared}(O:X.N.Nodup)(Y:X.N[ix]?=some nx)(J:X.env.scope.names.lookup nx=some .local)(Z:swapsWithSole [.Name nx px] e spos.line X.env=pure true)(ab:(assignEach [.Name nx px] X.env).map (·.2)=[assign (.Name nx px) X.env])(ad:∀U,evalThenUse e X.env U=comprehension e scope X.env pos B false first (some U) >>= λ_=>pure ())(h:∀ (U:Value->Sem Unit) (Qp:Value->Shared->Prop),(∀acc C H5 I,zdd X pins H5 C->(∃m,I.heap.Ns C m)->(∀L,Heap.SameBut C I.heap L->Inv X pins σ H5 { I with heap:=L })->D.nx (σ.set ix (some (.ref acc))) H5->compPost (model X.prog X.w) X.A X.xe (some U) Qp (.ref acc) C (.ok .next) I)->wpAny (model X.prog X.w) X.A (comprehension e scope X.env pos B false first (some U)) Qp X.xe s) :
  wpAny (model X.prog X.w) X.A (exec (.Assign [.Name nx px] e spos) X.env) (SP X pins D) X.xe s:=by
 rw[exec_Assign_arm];refine aa (dB ?_);rw[Z];refine aa (ai ?_);rw[if_pos rfl];refine aa ?_;rw[ad];refine aa ?_;refine h _ _ λacc C H5 I F hm ag q=>?_;have IX:=ag _ ⟨rfl,λ_ _=>rfl⟩;show wpAny _ _ (assignAll _ ((assignEach [.Name nx px] X.env).map (·.2))) _ _ I;rw[ab];refine wpAny_assign_Name (x:=nx) (pos:=px) ?_;refine zd2 IX O Y (Or.inl J) (v:=.ref acc) rfl (λs7 I7 ⟨a7,al,an⟩=>?_) (.inr J)
 have as:C≠a7:=by
  intro z;rcases an with e | e
  ·exact F.2.1 (z.trans e)
  ·exact F.2.2.2.2.1 nx a7 e z.symm
 obtain⟨m6,oC,a0,a1,a2,rC⟩:=hm;refine⟨m6,⟨oC,a0,a1,(al.2 _ as).trans a2,rC⟩,λh8 a3=>ai (ai ?_)⟩;exact⟨_,H5,I7.turned (t':=s7.toks) (λb o hb e=>(a3.2 b hb).trans e) F.1 F.2.1 F.2.2.2.1 F.2.2.2.2.1 F.2.2.2.2.2,q⟩
end
section
variable {X:Cx}{Fam:Cx->Prop}{scope:Scope}{N:List Str}{cix:List (Option Nat)}{z:Str}{use:Option (Value->Sem Unit)}{Qp:Value->Shared->Prop}{elt tg iter:Expr}{ifs:List Expr}{pos ipos spos px:Pos}{wi:TI}{g:TG}{ti:TT}{te:TE}{pins:List (Addr×Obj)}{σ:St}{H:Hp}{s:Shared}{Fin:Addr->Hp->Prop}
def zfb {P:Shared->Prop}{acc:Addr}{Nx:St->Hp->Prop}(he:PE X elt te)(Z:X.xe=λ_ _=>False)(I:Inv X pins σ H s)(q:te σ H λv H'=>∃xs,H' acc=some (.lst xs)/\xs.length<sizeLine/\Nx σ (upd H' acc (.lst (xs++[v]))))(k:∀ B H' s',Inv X pins B H' s'->Nx B H'->P s') :
  wpAny (model X.prog X.w) X.A (eval elt X.env) (λx s5=>wpAny (model X.prog X.w) X.A (call (.builtin "list.append") [.ref acc,x]) (λ_ s6=>P s6) (λ_ _=>False) s5) (λ_ _=>False) s:=by
 have e9:=he pins s σ H _ I q;rw[Z] at e9;refine thn e9 ?_;rintro u2 J ⟨v,H10,I10,L,xs,O,U,nx⟩;have F:=zdI (X:=X) _ J σ H10 (.ref acc) [v] (.ref acc) [u2] (λ_ H'=>Nx σ H') I10 rfl (.cons L .nil) ⟨_,xs,v,rfl,rfl,O,U,nx⟩;rw[Z] at F;refine thn F (by rintro _ ab ⟨_,H11,I11,_,Y⟩;exact k _ _ _ I11 Y)
def zdF (O:Opn X scope cix Fam)(hc:X.calm=true)(hi:PI X tg iter wi)(hg:∀X',Fam X'->PG X' tg g)(ht:∀X',Fam X'->PTs X' ifs ti)(he:∀X',Fam X'->PE X' elt te)(hs:∀x,foldedSetIterable iter X.env x=pure x)(I:Inv X pins σ H s)
  (h:wi σ H λJ H1=>∀acc,H1 acc=none->∃W:Nat->Nat->St->Hp->Prop,(∃m,W 0 m (zbV σ cix) (upd H1 acc (.lst [])))/\∀i n σ H,W i n σ H->(J.stop i H/\Fin acc H)\/(J.go i H/\∃Nx:St->Hp->Prop,(∀ L H',Nx L H'->∃m,m<n/\W (i+1) m L H')/\∀x H',J.yld i H x H'->zgK g ti te acc Nx x σ H'))
  (U:∀acc C H5 F,zdd X pins H5 C->(∃m,F.heap.Ns C m)->(∀Y,Heap.SameBut C F.heap Y->Inv X pins σ H5 { F with heap:=Y })->Fin acc H5->compPost (model X.prog X.w) X.A X.xe use Qp (.ref acc) C (.ok .next) F) :
  wpAny (model X.prog X.w) X.A (comprehension (.ListComp elt [⟨tg,iter,ifs,0⟩] scope pos) scope X.env ipos (newList []) false (eval iter X.env) use) Qp X.xe s:=
 zdl (ob:={ cls:=.type "list",dict:=none,data:=.seq ([]:List Value).toArray }) (o0:=λ_=>.lst []) (B:=λX' acc P s=>wpAny (model X'.prog X'.w) X'.A (eval elt X'.env) (λx s5=>wpAny (model X'.prog X'.w) X'.A (call (.builtin "list.append") [.ref acc,x]) (λ_ F=>P F) (λ_ _=>False) s5) (λ_ _=>False) s) (tb:=λacc Nx σ H=>te σ H λv H'=>∃xs,H' acc=some (.lst xs)/\xs.length<sizeLine/\Nx σ (upd H' acc (.lst (xs++[v])))) O hc rfl hs (λ_ _ _ _ _ h0 h1=>codeAny_compStart_list h0 h1) (λ_ _ _ _ _ _ I Z n h=>zcv I Z n h) (λs Q h=>bM h) (λ_ _=>⟨a6 _,[],0,.nil,am _ rfl⟩) hi hg ht (λX' hF _ _ _ _ xX _ _ _ _ _ _ _ I q k=>zfb (he X' hF) xX I q k) I h (λJ H1 acc q hn=>q acc hn) U
end
section
variable {X:Cx}{scope:Scope}{N:List Str}{z:Str}
def zf9 {P:Cx->Prop}(h:∀C s H ex,P (zH X scope N C s H ex)):∀X',(∃C s H ex,X'=zH X scope N C s H ex)->P X':=by simp_all
abbrev EndK (X:Cx)(pins:List (Addr×Obj))(σ:St)(use:Option (Value->Sem Unit))(Qp:Value->Shared->Prop)(Q:VK):Prop:=∀acc C H5 B,zdd X pins H5 C->(∃m,B.heap.Ns C m)->(∀q,Heap.SameBut C B.heap q->Inv X pins σ H5 { B with heap:=q })->Q (.ref acc) H5->compPost (model X.prog X.w) X.A X.xe use Qp (.ref acc) C (.ok .next) B
end
structure Dfn (K:PySem.W.Frag)(mg:Str->Option Value)(x:Str)(st:Stmt)(ps:List Str)(f:Addr)(fd:FuncData):Prop where
 F:Fun K x x st f fd
 b:zec K fd ps []
 m:mg x=some (.ref f)
section
variable {X:Cx}
def zth{x:Str}{st:Stmt}{ps:List Str}{f:Addr}{fd:FuncData}{sp:Sp}{es:List Expr}{p pos:Pos}(D:Dfn X.K X.mg x st ps f fd)(G:FnOk X.prog X.w X.K X.mg X.base CX0 j f fd ps sp)(J:Room k X.A)(L:PA X (e::es) t)(q:j<=k:=by decide)(O:Gl X x:=by rfl)(B:(x==("__debug__" : Str))=false:=by decide)(U:starEach (e::es) X.env=(false,eval e X.env)::starEach es X.env:=by rfl)(I:(backTo pos (starEach es X.env)).any (·.1)=false:=by rfl) :
  PE X (.Call (.Name x p) (e::es) [] pos) (zd4 sp [] E0 t):=
 zeP G (J.mono q) O D.m D.F.kp D.b .nil ztf L B U I
def ziz {bs:List Bool}:((List.range bs.length).all λi=>bs.getD i true)=bs.all id:=by
 rw[a8,a9,a9];constructor
 ·intro h b B;obtain⟨i,hi,e⟩:=eo.mp B
  simp_all
 ·intro h i hi;have q:=aX.mp hi;have:=h bs[i] (aZ q)
  simp_all
def ziA {bs:List Bool}:((List.range bs.length).any λi=>bs.getD i false)=bs.any id:=by
 rw[a8,bT,bT];constructor
 ·rintro⟨i,hi,h⟩;have q:=aX.mp hi;exact⟨bs[i],aZ q,by simpa [q] using h⟩
 ·rintro⟨b,B,h⟩;obtain⟨i,hi,e⟩:=eo.mp B;exact⟨i,aX.mpr hi,by simp_all⟩
def zi9 (Y:X.calm=true):zbS X (.builtin "all") (λxs H Q=>∃ (p:Addr) (bs:List Bool),xs=[.ref p]/\Rd H p (.lst (bs.map V.bl))/\Q (.bl (bs.all id)) H):=by
 intro pins s σ H xs us Q I r h;obtain⟨p,bs,rfl,hp,q⟩:=h;obtain⟨u,rfl,Z⟩:=zbP r;cases Z;obtain⟨its,O,pl,hz⟩:=I.list (.inl hp);have B:=O.length;rw[ac] at B
 have W:Walks X.prog X.w X.A.in1 s.heap.objs.size [s.heap.objs.size,p] [s.heap.objs.size] its.toArray.size (λi v=>its.toArray[i]?=some v) (λi h=>h.IsListIter s.heap.objs.size p i/\h.IsList p its.toArray):=by refine Walks.list (A:=X.A.in1) (I.ok.hd Y) s.heap.objs.size p ?_ its.toArray;obtain⟨o,_,ho,_⟩:=pl;exact aD (ak ho)
 refine call_all_walk (cS pl.isList ⟨s.heap.objs.size,_,_,_,_,_,λi=>bs.getD i true,rfl,W,⟨?_,?_⟩,?_,?_⟩)
 ·exact⟨_,am _ rfl,rfl,rfl⟩
 ·exact pl.isList.at λo e=>ae _ e
 ·intro i v s' Q' E' hP J;have L:its[i]?=some v:=by simpa using hP
  have hi:i<bs.length:=by grind
  have hb:(bs.map V.bl)[i]?=some (V.bl bs[i]):=by simp[hi]
  obtain⟨u',F,rb⟩:=O.get hb;rw[L] at F;cases F;cases rb;have:bs.getD i true=bs[i]:=by simp[hi]
  dsimp only at J;rw[this] at J;exact b9 J
 ·intro h' tk hk
  have e:(List.range its.toArray.size).all (λi=>bs.getD i true)=bs.all id:=by rw[aR,<- B];exact ziz
  rw[e];exact⟨.bl _,H,I.kept (t':=tk) λb o U=>hk b o (by simp;exact aD (ak U)) (ae _ U),rfl,q⟩
end
structure QE (X:Cx)(e:Expr)(t:TE):Prop where
 run:PE X e t
structure QT (X:Cx)(e:Expr)(t:TT):Prop where
 run:PT X e t
structure QW (X:Cx)(e:Expr)(t:TT):Prop where
 run:PW X e t
structure QC (X:Cx)(op:CmpOp)(a b:Expr)(t:TE):Prop where
 run:PC X op a b t
structure QA (X:Cx)(es:List Expr)(t:TA):Prop where
 run:PA X es t
structure QS (X:Cx)(s:Stmt)(t:TS):Prop where
 run:PS X s t
structure QSs (X:Cx)(s:List Stmt)(t:TS):Prop where
 run:PSs X s t
structure QG (X:Cx)(e:Expr)(t:TG):Prop where
 run:PG X e t
structure QGs (X:Cx)(es:List Expr)(t:TGs):Prop where
 run:PGs X es t
structure QI (X:Cx)(tg e:Expr)(t:TI):Prop where
 run:PI X tg e t
structure QO (X:Cx)(e:Option Expr)(t:TO):Prop where
 run:PO X e t
structure QP (X:Cx)(pos:Pos)(ks:List (Option Expr))(vs:List Expr)(t:List (TE×TE)):Prop where
 run:PPs X pos ks vs t
structure QTs (X:Cx)(es:List Expr)(t:TT):Prop where
 run:PTs X es t
structure OpQ (X:Cx)(f:Value->Value->Sem Value)(r:R2):Prop where
 run:OpR X f r
structure UnQ (X:Cx)(f:Value->Sem Value)(r:V->Hp->VK->Prop):Prop where
 run:UnR X f r
structure CallQ (X:Cx)(f:Value)(r:List V->Hp->VK->Prop):Prop where
 run:zbS X f r
structure IxQ (X:Cx)(r:R2):Prop where
 run:IxR X r
structure SlQ (X:Cx)(r:V->Option Int->Option Int->Hp->VK->Prop):Prop where
 run:SlR X r
section
variable {X:Cx}{e a b c:Expr}{es:List Expr}{te ta tb tc:TE}{t u:TT}{pos p:Pos}
def qv(i:Nat)(B:X.N[i]?=some x:=by rfl)(F:Vis X.env.scope x:=by walk_at "v")(I:(x==("__debug__" : Str))=false:=by decide)(q:(x==("__classdict__" : Str))=false:=by decide):QE X (.Name x pos) (ze6 i):=⟨zlk B F I q⟩
def yg{i:Int}:QE X (.Constant (.int i) j pos) (tC (.int i)):=⟨zpX⟩
def zqn:QE X (.Constant (.bool k) j pos) (tC (.bl k)):=⟨ztg⟩
def zqq:QE X (.Constant .none j pos) (tC .non):=⟨zpY⟩
def z6:QE X (.Constant (.str x) j pos) (tC (.str x)):=⟨zp1⟩
def zcZ(q:Gl X x)(h:∃w,zX v w/\X.mg x=some w)(B:(x==("__debug__" : Str))=false:=by decide):QE X (.Name x pos) (tC v):=by obtain⟨w,r,F⟩:=h;exact⟨zm6 q F r B⟩
def zcY(q:Gl X x)(B:X.mg x=none)(F:bootBuiltins x=some w)(r:zX v w)(I:x ≠ "__name__" := by decide)(J:(x==("__debug__" : Str))=false:=by decide):QE X (.Name x pos) (tC v):=⟨zm2 q B F r I J⟩
def yK:OpQ X (binaryOp .Add) (rI0 λi j=>.int (i+j)):=⟨zpF⟩
def zpQ:OpQ X (binaryOp .Sub) (rI0 λi j=>.int (i - j)):=⟨zpM⟩
def zbs:OpQ X (binaryOp .Mult) (rI zkP λi j=>.int (i * j)):=⟨zpJ⟩
def zeO:OpQ X (binaryOp .FloorDiv) (rI CDiv λi j=>.int (i / j)):=⟨zmY⟩
def uZ:OpQ X (binaryOp .Mod) (rI (λ_ j=>0<j) λi j=>.int (i % j)):=⟨zpI⟩
def zh6:OpQ X (binaryOp .Pow) (rI CPow λi j=>.int (i ^ j.toNat)):=⟨zpL⟩
def xf:OpQ X (binaryOp .Add) (ziw X.K):=⟨zmW⟩
def zpN:OpQ X (binaryOp .Add) rCat:=⟨zpG⟩
def ztc:OpQ X (compareOp .Lt) (rI0 λi j=>.bl (decide (i<j))):=⟨zs9⟩
def zpP:OpQ X (compareOp .LtE) (rI0 λi j=>.bl (decide (i<=j))):=⟨zs8⟩
def zmZ:OpQ X (compareOp .Gt) (rI0 λi j=>.bl (decide (j<i))):=⟨zs7⟩
def ztb:OpQ X (compareOp .GtE) (rI0 λi j=>.bl (decide (j<=i))):=⟨zs6⟩
def zcV:OpQ X (compareOp .Eq) rEq:=⟨zs5⟩
def zgk:OpQ X (compareOp .NotEq) rNe:=⟨zta⟩
def zh4:OpQ X (compareOp .In) (rIn X.K false):=⟨zh2⟩
def zdP:OpQ X (compareOp .NotIn) (rIn X.K true):=⟨zdO⟩
def zrf:UnQ X (unaryOp .USub) (rU λi=>.int (-i)):=⟨zrb⟩
def yL(q:OpQ X (binaryOp op) r)(B:QE X a ta)(F:QE X b tb):QE X (.BinOp a op b pos) (tOp r ta tb):=⟨ztj q.run B.run F.run⟩
def ztp(q:UnQ X (unaryOp op) r)(B:QE X a ta):QE X (.UnaryOp op a pos) (tUn r ta):=⟨ztk q.run B.run⟩
def znt(q:OpQ X (compareOp op) r)(B:QE X a ta)(F:QE X b tb)(I:behindInMarks op b=false):QE X (.Compare a [op] [b] pos) (tOp r ta tb):=⟨zm3 q.run B.run F.run I⟩
def zan(q:OpQ X (compareOp op) r)(B:QE X a ta)(F:QE X b tb)(I:behindInMarks op b=false):QT X (.Compare a [op] [b] pos) (znS (tOp r ta tb)):=⟨zno q.run B.run F.run I⟩
def zqk (q:X.A.units+1<cLine)(B:QE X a ta)(F:QE X b tb):QC X .In a b (ztD ta tb):=⟨zpT q B.run F.run⟩
def zii (q:X.A.units+1<cLine)(B:QE X a ta)(F:QE X b tb):QC X .NotIn a b (ziP ta tb):=⟨zh7 q B.run F.run⟩
def zlq(h:QC X op a b te)(h1:behindInMarks op b=false:=by first | exact uU _ (by decide) (by decide) | rfl):QT X (.Compare a [op] [b] pos) (tB te):=⟨zqf h.run h1⟩
def ziu (h:QE X e te)(he:∀whole,isTrue e X.env whole=(do let v <- whole;standAt e.pos;holding [v] (truthy v)):=by intro _;rfl):QT X e (tB te):=⟨zqh h.run he⟩
def zit (h:QT X a t):QT X (.UnaryOp .Not a pos) (tNot t):=⟨zqg h.run⟩
def ziv (h:QT X a t):QW X (.BoolOp .And [a] pos) t:=⟨zns h.run⟩
def zls (h:QT X a t):QW X (.BoolOp .Or [a] pos) t:=⟨zqj h.run⟩
def zlr {ye:List Expr}(h:QT X a t)(h':QW X (.BoolOp .And (b::ye) pos) u):QW X (.BoolOp .And (a::b::ye) pos) (ztB t u):=⟨zqi h.run h'.run⟩
def zqv {ye:List Expr}(h:QT X a t)(h':QW X (.BoolOp .Or (b::ye) pos) u):QW X (.BoolOp .Or (a::b::ye) pos) (tOr t u):=⟨zto h.run h'.run⟩
def QW.pt (h:QW X e t):QT X e t:=⟨h.run.pt⟩
def zqs(h:QE X a ta):QE X (.BoolOp op [a] pos) ta:=⟨zp0 h.run⟩
def zql {ye:List Expr}(q:QE X a ta)(B:QE X (.BoolOp .And (b::ye) pos) tb):QE X (.BoolOp .And (a::b::ye) pos) (zqU ta tb):=⟨zpU q.run B.run⟩
def zqr (q:QE X a ta):QE X (.UnaryOp .Not a pos) (zq1 ta):=⟨zpZ q.run⟩
def zkr (q:QT X c t)(B:QE X a ta)(F:QE X b tb):QE X (.IfExp c a b pos) (tIf t ta tb):=⟨zkd q.run B.run F.run⟩
def yn:QA X [] zoa:=⟨zpR⟩
def zz(q:QE X e te)(B:QA X es ts)(F:starEach (e::es) X.env=(false,eval e X.env)::starEach es X.env:=by rfl):QA X (e::es) (zd5 te ts):=⟨zm1 q.run B.run F⟩
def zlo{x1}(h:QA X es ts):QE X (.Tuple es x1 pos) (tTup ts):=⟨zp2 h.run⟩
def zir:QP X pos [] [] []:=⟨znj⟩
def yG(B:QE X k tk)(F:QE X v tv)(I:QP X pos ks vs q):QP X pos (some k::ks) (v::vs) ((tk,tv)::q):=⟨zkj B.run F.run I.run⟩
def zij(h:QP X pos q B F)(I:q.all (·.isSome)=true)(L:q.length=B.length)(O:q≠[])(J:q.length<=15):QE X (.Dict q B pos) (zqW F):=⟨zm5 h.run I L O J⟩
def zio:QO X none ziQ:=⟨znh⟩
def ziq (h:QE X e te):QO X (some e) (zq2 te):=⟨zni h.run⟩
def znP:SlQ X rSlA:=⟨znN⟩
def znO:SlQ X (rSlL X.K):=⟨znM⟩
def zfK{r:V->Option Int->Option Int->Hp->VK->Prop}{lo hi:Option Expr}{tl th:TO}(q:SlQ X r)(B:QE X e te)(F:QO X lo tl)(I:QO X hi th):QE X (.Subscript e (.Slice lo hi none p2) pos) (tSl r te tl th):=⟨zke q.run B.run F.run I.run⟩
def uJ:IxQ X (zrB X.K):=⟨zmj⟩
def xE:IxQ X (zrC X.K):=⟨zo4⟩
def zqp(q:IxQ X r)(B:QE X a ta)(F:QE X b tb)(I:zee b):QE X (.Subscript a b pos) (tOp r ta tb):=⟨zti q.run B.run F.run I⟩
def yR (q:X.A.units+1<cLine)(B:QE X a ta)(F:QE X b tb)(I:zn8 b):QE X (.Subscript a b pos) (zqV ta tb):=⟨zm4 q B.run F.run I⟩
def xj:CallQ X (.builtin "len") (λxs H Q=>∃x n,xs=[x]/\zrn X.K x H n/\Q (.int n) H):=⟨zjb⟩
def zgN:CallQ X (.builtin "abs") (λxs H Q=>∃i,xs=[.int i]/\Q (.int (if i<0 then -i else i)) H):=⟨zi8⟩
def zgQ:CallQ X (.builtin "isinstance") (λxs H Q=>∃x T t b,xs=[x,.ty T]/\TyOf X.K H x t/\PySem.W.kitOne X.K t (.type T)=some b/\Q (.bl b) H):=⟨zej⟩
def zgO (q:X.calm=true):CallQ X (.builtin "all") (λxs H Q=>∃ (p:Addr) (bs:List Bool),xs=[.ref p]/\Rd H p (.lst (bs.map V.bl))/\Q (.bl (bs.all id)) H):=⟨zi9 q⟩
def zf6:CallQ X (.type "list") (λxs H Q=>∃p ys,xs=[.ref p]/\(SqL X.K H p ys\/SqT X.K H p ys)/\∀l,H l=none->Q (.ref l) (upd H l (.lst ys))):=⟨zdi⟩
def zen:CallQ X (.type "tuple") (λxs H Q=>∃p ys,xs=[.ref p]/\((SqL X.K H p ys/\∀l,H l=none->Q (.ref l) (upd H l (.tup ys)))\/(SqT X.K H p ys/\Q (.ref p) H))):=⟨zct⟩
def yq {id:String}{r:List V->Hp->VK->Prop}{x:Str}{ts:TA}(F:CallQ X (.builtin id) r)(I:Gl X x)(J:X.mg x=none)(L:bootBuiltins x=some (.builtin id))(O:QA X (e::es) ts)(U:x ≠ "__name__" := by decide)(q:(x==("__debug__" : Str))=false:=by decide)
  (Y:starEach (e::es) X.env=(false,eval e X.env)::starEach es X.env:=by rfl) (B:(backTo pos (starEach es X.env)).any (·.1)=false:=by rfl):QE X (.Call (.Name x p) (e::es) [] pos) (tCB r ts):=⟨zkc F.run I J L O.run U q Y B⟩
def zbv(F:CallQ X (.type T) r)(I:Gl X x)(J:X.mg x=none)(L:bootBuiltins x=some (.type T))(O:QA X (e::es) ts)(U:x ≠ "__name__" := by decide)(q:(x==("__debug__" : Str))=false:=by decide)(Y:starEach (e::es) X.env=(false,eval e X.env)::starEach es X.env:=by rfl)(B:(backTo pos (starEach es X.env)).any (·.1)=false:=by rfl):QE X (.Call (.Name x p) (e::es) [] pos) (tCB r ts):=⟨zh8 F.run I J L O.run U q Y B⟩
def zik{x:Str}{st:Stmt}{ps:List Str}{f:Addr}{fd:FuncData}{sp:Sp}(D:Dfn X.K X.mg x st ps f fd)(G:FnOk X.prog X.w X.K X.mg X.base CX0 j f fd ps sp)(I:Room k X.A)(J:QA X (e::es) ts)(q:j<=k:=by decide)(L:Gl X x:=by rfl)(B:(x==("__debug__" : Str))=false:=by decide)(O:starEach (e::es) X.env=(false,eval e X.env)::starEach es X.env:=by rfl)(F:(backTo pos (starEach es X.env)).any (·.1)=false:=by rfl) :
  QE X (.Call (.Name x p) (e::es) [] pos) (zd4 sp [] E0 ts):=⟨zth D G I J.run q L B O F⟩
def zbw(q:X.N.Nodup)(hi:X.N[i]?=some x)(B:Loc X.env.scope x)(hf:X.fn x=true\/X.env.scope.names.lookup x=some .local:=by walk_at "l"):QG X (.Name x pos) (zaK i):=⟨znb q hi B hf⟩
def zny:QGs X [] gNil:=⟨znc⟩
def zkt(h1:QG X e g)(h2:QGs X es gs)(q:(assignEach (e::es) X.env).map (·.2)=assign e X.env::(assignEach es X.env).map (·.2):=by rfl):QGs X (e::es) (zoV g gs):=⟨zkh h1.run h2.run q⟩
def zqt {k:Nat}{gs:TGs}{n:Nat}(B:X.calm=true)(h:QGs X es gs)(F:(assignEach es X.env).length=n:=by rfl)(q:(assignEach es X.env).findIdx? (·.1)=none:=by rfl):QG X (.Tuple es k pos) (zsh X.K n gs):=⟨zp8 B h.run F q⟩
def zeT(q:QE X e te):QI X tg e (zmc X.K te):=⟨zne q.run⟩
def zlp(q:QE X e te):QI X tg e (zsk X.K te):=⟨zp9 q.run⟩
def zin(q:Gl X "range")(B:X.mg "range" = none)(F:QA X [a] ts)(I:starEach [a] X.env=[(false,eval a X.env)]:=by rfl):QI X tg (.Call (.Name "range" p) [a] [] pos) (zoZ ts):=⟨zid q B F.run I⟩
def zeW:QTs X [] zap:=⟨znp⟩
def znG (h:QT X c t):QTs X [c] t:=⟨znq h.run⟩
def znu(B:X.calm=true)(c:CompOk X scope N cix)(hi:QI X tg iter wi)(F:∀C s H ex,QG (zH X scope N C s H ex) tg g)(J:∀C s H ex,QTs (zH X scope N C s H ex) ifs ti)(L:∀C s H ex,QE (zH X scope N C s H ex) elt te)(O:∀x,foldedSetIterable iter X.env x=pure x:=by intro _;rfl):QE X (.ListComp elt [⟨tg,iter,ifs,0⟩] scope pos) (ztC wi g ti te cix):=⟨λpins s σ H Q I h=>by
 rw[eval_ListComp];exact zdF (Fin:=λacc H=>Q (.ref acc) H) (zbr c) B hi.run (zf9 λC s H ex=>(F C s H ex).run) (zf9 λC s H ex=>(J C s H ex).run) (zf9 λC s H ex=>(L C s H ex).run) O I h λ_ _ _ _ _ U Y q=>zjp U Y q⟩
end
section
variable {X:Cx}{st:Stmt}{sts body a b:List Stmt}{t u:TS}{e o i:Expr}{te td ty tv:TE}{pos:Pos}
def zam:QSs X [] zq0:=⟨znm⟩
def zy (h1:QS X st t)(h2:QSs X sts u):QSs X (st::sts) (ztI t u):=⟨zkl h1.run h2.run⟩
def yj (h1:QS X st t):QSs X [st] t:=⟨znn h1.run⟩
def zbx (q:QE X e te)(B:swapsWith e none pos.line X.env=pure false:=by rfl):QS X (.Expr e pos) (znR te):=⟨zig q.run B⟩
def xP (q:QE X e te):QS X (.Return (some e) pos) (zq3 te):=⟨zqc q.run⟩
def zeV(q:QT X c tc)(B:QSs X a t)(F:QSs X b u):QS X (.If c a b pos) (tIfS tc t u):=⟨ztn q.run B.run F.run⟩
def xo {i:Nat}{x:Str}{pos':Pos}(q:X.N.Nodup)(hi:X.N[i]?=some x)(B:Loc X.env.scope x)(F:QE X e te)(I:swapsWith e (some (.Name x pos')) pos.line X.env=pure false:=by rfl)(hf:X.fn x=true\/X.env.scope.names.lookup x=some .local:=by walk_at "l") :
  QS X (.Assign [.Name x pos'] e pos) (zgu te (zaK i)):=⟨zqd q hi B F.run I hf⟩
def zqu(q:QE X e te)(B:QG X tg g)(F:swapsWithSole [tg] e pos.line X.env=pure false:=by rfl)(I:swappedStores [tg] e X.env=pure none:=by rfl)(h1:(assignEach [tg] X.env).map (·.2)=[assign tg X.env]:=by rfl):QS X (.Assign [tg] e pos) (zgu te g):=⟨zqa q.run B.run F I h1⟩
def zeU(q:X.A.units+1<cLine)(B:QE X o td)(hi:QE X i ty)(F:QE X e tv)(I:swapsWith e (some (.Subscript o i pos')) pos.line X.env=pure false):QS X (.Assign [.Subscript o i pos'] e pos) (zqM td ty tv):=⟨znl q B.run hi.run F.run I⟩
def zis(hp:PassesOwn (model X.prog X.w) X.A X.env X.xe)(q:X.calm=true)(hi:QI X tg iter wi)(B:QG X tg g)(F:QSs X body t)(I:∀x,foldedSetIterable iter X.env x=pure x:=by intro _;rfl):QS X (.For tg iter body [] pos) (ztE wi g t):=⟨zqb hp q hi.run B.run F.run I⟩
end
def Fun.okQ{P:Program}{w:World}{K:PySem.W.Frag}{mg:Str->Option Value}{base:Heap}{x qual:Str}{st:Stmt}{f:Addr}{fd:FuncData}{N ps:List Str}{sp:Sp}(F:Fun K x qual st f fd)(S:FnScope N ps (zd st))(I:∀vs H Q E,sp vs H Q E->vs.length=ps.length)(B:∀ (q:Value) (A:Around) (outer:List Env) (s:Shared) (H:Hp) (vs:List V) (Q:VK) (E:XK),Room k (A.deeper (envOfC qual (zd st) s.heap.objs.size f q))->sp vs H Q E->
   ∃t,QSs (zaN CX0 P w K mg base N qual (zd st) f q A outer s H E).nox (zU st) t/\t { nx:=λ_ H'=>Q .non H',rt:=Q } (yO N vs) H):FnOk P w K mg base CX0 (k+1) f fd ps sp:=
 F.ok S I λq A outer s H vs Q E J h=>by obtain⟨t,h1,h2⟩:=B q A outer s H vs Q E J h;exact⟨t,h1.run,h2⟩
def s_ca:¬ (("cells" : Str) = "at"):=by decide +kernel
def s_cl:¬ (("cells" : Str) = "rest"):=by decide +kernel
def s_al:¬ (("at" : Str) = "rest"):=by decide +kernel
def zsx:¬ (Sum.inr "cells" : Key)=(Sum.inr "at" : Key):=λz=>s_ca (Sum.inr.inj z)
def zsy:¬ (Sum.inr "cells" : Key)=(Sum.inr "rest" : Key):=λz=>s_cl (Sum.inr.inj z)
def zrt:¬ (Sum.inr "at" : Key)=(Sum.inr "rest" : Key):=λz=>s_al (Sum.inr.inj z)
def zab (c:Addr)(a l:Int):List (Key×V):=[(Sum.inr "cells",.ref c),(Sum.inr "at",.int a),(Sum.inr "rest",.int l)]
def ztl (c:Addr)(a l:Int):xg (zab c a l) (Sum.inr "cells" : Key)=some (.ref c):=zI rfl
def zm9 (c:Addr)(a l:Int):xg (zab c a l) (Sum.inr "at" : Key)=some (.int a):=by unfold zab;rw[zC zsx,zI rfl]
def ztm (c:Addr)(a l:Int):xg (zab c a l) (Sum.inr "rest" : Key)=some (.int l):=by unfold zab;rw[zC zsy,zC zrt,zI rfl]
def zp5 (c:Addr)(a l b:Int):xI (zab c a l) (Sum.inr "at" : Key) (.int b)=zab c b l:=by unfold xI zab;have q:=zsx;have B:¬ (Sum.inr "rest" : Key)=(Sum.inr "at" : Key):=λz=>zrt z.symm;simp[q,B]
def zp6 (c:Addr)(a l b:Int):xI (zab c a l) (Sum.inr "rest" : Key) (.int b)=zab c a b:=by unfold xI zab;have q:=zsy;have B:=zrt;simp[q,B]
def zp4 (c:Addr)(a l:Int):um [] (zab c a l)=zab c a l:=by unfold um zab;have q:=zsx;have B:=zsy;have F:=zrt;simp[xI,q,B,F]
structure Pen (H:Hp)(p c:Addr)(ns:List Int)(n:Nat):Prop where
 ob:∃a l:Int,H p=some (.dK (zab c a l))/\0<=a/\a<=n/\0<=l
 ls:∃ob,H c=some (.frz ob (.lst (ns.map V.int)))
 len:ns.length<=63
def Pen.same{ns:List Int}(P:Pen H p c ns n)(h:yz H H'):Pen H' p c ns n:=by obtain⟨⟨a,l,h1,h2,q,B⟩,F,I⟩:=P;exact⟨⟨a,l,h _ _ h1,h2,q,B⟩,let ⟨ob,e⟩:=F;⟨ob,h _ _ e⟩,I⟩
section
variable {H:Hp}{p c:Addr}{a l:Int}
def zfI (h:H p=some (.dK (zab c a l))):zaV H p (.str "cells") (some (.ref c)):=by have:=zaV.k (k:=(Sum.inr "cells" : Key)) h;rw[ztl] at this;exact this
def zp3 (h:H p=some (.dK (zab c a l))):zaV H p (.str "at") (some (.int a)):=by have:=zaV.k (k:=(Sum.inr "at" : Key)) h;rw[zm9] at this;exact this
def zia (h:H p=some (.dK (zab c a l))):zaV H p (.str "rest") (some (.int l)):=by have:=zaV.k (k:=(Sum.inr "rest" : Key)) h;rw[ztm] at this;exact this
def zp7 (h:H p=some (.dK (zab c a l)))(b:Int):zed H p (.str "at") (.int b) (upd H p (.dK (zab c b l))):=by have:=zed.k (k:=(Sum.inr "at" : Key)) (v:=.int b) h (by show 3<sizeLine;decide);rw[zp5] at this;exact this
def zll (h:H p=some (.dK (zab c a l)))(b:Int):zed H p (.str "rest") (.int b) (upd H p (.dK (zab c a b))):=by have:=zed.k (k:=(Sum.inr "rest" : Key)) (v:=.int b) h (by show 3<sizeLine;decide);rw[zp6] at this;exact this
end
def zor (ns:List Int)(a:Int)(h:0<((ns.map V.int).length:Int)):∃z,atI (ns.map V.int) (a % ((ns.map V.int).length:Int))=some (.int z):=by
 have q:=cg a (show ((ns.map V.int).length:Int)≠0 by lia);have h1:=bH a h;generalize F:a % ((ns.map V.int).length:Int)=m at q h1;obtain⟨j,rfl⟩:∃j:Nat,m=j:=⟨m.toNat,by lia⟩;have B:j<ns.length:=by rw[ac] at h1;lia
 exact⟨ns[j],zlI (by simp[B])⟩
def zkG {a:Int}{n:Nat}(q:0<=a)(h1:a<=n)(h2:n<=1000000):0<=60013 * a * a/\60013 * a * a<=60013000000000000:=by have e:60013 * a * a=60013 * (a * a):=Int.mul_assoc _ _ _;have m0:0<=a * a:=Int.mul_nonneg q q;have B:a * a<=1000000 * 1000000:=eW (by lia) (by lia) q (by lia);rw[e];lia
def meet {α:Type}{G:Prop}(P:α->Prop)(h:(∀a,P a)->G)(r:∀a,P a):G:=h r
def zsX {G:Prop}(P:Prop)(h:P->G)(r:P):G:=h r
def zkF (K:PySem.W.Frag):Sp:=λvs H Q _=>∃ (a:Addr) (ns:List Int),vs=[.ref a]/\SqL K H a (ns.map V.int)/\ns.length<=63/\∀ (p c:Addr) (H':Hp),Pen H' p c ns 0->yz H H'->Q (.ref p) H'
def yu (ns:List Int):Int:=ns.foldl (· * ·) 1
def yW (ns:List Int)(n:Int):yu (ns++[n])=yu ns * n:=by unfold yu;rw[List.foldl_append];rfl
def zp{α:Type}{l:List α}{x:α}(h:l[i]?=some x):l.take (i+1)=l.take i++[x]:=by rw[List.take_succ,h];rfl
def zlx:Sp:=λvs H Q _=>∃ (a:Addr) (ns:List Int),vs=[.ref a]/\H a=some (.tup (ns.map V.int))/\(∀n∈ns,2<=n/\n<=4)/\Q (.int (yu ns)) H
def Dt.inBox:Dt->Bool
 | .int i=>decide (2<=i)&&decide (i<=4)
 | _=>false
def Dt.val:Dt->Int
 | .int i=>i
 | _=>0
def xO:∀ (ns:List Int),(ns.map Dt.int).map Dt.val=ns
 | []=>rfl
 | n::ns=>by simp only[ao,xO ns];rfl
def zlf {g:TG}{x:V}{σ:St}{H:Hp}{A B:St->Hp->Prop}(h:g x σ H A):g x σ H λq H3=>zap q H3 λF H4=>if F=true then A q H4 else B q H4:=by
 have e:(λq H3=>zap q H3 λF H4=>if F=true then A q H4 else B q H4)=A:=by funext q H3;show (if true=true then A q H3 else B q H3)=A q H3;rw[if_pos rfl]
 rw[e];exact h
section
variable {prog:Program}{w:World}{A:Around}{E:Value->Shared->Prop}{s:Shared}
def yC{items}(q:s.heap.IsTupleIter it t i)(L:s.heap.IsTuple t items)(O:items[i]?=some x)(U:∀h',h'.IsTupleIter it t (i+1)->Heap.SameBut it s.heap h'->Q x { s with heap:=h' }):wpAny (model prog w) A (Builtin.SmallTypes.nextOf (.ref it)) Q E s:=by
 obtain⟨o,F,Y,B⟩:=id q;obtain⟨Z,I,_,nl,J⟩:=L;unfold Builtin.SmallTypes.nextOf
 refine aa (wpAny_callSpecial?_slot (name:=Str.ofString "__next__") q.typeIs ck
  (aY ck q.typeIs eI ?_ (eA _)))
 show wpAny _ _ (field (.ref it) 0 >>= _) _ _ s;refine aa (bB F B (x:=.ref t) rfl ?_);show wpAny _ _ (if (Value.ref t==Value.none)=true then _ else _) _ _ s;rw[if_neg (by grind)];show wpAny _ _ (field (.ref it) 1 >>= _) _ _ s;refine aa (bB F B (x:=.int i 0) rfl ?_);show wpAny _ _ (seqItems? (.ref t) >>= _) _ _ s;refine aa (cu I J ?_);simp only[bj,O];refine aa (bZ F B (by simp) (ai ⟨x,rfl,ai (U _ ?_ (cF ..))⟩))
 exact⟨_,bO _ F (Obj.isFreed_of_fields (dC B _)),(Obj.cls_mapFields ..).trans Y,by
  rw[dC B];simp[rawInt]⟩
def yQ{items}(L:A.handled=none)(q:s.heap.IsTupleIter it t i)(O:s.heap.IsTuple t items)(U:items[i]?=none)(Y:∀h' e,Heap.ExtBut it s.heap h'->(∃o,h'.get? e=some o/\o.cls = .type "StopIteration")->E (.ref e) { s with heap:=h' }):wpAny (model prog w) A (Builtin.SmallTypes.nextOf (.ref it)) Q E s:=by
 obtain⟨o,B,Z,F⟩:=id q;obtain⟨ol,I,_,nl,J⟩:=O;unfold Builtin.SmallTypes.nextOf
 refine aa (wpAny_callSpecial?_slot (name:=Str.ofString "__next__") q.typeIs ck
  (aY ck q.typeIs eI ?_ (eA _)))
 show wpAny _ _ (field (.ref it) 0 >>= _) _ _ s;refine aa (bB B F (x:=.ref t) rfl ?_);show wpAny _ _ (if (Value.ref t==Value.none)=true then _ else _) _ _ s;rw[if_neg (by grind)];show wpAny _ _ (field (.ref it) 1 >>= _) _ _ s;refine aa (bB B F (x:=.int i 0) rfl ?_);show wpAny _ _ (seqItems? (.ref t) >>= _) _ _ s;refine aa (cu I J ?_);simp only[bj,U];refine aa (di (aa (bZ B F (by simp) ?_)));show wpAny _ _ (newExc (.type "StopIteration") [] >>= _) _ _ _;refine aa ?_;simp only[newExc,newTuple];refine aa (bM ?_ (by size_fits));refine aa (m:=firstArgMember _ _) (wpAny_of_eq (a:=Value.none) (by first | rfl | (simp only[firstArgMember];rfl)) ?_);refine bM ?_ (by size_fits);simp only[raiseNew];refine aa (wpAny_handled ?_)
 first | rw[show A.in1.handled=none from L] | rw[L]
 refine aa (ai (wpAny_throw ?_));exact Y _ _ (((cF ..).extBut.push _).push _) ⟨_,am _ rfl,rfl⟩
def zeq (J:A.handled=none)(it l:Addr)(F:l≠it)(items:Array Value) :
  Draws prog w A it [it,l] items.size (λi v=>items[i]?=some v) (λi h=>h.IsTupleIter it l i/\h.IsTuple l items) where
 live:=λ_ _ st=>let ⟨o,ho,_⟩:=st.1;⟨o,ho⟩
 frame:=λ_ _ _ st I=>⟨let ⟨o,ho,r⟩:=st.1;⟨o,I it (by simp) o ho,r⟩,let ⟨o,ho,r⟩:=st.2;⟨o,I l (by simp) o ho,r⟩⟩
 item:=λi s Q E hi st L=>by refine yC st.1 st.2 (x:=items[i]) (by simp[hi]) λh' q B=>?_;exact L _ h' s.toks (by simp[hi]) ⟨q,st.2.extBut B.extBut F⟩ B
 done:=λs Q E st O=>yQ J st.1 st.2 (by simp) O
def ui (l:Addr)(items:Array Value)(n:Nat)(B:Option Addr)(J:Array (Option Value)) :
  Meets (Builtin.«enumerate.__new__» ⟨[.type "enumerate",.ref l],[]⟩) (λ_ R s=>s.heap.get? l=some { cls:=.type "tuple",dict:=B,data:=.seq items n,slots:=J }/\
   R (.ok (.ret (.ref (s.heap.push { cls:=.type "tuple_iterator",data:=.fields #[.ref l,.int 0 0] }).objs.size)))
    { s with heap:=(s.heap.push { cls:=.type "tuple_iterator",data:=.fields #[.ref l,.int 0 0] }).push { cls:=.type "enumerate",data:=.fields #[.none,.bool false,.ref s.heap.objs.size,rawInt 0,.none,.none] } }):=
 .of_wp λprog w A R s h=>by
  obtain⟨hp,g,d,tk,L⟩:=s;obtain⟨q,h⟩:=h;have I:=sub_enumerate;have F:Heap.IsTuple (Shared.heap ⟨hp,g,d,tk,L⟩) l items:=⟨_,q,rfl,n,rfl⟩
  wp_walk using cz q
  refine wpAny_stack_any λst=>ai ?_;split
  ·rename_i c _ _ _ _ _;cases (c==Value.type "enumerate")
   ·wp_walk using cz q,bP F
    exact⟨_,rfl,h⟩
   ·wp_walk using cz q,bP F
    exact⟨_,rfl,h⟩
  ·wp_walk using cz q,bP F
   exact⟨_,rfl,h⟩
def ug(U:s.heap.IsTuple l items)(h:∀h',IsEnum h' (s.heap.objs.size+1) s.heap.objs.size 0 .none->h'.IsTupleIter s.heap.objs.size l 0->h'.objs.size=s.heap.objs.size+2->
   (∀b o,s.heap.get? b=some o->h'.get? b=some o)->Q (.ref (s.heap.objs.size+1)) { s with heap:=h' }) :
  wpAny (model prog w) A (call (.type "enumerate") [.ref l]) Q E s:=by
 obtain⟨⟨c,q,Y,Z⟩,hl,B,n,I⟩:=U
 replace B:c = .type "tuple" := B
 replace I:Y = .seq items n:=I
 subst B I
 refine callType_new F.called_enumerate (by decide) (F.typeCall_enumerate_1 _) (F.newCall_enumerate_1 _) (λJ=>F.args_object_init_2 J _) F.entry_enumerate_new
  (ui l items n q Z) ⟨hl,?_⟩
 have L:(s.heap.push { cls:=.type "tuple_iterator",data:=.fields #[.ref l,.int 0 0] }).objs.size=s.heap.objs.size+1:=cw ..;show _/\_;rw[L]
 have O:IsEnum ((s.heap.push { cls:=.type "tuple_iterator",data:=.fields #[.ref l,.int 0 0] }).push
   { cls:=.type "enumerate",data:=.fields #[.none,.bool false,.ref s.heap.objs.size,rawInt 0,.none,.none] }) (s.heap.objs.size+1) s.heap.objs.size 0 .none:=by
  have:=am (s.heap.push { cls:=.type "tuple_iterator",data:=.fields #[.ref l,.int 0 0] })
   (o:={ cls:=.type "enumerate",data:=.fields #[.none,.bool false,.ref s.heap.objs.size,rawInt 0,.none,.none] }) rfl
  rw[L] at this;exact this
 refine⟨⟨_,O,rfl⟩,h _ O ⟨_,ae _ (am _ rfl),rfl,rfl⟩ (by simp) λb o x=>ae _ (ae _ x)⟩
end
def Ite (K:PySem.W.Frag)(a:Addr):It:=
 ⟨λi H=>∃xs x,SqT K H a xs/\xs[i]?=some x,λi H v H'=>∃T x,v = .ref T/\H T=none/\H'=upd H T (.tup [.int i,x])/\∀xs,SqT K H a xs->xs[i]?=some x,λi H=>∃xs,SqT K H a xs/\xs.length<=i⟩
def ziS{P:Program}{w:World}{K:PySem.W.Frag}{ag:List Expr}{x1}(a it e:Addr)(Z:e≠it) :
  Turn P w K (.Tuple ag x1 tpos) (Ite K a) [e,it] e (λi h=>(∃O,IsEnum h e it i O)/\h.IsTupleIter it a i) where
 mem:=by simp
 obj:=λi h st b J=>by
  rcases ax.mp J with rfl | J
  ·grind
  ·rw[aE.mp J];obtain⟨_,o,e,c,d⟩:=st
   simp_all
 keep:=λi h h' st k=>by obtain⟨⟨O,he⟩,o,ho,r⟩:=st;exact⟨⟨O,k e (by simp) _ he⟩,o,k it (by simp) _ ho,r⟩
 item:=by
  intro X hP hw hK hc i pins s σ H E I hf st hg;subst hP hw hK;obtain⟨xs,x,hq,hx⟩:=hg;obtain⟨its,rv,p,hz⟩:=I.tuple hq;obtain⟨u,hu,ru⟩:=rv.get hx;obtain⟨f0,f1,f2,f3,f4,f5⟩:=hf e (by simp);obtain⟨g0,g1,g2,g3,g4,g5⟩:=hf it (by simp);obtain⟨⟨O,he⟩,U⟩:=st
  have hsz:i<its.toArray.size:=by have:=(aj.mp hu).1;simpa using this
  have a3:a≠it:=by
   intro z;obtain⟨o,ho,a4,_⟩:=p;obtain⟨o',b0,bs,_⟩:=U
   grind
  have a5:e≠a:=by
   intro z;obtain⟨o,ho,a4,_⟩:=p
   grind
  refine wpAny_pyNext_enum_itemD (zeq (A:=X.A.in1) (I.ok.hd hc) it a a3 its.toArray) he ⟨U,p⟩ hsz Z (by simp[Z,a5]) λy h' tk hy ho al hT bt hk=>?_
  have a7:y=u:=by simp_all
  subst a7;refine⟨_,rfl,?_⟩;refine wpAny_letOwnedTupleGo_enum ho λY ab L=>?_;have an:s.heap.objs.size≠e:=cP (ak he)
  have bb:s.heap.objs.size≠it:=by obtain⟨o,as,_⟩:=U;exact cP (ak as)
  have B:=I.hok.fresh (af s.heap.objs.size);have kp:∀b o,b≠e->b≠it->s.heap.get? b=some o->Y.get? b=some o:=λb o h1 h2 J=>(L.2 b h1).trans (hk b o h1 h2 J);have a0:Y.get? s.heap.objs.size=some { cls:=.type "tuple",data:=.seq #[.int i tk,y] }:=(L.2 _ an).trans hT;obtain⟨oe,b1⟩:∃o,Y.get? e=some o:=⟨_,ab⟩
  obtain⟨oi,as⟩:∃o,Y.get? it=some o:=by obtain⟨⟨o,ad,_⟩,_⟩:=al;exact⟨o,(L.2 it (Ne.symm Z)).trans ad⟩
  have bx:∀b u',H b=some u'->b≠e/\b≠it:=λb u' J=>⟨zc J f0,zc J g0⟩
  have a1:HOk X.prog X.w (upd H s.heap.objs.size (.tup [.int i,x])) Y:=by
   intro b u' J;by_cases a2:b=s.heap.objs.size
   ·subst a2;rw[zg] at J;cases J;exact⟨by show 2<=sizeLine;decide,[.int i tk,y],.cons ⟨tk,rfl⟩ (.cons ru .nil),_,a0,rfl,⟨0,rfl⟩,rfl⟩
   ·rw[zb a2] at J;refine (I.hok b u' J).stay (λc v b2 q=>?_) (λc q=>?_) (λc ys q=>?_)
    ·refine kp c v ?_ ?_ q
     all_goals grind
    ·rw[zb (zc q B)];exact q
    ·rw[zb (zc q B)];exact q
  have I1:Inv X pins σ (upd H s.heap.objs.size (.tup [.int i,x])) { s with heap:=Y,toks:=tk+1 }:=by
   refine Inv.step (ch:=[e,it]) (g':=s.gens) (d':=s.drawn) (t':=tk+1) I (λb J=>?_) (λb o h1 h2 h3 h4 h5=>?_) (λb o h1 h2 h3 h4 h5=>?_) (λb o h3 h4 h5=>?_) (λb o h3 h4=>?_) (λb ys q=>?_) (λb o u' q=>?_) (λb ps q=>?_) (λm hm=>?_) a1 I.bare
   ·rcases ax.mp J with rfl | J
    ·exact⟨f3,f1,f4,f5⟩
    ·rw[aE.mp J];exact⟨g3,g1,g4,g5⟩
   ·simp_all
   ·exact⟨o.slots,kp b o (λz=>h3 (by simp[z])) (λz=>h3 (by simp[z])) h4⟩
   ·rw[zb (aD (ak h4))];exact h5
   ·simp_all
   ·rw[zb (zc q B)];exact q
   ·rw[zb (zc q B)];exact q
   ·exact⟨#[],by rw[zb (zc q B),dD];exact q⟩
   ·obtain⟨o,es,ep,bd,r1⟩:=hm;exact⟨o,es,ep,kp _ o (Ne.symm f1) (Ne.symm g1) bd,r1⟩
  refine⟨.ref s.heap.objs.size,_,I1,rfl,⟨s.heap.objs.size,x,rfl,B,rfl,λys bk=>by rw[I.tuple_inj bk hq];exact hx⟩,⟨⟨y,by have:=ab;push_cast;exact this⟩,?_⟩,λb J=>?_⟩
  ·obtain⟨⟨o,ad,r2⟩,_⟩:=al;exact⟨o,(L.2 it (Ne.symm Z)).trans ad,r2⟩
  ·rcases ax.mp J with rfl | J
   ·rw[zb (Ne.symm an)];exact f0
   ·rw[aE.mp J,zb (Ne.symm bb)];exact g0
 done:=by
  intro X hP hw hK hc i pins s σ H E I hf st hg;subst hP hw hK;obtain⟨xs,hq,hx⟩:=hg;obtain⟨its,rv,p,hz⟩:=I.tuple hq;obtain⟨f0,f1,f2,f3,f4,f5⟩:=hf it (by simp);obtain⟨⟨O,he⟩,U⟩:=st;have hl:=rv.length;have hT:s.TypeIs (.ref e) "enumerate" := ⟨_,he,rfl⟩;unfold pyNext
  refine aa (cU (wpAny_callSpecial?_slot (name:=Str.ofString "__next__") hT F.slot_enumerate_next
   (aY F.slot_enumerate_next hT F.entry_enumerate_next ?_ (F.args_enumerate_next_1 _))))
  show wpAny _ _ (field (.ref e) 2 >>= _) _ _ _;refine aa (bB he rfl (x:=.ref it) rfl ?_);refine aa (yQ (A:=X.A.in1) (I.ok.hd hc) U p (by simp;lia) λh' x bl bm=>?_);obtain⟨o,ho,bo⟩:=bm;refine aa (cJ (T := "StopIteration") (b:=true) ⟨o,ho,bo⟩ eX ?_);exact ai ⟨rfl,I.turned (t':=s.toks) (λb o J e=>bl b o J e) f0 f1 f3 f4 f5⟩
 self:=λA i s Q E st h=>by obtain⟨⟨O,he⟩,U⟩:=st;exact wpAny_pyIter_enum he h
def zoY (K:PySem.W.Frag)(ta:TA):TI:=λσ H R=>ta σ H λvs H1=>∃a,vs=[.ref a]/\(∃xs,SqT K H1 a xs)/\R (Ite K a) H1
def znd{x1}(U:Gl X "enumerate")(Y:X.mg "enumerate" = none)(Z:PA X [a] ta)(hs:starEach [a] X.env=[(false,eval a X.env)]:=by rfl) :
  PI X (.Tuple F x1 tpos) (.Call (.Name "enumerate" p) [a] [] pos) (zoY X.K ta):=by
 intro pins s σ H R I h;refine Call_ (zbf I U Y boot_enumerate (bG (thn (Z pos pins s σ H _ I h) λus B ⟨vs,H1,I1,r1,q1⟩=>?_) hs rfl));obtain⟨b,rfl,⟨xs,hq⟩,q⟩:=q1;obtain⟨u,rfl,ru⟩:=zbP r1;cases ru;obtain⟨its,rv,pt,hz⟩:=I1.tuple hq;refine ug (show B.heap.IsTuple b its.toArray from pt) λh' O J hsz hk=>?_;have I2:Inv X pins σ H1 { B with heap:=h',toks:=B.toks }:=I1.kept (t':=B.toks) hk;refine wpAny_pyIter_enum O ?_;refine⟨B.heap.objs.size+1,[B.heap.objs.size+1,B.heap.objs.size],_,_,H1,rfl,I2,ziS b B.heap.objs.size (B.heap.objs.size+1) (Nat.succ_ne_self _),⟨⟨_,O⟩,J⟩,λc L=>?_,q⟩;rcases ax.mp L with rfl | L
 ·exact I1.fpOk (Nat.le_succ _) (I1.hok.fresh (Nat.le_succ _))
 ·rw[aE.mp L];exact I1.fpOk (af _) (I1.hok.fresh (af _))
def znz{x1}(B:Gl X "enumerate")(F:X.mg "enumerate" = none)(I:QA X [a] ta)(J:starEach [a] X.env=[(false,eval a X.env)]:=by rfl) :
  QI X (.Tuple q x1 tpos) (.Call (.Name "enumerate" p) [a] [] pos) (zoY X.K ta):=⟨znd B F I.run J⟩
mutual
def Dt.toW:Dt->PySem.W.Dat
 | .non=>.none
 | .bl b=>.bool b
 | .int i=>.int i
 | .str x=>.str x
 | .tup l=>.tuple (Dt.toWs l)
 | .lst l=>.list (Dt.toWs l)
 | .dct=>.bytes #[]
def Dt.toWs:List Dt->List PySem.W.Dat
 | []=>[]
 | d::ds=>d.toW::Dt.toWs ds
end
mutual
def zbK:∀ {d e:Dt},d.toW=e.toW->d=e
 | .non,e,h=>by cases e <;> simp[Dt.toW] at h ⊢
 | .bl b,e,h=>by cases e <;> simp[Dt.toW] at h ⊢;exact h
 | .int b,e,h=>by cases e <;> simp[Dt.toW] at h ⊢;exact h
 | .str b,e,h=>by cases e <;> simp[Dt.toW] at h ⊢;exact h
 | .tup l,e,h=>by
  cases e with
  | tup m=>simp only[Dt.toW,PySem.W.Dat.tuple.injEq] at h;rw[zc5 h]
  | _=>simp[Dt.toW] at h
 | .lst l,e,h=>by
  cases e with
  | lst m=>simp only[Dt.toW,PySem.W.Dat.list.injEq] at h;rw[zc5 h]
  | _=>simp[Dt.toW] at h
 | .dct,e,h=>by cases e <;> simp[Dt.toW] at h ⊢
def zc5:∀ {l m:List Dt},Dt.toWs l=Dt.toWs m->l=m
 | [],m,h=>by cases m <;> simp[Dt.toWs] at h ⊢
 | d::l,m,h=>by
  cases m with
  | nil=>simp[Dt.toWs] at h
  | cons e m=>
   simp only[Dt.toWs,eJ] at h;rw[zbK h.1,zc5 h.2]
end
def Dt.eqOk (d:Dt):Prop:=PySem.W.kqdOk 8 d.toW=true
section
variable {P:Program}{w:World}{H:Hp}{h:Heap}
mutual
def yS (ok:HOk P w H h):∀ (n:Nat) {d:Dt} {v:V} {u:Value},Is H d v->zX v u->PySem.W.kqdOk n d.toW=true->∃as,Reads h u (PySem.W.kqdP d.toW) as
 | _,.non,_,_,h1,r,_=>by cases h1;cases r;exact⟨_,Reads.none⟩
 | n,.bl b,_,_,_,_,k=>by cases n <;> simp[Dt.toW,PySem.W.kqdOk] at k
 | _,.int i,_,_,h1,r,_=>by cases h1;obtain⟨t,rfl⟩:=r;exact⟨_,Reads.int i t⟩
 | _,.str x,_,_,h1,r,_=>by cases h1;obtain⟨t,rfl⟩:=r;exact⟨_,Reads.str x t⟩
 | 0,.tup l,_,_,_,_,k=>by simp[Dt.toW,PySem.W.kqdOk] at k
 | n+1,.tup l,_,_,h1,r,k=>by obtain⟨a,xs,rfl,ha,hl⟩:=h1;cases r;obtain⟨_,its,rv,o,ho,hc,⟨m,hd⟩,_⟩:=ok a _ ha;obtain⟨as,q⟩:=uE ok n hl rv (by simpa [Dt.toW,PySem.W.kqdOk] using k);exact⟨as,reads_tuple_at ho hc hd (by simpa using q)⟩
 | 0,.lst l,_,_,_,_,k=>by simp[Dt.toW,PySem.W.kqdOk] at k
 | n+1,.lst l,_,_,h1,r,k=>by obtain⟨a,xs,rfl,ha,hl⟩:=h1;cases r;obtain⟨_,its,m,rv,e⟩:=(show zD P w H h a (.lst xs) from znJ ok ha);obtain⟨as,q⟩:=uE ok n hl rv (by simpa [Dt.toW,PySem.W.kqdOk] using k);exact⟨_,reads_list_at e rfl rfl (by simpa using q)⟩
 | n,.dct,_,_,_,_,k=>by cases n <;> simp[Dt.toW,PySem.W.kqdOk] at k
def uE (ok:HOk P w H h):∀ (n:Nat) {ds:List Dt} {xs:List V} {us:List Value},IsL H ds xs->zY xs us->(∀d∈Dt.toWs ds,PySem.W.kqdOk n d=true)->∃as,ReadsAll h us (PySem.W.kqdPs (Dt.toWs ds)) as
 | _,[],_,_,h1,r,_=>by cases h1;cases r;exact⟨_,ReadsAll.nil⟩
 | n,d::ds,_,_,h1,r,k=>by
  obtain⟨x,xr,rfl,hd,hr⟩:=h1
  cases r with
  | cons rx rr=>
   obtain⟨as,q⟩:=yS ok n hd rx (k _ (by simp[Dt.toWs]));obtain⟨bs,q2⟩:=uE ok n hr rr λe he=>k e (by simp[Dt.toWs,he]);exact⟨_,ReadsAll.cons q q2⟩
end
end
def xG {d:Dt}(h:d.eqOk):SeqAt.shaped (PySem.W.kqdP d.toW)=true:=by
 have l:=cA 8 _ h;unfold SeqAt.shaped
 grind
def zrA:R2:=λx y H Q=>∃d e,Is H d x/\Is H e y/\d.eqOk/\e.eqOk/\∀b:Bool,(b=true↔d=e)->Q (.bl b) H
def zrD:R2:=λx y H Q=>∃d e,Is H d x/\Is H e y/\d.eqOk/\e.eqOk/\∀b:Bool,(b=true↔d=e)->Q (.bl (!b)) H
section
variable {X:Cx}
def zg6 {d e:Dt}(h1:d.eqOk)(h2:e.eqOk):PyData.eqv (PySem.W.kqdP d.toW) (PySem.W.kqdP e.toW)=true↔d=e:=
 (cQ 8 d.toW e.toW 8 h1 h2).trans ⟨zbK,λz=>by rw[z]⟩
def zpH (F:X.A.units+64<cLine):OpR X (compareOp .Eq) zrA:=by intro pins s σ H x y v u Q I J L h;obtain⟨d,e,O,U,B,ke,q⟩:=h;obtain⟨as,Y⟩:=yS I.hok 8 O J B;obtain⟨bs,Z⟩:=yS I.hok 8 U L ke;exact eq_dataH Y Z (xG B) (xG ke) F ⟨.bl _,H,I,rfl,q _ (zg6 B ke)⟩
def zpK (F:X.A.units+64<cLine):OpR X (compareOp .NotEq) zrD:=by intro pins s σ H x y v u Q I J L h;obtain⟨d,e,O,U,B,ke,q⟩:=h;obtain⟨as,Y⟩:=yS I.hok 8 O J B;obtain⟨bs,Z⟩:=yS I.hok 8 U L ke;exact ne_dataH Y Z (xG B) (xG ke) F ⟨.bl _,H,I,rfl,q _ (zg6 B ke)⟩
def zh3 (q:X.A.units+64<cLine):OpQ X (compareOp .Eq) zrA:=⟨zpH q⟩
def zh5 (q:X.A.units+64<cLine):OpQ X (compareOp .NotEq) zrD:=⟨zpK q⟩
def zqm{to:TE}{t:TA}{apos cpos:Pos}(L:QE X o to)(O:QA X [e] t)(B:attributeBase o "append" X.env (eval o X.env)=eval o X.env:=by rfl)(J:((backTo cpos (starEach [e] X.env)).all (λx=>!x.1)&&(backToKw cpos (keywordEach [] X.env)).all (λx=>x.1.isSome)&&decide (([e]:List Expr).length+([]:List Keyword).length+(if ([]:List Keyword).isEmpty then 0 else 1)<30))=true:=by rfl)(I:(apos.endLine==cpos.line)=true:=by rfl)(U:starEach [e] X.env=(false,eval e X.env)::starEach [] X.env:=by rfl)(q:(backTo cpos (starEach [] X.env)).any (·.1)=false:=by rfl) :
  QE X (.Call (.Attribute o "append" apos) [e] [] cpos) (tBM X.K "list" zeX to t):=⟨zpV cG PySem.F.slot_list_append PySem.F.type_list_append zdI L.run O.run B J I U q⟩
end
def za3 {ns:List Int}:(Dt.tup (ns.map .int)).eqOk:=by
 have e:∀ns:List Int,(Dt.toWs (ns.map .int)).all (PySem.W.kqdOk 7)=true:=by
  intro ns
  induction ns with
  | nil=>rfl
  | cons n ns q=>simp only[ao,Dt.toWs,bY,q,cV];rfl
 exact e ns
def zA (rm:List Int)(i:Int):Int:=rm.getD i.toNat 0
@[reducible] def zF (q:Int×Int):Dt:=.tup [.int q.1,.int q.2]
structure Giv (rm:List Int)(g:List (Int×Int)):Prop where
 ok:∀q∈g,0<=q.1/\q.1<rm.length/\0<=q.2/\q.2<zA rm q.1
 up:g.Pairwise λa b=>a.1<b.1
def zca {g:List (Int×Int)}:(Dt.tup (g.map zF)).eqOk/\(Dt.lst (g.map zF)).eqOk:=by
 have e:∀g:List (Int×Int),(Dt.toWs (g.map zF)).all (PySem.W.kqdOk 7)=true:=by
  intro g
  induction g with
  | nil=>rfl
  | cons n ns q=>simp only[ao,Dt.toWs,bY,q,cV];rfl
 exact⟨e g,e g⟩
def zcr (H H':Hp):Prop:=∀b xs,H b=some (.tup xs)->H' b=some (.tup xs)
def zcr.app {H:Hp}{a:Addr}{xs ys:List V}(h:H a=some (.lst xs)):zcr H (upd H a (.lst ys)):=λb zs e=>by
 by_cases q:b=a
 ·grind
 ·rw[zb q];exact e
mutual
def Dt.noL:Dt->Bool
 | .tup l=>Dt.noLs l
 | .lst _=>false
 | .dct=>false
 | _=>true
def Dt.noLs:List Dt->Bool
 | []=>true
 | d::ds=>d.noL&&Dt.noLs ds
end
mutual
def Is.stayT {H H1:Hp}(a:zcr H H1):∀ {d:Dt} {v:V},d.noL=true->Is H d v->Is H1 d v
 | .non,_,_,h=>h
 | .bl _,_,_,h=>h
 | .int _,_,_,h=>h
 | .str _,_,_,h=>h
 | .tup l,_,n,h=>by obtain⟨p,xs,e,hp,hl⟩:=h;exact⟨p,xs,e,a _ _ hp,IsL.stayT a (by simpa [Dt.noL] using n) hl⟩
 | .lst l,_,n,_=>by simp[Dt.noL] at n
 | .dct,_,n,_=>by simp[Dt.noL] at n
def IsL.stayT {H H1:Hp}(a:zcr H H1):∀ {ds:List Dt} {xs:List V},Dt.noLs ds=true->IsL H ds xs->IsL H1 ds xs
 | [],_,_,h=>h
 | d::ds,_,n,h=>by
  obtain⟨x,r,e,hd,hr⟩:=h;have n':d.noL=true/\Dt.noLs ds=true:=by simpa [Dt.noLs] using n
  exact⟨x,r,e,Is.stayT a n'.1 hd,IsL.stayT a n'.2 hr⟩
end
def Giv.snoc {rm:List Int}{g:List (Int×Int)}{i w:Int}(h:Giv rm g)(B:∀q∈g,q.1<i)(L:0<=i)(h1:i<rm.length)(h2:0<=w)(O:w<zA rm i):Giv rm (g++[(i,w)]):=by
 refine⟨λq F=>?_,cY.mpr ⟨h.up,dE _ _,λa I b J=>?_⟩⟩
 ·rcases aK.mp F with z | z
  ·exact h.ok q z
  ·simp_all
 ·rw[aE.mp J];exact B a I
def New (H:Hp)(o:HO)(R:V->Hp->Prop):Prop:=∀ (p:Addr) (H':Hp),H p=none->H' p=some o->yz H H'->R (.ref p) H'
def New.at(h:New H o R)(hp:H p=none):R (.ref p) (upd H p o):=h p _ hp zg (yz.upd hp)
def zq4 (t:TA):TE:=λσ H Q=>t σ H λxs H1=>xs.length<=sizeLine/\New H1 (.tup xs) Q
def zqX (t:TA):TE:=λσ H Q=>t σ H λxs H1=>xs.length<=sizeLine/\New H1 (.lst xs) Q
section
variable {X:Cx}{es:List Expr}{t:TA}{pos:Pos}
def zm8 {x1}(h:PA X es t):PE X (.Tuple es x1 pos) (zq4 t):=by intro pins s σ H Q I F;refine wpAny_Tuple_spliced (thn (h pos pins s σ H _ I F) λus B ⟨xs,H1,I1,r,z,q⟩=>⟨by rw[<- r.length];exact z,?_⟩);have hf:H1 B.heap.objs.size=none:=I1.hok.fresh (af _);refine⟨.ref B.heap.objs.size,upd H1 B.heap.objs.size (.tup xs),I1.laid (t':=B.toks) (λb u e=>ae _ e) (af _) ?_,rfl,q.at hf⟩;exact⟨z,us,r,⟨_,am _ rfl,rfl,⟨_,rfl⟩,rfl⟩⟩
def zm7 (h:PA X es t):PE X (.List es pos) (zqX t):=by intro pins s σ H Q I F;refine wpAny_List_spliced (thn (h pos pins s σ H _ I F) λus B ⟨xs,H1,I1,r,z,q⟩=>⟨by rw[<- r.length];exact z,?_⟩);have hf:H1 B.heap.objs.size=none:=I1.hok.fresh (af _);refine⟨.ref B.heap.objs.size,upd H1 B.heap.objs.size (.lst xs),I1.laid (t':=B.toks) (λb u e=>ae _ e) (af _) ?_,rfl,q.at hf⟩;exact⟨z,us,0,r,am _ rfl⟩
def zeS {x1}(h:QA X es t):QE X (.Tuple es x1 pos) (zq4 t):=⟨zm8 h.run⟩
def zil (h:QA X es t):QE X (.List es pos) (zqX t):=⟨zm7 h.run⟩
def CallQ.weak(h:CallQ X f r)(k:∀xs H Q,q xs H Q->r xs H Q):CallQ X f q:=⟨λpins s σ H xs us Q I B z=>h.run pins s σ H xs us Q I B (k _ _ _ z)⟩
def OpQ.weak(h:OpQ X f r)(k:∀x y H Q,q x y H Q->r x y H Q):OpQ X f q:=⟨λpins s σ H x y v u Q I B F z=>h.run pins s σ H x y v u Q I B F (k _ _ _ _ z)⟩
def ziy (K:PySem.W.Frag):List V->Hp->VK->Prop:=λxs H Q=>∃p ys,xs=[.ref p]/\(SqL K H p ys\/SqT K H p ys)/\New H (.lst ys) Q
def zeY (K:PySem.W.Frag):List V->Hp->VK->Prop:=λxs H Q=>∃p ys,xs=[.ref p]/\((SqL K H p ys/\New H (.tup ys) Q)\/(SqT K H p ys/\Q (.ref p) H))
def zaZ:CallQ X (.type "list") (ziy X.K):=zf6.weak <| by rintro xs H Q ⟨p,ys,e,h,n⟩;exact⟨p,ys,e,h,λl q=>n.at q⟩
def xk:CallQ X (.type "tuple") (zeY X.K):=zen.weak <| by rintro xs H Q ⟨p,ys,e,h⟩;exact⟨p,ys,e,h.elim (by rintro⟨a,n⟩;exact .inl ⟨a,λl q=>n.at q⟩) .inr⟩
def znH:R2:=λx y H Q=>∃l b xs zs,x = .ref l/\y = .ref b/\Rd H l (.lst xs)/\Rd H b (.lst zs)/\xs.length+zs.length<=sizeLine/\New H (.lst (xs++zs)) Q
def zcU:OpQ X (binaryOp .Add) znH:=zpN.weak <| by rintro x y H Q ⟨l,b,xs,zs,q,B,h1,h2,z,n⟩;exact⟨l,b,xs,zs,q,B,h1,h2,z,λp hp=>n.at hp⟩
end
def zrP (J:It)(g:TG)(ti:TT)(te:TE)(acc:Addr)(Q:VK)(σ:St)(H:Hp):Prop:=∃W:Nat->Nat->St->Hp->Prop,(∃m,W 0 m σ H)/\
 ∀i m q H',W i m q H'->(J.stop i H'/\Q (.ref acc) H')\/(J.go i H'/\∃N:St->Hp->Prop,(∀ B H2,N B H2->∃F,F<m/\W (i+1) F B H2)/\∀x H2,J.yld i H' x H2->zgK g ti te acc N x q H2)
def ziO (wi:TI)(g:TG)(ti:TT)(te:TE)(cix:List (Option Nat)):TE:=λσ H Q=>wi σ H λJ H1=>∀acc,H1 acc=none->zrP J g ti te acc Q (zbV σ cix) (upd H1 acc (.lst []))
def zkq(q:X.calm=true)(c:CompOk X scope N cix)(hi:QI X tg iter wi)(B:∀C s H ex,QG (zH X scope N C s H ex) tg g)(F:∀C s H ex,QTs (zH X scope N C s H ex) ifs ti)(I:∀C s H ex,QE (zH X scope N C s H ex) elt te)(J:∀x,foldedSetIterable iter X.env x=pure x:=by intro _;rfl):QE X (.ListComp elt [⟨tg,iter,ifs,0⟩] scope pos) (ziO wi g ti te cix):=znu q c hi B F I J
section
variable {K:PySem.W.Frag}{a acc:Addr}{xs:List V}{g:TG}{ti:TT}{te:TE}{σ:St}{H:Hp}{Q:VK}
end
def zow(h:g x σ H λq H3=>te q H3 λv H5=>∃xs,H5 acc=some (.lst xs)/\xs.length<sizeLine/\N q (upd H5 acc (.lst (xs++[v])))):zgK g zap te acc N x σ H:=zlf h
def zkD(h:H acc=none)(s:yz H H1):yz H (upd H1 acc o):=λb u e=>by rw[zb (zc e h)];exact s b u e
section
variable {X:Cx}(K:PySem.W.Frag)(h:X.K=K)
include h
def zkb:OpQ X (binaryOp .Add) (ziw K):=h ▸ xf
end
def znx {X:Cx}(K:PySem.W.Frag)(B:X.K=K){es:List Expr}{pos:Pos}{k:Nat}{gs:TGs}{n:Nat}(F:X.calm=true)(h:QGs X es gs)(I:(assignEach es X.env).length=n:=by rfl)(q:(assignEach es X.env).findIdx? (·.1)=none:=by rfl):QG X (.Tuple es k pos) (zsh K n gs):=B ▸ zqt F h I q
def znA(K:PySem.W.Frag)(q:X.K=K)(B:QE X e te):QI X tg e (zsk K te):=q ▸ zlp B
def zfL(K:PySem.W.Frag)(q:X.K=K)(B:QE X e te):QI X tg e (zmc K te):=q ▸ zeT B
structure Wi where
 g:List (Int×Int)
 b:Int
 r:Int
 w:Int
@[reducible] def zt4 (x:Wi):Dt:=.tup [.tup (x.g.map zF),.int x.b,.int x.r,.int x.w]
structure WishOk (rm:List Int)(x:Wi):Prop where
 giv:Giv rm x.g
 b0:0<=x.b
 b1:x.b<rm.length
 apart:∀q∈x.g,q.1≠x.b
 r0:0<=x.r
 r1:x.r<zA rm x.b
 w0:0<=x.w
 w1:x.w<zA rm x.b
 ne:x.r≠x.w
section
variable {H H':Hp}{R:Dt->Prop}{xs ys:List V}
end
def zes {m:Int}:∀ {g:List (Int×Int)} {lo:Int},(∀q∈g,lo<=q.1/\q.1<m)->(g.Pairwise λa b=>a.1<b.1)->lo<=m->(g.length:Int)<=m - lo
 | [],lo,_,_,h=>by simp;lia
 | q::g,lo,h,hp,I=>by
  have h1:=h q aL;have B:=bQ.mp hp;have J:=zes (g:=g) (lo:=q.1+1) (λx F=>⟨by have:=B.1 x F;lia,(h x (av _ F)).2⟩) B.2 (by lia)
  grind
def zba {rm:List Int}{g:List (Int×Int)}(h:Giv rm g)(F:rm.length<=8):g.length<=100:=by have:=zes (g:=g) (lo:=0) (m:=rm.length) (λq B=>⟨(h.ok q B).1,(h.ok q B).2.1⟩) h.up (by lia);lia
section
variable {rm:List Int}{g b r w:Dt}
end
end L2
namespace HT
open PySem PySem.Spec PyProof.Rows
section
variable {prog:Program}{w:World}{A:Around}{E:Value->Shared->Prop}{s:Shared}
end
end HT
namespace L2
open PySem PySem.Spec PyProof.Rows
section
variable {X:Cx}{e:Expr}{te:TE}{pos p2 p3 p4:Pos}{j:Nat}
end
section
variable {X:Cx}
end
def chg (st:List Int)(b w:Int):List Int:=st.take b.toNat++[w]++st.drop (b.toNat+1)
def zB (st:List Int)(g:List (Int×Int)):Bool:=g.all λq=>decide (zA st q.1=q.2)
def zsi (st:List Int)(x:Wi):Bool:=decide (zA st x.b=x.w)&&zB st x.g
def uS (st:List Int)(j:Nat):zA st (j:Int)=st.getD j 0:=by unfold zA;simp
def x6 {st:List Int}{r b:Int}(B:0<=b)(h1:b<st.length):zA (st++[r]) b=zA st b:=by
 obtain⟨j,rfl⟩:∃j:Nat,b=j:=⟨b.toNat,by lia⟩;have q:j<st.length:=by lia
 rw[uS,uS,br,br,cr q]
def x5 {st:List Int}{r:Int}:zA (st++[r]) (st.length:Int)=r:=by rw[uS,br,bK (af _),Nat.sub_self];rfl
def zeF {st:List Int}{i:Nat}{m:Int}(h:st[i]?=some m):zA st (i:Int)=m:=by rw[uS,br,h];rfl
def zby {rm:List Int}(B:∀r∈rm,2<=r/\r<=4){b:Int}(F:0<=b)(h1:b<rm.length):2<=zA rm b/\zA rm b<=4:=by
 obtain⟨j,rfl⟩:∃j:Nat,b=j:=⟨b.toNat,by lia⟩;have q:j<rm.length:=by lia
 rw[zeF (ar q)]
 simp_all
def zdK:∀st:List Int,Dt.noLs (st.map .int)=true
 | []=>rfl
 | _::st=>by show (true&&Dt.noLs (st.map .int))=true;rw[zdK st];rfl
def zaP (st:List Int):PySem.W.kqdOk 7 (Dt.tup (st.map .int)).toW=true:=by
 have e:∀ns:List Int,(Dt.toWs (ns.map .int)).all (PySem.W.kqdOk 6)=true:=by
  intro ns
  induction ns with
  | nil=>rfl
  | cons n ns q=>simp only[ao,Dt.toWs,bY,q,cV];rfl
 exact e st
def znF{X:Cx}{ifs:List Expr}{scope:Scope}{pos spos:Pos}{wi:TI}{g:TG}{ti:TT}{te:TE}{N:List Str}{nx:Str}(q:X.N.Nodup)(B:X.N[ix]?=some nx)(F:X.env.scope.names.lookup nx=some .local)(O:X.calm=true)(c:CompOk X scope N cix)(hi:QI X tg iter wi)(Y:∀C s H ex,QG (zH X scope N C s H ex) tg g)(Z:∀C s H ex,QTs (zH X scope N C s H ex) ifs ti)(he:∀C s H ex,QE (zH X scope N C s H ex) elt te)(J:swapsWithSole [.Name nx px] (.ListComp elt [⟨tg,iter,ifs,0⟩] scope pos) spos.line X.env=pure true:=by rfl)(hs:∀x,foldedSetIterable iter X.env x=pure x:=by intro _;rfl)(L:(assignEach [.Name nx px] X.env).map (·.2)=[assign (.Name nx px) X.env]:=by rfl):QS X (.Assign [.Name nx px] (.ListComp elt [⟨tg,iter,ifs,0⟩] scope pos) spos) (zgu (ziO wi g ti te cix) (zaK ix)):=⟨λpins s σ H D I h=>zfc q B F J L (λ_=>rfl) λU Qp hf=>zdF (Fin:=λacc H=>D.nx (σ.set ix (some (.ref acc))) H) (zbr c) O hi.run (zf9 λC s H ex=>(Y C s H ex).run) (zf9 λC s H ex=>(Z C s H ex).run) (zf9 λC s H ex=>(he C s H ex).run) hs I h hf⟩
section
variable {prog:Program}{w:World}{A:Around}{E:Value->Shared->Prop}{s:Shared}
end
section
variable {X:Cx}
end
section
variable {prog:Program}{w:World}{A:Around}{R:Result->Shared->Prop}{s:Shared}
def zaJ(I:Nat->Shared->Prop)(turn:∀n s,I n s->wpAny (model prog w) A (pyNext it) (λr s₁=>match r with
   | none=>R (.ok .next) s₁
   | some v=>wpAny (model prog w) A (letOwnedTupleGo target it v) (λ_ s₂=>wpAny (model prog w) A (assign target env v) (λ_ s₃=>
     wpAny (model prog w) A (forIn ifs true λc r=>if r=true then do let ok <- isTrue c env (eval c env);pure (ForInStep.yield ok) else pure (ForInStep.yield r)) (λok s₄=>
      if ok=true then wpAny (model prog w) A (eval elt env) (λx s₅=>
       wpAny (model prog w) A (call (.builtin "list.append") [acc,x]) (λ_ s₆=>∃m,m<n/\I m s₆) (λ_ _=>False) s₅) (λ_ _=>False) s₄
      else ∃m,m<n/\I m s₄) (λ_ _=>False) s₃) (λ_ _=>False) s₂) (λ_ _=>False) s₁) (λ_ _=>False) s)(n:Nat)(h:I n s) :
  codeAny (model prog w) A (.compLoop (.ListComp elt [c1,⟨target,iter,ifs,0⟩] scope pos) 1 it acc env) R s:=by
 refine codeAny_loop rfl I (λn s hI=>?_) n h;show wpAny _ A ((compTurn (.ListComp elt [c1,⟨target,iter,ifs,0⟩] scope pos) 1 it acc env).onRaise (λx=>do noteFrame x env;theTreesLotGoes x)) _ _ s;refine wpAny_noted ?_;unfold compTurn;refine aa (dB (aa (aU (turn n s hI) (λr s₁ h₁=>?_) λ_ _ h'=>h'.elim)))
 cases r with
 | none=>exact ai h₁
 | some v=>
  refine aa (aU h₁ (λ_ s₂ h₂=>?_) λ_ _ h'=>h'.elim);refine aa (aU h₂ (λ_ s₃ h₃=>aa (aU h₃ (λok s₄ h₄=>?_) λ_ _ h'=>h'.elim)) λ_ _ h'=>h'.elim)
  cases ok with
  | false=>exact ai ⟨rfl,h₄⟩
  | true=>
   exact aa (aa (aU h₄ (λx s₅ h₅=>aa (aU h₅ (λ_ s₆ h₆=>ai (ai ⟨rfl,h₆⟩)) λ_ _ h'=>h'.elim)) λ_ _ h'=>h'.elim))
def uB(h1:codeAny (model prog w) A (.compLoop (.ListComp elt [c1,⟨target,iter,ifs,0⟩] scope pos) 1 it acc env) R s)(h2:wpAny (model prog w) A (pyIter it) (λit' s'=>codeAny (model prog w) A (.compLoop (.ListComp elt [c1,⟨target,iter,ifs,0⟩] scope pos) 1 it' acc env) R s') (λ_ _=>False) s) :
  codeAny (model prog w) A (.compStart (.ListComp elt [c1,⟨target,iter,ifs,0⟩] scope pos) 1 it acc env) R s:=by
 refine codeAny_of_tree ?_;show wpAny _ A ((compStart (.ListComp elt [c1,⟨target,iter,ifs,0⟩] scope pos) 1 it acc env).onRaise (λx=>do noteFrame x env;standAt theWindowsPlace)) _ _ s;refine fg ?_;unfold compStart;rw[if_neg (by show ¬ ((0 != 0)=true);decide)];refine aa (wpAny_askSetting ?_);split
 ·exact ai ⟨rfl,h1⟩
 ·refine aa (di ?_);refine aa (dB ?_);refine aa (aU h2 (λit' s' h'=>ai ⟨rfl,h'⟩) λ_ _ h'=>h'.elim)
def zad(hf:∀x,foldedSetIterable it2 env x=pure x)(I:Nat->Shared->Prop)(turn:∀n s,I n s->wpAny (model prog w) A (pyNext it) (λr s₁=>match r with
   | none=>R (.ok .next) s₁
   | some v=>wpAny (model prog w) A (letOwnedTupleGo target it v) (λ_ s₂=>wpAny (model prog w) A (assign target env v) (λ_ s₃=>
     wpAny (model prog w) A (forIn ifs true λc r=>if r=true then do let ok <- isTrue c env (eval c env);pure (ForInStep.yield ok) else pure (ForInStep.yield r)) (λok s₄=>
      if ok=true then wpAny (model prog w) A (eval it2 env) (λx s₅=>wpAny (model prog w) A (pyIter x) (λiv s₆=>
       codeAny (model prog w) A (.compStart (.ListComp elt [⟨target,iter,ifs,0⟩,⟨t2,it2,ifs2,0⟩] scope pos) 1 iv acc env) (λr s₇=>match r with
        | .ok _=>∃m,m<n/\I m s₇
        | .error _=>False) s₆) (λ_ _=>False) s₅) (λ_ _=>False) s₄
      else ∃m,m<n/\I m s₄) (λ_ _=>False) s₃) (λ_ _=>False) s₂) (λ_ _=>False) s₁) (λ_ _=>False) s)(n:Nat)(h:I n s) :
  codeAny (model prog w) A (.compLoop (.ListComp elt [⟨target,iter,ifs,0⟩,⟨t2,it2,ifs2,0⟩] scope pos) 0 it acc env) R s:=by
 refine codeAny_loop rfl I (λn s hI=>?_) n h;show wpAny _ A ((compTurn (.ListComp elt [⟨target,iter,ifs,0⟩,⟨t2,it2,ifs2,0⟩] scope pos) 0 it acc env).onRaise (λx=>do noteFrame x env;theTreesLotGoes x)) _ _ s;refine wpAny_noted ?_;unfold compTurn;refine aa (dB (aa (aU (turn n s hI) (λr s₁ h₁=>?_) λ_ _ h'=>h'.elim)))
 cases r with
 | none=>exact ai h₁
 | some v=>
  refine aa (aU h₁ (λ_ s₂ h₂=>?_) λ_ _ h'=>h'.elim);refine aa (aU h₂ (λ_ s₃ h₃=>aa (aU h₃ (λok s₄ h₄=>?_) λ_ _ h'=>h'.elim)) λ_ _ h'=>h'.elim)
  cases ok with
  | false=>exact ai ⟨rfl,h₄⟩
  | true=>
   refine aa (aU h₄ (λx s₅ h₅=>?_) λ_ _ h'=>h'.elim);refine aa (dB ?_);show wpAny _ _ (foldedSetIterable it2 env x >>= _) _ _ _;rw[hf];refine aa (ai ?_);show wpAny _ _ (holding [x] (pyIter x) >>= _) _ _ _;refine aa (bX (aU h₅ (λiv s₆ h₆=>?_) λ_ _ h'=>h'.elim));refine aa (wpAny_runOwn (h:=none) ?_);refine dW (show codeAny (model prog w) (A.mark none) _ _ s₆ from h₆) λr s₇ h₇=>?_
   cases r with
   | ok f=>exact ai ⟨rfl,h₇⟩
   | error e=>exact h₇.elim
end
def zhi (J:It)(g:TG)(ti:TT)(te:TE)(acc:Addr)(N:St->Hp->Prop)(σ:St)(H:Hp):Prop:=∃W:Nat->Nat->St->Hp->Prop,(∃m,W 0 m σ H)/\
 ∀i m q H',W i m q H'->(J.stop i H'/\N q H')\/(J.go i H'/\∃N2:St->Hp->Prop,(∀ B H2,N2 B H2->∃F,F<m/\W (i+1) F B H2)/\∀x H2,J.yld i H' x H2->zgK g ti te acc N2 x q H2)
def zgJ (g:TG)(ti:TT)(wi2:TI)(g2:TG)(ti2:TT)(te:TE)(acc:Addr)(N:St->Hp->Prop)(x:V)(σ:St)(H:Hp):Prop:=
 g x σ H λq H3=>ti q H3 λB H4=>if B=true then wi2 q H4 λJ2 H5=>zhi J2 g2 ti2 te acc N q H5 else N q H4
def zkV (J:It)(g:TG)(ti:TT)(wi2:TI)(g2:TG)(ti2:TT)(te:TE)(acc:Addr)(Q:VK)(σ:St)(H:Hp):Prop:=∃W:Nat->Nat->St->Hp->Prop,(∃m,W 0 m σ H)/\
 ∀i m q H',W i m q H'->(J.stop i H'/\Q (.ref acc) H')\/(J.go i H'/\∃N:St->Hp->Prop,(∀ B H2,N B H2->∃F,F<m/\W (i+1) F B H2)/\∀x H2,J.yld i H' x H2->zgJ g ti wi2 g2 ti2 te acc N x q H2)
def zlz (wi:TI)(g:TG)(ti:TT)(wi2:TI)(g2:TG)(ti2:TT)(te:TE)(cix:List (Option Nat)):TE:=λσ H Q=>wi σ H λJ H1=>∀acc,H1 acc=none->zkV J g ti wi2 g2 ti2 te acc Q (zbV σ cix) (upd H1 acc (.lst []))
section
variable {X:Cx}{Fam:Cx->Prop}{scope:Scope}{N:List Str}{cix:List (Option Nat)}{z:Str}{use:Option (Value->Sem Unit)}{Qp:Value->Shared->Prop}{elt ke ve tg iter tg2 iter2:Expr}{ifs ifs2:List Expr}{pos ipos spos px:Pos}{wi wi2:TI}{g g2:TG}{ti ti2:TT}{te tk tv:TE}{pins:List (Addr×Obj)}{σ:St}{H:Hp}{s:Shared}{Q:VK}{o0:HO}
def zf4 (O:Opn X scope cix Fam)(hc:X.calm=true)(hi:PI X tg iter wi)(hg:∀X',Fam X'->PG X' tg g)(ht:∀X',Fam X'->PTs X' ifs ti)(ab:∀X',Fam X'->PI X' tg2 iter2 wi2)(ad:∀X',Fam X'->PG X' tg2 g2)(ag:∀X',Fam X'->PTs X' ifs2 ti2)(he:∀X',Fam X'->PE X' elt te)
  (hs:∀x,foldedSetIterable iter X.env x=pure x) (al:∀X',Fam X'->∀x,foldedSetIterable iter2 X'.env x=pure x) (I:Inv X pins σ H s) (h:zlz wi g ti wi2 g2 ti2 te cix σ H Q) (Y:EndK X pins σ use Qp Q) :
  wpAny (model X.prog X.w) X.A (comprehension (.ListComp elt [⟨tg,iter,ifs,0⟩,⟨tg2,iter2,ifs2,0⟩] scope pos) scope X.env ipos (newList []) false (eval iter X.env) use) Qp X.xe s:=
 zdl (ob:={ cls:=.type "list",dict:=none,data:=.seq ([]:List Value).toArray }) (o0:=λ_=>.lst []) (Fin:=λacc H=>Q (.ref acc) H)
  (B:=λX' acc P s=>wpAny (model X'.prog X'.w) X'.A (eval iter2 X'.env) (λx s5=>wpAny (model X'.prog X'.w) X'.A (pyIter x) (λiv s6=>codeAny (model X'.prog X'.w) X'.A (.compStart (.ListComp elt [⟨tg,iter,ifs,0⟩,⟨tg2,iter2,ifs2,0⟩] scope pos) 1 iv (.ref acc) X'.env) (λr s7=>match r with | .ok _=>P s7 | .error _=>False) s6) (λ_ _=>False) s5) (λ_ _=>False) s) (tb:=λacc Nx σ H=>wi2 σ H λJ2 H5=>zhi J2 g2 ti2 te acc Nx σ H5)
  O hc rfl hs (λ_ _ _ _ _ h0 h1=>codeAny_compStart_list h0 h1) (λX' U _ _ _ _ I F n h=>zad (al X' U) I F n h) (λs Q h=>bM h) (λ_ _=>⟨a6 _,[],0,.nil,am _ rfl⟩) hi hg ht (λX' U pX wX AX cX xX acc pl s σ H Nx P I q k=>by
  have e9:=ab X' U pl s σ H _ I q;rw[xX] at e9;refine thn e9 λxv s1 h1=>thn h1 λas s2 h2=>?_;obtain⟨it,fp,tn,J,H2,e,I2,T,Z,f2,W,⟨m0,w0⟩,F⟩:=h2;subst e
  have L:=zdH (X:=X') (e:=.ListComp elt [⟨tg,iter,ifs,0⟩,⟨tg2,iter2,ifs2,0⟩] scope pos) (pl:=pl) (R:=λr s7=>match r with | .ok _=>P s7 | .error _=>False) (k:=1) (B:=λP s=>wpAny (model X'.prog X'.w) X'.A (eval elt X'.env) (λx s5=>wpAny (model X'.prog X'.w) X'.A (call (.builtin "list.append") [.ref acc,x]) (λ_ s6=>P s6) (λ_ _=>False) s5) (λ_ _=>False) s) (tb:=λNx σ H=>te σ H λv H'=>∃xs,H' acc=some (.lst xs)/\xs.length<sizeLine/\Nx σ (upd H' acc (.lst (xs++[v]))))
   (λ_ _ I F n h=>zaJ I F n h) cX xX T (λhn b hb=>⟨hn b hb,(f2 b hb).2⟩) (ad X' U) (ag X' U) (λ_ _ _ _ _ _ I q k=>zfb (he X' U) xX I q k) F (λan H' s' I' q'=>k an H' s' I' q') I2 Z (λb hb=>(f2 b hb).1) w0
  exact uB L (T.self X'.A 0 _ _ _ Z L)) I h (λJ H1 acc q hn=>q acc hn) Y
end
def zkv{X:Cx}{ifs ifs2:List Expr}{scope:Scope}{pos spos:Pos}{wi wi2:TI}{g g2:TG}{ti ti2:TT}{te:TE}{N:List Str}{nx:Str}(q:X.N.Nodup)(B:X.N[ix]?=some nx)(F:X.env.scope.names.lookup nx=some .local)(hc:X.calm=true)(c:CompOk X scope N cix)(hi:QI X tg iter wi)(hg:∀C s H ex,QG (zH X scope N C s H ex) tg g)(ht:∀C s H ex,QTs (zH X scope N C s H ex) ifs ti)(J:∀C s H ex,QI (zH X scope N C s H ex) tg2 iter2 wi2)(L:∀C s H ex,QG (zH X scope N C s H ex) tg2 g2)(O:∀C s H ex,QTs (zH X scope N C s H ex) ifs2 ti2)(he:∀C s H ex,QE (zH X scope N C s H ex) elt te)(Y:swapsWithSole [.Name nx px] (.ListComp elt [⟨tg,iter,ifs,0⟩,⟨tg2,iter2,ifs2,0⟩] scope pos) spos.line X.env=pure true:=by rfl)(hs:∀x,foldedSetIterable iter X.env x=pure x:=by intro _;rfl)(Z:∀C s H ex x,foldedSetIterable iter2 (zH X scope N C s H ex).env x=pure x:=by intro _ _ _ _ _;rfl)(ab:(assignEach [.Name nx px] X.env).map (·.2)=[assign (.Name nx px) X.env]:=by rfl):QS X (.Assign [.Name nx px] (.ListComp elt [⟨tg,iter,ifs,0⟩,⟨tg2,iter2,ifs2,0⟩] scope pos) spos) (zgu (zlz wi g ti wi2 g2 ti2 te cix) (zaK ix)):=⟨λpins s σ H D I h=>zfc q B F Y ab (λ_=>rfl) λU Qp hf=>zf4 (Q:=λv H=>D.nx (σ.set ix (some v)) H) (zbr c) hc hi.run (zf9 λC s H ex=>(hg C s H ex).run) (zf9 λC s H ex=>(ht C s H ex).run) (zf9 λC s H ex=>(J C s H ex).run) (zf9 λC s H ex=>(L C s H ex).run) (zf9 λC s H ex=>(O C s H ex).run) (zf9 λC s H ex=>(he C s H ex).run) hs (zf9 λC s H ex=>Z C s H ex) I h hf⟩
section
variable {K:PySem.W.Frag}{a acc:Addr}{xs:List V}{g:TG}{ti:TT}{wi2:TI}{g2:TG}{ti2:TT}{te:TE}{σ:St}{H:Hp}{Q:VK}{N:St->Hp->Prop}
def zf5 (B:H acc=none)(Pv:Nat->St->Hp->Prop)(I:∀H',H' acc=some (.lst [])->yz H H'->Pv 0 σ H')(J:∀i σ H,i<=xs.length->Pv i σ H->SqL K H a xs)
  (L:∀i x σ H,xs[i]?=some x->Pv i σ H->zgJ g ti wi2 g2 ti2 te acc (Pv (i+1)) x σ H) (O:∀ σ H,Pv xs.length σ H->Q (.ref acc) H):zkV (Itl K a) g ti wi2 g2 ti2 te acc Q σ (upd H acc (.lst [])):=by
 refine⟨λi m σ H=>m=xs.length - i/\i<=xs.length/\Pv i σ H,⟨xs.length,by simp,a6 _,I _ zg (yz.upd B)⟩,?_⟩;rintro i m σ H ⟨rfl,hi,p⟩;have q:=J i σ H hi p;by_cases F:i<xs.length
 ·refine .inr ⟨⟨xs,xs[i],q,by simp[F]⟩,Pv (i+1),λU H' p'=>⟨xs.length - (i+1),by lia,rfl,F,p'⟩,λx H' y=>?_⟩;obtain⟨e,y⟩:=y;subst e;exact L i x σ _ (y xs q) p
 ·have e:i=xs.length:=by lia
  subst e;exact .inl ⟨⟨xs,q,af _⟩,O σ H p⟩
def zga (Pv:Nat->St->Hp->Prop)(F:Pv 0 σ H)(I:∀i σ H,i<=xs.length->Pv i σ H->SqL K H a xs)
  (J:∀i x σ H,xs[i]?=some x->Pv i σ H->zgK g ti te acc (Pv (i+1)) x σ H) (L:∀ σ H,Pv xs.length σ H->N σ H):zhi (Itl K a) g ti te acc N σ H:=by
 refine⟨λi m σ H=>m=xs.length - i/\i<=xs.length/\Pv i σ H,⟨xs.length,by simp,a6 _,F⟩,?_⟩;rintro i m σ H ⟨rfl,hi,p⟩;have q:=I i σ H hi p;by_cases B:i<xs.length
 ·refine .inr ⟨⟨xs,xs[i],q,by simp[B]⟩,Pv (i+1),λO H' p'=>⟨xs.length - (i+1),by lia,rfl,B,p'⟩,λx H' y=>?_⟩;obtain⟨e,y⟩:=y;subst e;exact J i x σ _ (y xs q) p
 ·have e:i=xs.length:=by lia
  subst e;exact .inl ⟨⟨xs,q,af _⟩,L σ H p⟩
end
section
variable {X:Cx}
def zjh:CallQ X (.type "range") (λxs H Q=>∃n,xs=[.int n]/\New H (.rng 0 n) Q):=⟨by
 intro pins s σ H xs us Q I r h;obtain⟨n,rfl,q⟩:=h;obtain⟨u,rfl,B⟩:=zbP r;obtain⟨t,rfl⟩:=B;refine call_range_1 ?_;refine⟨.ref s.heap.objs.size,_,I.laid (t':=s.toks+1+1) (o:=.rng 0 n) (λb ob q=>ae _ q) (af _) ?_,rfl,q.at (I.hok.fresh (af _))⟩;exact⟨_,_,_,am _ rfl⟩⟩
def zfO (n:Nat):Builtin.Range.rangeSize 0 (n:Int) 1=n:=by
 unfold Builtin.Range.rangeSize
 grind
def ziZ:∀ {xs:List V} {us:List Value},xs.length=us.length->(∀ (i:Nat) x u,xs[i]?=some x->us[i]?=some u->zX x u)->zY xs us
 | [],[],_,_=>.nil
 | [],_::_,h,_=>by simp at h
 | _::_,[],h,_=>by simp at h
 | x::xs,u::us,h,k=>.cons (k 0 x u rfl rfl) (ziZ (by simpa using h) λi y v q B=>k (i+1) y v q B)
def zem (U:X.calm=true):CallQ X (.type "list") (λxs H Q=>∃ (p:Addr) (n:Nat),xs=[.ref p]/\H p=some (.rng 0 n)/\n<=1000/\New H (.lst ((List.range n).map λi:Nat=>V.int i)) Q):=⟨by
 intro pins s σ H xs us Q I r h;obtain⟨p,n,rfl,hp,L,q⟩:=h;obtain⟨u,rfl,Y⟩:=zbP r;cases Y;obtain⟨t,u,v,Z⟩:=I.hok p _ hp;have J:n<sizeLine:=zd0 L;refine call_list_range (a:=0) (b:=n) (c:=1) (n:=n) (I.ok.hd U) Z ?_ ?_ (ah L (by decide)) λh' tk B c' kp hg F=>?_
 ·have e:=zfO n;unfold Builtin.Range.small;rw[e];simp[Builtin.Range.rangeFitsLong];lia
 ·exact zfO n
 ·have hv:zY ((List.range n).map λi:Nat=>V.int i) B.toList:=by
   refine ziZ (by rw[ac,aJ,c9,F.1]) λj x u O hu=>?_;rw[aB] at O;obtain⟨k,hk,rfl⟩:=ay.mp O;obtain⟨ab,e⟩:=aj.mp hk;have:k=j:=by simpa using e.symm
   subst this;obtain⟨t',rfl⟩:=F.2 k u (by simpa using hu);exact⟨t',by lia⟩
  refine⟨.ref s.heap.objs.size,_,I.laid (t':=tk) (o:=.lst ((List.range n).map λi:Nat=>V.int i)) kp (af _) ?_,rfl,q.at (I.hok.fresh (af _))⟩;exact⟨by rw[ac,aJ];exact cC J,B.toList,c',hv,by simpa using hg⟩⟩
end
def zq (m:Int):List Int:=(List.range m.toNat).map λi:Nat=>(i:Int)
def yX (q:List (List Int))(B:List Int):List (List Int):=q.flatMap λr=>B.map λw=>r++[w]
def yy (cs:List (List Int)):List (List Int):=cs.foldl yX [[]]
def z8 (cs:List (List Int))(c:List Int):yy (cs++[c])=yX (yy cs) c:=by
 unfold yy
 simp_all
@[reducible] def stD (st:List Int):Dt:=.tup (st.map .int)
def zaT:∀sts:List (List Int),Dt.noLs (sts.map stD)=true
 | []=>rfl
 | st::sts=>by show ((stD st).noL&&Dt.noLs (sts.map stD))=true;rw[zaT sts,show (stD st).noL=true from zdK st];rfl
def zoj (H:Hp)(xs:List V)(cs:List (List Int)):Prop:=xs.length=cs.length/\∀ (i:Nat) c,cs[i]?=some c->∃a,xs[i]?=some (.ref a)/\Rd H a (.lst (c.map V.int))
def zco (K:PySem.W.Frag):Sp:=λvs H Q _=>∃ (q:Addr) (xs:List V) (cs:List (List Int)),vs=[.ref q]/\Rd H q (.lst xs)/\zoj H xs cs/\cs.length<=8/\(∀c∈cs,c.length<=4)/\
 ∀ (a:Addr) (ys:List V) (H':Hp),H a=none->H' a=some (.lst ys)->IsL H' ((yy cs).map stD) ys->yz H H'->Q (.ref a) H'
def zeo (q:List (List Int))(r B:List Int):yX (q++[r]) B=yX q B++B.map λw=>r++[w]:=by
 unfold yX
 simp_all
def ud (q:List (List Int))(B:List Int):(yX q B).length=q.length * B.length:=by
 unfold yX;rw[List.length_flatMap]
 induction q with
 | nil=>simp
 | cons r q F=>rw[ao,List.sum_cons,F,ac,aN,Nat.succ_mul,Nat.add_comm]
def xi:∀ (cs:List (List Int)) (q:List Int),q∈yy cs->q.length=cs.length:=by
 intro cs
 have:∀ (n:Nat) (cs:List (List Int)),cs.length=n->∀q,q∈yy cs->q.length=cs.length:=by
  intro n
  induction n with
  | zero=>
   intro cs h q B;have:cs=[]:=bz h;subst this;have:q=[]:=by simpa [yy] using B
   simp_all
  | succ n I=>
   intro cs h q B;have F:cs≠[]:=by intro z;rw[z] at h;simp at h
   rw[<- bp F,z8] at B;unfold yX at B
   grind
 exact this cs.length cs rfl
def zlF:∀ (n:Nat) (cs:List (List Int)),cs.length=n->(∀c∈cs,c.length<=4)->(yy cs).length<=4 ^ n:=by
 intro n
 induction n with
 | zero=>
  intro cs h _;have:cs=[]:=bz h;subst this;exact af _
 | succ n F=>
  intro cs h B;have q:cs≠[]:=by intro z;rw[z] at h;simp at h
  rw[<- bp q,z8,ud,Nat.pow_succ];exact Nat.mul_le_mul (F cs.dropLast (by grind) λc I=>B c ((List.dropLast_sublist cs).subset I)) (B _ (List.getLast_mem q))
def zcs {cs:List (List Int)}(F:cs.length<=8)(q:∀c∈cs,c.length<=4)(k:Nat):(yy (cs.take k)).length<=65536:=by
 refine ah (zlF _ (cs.take k) rfl λc B=>q c (cZ B)) ?_;have:(cs.take k).length<=8:=by rw[aV];lia
 exact ah (cy (by decide) this) (by decide)
def yD (m:Int):(zq m).length=m.toNat:=by unfold zq;rw[ac,aJ]
section
variable {X:Cx}{o:Expr}{to:TE}{apos cpos:Pos}
def znw (I:QE X o to)(q:attributeBase o "reverse" X.env (eval o X.env)=eval o X.env:=by rfl)(B:(apos.endLine==cpos.line)=true:=by rfl):QE X (.Call (.Attribute o "reverse" apos) [] [] cpos) (tBM0 X.K "list" zfM to):=⟨zpW cG PySem.F.slot_list_reverse PySem.F.type_list_reverse zgg I.run q B⟩
end
open PySem PySem.Spec PyProof.Rows PySem.W
inductive Run (ans:Nat->Nat->Bool) (n:Nat):{α:Type}->KasT α->α->Prop
 | ret {α:Type} (a:α):Run ans n (.ret a) a
 | ask {α:Type} {i j:Nat} {k:Bool->KasT α} {a:α} (hi:i<n) (hj:j<n) (h:Run ans n (k (ans i j)) a):Run ans n (.ask i j k) a
def Run.bind{α B:Type}{t:KasT α}{f:α->KasT B}{a:α}{b:B}(h:Run q n t a)(k:Run q n (f a) b):Run q n (t.bind f) b:=by
 induction h with
 | ret a=>exact k
 | ask hi F _ I=>exact .ask hi F (I k)
def Run.wp{q:Nat->Nat->Bool}{α:Type}{t:KasT α}{a:α}(h:Run q n t a){B:Nat->Nat->(Bool->Shared->Prop)->Shared->Prop}{S:Shared->Prop}{Q:α->Shared->Prop}(J:∀i j C s,i<n->j<n->S s->(∀s',S s'->C (q i j) s')->B i j C s)(I:∀s,S s->Q a s):∀s,S s->KasT.kasWp B t Q s:=by
 induction h with
 | ret a=>intro s F;rw[KasT.kasWp.eq_1];exact I s F
 | ask hi L _ O=>
  intro s F;rw[KasT.kasWp.eq_2]
  simp_all
section
variable {n:Nat}{f:Nat->Int}
def zea (f:Nat->Int)(i j:Nat):Bool:=decide (f i<f j)
def key (f:Nat->Int)(p:Array Nat)(k:Nat):Int:=f (p.getD k 0)
structure Up (n:Nat)(f:Nat->Int)(p:Array Nat)(m:Nat):Prop where
 perm:p.Perm (List.range n).toArray
 le:m<=n
 up:∀k,k+1<m->key f p k<key f p (k+1)
def x8 {p:Array Nat}(h:p.Perm (List.range n).toArray):p.size=n:=by have:=h.size_eq;simpa using this
def z0{p:Array Nat}(h:p.Perm (List.range n).toArray)(B:k<n):p.getD k 0<n:=by
 have F:=x8 h
 have q:p.getD k 0∈p:=by simp_all
 have:=(h.mem_iff).mp q;simpa using this
def Up.lt_of(h:Up n f p m):∀ {i j:Nat},i<j->j<m->key f p i<key f p j:=by
 intro i j
 induction j with
 | zero=>intro F;lia
 | succ j I=>
  intro q B;have h1:=h.up j B
  grind
def zeh (p:Array Nat)(hp:p.Perm (List.range n).toArray):∀ (g x:Nat),1<=x->x+g<=n->∃m,Run (zea f) n (kas_asc p g x) m/\x<=m/\m<=x+g/\(∀k,x<=k->k<m->¬ key f p k<key f p (k - 1))/\(m<x+g->key f p m<key f p (m - 1))
 | 0,x,_,_=>⟨x,by rw[kas_asc.eq_1];exact .ret _,af _,af _,by grind,λh=>by lia⟩
 | g+1,x,I,J=>by
  rw[kas_asc.eq_2];by_cases q:key f p x<key f p (x - 1)
  ·refine⟨x,.ask (z0 hp (by lia)) (z0 hp (by lia)) ?_,af _,by lia,by grind,λ_=>q⟩;rw[show zea f (p.getD x 0) (p.getD (x - 1) 0)=true from aF q,if_pos rfl];exact .ret _
  ·obtain⟨m,h1,h2,L,B,F⟩:=zeh p hp g (x+1) (by lia) (by lia);refine⟨m,.ask (z0 hp (by lia)) (z0 hp (by lia)) ?_,by lia,by lia,λk k1 k2=>?_,λh=>F (by lia)⟩
   ·rw[show zea f (p.getD x 0) (p.getD (x - 1) 0)=false from aQ q,if_neg aG];exact h1
   ·by_cases e:k=x
    ·subst e;exact q
    ·exact B k (by lia) k2
def zb5 (n:Nat)(f:Nat->Int):Prop:=∀i j,i<n->j<n->f i=f j->i=j
def zfx (I:zb5 n f){p:Array Nat}(hp:p.Perm (List.range n).toArray){i j:Nat}(hi:i<n)(J:j<n)(q:i≠j):key f p i≠key f p j:=by
 intro e;have F:=I _ _ (z0 hp hi) (z0 hp J) e;have O:=x8 hp
 have B:p.toList.Nodup:=by
  have:p.toList.Perm (List.range n):=by have:=hp.toList;simpa using this
  exact this.nodup_iff.mpr List.nodup_range
 rw[bI,bI,Array.getElem?_eq_getElem (by lia),Array.getElem?_eq_getElem (by lia)] at F;have L:p.toList[i]'(by simp_all)=p.toList[j]'(by simp_all):=by simpa using F
 exact q ((ef B).mp L)
def zfl (F:zb5 n f)(p:Array Nat)(hp:p.Perm (List.range n).toArray):∀ (g x:Nat),1<=x->x+g<=n->∃m,Run (zea f) n (kas_desc g p x 0) (p,m,0)/\x<=m/\m<=x+g/\(∀k,x<=k->k<m->key f p k<key f p (k - 1))
 | 0,x,_,_=>⟨x,by rw[kas_desc.eq_1];exact .ret _,af _,af _,by grind⟩
 | g+1,x,L,O=>by
  rw[kas_desc.eq_2];by_cases q:key f p x<key f p (x - 1)
  ·obtain⟨m,h1,h2,U,I⟩:=zfl F p hp g (x+1) (by lia) (by lia);refine⟨m,.ask (z0 hp (by lia)) (z0 hp (by lia)) ?_,by lia,by lia,λk k1 k2=>?_⟩
   ·rw[show zea f (p.getD x 0) (p.getD (x - 1) 0)=true from aF q,if_pos rfl,if_neg (by lia)];exact h1
   ·by_cases e:k=x
    ·subst e;exact q
    ·exact I k (by lia) k2
  ·have J:=zfx F hp (i:=x) (j:=x - 1) (by lia) (by lia) (by lia);have B:key f p (x - 1)<key f p x:=by lia
   refine⟨x,.ask (z0 hp (by lia)) (z0 hp (by lia)) ?_,af _,by lia,by grind⟩;rw[show zea f (p.getD x 0) (p.getD (x - 1) 0)=false from aQ q,if_neg aG];refine .ask (z0 hp (by lia)) (z0 hp (by lia)) ?_;rw[show zea f (p.getD (x - 1) 0) (p.getD x 0)=true from aF B,if_pos rfl];exact .ret _
def zhD(q:j<=p.size)(k:Nat):key f (kas_rev p 0 j) k=if k<j then key f p (j - 1 - k) else key f p k:=by
 unfold key kas_rev;rw[bI,getElem?_mirror_all q];by_cases h:k<j
 ·simp_all
 ·rw[if_neg (λz=>h z.2),if_neg h,bI]
def zkB(hp:p.Perm (List.range n).toArray)(j:Nat):(kas_rev p 0 j).Perm (List.range n).toArray:=(mirror_perm p 0 j _).trans hp
def zgM (J:zb5 n f)(hn:2<=n)(p:Array Nat)(hp:p.Perm (List.range n).toArray):∃ (m:Nat) (q:Array Nat),Run (zea f) n (kas_count n p) (m,q)/\1<=m/\Up n f q m:=by
 have hs:=x8 hp;obtain⟨m,h1,h2,h3,h4,h5⟩:=zeh (f:=f) p hp (n - 1) 1 (af _) (by lia)
 have B:Up n f p m:=⟨hp,by lia,λk L=>by have O:=h4 (k+1) (by lia) L;rw[eS] at O;have:=zfx J hp (i:=k) (j:=k+1) (by lia) (by lia) (by lia);lia⟩
 unfold kas_count;by_cases ab:m=n
 ·refine⟨m,p,h1.bind ?_,h2,B⟩;rw[if_pos (by simp_all)];exact .ret _
 ·by_cases I:m > 1
  ·refine⟨m,p,h1.bind ?_,h2,B⟩;rw[if_neg (by simp_all),if_pos I];refine .ask (z0 hp (by lia)) (z0 hp (by lia)) ?_;have U:key f p 0<key f p (m - 1):=B.lt_of (by lia) (by lia);rw[show zea f (p.getD 0 0) (p.getD (m - 1) 0)=true from aF U,if_pos rfl];exact .ret _
  ·have em:m=1:=by lia
   subst em;have Y:=h5 (by lia);obtain⟨d,g1,g2,g3,g4⟩:=zfl J p hp (n - 2) 2 (by lia) (by lia);have F:=zkB hp d;obtain⟨m2,a1,a2,a3,a4,_⟩:=zeh (f:=f) (kas_rev p 0 d) F (n - d) d (by lia) (by lia);refine⟨m2,kas_rev p 0 d,h1.bind ?_,by lia,⟨F,by lia,λk L=>?_⟩⟩
   ·rw[if_neg (by simp_all),if_neg I];unfold kas_descPart;refine Run.bind (a:=(p,d,0)) g1 ?_;rw[if_neg (by simp)];unfold kas_tail3;exact Run.bind a1 (.ret _)
   ·by_cases Z:k+1<d
    ·rw[zhD (by lia),zhD (by lia),if_pos (by lia),if_pos Z];have e:d - 1 - k=(d - 1 - (k+1))+1:=by lia
     rw[e];by_cases e0:d - 1 - (k+1)=0
     ·rw[e0];exact Y
     ·have:=g4 (d - 1 - (k+1)+1) (by lia) (by lia)
      simp_all
    ·have O:=a4 (k+1) (by lia) L;rw[eS] at O;have:=zfx J F (i:=k) (j:=k+1) (by lia) (by lia) (by lia);lia
def zbt (p:Array Nat)(hp:p.Perm (List.range n).toArray)(k:Nat)(F:k<n):∀ (g l r:Nat),r<=k->l<=r->r - l<=g->(∀i,i<l->¬ key f p k<key f p i)->(∀i,r<=i->i<k->key f p k<key f p i)->
  (∀i j,i<j->j<k->key f p i<key f p j)->
  ∃m,Run (zea f) n (kas_place p k g l r) m/\m<=k/\(∀i,i<m->¬ key f p k<key f p i)/\(∀i,m<=i->i<k->key f p k<key f p i)
 | 0,l,r,h1,h2,h3,I,J,_=>⟨l,by rw[kas_place.eq_1];exact .ret _,by lia,I,λi hi=>J i (by lia)⟩
 | g+1,l,r,h1,h2,h3,I,J,q=>by
  rw[kas_place.eq_2];by_cases B:l ≥ r
  ·refine⟨l,?_,by lia,I,λi hi=>J i (by lia)⟩;rw[if_pos B];exact .ret _
  ·rw[if_neg B];by_cases L:key f p k<key f p ((l+r) / 2)
   ·obtain⟨m,O,g2,U,Y⟩:=zbt p hp k F g l ((l+r) / 2) (by lia) (by lia) (by lia) I (λi hi Z=>by
     by_cases e:i=(l+r) / 2
     ·rw[e];exact L
     ·have:=q ((l+r) / 2) i (by lia) Z;lia) q
    refine⟨m,.ask (z0 hp F) (z0 hp (by lia)) ?_,g2,U,Y⟩;rw[show zea f (p.getD k 0) (p.getD ((l+r) / 2) 0)=true from aF L,if_pos rfl];exact O
   ·obtain⟨m,O,g2,U,Y⟩:=zbt p hp k F g ((l+r) / 2+1) r h1 (by lia) (by lia) (λi hi=>by
     by_cases e:i=(l+r) / 2
     ·rw[e];exact L
     ·have:=q i ((l+r) / 2) (by lia) (by lia);lia) J q
    refine⟨m,.ask (z0 hp F) (z0 hp (by lia)) ?_,g2,U,Y⟩;rw[show zea f (p.getD k 0) (p.getD ((l+r) / 2) 0)=false from aQ L,if_neg aG];exact O
def zcc {p:Array Nat}{q d:Nat}(h1:q<p.size)(h2:d<=q)(k:Nat):key f (bubble p q d) k=if k=q - d then key f p q else if q - d<k/\k<=q then key f p (k - 1) else key f p k:=by
 unfold key;simp only[bI];rw[getElem?_bubble h1 d h2]
 grind
def zgF (J:zb5 n f):∀ (g k:Nat) (p:Array Nat),k+g=n->Up n f p k->∃q,Run (zea f) n (kas_bin g p k) q/\Up n f q n
 | 0,k,p,O,h=>by
  have e:k=n:=by lia
  rw[e] at h;exact⟨p,by rw[kas_bin.eq_1];exact .ret _,h⟩
 | g+1,k,p,O,h=>by
  have hs:=x8 h.perm;obtain⟨l,U,r2,Y,r4⟩:=zbt (f:=f) p h.perm k (by lia) k 0 k (af _) (a6 _) (by lia) (λi hi=>by lia) (λi h1 h2=>by lia) (λi j B Z=>h.lt_of B Z)
  have F:Up n f (bubble p k (k - l)) (k+1):=by
   refine⟨(bubble_perm p k (k - l)).trans h.perm,by lia,λi hi=>?_⟩;rw[zcc (by lia) (by lia),zcc (by lia) (by lia)];have I:k - (k - l)=l:=by lia
   rw[I];by_cases e1:i=l
   ·grind
   ·rw[if_neg e1];by_cases e2:l<i
    ·rw[if_pos (by lia),if_neg (by lia),if_pos (by lia),eS];exact h.lt_of (by lia) (by lia)
    ·rw[if_neg (by lia)];by_cases L:i+1=l
     ·rw[if_pos L];have h1:=Y i (by lia);have h2:=zfx J h.perm (i:=i) (j:=k) (by lia) (by lia) (by lia);lia
     ·rw[if_neg L,if_neg (by lia)];exact h.lt_of (by lia) (by lia)
  obtain⟨q,q1,q2⟩:=zgF J g (k+1) (bubble p k (k - l)) (by lia) F;refine⟨q,?_,q2⟩;rw[kas_bin.eq_2];exact Run.bind U q1
def zkE (B:zb5 n f)(I:2<=n):∃q,Run (zea f) n (kas_sort n) q/\Up n f q n:=by
 obtain⟨m,p,h1,h2,F⟩:=zgM B I (List.range n).toArray (Array.Perm.refl _);unfold kas_sort;by_cases J:m<n
 ·obtain⟨q,O,L⟩:=zgF B (n - m) m p (by lia) F;refine⟨q,Run.bind h1 ?_,L⟩
  grind
 ·have e:m=n:=by have:=F.le;lia
  refine⟨p,Run.bind h1 ?_,by lia⟩;rw[if_neg J];exact .ret _
end
open PySem PySem.Spec PyProof.Rows
def yB:∀s:List Int,HT.lexLt s s=false
 | []=>rfl
 | a::s=>by show (if a=a then HT.lexLt s s else _)=false;rw[if_pos rfl];exact yB s
def zfg {α:Type}{p q:α->Bool}:∀ {l:List α},(∀x∈l,p x=true->q x=true)->(∃x∈l,p x=false/\q x=true)->l.countP p<l.countP q
 | [],_,h=>by simp_all
 | y::l,h,k=>by
  have I:l.countP p<=l.countP q:=List.countP_mono_left λx B hp=>h x (av _ B) hp;rw[List.countP_cons,List.countP_cons];obtain⟨x,B,hp,F⟩:=k;rcases ax.mp B with rfl | B
  ·rw[hp,F];simp;lia
  ·have L:=zfg (l:=l) (λz J=>h z (av _ J)) ⟨x,B,hp,F⟩
   grind
def zau (sts:List (List Int))(i:Nat):Int:=(sts.countP λc=>HT.lexLt c (sts.getD i [])  : Nat)
def zch (h:Heap)(L:Addr):List (Addr×Obj):=(List.range h.objs.size).filterMap λb=>if b=L then none else (h.get? b).map λo=>(b,o)
def zak:(b,o)∈zch h L↔b≠L/\h.get? b=some o:=by
 unfold zch;rw[cL];constructor
 ·rintro⟨c,F,e⟩;by_cases q:c=L
  ·simp_all
  ·rw[if_neg q] at e;obtain⟨o',B,I⟩:=ay.mp e
   grind
 ·rintro⟨q,B⟩;exact⟨b,aX.mpr (ak B),by simp_all⟩
def zpw {h:Heap}{L:Addr}{m q:Str->Option Value}(a:h.Ns L m)(b:h.Ns L q):m=q:=by
 obtain⟨o,es,ep,Y,Z,hk,hf⟩:=a;obtain⟨o',B,F,I,J,O,U⟩:=b
 grind
section
variable {X:Cx}
def zhX(x:zD P w H h a o):∃u,h.get? a=some u:=by
 cases o with
 | lst xs=>obtain⟨_,_,_,_,e⟩:=x;exact⟨_,e⟩
 | tup xs=>obtain⟨_,_,_,p⟩:=x;obtain⟨o,e,_⟩:=p;exact⟨o,e⟩
 | dK kvs=>obtain⟨_,_,_,_,o,_,_,e,_⟩:=x;exact⟨_,e⟩
 | dT kvs=>obtain⟨_,_,_,_,o,_,_,e,_⟩:=x;exact⟨_,e⟩
 | set S n=>obtain⟨o,_,_,_,e,_⟩:=x;exact⟨_,e⟩
 | ins C dx fs=>obtain⟨_,_,_,e,_⟩:=x;exact⟨_,e⟩
 | own y=>exact x
 | xd fs=>obtain⟨_,⟨_,_,_,e,_⟩,_⟩:=x;exact⟨_,e⟩
 | met f y=>exact⟨_,x⟩
 | rng lo hi=>obtain⟨_,_,_,e⟩:=x;exact⟨_,e⟩
 | frz o u=>obtain⟨e,_⟩:=x;exact⟨_,e⟩
 | tbl ps=>exact⟨_,x⟩
 | ext q=>obtain⟨_,e,_⟩:=x;exact e
def zmf{pins:List (Addr×Obj)}{σ:St}{H:Hp}{s:Shared}(I:Inv X pins σ H s)(Z:s.heap.Ns X.env.locals m){h':Heap}{D:Addr}{ys:List V}{its:List Value}(kp:∀b o,b≠X.env.locals->s.heap.get? b=some o->h'.get? b=some o)(J:h'.Ns X.env.locals m)(U:s.heap.get? D=none)(L:H D=none)(ho:h'.get? D=some { cls:=.type "list",data:=.seq its.toArray c })(hv:zY ys its)(hz:ys.length<=sizeLine)(tk:Nat):Inv X pins σ (upd H D (.lst ys)) { s with heap:=h',toks:=tk }:=by
 have nD:∀b o,s.heap.get? b=some o->b≠D:=λb o e z=>by rw[z,U] at e;cases e
 have nL:∀b u,H b=some u->b≠X.env.locals:=λb u e=>zc e I.free;refine Inv.step (ch:=[]) (g':=s.gens) (d':=s.drawn) (t':=tk) I (λb F=>by simp at F) (λb o h1 _ _ B _=>kp b o h1 B) (λb o h1 _ _ B _=>⟨o.slots,kp b o h1 B⟩) (λb o _ B h5=>by rw[zb (nD b o B)];exact h5) (λb o _ B=>?_) (λb ys q=>by rw[zb (zc q L)];exact q) (λb o u q=>by rw[zb (zc q L)];exact q) (λb ps q=>⟨#[],by rw[zb (zc q L),dD];exact q⟩) (λm' Y=>by rw[<- zpw Z Y];exact J) (λb u F=>?_) I.bare
 ·by_cases hL:b=X.env.locals
  ·obtain⟨o',_,_,h1,_⟩:=J
   simp_all
  ·exact⟨o,kp b o hL B⟩
 ·by_cases O:b=D
  ·subst O;rw[zg] at F;cases F;exact⟨hz,its,c,hv,ho⟩
  ·rw[zb O] at F;refine (I.hok b u F).stay (λc v ab q=>kp c v ?_ q) (λc q=>by rw[zb (zc q L)];exact q) (λc ys q=>by rw[zb (zc q L)];exact q)
   grind
def zd9(h:zY vs its):∀ (p:List Nat),(∀i∈p,i<vs.length)->zY (p.map λi=>vs.getD i .non) (p.map λi=>its.getD i .none)
 | [],_=>.nil
 | i::p,hp=>by
  have hi:=hp i aL;obtain⟨u,B,F⟩:=h.get (i:=i) (x:=vs[i]) (ar hi);refine .cons ?_ (zd9 h p λj q=>hp j (av _ q))
  simp_all
def zcg {α:Type}(d:α)(l:List α):(List.range l.length).map (λi=>l.getD i d)=l:=by refine List.ext_getElem (by simp) λi h1 h2=>?_;simp[h2]
end
open PySem PySem.Spec PySem.Calls PyProof.Rows PySem.W
def zbJ {prog:Program}{w:World}{A:Around}{E:Value->Shared->Prop}{s:Shared}{a:Addr}{vs:List Value}{n:Nat}{P:PySem.Fin->Shared->Prop}(ho:s.heap.get? a=some (seqObj "list" vs.toArray n))(h2:vs.length<2)
  (h:∀h' c,(∀b o,b≠a->s.heap.get? b=some o->h'.get? b=some o)->h'.get? a=some (seqObj "list" vs.toArray c)->P (.done (.ret .none)) { s with heap:=h' }) :
  wpAny (model prog w) A (Builtin.«list.sort» ⟨[.ref a],[]⟩) P E s:=by
 obtain⟨e1,ho1⟩:∃e1,(s.heap.update a (Obj.mapSeq λ_=>(#[]:Array Value))).get? a=some (seqObj "list" #[] e1):=⟨_,get?_update_seq ho λ_=>#[]⟩;rw[list_sort_plain];refine aa (listItems_at ho rfl ?_);refine aa (listUpdate_at ho rfl ?_ (by rw[aR,cE];lia) (a6 _));refine aa (seqEpoch_at ho1 rfl ?_);refine aa (wpAny_newTuple ?_ (by show vs.length<=_;rw[cE];lia));refine aa (wpAny_newList ?_ (a6 _));refine bX ?_;show wpAny (model prog w) A _ P E { s with heap:=((s.heap.update a (Obj.mapSeq λ_=>(#[]:Array Value))).push (seqObj "tuple" vs.toArray 0)).push (seqObj "list" #[] 0) };dsimp only;have hn2:vs.toArray.size<2:=by rw[aR];lia
 rw[if_pos hn2,if_pos hn2];refine aa (ai ?_);refine aa (m:=(pure ():StateT SortSt _ _).run _) (ai ?_)
 have hsnd:(arrOf (SortSt.mk' general' (vs.toArray.zip vs.toArray) #[] 7 none)).map (λx=>x.snd)=vs.toArray:=by show (vs.toArray.zip vs.toArray).map (λx=>x.snd)=vs.toArray;apply Array.toList_inj.mp;rw[Array.toList_map,Array.toList_zip];exact List.map_snd_zip (af _)
 have ha:a<s.heap.objs.size:=ak ho;have g3:(((s.heap.update a (Obj.mapSeq λ_=>(#[]:Array Value))).push (seqObj "tuple" vs.toArray 0)).push (seqObj "list" #[] 0)).get? a=some (seqObj "list" #[] e1):=ae _ (ae _ ho1);refine aa (seqEpoch_at g3 rfl ?_);refine aa (listUpdate_at g3 rfl ?_ (a6 _) ?_)
 ·show wpAny _ _ _ _ _ _;dsimp only;rw[hsnd];simp only[bne_self_eq_false,bR,if_false];refine ai (h _ _ (λb o hb e=>?_) (get?_update_seq g3 λ_=>vs.toArray));rw[eK _ _ _ _ hb];refine ae _ (ae _ ?_);rw[eK _ _ _ _ hb];exact e
 ·dsimp only;rw[hsnd,aR,cE];lia
section
variable {X:Cx}
end
open PySem
def Ris (xs:Array Nat):Prop:=∀i j:Nat,i<j->j<xs.size->xs.getD i 0<xs.getD j 0
def tm (q:Nat):SetTable:=⟨q,#[],#[],0,true,0,true⟩
def stp (q:Nat)(h:Int):Nat->SetTable.Probe
 | 0=>(tm q).probeStart h
 | n+1=>(tm q).advance (stp q h n)
def wk (q:Nat)(h:Int)(n:Nat):Nat:=(stp q h n).j
open PySem PySem.Spec PyProof.Rows
section
variable {t:SetTable}{hashAt:Nat->Int}{h:Int}
end
section
variable {prog:Program}{w:World}
abbrev tk (prog:Program)(w:World):HeapKind prog w (List Key):=tupleKind (ya prog w)
def zrK (t:SetTable)(h:Int)(i:Nat):Prop:=∃n,n<10 * SetTable.turns t.mask/\t.place[i]?=some (wk t.mask h n)/\∀m,m<n->∃q:Nat,t.place[q]?=some (wk t.mask h m)
def zpy (m:Nat):Prop:=m=7\/m=31\/m=127\/m=511
structure Tb (prog:Program)(w:World)(t:SetTable)(es:Array (Int×Value))(xs:List (List Key×Addr)):Prop where
 eq:es.toList=xs.map λq=>((tk prog w).hash q.1,Value.ref q.2)
 nd:(xs.map (·.1)).Nodup
 dm:t.dummies = #[]
 ris:Ris t.place
 le:∀ (i j:Nat),t.place[i]?=some j->j<=t.mask
 sz:t.place.size=xs.length
 msk:zpy t.mask
 few:xs.length<=t.mask
 plain:t.plain=true
 led:t.led = !w.params.followText "set-order"
 reach:∀ (i:Nat) (q:List Key×Addr),xs[i]?=some q->zrK t ((tk prog w).hash q.1) i
variable {t:SetTable}{es:Array (Int×Value)}{xs:List (List Key×Addr)}
variable {A:Around}{E:Value->Shared->Prop}{s:Shared}
end
section
variable {prog:Program}{w:World}{t:SetTable}{es:Array (Int×Value)}{xs:List (List Key×Addr)}{A:Around}{E:Value->Shared->Prop}{s:Shared}
end
def zrL {α:Type}(xs:Array α)(i:Nat):xs[i]?=xs.toList[i]?:=by simp_all
section
variable {prog:Program}{w:World}{t:SetTable}{es:Array (Int×Value)}{xs:List (List Key×Addr)}
end
structure Own (mask:Nat)(hs:List Int)(n:Nat)(owner:Array (Option Nat)):Prop where
 size:owner.size=mask+1
 lt:∀ (j i:Nat),owner[j]?=some (some i)->i<n
 inj:∀ (j j' i:Nat),owner[j]?=some (some i)->owner[j']?=some (some i)->j=j'
 reach:∀ (i:Nat) (h:Int),i<n->hs[i]?=some h->∃N,N<10 * SetTable.turns mask/\owner[wk mask h N]?=some (some i)/\∀m,m<N->∃i',owner[wk mask h m]?=some (some i')
section
variable {prog:Program}{w:World}{t:SetTable}{es:Array (Int×Value)}{xs:List (List Key×Addr)}
end
section
variable {prog:Program}{w:World}{t:SetTable}{es:Array (Int×Value)}{xs:List (List Key×Addr)}{A:Around}{E:Value->Shared->Prop}{s:Shared}
def zf0 (prog:Program)(w:World)(h:Heap)(a:Addr)(xs:List (List Key×Addr)):Prop:=∃o es ep t,h.get? a=some o/\o.ExactSet/\o.data = .set es ep t/\Tb prog w t es xs/\xs.length * 5<t.mask * 3
end
open PySem PySem.Spec PyProof.Rows PySem.W
end L2
namespace L2
open PySem PySem.Spec PyProof.Rows PySem.W
section
variable {prog:Program}{w:World}{t:SetTable}{es:Array (Int×Value)}{xs:List (List Key×Addr)}{A:Around}{E:Value->Shared->Prop}{s:Shared}
end
open PySem PySem.Spec PyProof.Rows PySem.W PySem.Calls
section
variable {prog:Program}{w:World}{t:SetTable}{es:Array (Int×Value)}{xs:List (List Key×Addr)}{A:Around}{E:Value->Shared->Prop}{s:Shared}
end
def zal {α q:Type}{R:α->q->Prop}:∀ {l:List α} {l':List q},Paired R l l'->∀ {i:Nat} (d:α) (d':q),i<l'.length->R (l.getD i d) (l'.getD i d')
 | _,_,.nil,i,_,_,h=>by simp at h
 | _,_,.cons r _,0,_,_,_=>r
 | _,_,.cons _ t,i+1,d,d',h=>by have:=zal t (i:=i) d d' (by simpa using h);simpa using this
def zcf {α q:Type}{R:α->q->Prop}:∀ {l:List α} {l':List q},Paired R l l'->l.length=l'.length
 | _,_,.nil=>rfl
 | _,_,.cons _ t=>by rw[aN,aN,zcf t]
section
variable {prog:Program}{w:World}{A:Around}{E:Value->Shared->Prop}{s:Shared}
end
def ztA (P:Program)(w:World)(a:Addr)(xs:List (List Key×Addr)):HO:=.ext λh=>zf0 P w h a xs
def zsz (xs:List (List Int×Addr)):List (List Key×Addr):=xs.map λq=>(q.1.map Sum.inl,q.2)
def ziH(h:(⟨Array.replicate (n+1) o,{}⟩:Heap).get? d=some u):u=o:=by
 unfold Heap.get? at h;simp only[Array.getElem?_replicate] at h;split at h
 ·cases h
 ·split at h
  ·exact (bh h).symm
  ·cases h
def znL(F:∃h:Heap,h.get? d=some ob):(λh=>zf0 P w h a xs)≠λh=>h.get? d=some ob:=λe=>by
 obtain⟨B,I⟩:=F;have h1:zf0 P w B a xs:=by rw[show zf0 P w B a xs=_ from congrFun e B];exact I
 obtain⟨o,es,ep,t,O,J,U,T,L⟩:=h1
 have k:∀q:Nat,({ o with data:=.set es q t }:Obj)=ob:=λq=>by have h2:zf0 P w (⟨Array.replicate (a+1) { o with data:=.set es q t },{}⟩:Heap) a xs:=⟨{ o with data:=.set es q t },es,q,t,by simp[Heap.get?],J,rfl,T,L⟩;rw[show zf0 P w _ a xs=_ from congrFun e _] at h2;exact (ziH h2).symm
 have:=congrArg Obj.data ((k 0).trans (k 1).symm);cases this
def zle:∀kvs,pnK (ztA P w a xs)=some kvs->xg kvs (Sum.inr "at" : Key)=none:=λkvs e=>by
 unfold ztA pnK at e;dsimp only at e;rw[if_neg] at e
 ·cases e
 ·rintro⟨d,ob,q,z⟩;exact znL q z
def zew:∀ns:List Int,(ns.map Sum.inl).map kV=ns.map V.int
 | []=>rfl
 | n::ns=>by rw[ao,ao,ao,zew ns];rfl
section
variable {X:Cx}
end
open PySem PySem.Spec PyProof.Rows
section
variable {prog:Program}{w:World}{A:Around}{E:Value->Shared->Prop}{R:Result->Shared->Prop}{s:Shared}
end
def uG:∀ {ns q:List Int},ns.map (Sum.inl:Int->Key)=q.map Sum.inl->ns=q
 | [],[],_=>rfl
 | [],_::_,e=>by cases e
 | _::_,[],e=>by cases e
 | n::ns,m::q,e=>by rw[ao,ao] at e;injection e with B F;rw[Sum.inl.inj B,uG F]
section
variable {X:Cx}
end
section
variable {X:Cx}{Fam:Cx->Prop}{scope:Scope}{N:List Str}{cix:List (Option Nat)}{z:Str}{use:Option (Value->Sem Unit)}{Qp:Value->Shared->Prop}{elt ke ve tg iter tg2 iter2:Expr}{ifs ifs2:List Expr}{pos ipos spos px:Pos}{wi wi2:TI}{g g2:TG}{ti ti2:TT}{te tk tv:TE}{pins:List (Addr×Obj)}{σ:St}{H:Hp}{s:Shared}{Q:VK}{o0:HO}
end
section
variable {P:Program}{w:World}{K:PySem.W.Frag}{a acc:Addr}{xs:List V}{g:TG}{ti:TT}{te:TE}{σ:St}{H:Hp}{Q:VK}
end
open PySem
def ziK (H:Hp):yz H H:=λ_ _ z=>z
open PySem PySem.Spec PyProof.Rows
section
variable {X:Cx}
end
open PySem PySem.Spec PyProof.Rows PySem.W PySem.Calls
section
variable {prog:Program}{w:World}{A:Around}{E:Value->Shared->Prop}{s:Shared}{es:Array DictEntry}
def zcq (h:Heap)(d:Addr)(es:Array DictEntry)(ep:Nat):Prop:=∃o,h.get? d=some o/\o.ExactDict/\o.data = .dict es ep
def zcq.typeIs(x:zcq s.heap d es ep):s.TypeIs (.ref d) "dict" := let ⟨o,ho,hc,_⟩:=x;⟨o,ho,hc.1⟩
def zhn(O:(d==sysModules)=false)(I:zcq s.heap d es ep)(L:Q (.ref s.heap.objs.size) { s with heap:=s.heap.push { cls:=.type "dict_keyiterator",data:=.fields #[.ref d,.int 0 0,.int es.size 0,.int ep 0] } }) :
  wpAny (model prog w) A (pyIter (.ref d)) Q E s:=by
 obtain⟨o,J,U,q⟩:=id I;have B:=I.typeIs;refine wpAny_pyIter_slot B PySem.F.slot_dict_iter (aY PySem.F.slot_dict_iter B PySem.F.entry_dict_iter ?_ (PySem.F.args_dict_iter_1 _));unfold Builtin.«dict.__iter__»;refine aa ?_;unfold Builtin.Dict.dictSlotNone;refine aa (dX B ?_);show wpAny _ _ (pure (Value.ref d)) _ _ s;refine ai ?_;show wpAny _ _ (Builtin.Dict.showsAll d >>= _) _ _ s;unfold Builtin.Dict.showsAll;rw[if_neg (by simp_all)];refine aa (ai ?_);refine aa (e7 J q ?_);refine aa (wpAny_dictEpoch J q ?_);refine aa (bM (ai ⟨_,rfl,"dict_keyiterator",_,⟨_,am _ rfl,rfl⟩,PySem.F.slot_dict_keyiterator_next.lookup,?_⟩));simpa [rawInt] using L
def zjO(q:s.heap.IsKeyIter it d i es.size ep)(U:zcq s.heap d es ep)(Y:es[i]?=some e)(Z:∀h',h'.IsKeyIter it d (i+1) es.size ep->Heap.SameBut it s.heap h'->Q (.done (.ret e.key)) { s with heap:=h' }):wpAny (model prog w) A (Builtin.«dict_keyiterator.__next__» { pos:=[Value.ref it] }) Q E s:=by
 obtain⟨o,O,hc,L⟩:=id q;obtain⟨od,F,ab,I⟩:=id U;refine aa (ai ?_);refine aa ?_;refine aa ?_
 first | refine aa (bU q.typeIs (ai ?_)) | refine aa (by grind)
 refine aa (wpAny_fieldsOf O L ?_);have J:Builtin.Dict_items.ownsTuple "dict_keyiterator" = false:=by decide
 simp only[J,bR,if_false];show wpAny _ _ (if (Value.ref d==Value.none)=true then _ else _) _ _ s;rw[if_neg (by grind)];refine aa (ai ?_);refine aa (e7 F I ?_);rw[if_neg (by simp)];refine aa (ai ?_);refine aa (wpAny_dictEpoch F I ?_);rw[if_neg (by simp)];refine ai ?_;simp only[show ¬ ((i:Int)<0) from by lia,if_false,bj,Y];refine aa ?_
 first | refine aa (bU q.typeIs (ai ?_)) | refine aa (by grind)
 refine aa (wpAny_isOneOf_keyiter q.typeIs ?_);show wpAny _ _ (setField (.ref it) 1 (rawInt ((i:Int)+1)) >>= _) _ _ s;refine aa (bZ O L (by simp) ?_)
 have B:(s.heap.update it (Obj.mapFields (·.setIfInBounds 1 (rawInt ((i:Int)+1))))).IsKeyIter it d (i+1) es.size ep:=
  ⟨_,bO _ O (Obj.isFreed_of_fields (dC L _)),(Obj.cls_mapFields ..).trans hc,by rw[dC L];simp[rawInt]⟩
 refine aa (bX ?_);refine aa (wpAny_isOneOf_keyiter (s:={ s with heap:=s.heap.update it (Obj.mapFields (·.setIfInBounds 1 (rawInt ((i:Int)+1)))) }) B.typeIs ?_);show wpAny _ _ (pure e.key) _ _ _;exact ai (ai (Z _ B (cF ..)))
def zgh(q:s.heap.IsKeyIter it d i es.size ep)(B:zcq s.heap d es ep)(F:es[i]?=some e)(I:∀h',h'.IsKeyIter it d (i+1) es.size ep->Heap.SameBut it s.heap h'->Q (some e.key) { s with heap:=h' }):wpAny (model prog w) A (pyNext (.ref it)) Q E s:=by
 unfold pyNext
 exact aa (cU (wpAny_callSpecial?_slot (name:=Str.ofString "__next__") q.typeIs bF
  (aY bF q.typeIs de (zjO q B F λh' a b=>⟨_,rfl,ai (I h' a b)⟩) (c6 _))))
def zmv(O:A.handled=none)(q:s.heap.IsKeyIter it d es.size es.size ep)(U:zcq s.heap d es ep)(Y:∀h' x,Heap.ExtBut it s.heap h'->(∃o,h'.get? x=some o/\o.cls = .type "StopIteration")->E (.ref x) { s with heap:=h' }):wpAny (model prog w) A (Builtin.«dict_keyiterator.__next__» { pos:=[Value.ref it] }) Q E s:=by
 obtain⟨o,J,hc,L⟩:=id q;obtain⟨od,B,Z,F⟩:=id U;refine aa (ai ?_);refine aa ?_;refine aa ?_
 first | refine aa (bU q.typeIs (ai ?_)) | refine aa (by grind)
 refine aa (wpAny_fieldsOf J L ?_);have I:Builtin.Dict_items.ownsTuple "dict_keyiterator" = false:=by decide
 simp only[I,bR,if_false];show wpAny _ _ (if (Value.ref d==Value.none)=true then _ else _) _ _ s;rw[if_neg (by grind)];refine aa (ai ?_);refine aa (e7 B F ?_);rw[if_neg (by simp)];refine aa (ai ?_);refine aa (wpAny_dictEpoch B F ?_);rw[if_neg (by simp)];refine ai ?_;simp only[show ¬ ((es.size:Int)<0) from by lia,if_false,bj,Array.getElem?_eq_none (af es.size)];refine aa ?_
 first | refine aa (bU q.typeIs (ai ?_)) | refine aa (by grind)
 show wpAny _ _ (setField (.ref it) 0 .none >>= _) _ _ s;refine aa (bZ J L (by simp) ?_);show wpAny _ _ (newExc (.type "StopIteration") [] >>= _) _ _ _;refine aa ?_;simp only[newExc,newTuple];refine aa (bM ?_ (by size_fits));refine aa (m:=firstArgMember _ _) (wpAny_of_eq (a:=Value.none) (by first | rfl | (simp only[firstArgMember];rfl)) ?_);refine bM ?_ (by size_fits);simp only[raiseNew];refine aa (wpAny_handled ?_);rw[O];refine aa (ai (wpAny_throw ?_));exact Y _ _ (((cF ..).extBut.push _).push _) ⟨_,am _ rfl,rfl⟩
def zhT(B:A.handled=none)(q:s.heap.IsKeyIter it d es.size es.size ep)(F:zcq s.heap d es ep)(I:∀h',Heap.ExtBut it s.heap h'->Q none { s with heap:=h' }):wpAny (model prog w) A (pyNext (.ref it)) Q E s:=by
 unfold pyNext
 refine aa (cU (wpAny_callSpecial?_slot (name:=Str.ofString "__next__") q.typeIs bF
  (aY bF q.typeIs de (zmv B q F λh' x a b=>?_) (c6 _))))
 exact aa (cJ (T := "StopIteration") (b:=true) b eX (ai (I _ a)))
end
section
variable {prog:Program}{w:World}{A:Around}{E:Value->Shared->Prop}{s:Shared}
end
section
variable {X:Cx}
end
def zhC (kvs:List (List Int×V)):List (List Key×V):=kvs.map λq=>(q.1.map Sum.inl,q.2)
def dtO (kvs:List (List Int×V)):HO:=.dT (zhC kvs)
def zjN (kvs:List (List Int×V))(st:List Int):xg (zhC kvs) (st.map Sum.inl)=xg kvs st:=by
 unfold zhC
 induction kvs with
 | nil=>rfl
 | cons q r B=>
  rw[ao];by_cases e:q.1=st
  ·rw[zI (p:=q) e,zI (p:=(q.1.map Sum.inl,q.2)) (by rw[e])]
  ·rw[zC (p:=q) e,zC (p:=(q.1.map Sum.inl,q.2)) (λz=>e (uG z)),B]
def zjM (kvs:List (List Int×V))(st:List Int)(v:V):xI (zhC kvs) (st.map Sum.inl) v=zhC (xI kvs st v):=by
 have B:∀q:List Int×V,decide ((q.1.map (Sum.inl:Int->Key))=st.map Sum.inl)=decide (q.1=st):=λq=>by rw[a8,decide_eq_true_eq,decide_eq_true_eq];exact⟨uG,λz=>by rw[z]⟩
 have F:((zhC kvs).any λkv=>decide (kv.1=st.map Sum.inl))=kvs.any λkv=>decide (kv.1=st):=by unfold zhC;rw[dY];congr 1;funext q;exact B q
 unfold xI;rw[F];by_cases h:(kvs.any λkv=>decide (kv.1=st))=true
 ·rw[if_pos h,if_pos h];unfold zhC;rw[au,au];refine eL λq _=>?_
  grind
 ·rw[if_neg h,if_neg h];unfold zhC
  simp_all
def zed.i{kvs:List (List Int×V)}{st:List Int}(e:H a=some (dtO kvs))(q:H b=some (.tup (st.map V.int)))(B:kvs.length<sizeLine):zed H a (.ref b) v (upd H a (dtO (xI kvs st v))):=by have:=zed.t (k:=st.map Sum.inl) (v:=v) e (by rw[zew];exact q) (by unfold zhC;rw[ac];exact B);rwa[zjM] at this
section
variable {X:Cx}
end
open PySem PySem.Spec PyProof.Rows
abbrev Up' (l:List (List Int)):Prop:=l.Pairwise λa b=>HT.lexLt a b=true
def insU (x:List Int):List (List Int)->List (List Int)
 | []=>[x]
 | y::r=>if HT.lexLt x y then x::y::r else if x=y then y::r else y::insU x r
def zqQ (l:List (List Int)):List (List Int):=l.foldr insU []
def zoW (bk:List Wi)(st q:List Int):List (List Int):=(bk.filter λx=>zsi st x&&!q.contains x.b).map λx=>chg st x.b x.r
def betF (bk:List Wi)(st q:List Int):List (List Int):=zqQ (zoW bk st q)
def zbi {α:Type}[BEq α][LawfulBEq α]:∀ {l l':List α},l.Nodup->(∀x∈l,x∈l')->l.length<=l'.length
 | [],_,_,_=>a6 _
 | a::l,l',q,h=>by
  rw[du] at q;have B:=h a aL
  have:=zbi (l:=l) (l':=l'.erase a) q.2 λx F=>by grind
  grind
open PySem
end L2
namespace L2
open PySem PySem.Spec PyProof.Rows PySem.SeqAt
def u8:∀ds:List Dt,Dt.toWs ds=ds.map Dt.toW
 | []=>rfl
 | d::ds=>by rw[Dt.toWs,ao,u8 ds]
def zdB:∀ds:List PySem.W.Dat,PySem.W.kqdPs ds=ds.map PySem.W.kqdP
 | []=>by simp[PySem.W.kqdPs]
 | d::ds=>by rw[ao,<- zdB ds];simp[PySem.W.kqdPs]
def ztr (q:Bool):R2:=λx y H Q=>∃d ds,Is H d x/\(Is H (.lst ds) y\/Is H (.tup ds) y)/\d.eqOk/\(Dt.lst ds).eqOk/\∀b:Bool,(b=true↔d∈ds)->Q (.bl (if q then !b else b)) H
section
variable {X:Cx}
def zcB(h:(Dt.lst ds).eqOk):∀d∈ds,PySem.W.kqdOk 7 d.toW=true:=λd q=>by
 have h':PySem.W.kqdOk 8 (Dt.lst ds).toW=true:=h;simp only[Dt.toW,PySem.W.kqdOk,a9,u8] at h'
 simp_all
def zgA(q:d.eqOk)(B:(Dt.lst ds).eqOk):((PySem.W.kqdPs (Dt.toWs ds)).any λy=>PyData.eqv y (PySem.W.kqdP d.toW))=true↔d∈ds:=by
 rw[zdB,u8,au,dY,bT];constructor
 ·rintro⟨e,F,h⟩;have:=(cQ 7 e.toW d.toW 8 (zcB B e F) q).mp h;rw[<- zbK this];exact F
 ·intro h;exact⟨d,h,(cQ 7 d.toW d.toW 8 (zcB B d h) q).mpr rfl⟩
def zjS(h:PySem.W.kqdOk 7 d=true):PySem.W.kqdOk 8 d=true:=by
 have q:∀ (n:Nat) (d:PySem.W.Dat),PySem.W.kqdOk n d=true->PySem.W.kqdOk (n+1) d=true:=by
  intro n
  induction n with
  | zero=>intro d h;cases d <;> simp_all [PySem.W.kqdOk]
  | succ n B=>
   intro d h;cases d <;> simp_all [PySem.W.kqdOk]
 exact q 7 d h
def zpg {d:Dt}{ds:List Dt}{u:Nat}(I:d.eqOk)(J:(Dt.lst ds).eqOk)(U:u+64<cLine):PyData.canLayAll0 (PySem.W.kqdPs (Dt.toWs ds))=true/\(PySem.W.kqdP d.toW).canLay0=true/\u+1+min (PyData.depthAll (PySem.W.kqdPs (Dt.toWs ds))) (PySem.W.kqdP d.toW).depth<cLine:=by
 have B:=cA 8 _ I
 have L:=PySem.W.kqd_layL (ds:=Dt.toWs ds) λe F=>by rw[u8] at F;obtain⟨O,q,rfl⟩:=aw.mp F;exact zjS (zcB J O q)
 refine⟨L.1,B.1,?_⟩;have:min (PyData.depthAll (PySem.W.kqdPs (Dt.toWs ds))) (PySem.W.kqdP d.toW).depth<=8:=ah (fE _ _) B.2;lia
def zlj (hu:X.A.units+64<cLine):OpQ X (compareOp .In) (ztr false):=⟨by
 intro pins s σ H x y v u Q I rx L h;obtain⟨d,ds,hd,B,F,ks,q⟩:=h;obtain⟨as,O⟩:=yS I.hok 8 hd rx F;obtain⟨U,Y,Z⟩:=zpg F ks hu;rcases B with B | B
 ·obtain⟨bs,J⟩:=yS I.hok 8 B L ks;exact in_list_reads J O U Y Z ⟨.bl _,H,I,rfl,q _ (zgA F ks)⟩
 ·obtain⟨bs,J⟩:=yS I.hok 8 B L (show (Dt.tup ds).eqOk from ks);exact in_tuple_reads J O U Y Z ⟨.bl _,H,I,rfl,q _ (zgA F ks)⟩⟩
end
open PySem PySem.Spec PyProof.Rows
def zpS (bk:List Wi)(q:Int)(st:List Int):List (List Int):=(bk.filter λx=>decide (x.b=q)&&zB st x.g).map λx=>[x.w,x.r]
def lpF (bk:List Wi)(q:Int)(st:List Int):List (List Int):=zqQ (zpS bk q st)
def zkH (C:Nat->Nat->Bool)(w j:Nat):List (List Int):=((List.range j).filter (C w)).map λb:Nat=>[(w:Int),(b:Int)]
def ztJ (C:Nat->Nat->Bool)(n:Nat):Nat->List (List Int)
 | 0=>[]
 | i+1=>ztJ C n i++zkH C i n
def ze3 {a b:List Int}(h:stD a=stD b):a=b:=by have:=congrArg (List.map Dt.val) (Dt.tup.inj h);rwa[xO,xO] at this
open PySem PySem.Spec PyProof.Rows PySem.W PySem.Calls
section
variable {prog:Program}{w:World}{A:Around}{E:Value->Shared->Prop}{s:Shared}{R:Result->Shared->Prop}
end
section
variable {X:Cx}
end
open PySem PySem.Spec PyProof.Rows
section
variable {X:Cx}{e st:Expr}{te tk:TE}{pos p2:Pos}
end
def unlike (q z B:List Int):List Int:=B.filter λb=>decide (zA q b≠zA z b)
section
variable {X:Cx}{pos:Pos}
end
def zhQ {z:List Int}{l:List (List Int)}:stD z∈l.map stD↔z∈l:=by rw[aw];exact⟨by rintro⟨y,q,e⟩;exact ze3 e ▸ q,λh=>⟨z,h,rfl⟩⟩
end L2
namespace L2
open PySem PySem.Spec PyProof.Rows
end L2
namespace L2
open PySem PySem.Spec PyProof.Rows
section
variable {M:Model}{A:Around}{E:Value->Shared->Prop}{s:Shared}
end
section
variable {X:Cx}{pins:List (Addr×Obj)}{σ:St}{H:Hp}{s:Shared}{scope:Scope}{N:List Str}{z:Str}{cix:List (Option Nat)}
end
section
variable {X:Cx}{scope:Scope}{N:List Str}{cix:List (Option Nat)}{z:Str}
end
end L2
namespace L2
open PySem PySem.Spec PyProof.Rows
end L2
namespace L2
open PySem PySem.Spec PyProof.Rows
def zc6:typeLookup (.type "tuple") "keys" = pure none:=by rw[typeLookup_type,builtinLookup_eq_fast];kernel_rfl
def zaX {prog:Program}{w:World}{A:Around}{E:Value->Shared->Prop}{s:Shared}{a:Addr}{o:Obj}{xs:Array Value}{k:Nat}{name:Str}{Q:Option Value->Shared->Prop}
  (hx:s.heap.get? a=some o) (hc:o.cls = .type "tuple") (hdat:o.data = .seq xs k) (hd:o.dict=none) (hmiss:typeLookup (.type "tuple") name=pure none) (hname:(["__module__","__name__","__qualname__","__doc__","__annotations__"]:List Str).contains name=false) (hA:A.handled=none)
  (h:∀h' tk e,Heap.NewExcOf s.heap h' e "AttributeError" -> Q none { s with heap:=h',toks:=tk }) (hsz:name.length+100<=sizeLine:=by size_fits) :
  wpAny (model prog w) A (getAttr? (.ref a) name) Q E s:=by
 obtain⟨c,dct,dat,sl⟩:=o;simp only at hc hdat hd;subst hc hdat hd;obtain⟨hp,g,d,tk,os⟩:=s;have hT:∀tk',(⟨hp,g,d,tk',os⟩:Shared).TypeIs (.ref a) "tuple" := λ_=>⟨_,hx,rfl⟩;have f1:=sub_AttributeError;have f3:=F.slot_tuple_getattribute.lookup;have f4:=F.slot_tuple_getattribute.bind (.ref a);have f5:=am_tuple_getattr_none;unfold getAttr? getAttrBy? getAttrBy
 repeat (any_goals (first | assumption | exact hT _ | ((with_reducible show wpAny _ _ (call (Value.builtin "tuple.__getattribute__") _ _) _ _ _);refine eZ F.slot_tuple_getattribute (hT _) am_entry_tuple_getattribute (F.args_tuple_getattribute_2 _ _) (meets_getattribute_miss_tuple a xs k sl name _ hmiss hname hsz) ⟨hx,hA,λh' tk e hx'=>?_⟩) | wp_step))
 obtain⟨t',u',he⟩:=hx'.there;show wpAny _ _ (getattributeRaised _ _ _ _ _ _ _) _ _ _;unfold getattributeRaised
 repeat (any_goals (first | assumption | wp_step))
 exact h _ _ _ hx'.of
def zO:entryFor table "dict.update.loop" = some Builtin.«dict.update.loop»:=entryFor_of_tree (by kernel_rfl)
def zo:plainId "dict.update.loop" = true:=by decide +kernel
structure PairAt (h:Heap)(q:Addr×Int×Tok×Value):Prop where
 at':IsTup h q.1 #[.int q.2.1 q.2.2.1,q.2.2.2]
def PairAt.keep{q:Addr×Int×Tok×Value}(x:PairAt h q)(k:∀o,h.get? q.1=some o->h'.get? q.1=some o):PairAt h' q:=by obtain⟨o,B,r⟩:=x.at';exact⟨⟨o,k o B,r⟩⟩
section
variable {prog:Program}{w:World}{A:Around}{E:Value->Shared->Prop}{s:Shared}{R:Result->Shared->Prop}{Kt:Type}[DecidableEq Kt]{knd:KeyKind prog w Kt}{κ:Int->Kt}
def ub(B:s.heap.get? a=some o)(q:o.data = .seq xs n)(h:Q (some xs) s):wpAny (model prog w) A (seqItems? (.ref a)) Q E s:=by
 obtain⟨c,d,F,I⟩:=o;simp only at q;subst q;unfold seqItems?
 repeat (any_goals (first | assumption | wp_step))
def zg0 {D I l:Addr}{items:Array Value}{ps:List (Addr×Int×Tok×Value)}{tk0:Tok}(hh:A.in1.handled=none)(ag:∀n t,knd.is (κ n) (.int n t)=true)(Z:items.toList=ps.map λq=>Value.ref q.1)(U:D≠I)(al:l≠D)(an:l≠I)(hq:∀q∈ps,q.1≠D/\q.1≠I)(hn:ps.length<=1000) :
  ∀ (k i:Nat) (s:Shared) (kvs:List (Kt×Value)) (j:Int) (tj:Tok),ps.length - i=k->i<=ps.length->s.heap.IsTupleIter I l i->s.heap.IsTuple l items->(∀q∈ps,PairAt s.heap q)->s.heap.DictOf knd D kvs->kvs.length<=i->
   (∀h' Y,h'.DictOf knd D (merged kvs ((ps.drop i).map λq=>(κ q.2.1,q.2.2.2)))->(∀b o,b≠D->b≠I->s.heap.get? b=some o->h'.get? b=some o)->R (.ok (.ret .none)) { s with heap:=h',toks:=Y })->
   codeAny (model prog w) A (.builtin "dict.update.loop" ⟨[.ref D,.ref I,.int j tj,.none],[]⟩) R s:=by
 intro k
 induction k with
 | zero=>
  intro i s kvs j tj hk hi hI hl ab hD ad hR;have as:i=ps.length:=by lia
  subst as;refine cB zO ?_;rw[c5 zo _];show wpAny _ A.in1 (pyNext (.ref I) >>= _) _ _ s;refine aa (wpAny_pyNext_tuple_end hh hI hl ?_ λh' hx=>?_)
  ·have e:items.toList[ps.length]?=none:=by rw[Z,aB,List.getElem?_eq_none (af _)];rfl
   simpa using e
  show wpAny _ A.in1 (Builtin.Dict.addKeywords D [] >>= _) _ _ _;refine aa (ai (ai (hR h' s.toks ?_ λb o _ hb e=>hx b o hb e)));rw[List.drop_length];obtain⟨o,es,ep,B,r⟩:=hD;exact⟨o,es,ep,hx D o U B,r⟩
 | succ k ih=>
  intro i s kvs j tj hk hi hI hl ab hD ad hR;have F:i<ps.length:=by lia
  refine cB zO ?_;rw[c5 zo _];show wpAny _ A.in1 (pyNext (.ref I) >>= _) _ _ s
  have hx:items[i]?=some (Value.ref ps[i].1):=by
   have e:items.toList[i]?=some (Value.ref ps[i].1):=by rw[Z,aB,ar F];rfl
   simpa using e
  have a0:ps[i]∈ps:=aZ F;refine aa (wpAny_pyNext_tuple_item hI hl hx λh1 a1 a2=>?_);have J:∀b o,b≠I->s.heap.get? b=some o->h1.get? b=some o:=λb o hb e=>by rw[a2.2 b hb];exact e
  have O:∀q∈ps,PairAt h1 q:=λq z=>(ab q z).keep λo e=>J _ _ (hq q z).2 e
  have a3:h1.DictOf knd D kvs:=by obtain⟨o,es,ep,B,r⟩:=hD;exact⟨o,es,ep,J _ _ U B,r⟩
  have hp:=(O _ a0).at';have hT:Shared.TypeIs { s with heap:=h1 } (.ref ps[i].1) "tuple" := hp.typeIs;refine aa (bX ?_);refine aa (wpAny_tryCatch ?_);unfold Builtin.Dict.pairItems;refine aa (cq hT ?_);rw[if_pos (by decide)];obtain⟨o,B,hc,n,hd⟩:=id hp;refine aa (ub B hd ?_);refine ai ?_;show wpAny _ _ (holding [Value.int ps[i].2.1 ps[i].2.2.1,ps[i].2.2.2] (dictSet D (Value.int ps[i].2.1 ps[i].2.2.1) ps[i].2.2.2)) _ _ _;refine bX ?_;refine wpAny_dictSet_pairs (s:={ s with heap:=h1 }) (ag _ _) a3 (λh2 a4 a5=>?_) (by rw[cE];lia);have L:∀b o,b≠D->h1.get? b=some o->h2.get? b=some o:=λb o hb e=>by rw[a5.2 b hb];exact e
  refine ai ⟨fj zo _,ih (i+1) _ _ (j+1) _ (by lia) F ?_ ?_ ?_ a4 ?_ ?_⟩
  ·obtain⟨o,B,r⟩:=a1;exact⟨o,L _ _ U.symm B,r⟩
  ·obtain⟨o,B,r⟩:=hl;exact⟨o,L _ _ al (J _ _ an B),r⟩
  ·exact λq z=>(O q z).keep λo e=>L _ _ (hq q z).1 e
  ·have:=stored_length_le kvs (κ ps[i].2.1) ps[i].2.2.2;lia
  ·intro h' Y a7 kp;refine hR h' Y ?_ λb o b1 b2 e=>kp b o b1 b2 (L b o b1 (J b o b2 e));have e:ps.drop i=ps[i]::ps.drop (i+1):=List.drop_eq_getElem_cons F;rw[e,ao];exact a7
def zaY{ps:List (Addr×Int×Tok×Value)}(hh:A.handled=none)(ag:∀n t,knd.is (κ n) (.int n t)=true)(U:∀a b,κ a=κ b->a=b)(hl:∃o,s.heap.get? l=some o/\o.cls = .type "tuple" /\ (∃n,o.data = .seq items n)/\o.dict=none)(al:items.toList=ps.map λq=>Value.ref q.1)(Y:∀q∈ps,PairAt s.heap q)(hn:ps.length<=1000)(an:(ps.map (·.2.1)).Nodup)(h:∀ (h':Heap) (tk:Nat),h'.DictOf knd s.heap.objs.size (ps.map λq=>(κ q.2.1,q.2.2.2))->(∀b o,s.heap.get? b=some o->h'.get? b=some o)->Q (.ref s.heap.objs.size) { s with heap:=h',toks:=tk }) :
  wpAny (model prog w) A (call (.type "dict") [.ref l]) Q E s:=by
 refine callType_codes (Q₁:=λZ L=>Z = .ref s.heap.objs.size/\L={ s with heap:=s.heap.push { cls:=.type "dict",data:=.dict #[] } }) F.kt_called_dict (F.kt_typeCall_dict_1 _) F.entry_dict_init (kt_code_dict_new _ ⟨rfl,rfl⟩) ?_;rintro Z L ⟨rfl,rfl⟩;have B:(s.heap.push { cls:=.type "dict",data:=.dict #[] }).DictOf knd s.heap.objs.size []:=Heap.DictOf.new s.heap;obtain⟨o,ho,hc,⟨n,hd⟩,as⟩:=hl;have O:(s.heap.push { cls:=.type "dict",data:=.dict #[] }).get? l=some o:=ae _ ho;have a0:Shared.TypeIs { s with heap:=s.heap.push { cls:=.type "dict",data:=.dict #[] } } (.ref l) "tuple" := ⟨o,O,hc⟩;refine⟨B.typeIs,F.args_dict_init_2 _ _,?_⟩;unfold Builtin.«dict.__init__»;refine aa ?_;unfold Builtin.Dict.selfAndRest;refine aa (dX B.typeIs ?_);show wpAny _ _ (pure (s.heap.objs.size,[Value.ref l])) _ _ _;refine ai ?_;show wpAny _ _ (Builtin.Dict.updateFrom "dict.__init__" s.heap.objs.size (.ref l) [] .none) _ _ _;unfold Builtin.Dict.updateFrom;refine aa (cq a0 ?_);rw[if_pos (by decide)];refine aa (zaX O hc hd as zc6 (by decide) (by simp[hh]) (λh2 tk e hx=>?_) (by decide));have I:=hx.keeps;rw[if_pos (by rfl)];refine aa (di ?_);have ab:l<s.heap.objs.size:=ak ho
 have a1:∀q∈ps,q.1<s.heap.objs.size:=λq hq=>by obtain⟨o,ho,_⟩:=(Y q hq).at';exact ak ho
 have J:s.heap.objs.size<h2.objs.size:=by obtain⟨_,_,_,hg,_⟩:=B;exact ak (I _ _ hg)
 have ad:=I _ _ O;refine aa (bP (s:={ s with heap:=h2,toks:=tk }) ⟨o,ad,hc,n,hd⟩ ?_);refine ai ⟨fj zo _,?_⟩;refine zg0 (A:=A.in1) (knd:=knd) (κ:=κ) (items:=items) (ps:=ps) (l:=l) (tk0:=0) (by simp[hh]) ag al ?_ ?_ ?_ ?_ hn (ps.length - 0) 0 _ [] _ _ (by lia) (a6 _) ⟨_,am _ rfl,rfl,rfl⟩ ?_ ?_ ?_ (af _) ?_
 ·exact aD J
 ·exact aD ab
 ·exact aD (eR ab J)
 ·intro q hq;have:=a1 q hq;exact⟨aD this,aD (eR this J)⟩
 ·exact⟨o,ae _ ad,hc,n,hd⟩
 ·exact λq hq=>(Y q hq).keep λo e=>ae _ (I _ _ (ae _ e))
 ·obtain⟨o',es,ep,a2,r⟩:=B;exact⟨o',es,ep,ae _ (I _ _ a2),r⟩
 ·intro h' a3 hD kp;refine⟨rfl,h h' a3 ?_ λb o e=>?_⟩
  ·rw[List.drop_zero,merged_nil_of_nodup] at hD
   ·exact hD
   ·rw[au];have e:(ps.map ((λx=>x.1) ∘ λq=>(κ q.2.1,q.2.2.2)))=(ps.map (·.2.1)).map κ:=by rw[au];rfl
    rw[e];exact e8 κ (λa b a4 he=>a4 (U a b he)) an
  ·have hb:=ak e;exact kp b o (aD hb) (aD (eR hb J)) (ae _ (I _ _ (ae _ e)))
end
structure PrsAt (H:Hp)(a:Addr)(ps:List (Addr×Int×V)):Prop where
 at':H a=some (.tup (ps.map λq=>V.ref q.1))
 one:∀q∈ps,H q.1=some (.tup [.int q.2.1,q.2.2])
def ztd{ps:List (Addr×Int×V)}(L:HOk P w H h):∀ {its:List Value},zY (ps.map λq=>V.ref q.1) its->(∀q∈ps,H q.1=some (.tup [.int q.2.1,q.2.2]))->
  ∃B:List (Addr×Int×Tok×Value),its=B.map (λq=>Value.ref q.1)/\(∀q∈B,PairAt h q)/\B.map (·.2.1)=ps.map (·.2.1)/\KV (ps.map λq=>((Sum.inl q.2.1:Key),q.2.2)) (B.map λq=>((Sum.inl q.2.1:Key),q.2.2.2)):=by
 induction ps with
 | nil=>intro its r _;cases r;exact⟨[],rfl,λ_ h=>by simp at h,rfl,.nil⟩
 | cons q ps O=>
  intro its r J
  cases r with
  | cons U Y=>
   obtain⟨B,rfl,h1,h2,Z⟩:=O Y λz F=>J z (av _ F);cases U;obtain⟨_,us,I,o,ho,hc,⟨n,hd⟩,_⟩:=(show zD P w H h q.1 (.tup _) from L _ _ (J q aL))
   cases I with
   | cons rk I=>
    cases I with
    | cons ru rn=>
     cases rn;obtain⟨t,rfl⟩:=rk;refine⟨(q.1,q.2.1,t,_)::B,rfl,λz F=>?_,by simp_all,.cons ⟨rfl,ru⟩ Z⟩;rcases ax.mp F with rfl | F
     ·exact⟨⟨o,ho,hc,n,hd⟩⟩
     ·exact h1 z F
def zix:List V->Hp->VK->Prop:=λxs H Q=>∃ (a:Addr) (ps:List (Addr×Int×V)),xs=[.ref a]/\PrsAt H a ps/\(ps.map (·.2.1)).Nodup/\ps.length<=1000/\New H (.dK (ps.map λq=>((Sum.inl q.2.1:Key),q.2.2))) Q
def zjg(U:X.calm=true):CallQ X (.type "dict") zix:=⟨by
 intro pins s σ H xs us Q I Y Z;obtain⟨a,ps,rfl,hp,B,hn,q⟩:=Z
 cases Y with
 | cons r1 r2=>
  cases r2;cases r1;obtain⟨hz,its,rv,o,ho,F,⟨n,hd⟩,J⟩:=(show zD X.prog X.w H s.heap a (.tup _) from I.hok a _ hp.at');obtain⟨L,rfl,h1,h2,h3⟩:=ztd I.hok rv hp.one;have O:L.length=ps.length:=by have:=congrArg List.length h2;simpa using this
  refine zaY (knd:=ya X.prog X.w) (κ:=Sum.inl) (items:=(L.map λq=>Value.ref q.1).toArray) (ps:=L) (I.ok.hd U) (λn t=>zbh _ _ n t) (λa b e=>Sum.inl.inj e) ⟨o,ho,F,⟨n,hd⟩,J⟩ (by simp) h1 (by lia) (by rw[h2];exact B) λh' tk hD kp=>?_;have hf:H s.heap.objs.size=none:=I.hok.fresh (af _);refine⟨.ref s.heap.objs.size,_,I.laid (t':=tk) (o:=.dK (ps.map λq=>((Sum.inl q.2.1:Key),q.2.2))) kp (af _) ⟨?_,?_,_,h3,hD⟩,rfl,q.at hf⟩
  ·simp_all
  ·exact c8.mpr (Ne.symm (aD I.big))⟩
def uI {X:Cx}{pins:List (Addr×Obj)}{σ:St}{H:Hp}{s:Shared}{a:Addr}{xs:List V}(I:Inv X pins σ H s)(h:SqL X.K H a xs):∃its:List Value,zY xs its/\s.heap.IsList a its.toArray/\xs.length<=sizeLine:=by obtain⟨its,r,⟨o,n,e,c,_,d⟩,z⟩:=I.list h;exact⟨its,r,⟨o,e,c,n,d⟩,z⟩
def Izl (K:PySem.W.Frag)(a b:Addr):It:=
 ⟨λi H=>∃xs ys x y,SqL K H a xs/\SqL K H b ys/\xs[i]?=some x/\ys[i]?=some y,λi H v H'=>∃T x y,v = .ref T/\H T=none/\H'=upd H T (.tup [x,y])/\(∀xs,SqL K H a xs->xs[i]?=some x)/\∀ys,SqL K H b ys->ys[i]?=some y,λi H=>∃xs ys,SqL K H a xs/\SqL K H b ys/\(xs.length<=i\/ys.length<=i)⟩
def ziV{P:Program}{w:World}{K:PySem.W.Frag}{a5:List Expr}{x1}(z TI TO O U a b:Addr)(D:ZipApart z TI TO O U a b) :
  Turn P w K (.Tuple a5 x1 tpos) (Izl K a b) [z,TI,TO,O,U] z (λi h=>IsZip h z TI TO .none/\IsPair h TI (.ref O) (.ref U)/\(∃c d,IsPair h TO c d)/\h.IsListIter O a i/\h.IsListIter U b i) where
 mem:=by simp
 obj:=λi h st c J=>by
  obtain⟨hz,Y,⟨u,v,ab⟩,⟨o1,e1,c1,d1⟩,⟨o2,e2,c2,d2⟩⟩:=st
  grind
 keep:=λi h h' st k=>by obtain⟨hz,Y,⟨u,v,ab⟩,⟨o1,e1,r1⟩,⟨o2,e2,r2⟩⟩:=st;exact⟨k z (by simp) _ hz,k TI (by simp) _ Y,⟨u,v,k TO (by simp) _ ab⟩,⟨o1,k O (by simp) _ e1,r1⟩,⟨o2,k U (by simp) _ e2,r2⟩⟩
 item:=by
  intro X hP hw hK J i pins s σ H E I hf st hg;subst hP hw hK;obtain⟨xs,ys,x,y,al,an,hx,hy⟩:=hg;obtain⟨a7,a1,p1,ci⟩:=uI I al;obtain⟨bb,a2,p2,cn⟩:=uI I an;obtain⟨u1,bx,b0⟩:=a1.get hx;obtain⟨u2,b1,b2⟩:=a2.get hy;have fz:=hf z (by simp);have B:=hf TO (by simp);have f1:=hf O (by simp);have f2:=hf U (by simp);obtain⟨hz,Y,⟨c0,d0,ab⟩,as,a0⟩:=st;have hT:s.TypeIs (.ref z) "zip" := ⟨_,hz,rfl⟩;unfold pyNext
  refine aa (cU (wpAny_callSpecial?_slot (name:=Str.ofString "__next__") hT cj
   (aY cj hT eh (zip_next_item (A:=X.A.in1) D hz Y ab as a0 p1 p2 (x:=u1) (y:=u2) (by simpa using bx) (by simpa using b1) λh' gz b3 b4 b5 gT co hk=>?_) (dR _))))
  refine ai ⟨_,rfl,?_⟩;refine wpAny_letOwnedTupleGo_zip (s:={ s with heap:=h' }) gz λag bd Z=>?_;have nz:∀b' o',s.heap.get? b'=some o'->s.heap.objs.size≠b':=λb' o' e=>cP (ak e);have bk:s.heap.objs.size≠z:=nz z _ hz;have bl:s.heap.objs.size≠TO:=nz TO _ ab;have b6:s.heap.objs.size≠O:=by obtain⟨o,ho,_⟩:=as;exact nz O _ ho
  have b7:s.heap.objs.size≠U:=by obtain⟨o,ho,_⟩:=a0;exact nz U _ ho
  have bm:s.heap.objs.size≠TI:=nz TI _ Y;have F:=I.hok.fresh (af s.heap.objs.size);have kp:∀c o,c≠z->c≠TO->c≠O->c≠U->s.heap.get? c=some o->ag.get? c=some o:=λc o h1 h2 h3 h4 hb=>(Z.2 c h1).trans (hk c o h1 h2 h3 h4 hb);have bo:ag.get? s.heap.objs.size=some { cls:=.type "tuple",data:=.seq #[u1,u2] }:=(Z.2 _ bk).trans gT;have ca:∀b' u',H b'=some u'->b'≠z/\b'≠TO/\b'≠O/\b'≠U:=λb' u' hb=>⟨zc hb fz.1,zc hb B.1,zc hb f1.1,zc hb f2.1⟩
  have bs:HOk X.prog X.w (upd H s.heap.objs.size (.tup [x,y])) ag:=by
   intro b' u' hb;by_cases bt:b'=s.heap.objs.size
   ·subst bt;rw[zg] at hb;cases hb;exact⟨by show 2<=sizeLine;decide,[u1,u2],.cons b0 (.cons b2 .nil),_,bo,rfl,⟨0,rfl⟩,rfl⟩
   ·rw[zb bt] at hb;refine (I.hok b' u' hb).stay (λc v L q=>?_) (λc q=>?_) (λc ys q=>?_)
    ·have:c≠z/\c≠TO/\c≠O/\c≠U:=by
      rcases L with rfl | L
      all_goals simp_all
     simp_all
    ·rw[zb (zc q F)];exact q
    ·rw[zb (zc q F)];exact q
  have ad:∀c o,c∉[z,TO,O,U]->s.heap.get? c=some o->ag.get? c=some o:=λc o J e=>kp c o (λq=>J (by simp[q])) (λq=>J (by simp[q])) (λq=>J (by simp[q])) (λq=>J (by simp[q])) e
  have I1:Inv X pins σ (upd H s.heap.objs.size (.tup [x,y])) { s with heap:=ag,toks:=s.toks }:=by
   refine Inv.step (ch:=[z,TO,O,U]) (g':=s.gens) (d':=s.drawn) (t':=s.toks) I (λc J=>?_) (λc o h1 h2 h3 h4 h5=>?_) (λc o h1 h2 h3 h4 h5=>?_) (λc o h3 h4 h5=>?_) (λc o h3 h4=>?_) (λc ys q=>?_) (λc o u' q=>?_) (λc ps q=>?_) (λm hm=>?_) bs I.bare
   ·simp only[ax,ba,or_false] at J;rcases J with rfl | rfl | rfl | rfl
    ·exact⟨fz.2.2.2.1,fz.2.1,fz.2.2.2.2.1,fz.2.2.2.2.2⟩
    ·exact⟨B.2.2.2.1,B.2.1,B.2.2.2.2.1,B.2.2.2.2.2⟩
    ·exact⟨f1.2.2.2.1,f1.2.1,f1.2.2.2.2.1,f1.2.2.2.2.2⟩
    ·exact⟨f2.2.2.2.1,f2.2.1,f2.2.2.2.2.1,f2.2.2.2.2.2⟩
   ·exact ad c o h3 h4
   ·exact⟨o.slots,ad c o h3 h4⟩
   ·rw[zb (aD (ak h4))];exact h5
   ·exact⟨o,ad c o h3 h4⟩
   ·rw[zb (zc q F)];exact q
   ·rw[zb (zc q F)];exact q
   ·exact⟨#[],by rw[zb (zc q F),dD];exact q⟩
   ·obtain⟨o,es,ep,a3,r1⟩:=hm;exact⟨o,es,ep,kp _ o (Ne.symm fz.2.1) (Ne.symm B.2.1) (Ne.symm f1.2.1) (Ne.symm f2.2.1) a3,r1⟩
  refine⟨.ref s.heap.objs.size,_,I1,rfl,⟨s.heap.objs.size,x,y,rfl,F,rfl,λzs a4=>by rw[I.list_inj a4 al];exact hx,λzs a4=>by rw[I.list_inj a4 an];exact hy⟩,⟨bd,?_,⟨_,_,(Z.2 TO D.TOz).trans b3⟩,?_,?_⟩,λc J=>?_⟩
  ·exact kp TI _ D.TIz D.TITO D.TIi1 D.TIi2 Y
  ·obtain⟨o,ho,r⟩:=b4;exact⟨o,(Z.2 O D.i1z).trans ho,r⟩
  ·obtain⟨o,ho,r⟩:=b5;exact⟨o,(Z.2 U D.i2z).trans ho,r⟩
  ·simp only[ax,ba,or_false] at J;rcases J with rfl | rfl | rfl | rfl | rfl
   ·rw[zb (Ne.symm bk)];exact fz.1
   ·rw[zb (Ne.symm bm)];exact (hf _ (by simp)).1
   ·rw[zb (Ne.symm bl)];exact B.1
   ·rw[zb (Ne.symm b6)];exact f1.1
   ·rw[zb (Ne.symm b7)];exact f2.1
 done:=by
  intro X hP hw hK J i pins s σ H E I hf st hg;subst hP hw hK;obtain⟨xs,ys,al,an,hx⟩:=hg;obtain⟨a7,a1,p1,c3⟩:=uI I al;obtain⟨bb,a2,p2,cd⟩:=uI I an;have fz:=hf z (by simp);have B:=hf TO (by simp);have f1:=hf O (by simp);have f2:=hf U (by simp);obtain⟨hz,Y,⟨c0,d0,ab⟩,as,a0⟩:=st;have c4:=a1.length;have da:=a2.length;have hT:s.TypeIs (.ref z) "zip" := ⟨_,hz,rfl⟩;unfold pyNext
  refine aa (cU (wpAny_callSpecial?_slot (name:=Str.ofString "__next__") hT cj
   (aY cj hT eh (zip_next_end (A:=X.A.in1) (I.ok.hd J) D hz Y ab as a0 p1 p2 (hx.elim (λz=>.inl (by simp;lia)) λz=>.inr (by simp;lia)) λh' e ko he=>?_) (dR _))))
  obtain⟨o,ho,b8⟩:=he;refine aa (cJ (T := "StopIteration") (b:=true) ⟨o,ho,b8⟩ eX ?_);refine ai ⟨rfl,?_⟩;have ad:∀c o,c∉[z,TO,O,U]->s.heap.get? c=some o->h'.get? c=some o:=λc o J e=>ko c o (λq=>J (by simp[q])) (λq=>J (by simp[q])) (λq=>J (by simp[q])) (λq=>J (by simp[q])) e;refine Inv.step (ch:=[z,TO,O,U]) (g':=s.gens) (d':=s.drawn) (t':=s.toks) I (λc J=>?_) (λc o h1 h2 h3 h4 h5=>ad c o h3 h4) (λc o h1 h2 h3 h4 h5=>⟨o.slots,ad c o h3 h4⟩) (λc o h3 h4 h5=>h5) (λc o h3 h4=>⟨o,ad c o h3 h4⟩) (λc ys q=>q) (λc o u' q=>q) (λc ps q=>⟨#[],by simp_all⟩) (λm hm=>?_) (λb' u' hb=>?_) I.bare
  ·simp only[ax,ba,or_false] at J;rcases J with rfl | rfl | rfl | rfl
   ·exact⟨fz.2.2.2.1,fz.2.1,fz.2.2.2.2.1,fz.2.2.2.2.2⟩
   ·exact⟨B.2.2.2.1,B.2.1,B.2.2.2.2.1,B.2.2.2.2.2⟩
   ·exact⟨f1.2.2.2.1,f1.2.1,f1.2.2.2.2.1,f1.2.2.2.2.2⟩
   ·exact⟨f2.2.2.2.1,f2.2.1,f2.2.2.2.2.1,f2.2.2.2.2.2⟩
  ·obtain⟨o,es,ep,a3,r1⟩:=hm;exact⟨o,es,ep,ko _ o (Ne.symm fz.2.1) (Ne.symm B.2.1) (Ne.symm f1.2.1) (Ne.symm f2.2.1) a3,r1⟩
  ·refine (I.hok b' u' hb).stay (λc v L q=>?_) (λc q=>q) (λc ys q=>q)
   have:c≠z/\c≠TO/\c≠O/\c≠U:=by
    rcases L with rfl | L
    ·exact⟨zc hb fz.1,zc hb B.1,zc hb f1.1,zc hb f2.1⟩
    ·exact⟨zc L fz.1,zc L B.1,zc L f1.1,zc L f2.1⟩
   exact ko c v this.1 this.2.1 this.2.2.1 this.2.2.2 q
 self:=λA i s Q E st h=>by obtain⟨hz,_⟩:=st;exact ei hz h
def zo1 (K:PySem.W.Frag)(ta:TA):TI:=λσ H R=>ta σ H λvs H1=>∃a b,vs=[.ref a,.ref b]/\(∃xs,SqL K H1 a xs)/\(∃ys,SqL K H1 b ys)/\R (Izl K a b) H1
def zng {X:Cx}{F:List Expr}{x1}{tpos:Pos}{a b:Expr}{ta:TA}{p pos:Pos}(hg:Gl X "zip")(hm:X.mg "zip" = none)(ha:PA X [a,b] ta)(hs:starEach [a,b] X.env=[(false,eval a X.env),(false,eval b X.env)]:=by rfl)(J:starEach [b] X.env=[(false,eval b X.env)]:=by rfl) :
  PI X (.Tuple F x1 tpos) (.Call (.Name "zip" p) [a,b] [] pos) (zo1 X.K ta):=by
 intro pins s σ H R I h;refine Call_ (zbf I hg hm boot_zip (bG (thn (ha pos pins s σ H _ I h) λus B ⟨vs,H1,I1,r1,q1⟩=>?_) (by rw[hs,J]) (by rw[J];rfl)));obtain⟨c,d,e,⟨xs,U⟩,⟨ys,Y⟩,q⟩:=q1;subst e
 cases r1 with
 | cons r Z=>
  cases Z with
  | cons r' Z=>
   cases Z;cases r;cases r';obtain⟨L,a0,p1,a1⟩:=uI I1 U;obtain⟨O,a2,p2,a3⟩:=uI I1 Y;have ab:c<B.heap.objs.size:=by obtain⟨o,ho,_⟩:=id p1;exact ak ho
   have ad:d<B.heap.objs.size:=by obtain⟨o,ho,_⟩:=id p2;exact ak ho
   refine call_zip_2 (show B.heap.IsList c L.toArray from p1) (show B.heap.IsList d O.toArray from p2) λh' gz ag al an as hsz hk=>?_;have I2:Inv X pins σ H1 { B with heap:=h',toks:=B.toks }:=I1.kept (t':=B.toks) hk;refine ei gz ?_;refine⟨B.heap.objs.size+4,[B.heap.objs.size+4,B.heap.objs.size+2,B.heap.objs.size+3,B.heap.objs.size,B.heap.objs.size+1],_,_,H1,rfl,I2,ziV _ _ _ _ _ c d (zipApart_new ab ad),⟨gz,ag,⟨_,_,al⟩,an,as⟩,λe he=>?_,q⟩;simp only[ax,ba,or_false] at he;rcases he with rfl | rfl | rfl | rfl | rfl
   ·exact I1.fpOk (by lia) (I1.hok.fresh (by lia))
   ·exact I1.fpOk (by lia) (I1.hok.fresh (by lia))
   ·exact I1.fpOk (by lia) (I1.hok.fresh (by lia))
   ·exact I1.fpOk (af _) (I1.hok.fresh (af _))
   ·exact I1.fpOk (by lia) (I1.hok.fresh (by lia))
def znC {X:Cx}{q:List Expr}{x1}{tpos:Pos}{a b:Expr}{ta:TA}{p pos:Pos}(F:Gl X "zip")(I:X.mg "zip" = none)(J:QA X [a,b] ta)(L:starEach [a,b] X.env=[(false,eval a X.env),(false,eval b X.env)]:=by rfl)(B:starEach [b] X.env=[(false,eval b X.env)]:=by rfl) :
  QI X (.Tuple q x1 tpos) (.Call (.Name "zip" p) [a,b] [] pos) (zo1 X.K ta):=⟨zng F I J.run L B⟩
@[reducible] def nmS (b:Bool):String:=match b with | true => "tuple" | false => "list"
@[reducible] def nmI (b:Bool):String:=match b with | true => "tuple_iterator" | false => "list_iterator"
def SqH (b:Bool)(h:Heap)(l:Addr)(xs:Array Value):Prop:=∃o,h.get? l=some o/\o.cls = .type (nmS b)/\∃n,o.data = .seq xs n
def ItH (b:Bool)(h:Heap)(i l:Addr)(k:Nat):Prop:=∃o,h.get? i=some o/\o.cls = .type (nmI b)/\o.data = .fields #[.ref l,.int k 0]
@[reducible] def SqV (b:Bool) (K:PySem.W.Frag) (H:Hp) (a:Addr) (xs:List V):Prop:=match b with | true=>SqT K H a xs | false=>SqL K H a xs
def zeQ{X:Cx}{pins:List (Addr×Obj)}{σ:St}{H:Hp}{s:Shared}{a:Addr}{xs:List V}(I:Inv X pins σ H s)(h:SqV b X.K H a xs):∃its:List Value,zY xs its/\SqH b s.heap a its.toArray:=by
 cases b
 ·obtain⟨its,r,p,_⟩:=uI I h;exact⟨its,r,p⟩
 ·obtain⟨its,r,p,_⟩:=I.tuple h;exact⟨its,r,p⟩
def zsl{X:Cx}{pins:List (Addr×Obj)}{σ:St}{H:Hp}{a:Addr}(I:Inv X pins σ H s)(h:SqV b X.K H a xs)(h':SqV b X.K H a ys):xs=ys:=by
 cases b
 ·exact I.list_inj h h'
 ·exact I.tuple_inj h h'
section
variable {prog:Program}{w:World}{A:Around}{E:Value->Shared->Prop}{s:Shared}
def zgi(q:ItH k s.heap it t i)(B:SqH k s.heap t items)(F:items[i]?=some x)(I:∀h',ItH k h' it t (i+1)->Heap.SameBut it s.heap h'->Q x { s with heap:=h' }):wpAny (model prog w) A (Builtin.SmallTypes.nextOf (.ref it)) Q E s:=by
 cases k
 ·exact wpAny_nextOf_list_item q B F I
 ·exact yC q B F I
def zhU(B:A.handled=none)(q:ItH k s.heap it t i)(F:SqH k s.heap t items)(I:items[i]?=none)(J:∀h' e,Heap.ExtBut it s.heap h'->(∃o,h'.get? e=some o/\o.cls = .type "StopIteration")->E (.ref e) { s with heap:=h' }):wpAny (model prog w) A (Builtin.SmallTypes.nextOf (.ref it)) Q E s:=by
 cases k
 ·exact wpAny_nextOf_list_end B q F I J
 ·exact yQ B q F I J
def zsm(h:SqH k s.heap l items)(q:Q (.ref s.heap.objs.size) { s with heap:=s.heap.push { cls:=.type (nmI k),data:=.fields #[.ref l,.int 0 0] } }):wpAny (model prog w) A (pyIter (.ref l)) Q E s:=by
 cases k
 ·exact cS h q
 ·exact bP h q
def zb3{z TI TO Y F t1 t2:Addr}{xs ys:Array Value}{x y a b:Value}{Q:Value->Shared->Prop}(D:ZipApart z TI TO Y F t1 t2)(hz:IsZip s.heap z TI TO .none)(b3:IsPair s.heap TI (.ref Y) (.ref F))(b4:IsPair s.heap TO a b)(h1:ItH kb s.heap Y t1 k1)(h2:s.heap.IsTupleIter F t2 k2)(hx:SqH kb s.heap t1 xs)(hy:s.heap.IsTuple t2 ys)(ex:xs[k1]?=some x)(ey:ys[k2]?=some y)(hQ:∀h',IsZip h' z TI TO (rawInt s.heap.objs.size)->IsPair h' TO x y->ItH kb h' Y t1 (k1+1)->h'.IsTupleIter F t2 (k2+1)->IsPair h' s.heap.objs.size x y->h'.objs.size=s.heap.objs.size+1->
   (∀c o,c≠z->c≠TO->c≠Y->c≠F->s.heap.get? c=some o->h'.get? c=some o)->Q (.ref s.heap.objs.size) { s with heap:=h' }) :
  wpAny (model prog w) A (Builtin.«zip.__next__» ⟨[.ref z],[]⟩) (λfin s'=>∃v,fin = .done (.ret v)/\Q v s') E s:=by
 show wpAny _ _ (field (.ref z) 2 >>= _) _ _ s;refine aa (bB hz rfl (x:=.bool false) rfl ?_);show wpAny _ _ (field (.ref z) 3 >>= _) _ _ s;refine aa (bB hz rfl (x:=.ref TI) rfl ?_);show wpAny _ _ (seqItems? (.ref TI) >>= _) _ _ s;refine aa (cu b3 rfl ?_);show wpAny _ _ (Builtin.SmallTypes.ownedTupleIsFree (.ref z) >>= _) _ _ s;refine aa ?_;show wpAny _ _ (field (.ref z) 0 >>= _) _ _ s;refine aa (bB hz rfl (x:=.none) rfl ?_);refine ai ?_;show wpAny _ _ (rule "zip.__next__.owned-tuple-again" >>= _) _ _ s;refine aa (di ?_);show wpAny _ _ (field (.ref z) 4 >>= _) _ _ s;refine aa (bB hz rfl (x:=.ref TO) rfl ?_);show wpAny _ _ (setField (.ref z) 0 .ellipsis >>= _) _ _ s;refine aa (bZ hz rfl (by simp) ?_);have a3:(s.heap.update z (Obj.mapFields λx=>x.setIfInBounds 0 Value.ellipsis)).get? z=some { cls:=.type "zip",data:=.fields #[.ellipsis,.bool false,.bool false,.ref TI,.ref TO] }:=bO _ hz rfl;have B:∀c,c≠z->(s.heap.update z (Obj.mapFields λx=>x.setIfInBounds 0 Value.ellipsis)).get? c=s.heap.get? c:=λc q=>bu _ _ (Ne.symm q);have a4:(s.heap.update z (Obj.mapFields λx=>x.setIfInBounds 0 Value.ellipsis)).objs.size=s.heap.objs.size:=by simp[Heap.update]
 generalize s.heap.update z (Obj.mapFields λx=>x.setIfInBounds 0 Value.ellipsis)=H1 at a3 B a4;show wpAny _ _ (forIn ([(Value.ref Y,0),(Value.ref F,1)]:List (Value×Nat)) ((none,()):Option PySem.Fin×Unit) _ >>= _) _ _ _;rw[eG];refine aa (aa ?_);refine aa (fg ?_);show wpAny _ _ (if (Value.bool false==Value.bool true)=true then _ else (Builtin.SmallTypes.nextOf (.ref Y) >>= λx=>pure (some x))) _ _ _;rw[if_neg (by decide)];have b5:ItH kb H1 Y t1 k1:=by obtain⟨o,I,r⟩:=h1;exact⟨o,(B _ D.i1z).trans I,r⟩
 have b6:SqH kb H1 t1 xs:=by obtain⟨o,I,r⟩:=hx;exact⟨o,(B _ D.l1z).trans I,r⟩
 refine aa (zgi (s:={ s with heap:=H1 }) b5 b6 ex λH2 a5 a7=>?_);refine ai ?_;have J:∀c,c≠Y->H2.get? c=H1.get? c:=λc q=>a7.2 c q;have ad:IsPair H2 TO a b:=(J _ D.TOi1).trans ((B _ D.TOz).trans b4);show wpAny _ _ (seqItems? (.ref TO) >>= _) _ _ _;refine aa (cu (s:={ s with heap:=H2 }) ad rfl ?_);refine aa (wpAny_updateSeq_pair (s:={ s with heap:=H2 }) ad λH3 bb bd=>?_);refine aa (wpAny_letGo ?_);refine ai ?_;have an:IsPair H3 TO x b:=bb;have L:∀c,c≠TO->H3.get? c=H2.get? c:=λc q=>bd.2 c q;show wpAny _ _ (forIn ([(Value.ref F,1)]:List (Value×Nat)) ((none,()):Option PySem.Fin×Unit) _) _ _ _;rw[eG];refine aa ?_;refine aa (fg ?_);show wpAny _ _ (if (Value.bool false==Value.bool true)=true then _ else (Builtin.SmallTypes.nextOf (.ref F) >>= λx=>pure (some x))) _ _ _;rw[if_neg (by decide)];have b7:H3.IsTupleIter F t2 k2:=by obtain⟨o,I,r⟩:=h2;exact⟨o,(L _ (Ne.symm D.TOi2)).trans ((J _ (Ne.symm D.i12)).trans ((B _ D.i2z).trans I)),r⟩
 have b8:H3.IsTuple t2 ys:=by obtain⟨o,I,r⟩:=hy;exact⟨o,(L _ D.l2TO).trans ((J _ D.l2i1).trans ((B _ D.l2z).trans I)),r⟩
 refine aa (yC (s:={ s with heap:=H3 }) b7 b8 ey λH4 bk bl=>?_);refine ai ?_;have Z:∀c,c≠F->H4.get? c=H3.get? c:=λc q=>bl.2 c q;have ag:IsPair H4 TO x b:=(Z _ D.TOi2).trans an;show wpAny _ _ (seqItems? (.ref TO) >>= _) _ _ _;refine aa (cu (s:={ s with heap:=H4 }) ag rfl ?_);refine aa (wpAny_updateSeq_pair (s:={ s with heap:=H4 }) ag λH5 bm bo=>?_);refine aa (wpAny_letGo ?_);refine ai ?_;have O:IsPair H5 TO x y:=bm;have ab:∀c,c≠TO->H5.get? c=H4.get? c:=λc q=>bo.2 c q;show wpAny _ _ (forIn ([]:List (Value×Nat)) ((none,()):Option PySem.Fin×Unit) _) _ _ _;rw[List.forIn_nil];refine ai ?_;show wpAny _ _ (seqItems? (.ref TO) >>= _) _ _ _;refine aa (cu (s:={ s with heap:=H5 }) O rfl ?_);refine aa (wpAny_newTuple ?_ (by show 2<=sizeLine;decide));have bs:H5.objs.size=s.heap.objs.size:=bo.1.trans (bl.1.trans (bd.1.trans (a7.1.trans a4)));have ko:∀c o,c≠z->c≠TO->c≠Y->c≠F->s.heap.get? c=some o->H5.get? c=some o:=λc o c1 c2 c3 c4 e=>(ab _ c2).trans ((Z _ c4).trans ((L _ c2).trans ((J _ c3).trans ((B _ c1).trans e))));have ca:H5.get? z=some { cls:=.type "zip",data:=.fields #[.ellipsis,.bool false,.bool false,.ref TI,.ref TO] }:=(ab _ (Ne.symm D.TOz)).trans ((Z _ (Ne.symm D.i2z)).trans ((L _ (Ne.symm D.TOz)).trans ((J _ (Ne.symm D.i1z)).trans a3)));have U:=am H5 (o:={ cls:=.type "tuple",data:=.seq #[x,y] }) rfl;show wpAny _ _ (Builtin.SmallTypes.ownedTupleHandOut (.ref z) (.ref H5.objs.size) >>= _) _ _ { s with heap:=H5.push { cls:=.type "tuple",data:=.seq #[x,y] } };have as:∀c o,H5.get? c=some o->(H5.push { cls:=.type "tuple",data:=.seq #[x,y] }).get? c=some o:=λc o e=>ae _ e;have bt:(H5.push { cls:=.type "tuple",data:=.seq #[x,y] }).objs.size=s.heap.objs.size+1:=by rw[cw,bs]
 rw[bs] at U ⊢;generalize H5.push { cls:=.type "tuple",data:=.seq #[x,y] }=H6 at U as bt;have bx:=as _ _ ca;refine aa ?_;show wpAny _ _ (setField (.ref z) 0 (rawInt s.heap.objs.size) >>= _) _ _ { s with heap:=H6 };refine aa (bZ bx rfl (by simp) ?_);have a0:(H6.update z (Obj.mapFields λx=>x.setIfInBounds 0 (rawInt s.heap.objs.size))).get? z=some { cls:=.type "zip",data:=.fields #[rawInt s.heap.objs.size,.bool false,.bool false,.ref TI,.ref TO] }:=bO _ bx rfl;have a1:∀c,c≠z->(H6.update z (Obj.mapFields λx=>x.setIfInBounds 0 (rawInt s.heap.objs.size))).get? c=H6.get? c:=λc q=>bu _ _ (Ne.symm q);have b0:(H6.update z (Obj.mapFields λx=>x.setIfInBounds 0 (rawInt s.heap.objs.size))).objs.size=H6.objs.size:=by simp[Heap.update]
 generalize H6.update z (Obj.mapFields λx=>x.setIfInBounds 0 (rawInt s.heap.objs.size))=H7 at a0 a1 b0;refine bZ (s:={ s with heap:=H7 }) a0 rfl (by simp) ?_;have b1:(H7.update z (Obj.mapFields λx=>x.setIfInBounds 1 (Value.bool false))).get? z=some { cls:=.type "zip",data:=.fields #[rawInt s.heap.objs.size,.bool false,.bool false,.ref TI,.ref TO] }:=bO _ a0 rfl;have a2:∀c,c≠z->(H7.update z (Obj.mapFields λx=>x.setIfInBounds 1 (Value.bool false))).get? c=H7.get? c:=λc q=>bu _ _ (Ne.symm q);have b2:(H7.update z (Obj.mapFields λx=>x.setIfInBounds 1 (Value.bool false))).objs.size=H7.objs.size:=by simp[Heap.update]
 generalize H7.update z (Obj.mapFields λx=>x.setIfInBounds 1 (Value.bool false))=H8 at b1 a2 b2;have kk:∀c o,c≠z->H5.get? c=some o->H8.get? c=some o:=λc o q e=>(a2 _ q).trans ((a1 _ q).trans (as _ _ e));have al:=ak hz;refine ai ⟨_,rfl,hQ H8 b1 (kk _ _ D.TOz O) ?_ ?_ ?_ (by rw[b2,b0,bt]) λc o c1 c2 c3 c4 e=>kk _ _ c1 (ko c o c1 c2 c3 c4 e)⟩
 ·obtain⟨o,I,r⟩:=a5;exact⟨o,kk _ _ D.i1z ((ab _ (Ne.symm D.TOi1)).trans ((Z _ D.i12).trans ((L _ (Ne.symm D.TOi1)).trans I))),r⟩
 ·obtain⟨o,I,r⟩:=bk;exact⟨o,kk _ _ D.i2z ((ab _ (Ne.symm D.TOi2)).trans I),r⟩
 ·exact (a2 _ (cP al)).trans ((a1 _ (cP al)).trans U)
def zdb{z TI TO B L t1 t2:Addr}{xs:Array Value}{Q:PySem.Fin->Shared->Prop}(D:ZipApart z TI TO B L t1 t2)(hh:A.handled=none)(F:IsZip s.heap z TI TO .none)(O:IsPair s.heap TI (.ref B) (.ref L))(h1:ItH kb s.heap B t1 k1)(hx:SqH kb s.heap t1 xs)(ex:xs[k1]?=none)(hE:∀h' e,(∀c o,c≠z->c≠B->s.heap.get? c=some o->h'.get? c=some o)->(∃o,h'.get? e=some o/\o.cls = .type "StopIteration")->E (.ref e) { s with heap:=h' }) :
  wpAny (model prog w) A (Builtin.«zip.__next__» ⟨[.ref z],[]⟩) Q E s:=by
 show wpAny _ _ (field (.ref z) 2 >>= _) _ _ s;refine aa (bB F rfl (x:=.bool false) rfl ?_);show wpAny _ _ (field (.ref z) 3 >>= _) _ _ s;refine aa (bB F rfl (x:=.ref TI) rfl ?_);show wpAny _ _ (seqItems? (.ref TI) >>= _) _ _ s;refine aa (cu O rfl ?_);show wpAny _ _ (Builtin.SmallTypes.ownedTupleIsFree (.ref z) >>= _) _ _ s;refine aa ?_;show wpAny _ _ (field (.ref z) 0 >>= _) _ _ s;refine aa (bB F rfl (x:=.none) rfl ?_);refine ai ?_;show wpAny _ _ (rule "zip.__next__.owned-tuple-again" >>= _) _ _ s;refine aa (di ?_);show wpAny _ _ (field (.ref z) 4 >>= _) _ _ s;refine aa (bB F rfl (x:=.ref TO) rfl ?_);show wpAny _ _ (setField (.ref z) 0 .ellipsis >>= _) _ _ s;refine aa (bZ F rfl (by simp) ?_);have I:(s.heap.update z (Obj.mapFields λx=>x.setIfInBounds 0 Value.ellipsis)).get? z=some { cls:=.type "zip",data:=.fields #[.ellipsis,.bool false,.bool false,.ref TI,.ref TO] }:=bO _ F rfl;have q:∀c,c≠z->(s.heap.update z (Obj.mapFields λx=>x.setIfInBounds 0 Value.ellipsis)).get? c=s.heap.get? c:=λc U=>bu _ _ (Ne.symm U);generalize s.heap.update z (Obj.mapFields λx=>x.setIfInBounds 0 Value.ellipsis)=H1 at I q;show wpAny _ _ (forIn ([(Value.ref B,0),(Value.ref L,1)]:List (Value×Nat)) ((none,()):Option PySem.Fin×Unit) _ >>= _) _ _ _;rw[eG];refine aa (aa ?_);refine aa (fg ?_);show wpAny _ _ (if (Value.bool false==Value.bool true)=true then _ else (Builtin.SmallTypes.nextOf (.ref B) >>= λx=>pure (some x))) _ _ _;rw[if_neg (by decide)];have Y:ItH kb H1 B t1 k1:=by obtain⟨o,J,r⟩:=h1;exact⟨o,(q _ D.i1z).trans J,r⟩
 have Z:SqH kb H1 t1 xs:=by obtain⟨o,J,r⟩:=hx;exact⟨o,(q _ D.l1z).trans J,r⟩
 refine aa (zhU (s:={ s with heap:=H1 }) hh Y Z ex λH2 e eb he=>?_);have ab:=eb z _ (Ne.symm D.i1z) I;refine bZ (s:={ s with heap:=H2 }) ab rfl (by simp) ?_
 have ad:e≠z:=by grind
 refine hE _ e (λc o c1 c2 e1=>?_) ?_
 ·exact (bu _ _ (Ne.symm c1)).trans (eb c o c2 ((q _ c1).trans e1))
 ·obtain⟨o,J,U⟩:=he;exact⟨o,(bu _ _ (Ne.symm ad)).trans J,U⟩
def zfY (kb:Bool)(h:Heap)(q B:Addr):Heap:=
 ((((h.push { cls:=.type (nmI kb),data:=.fields #[.ref q,.int 0 0] }).push { cls:=.type "tuple_iterator",data:=.fields #[.ref B,.int 0 0] }).push { cls:=.type "tuple",data:=.seq #[.ref h.objs.size,.ref (h.objs.size+1)] }).push { cls:=.type "tuple",data:=.seq #[.none,.none] }).push
  { cls:=.type "zip",data:=.fields #[.none,.bool false,.bool false,.ref (h.objs.size+2),.ref (h.objs.size+3)] }
def zbY (kb:Bool)(q B:Addr)(xs ys:Array Value) :
  Meets (Builtin.«zip.__new__» ⟨[.type "zip",.ref q,.ref B],[]⟩) (λ_ R s=>SqH kb s.heap q xs/\s.heap.IsTuple B ys/\R (.ok (.ret (.ref (s.heap.objs.size+4)))) { s with heap:=zfY kb s.heap q B }):=
 .of_wp λprog w A R s h=>by
  obtain⟨hp,g,d,tk,J⟩:=s;obtain⟨h1,h2,h⟩:=h;have I:=sub_zip
  have F:Heap.IsTuple (Shared.heap ⟨hp.push { cls:=.type (nmI kb),data:=.fields #[.ref q,.int 0 0] },g,d,tk,J⟩) B ys:=by obtain⟨o,L,r⟩:=h2;exact⟨o,ae _ L,r⟩
  wp_walk using zsm h1,bP F
  refine⟨_,rfl,?_⟩;unfold zfY at h;simpa [cw,Builtin.SmallTypes.ownedTupleFields] using h
def zgG(h1:SqH kb s.heap q xs)(h2:s.heap.IsTuple I ys)(h:∀h',IsZip h' (s.heap.objs.size+4) (s.heap.objs.size+2) (s.heap.objs.size+3) .none->IsPair h' (s.heap.objs.size+2) (.ref s.heap.objs.size) (.ref (s.heap.objs.size+1))->IsPair h' (s.heap.objs.size+3) .none .none->
   ItH kb h' s.heap.objs.size q 0->h'.IsTupleIter (s.heap.objs.size+1) I 0->h'.objs.size=s.heap.objs.size+5->(∀b o,s.heap.get? b=some o->h'.get? b=some o)->Q (.ref (s.heap.objs.size+4)) { s with heap:=h' }) :
  wpAny (model prog w) A (call (.type "zip") [.ref q,.ref I]) Q E s:=by
 refine callType_new F.called_zip (by decide) (F.typeCall_zip_2 _ _) (F.newCall_zip_2 _ _) (λJ=>F.args_object_init_3 J _ _) F.entry_zip_new (zbY kb q I xs ys) ⟨h1,h2,?_⟩;generalize ab:({ cls:=.type (nmI kb),data:=.fields #[.ref q,.int 0 0] }:Obj)=o0;have Z:∀o,(s.heap.push o).objs.size=s.heap.objs.size+1:=λo=>cw ..;have z2:∀o o',((s.heap.push o).push o').objs.size=s.heap.objs.size+2:=λo o'=>by rw[cw,Z]
 have z3:∀o o' B,(((s.heap.push o).push o').push B).objs.size=s.heap.objs.size+3:=λo o' B=>by rw[cw,z2]
 have z4:∀o o' B p,((((s.heap.push o).push o').push B).push p).objs.size=s.heap.objs.size+4:=λo o' B p=>by rw[cw,z3]
 have gz:(zfY kb s.heap q I).get? (s.heap.objs.size+4)=some { cls:=.type "zip",data:=.fields #[.none,.bool false,.bool false,.ref (s.heap.objs.size+2),.ref (s.heap.objs.size+3)] }:=by unfold zfY;rw[<- z4];exact am _ rfl
 have L:(zfY kb s.heap q I).get? (s.heap.objs.size+3)=some { cls:=.type "tuple",data:=.seq #[.none,.none] }:=by unfold zfY;refine ae _ ?_;rw[<- z3];exact am _ rfl
 have O:(zfY kb s.heap q I).get? (s.heap.objs.size+2)=some { cls:=.type "tuple",data:=.seq #[.ref s.heap.objs.size,.ref (s.heap.objs.size+1)] }:=by unfold zfY;refine ae _ (ae _ ?_);rw[<- z2];exact am _ rfl
 have U:(zfY kb s.heap q I).get? (s.heap.objs.size+1)=some { cls:=.type "tuple_iterator",data:=.fields #[.ref I,.int 0 0] }:=by unfold zfY;refine ae _ (ae _ (ae _ ?_));rw[<- Z];exact am _ rfl
 have Y:(zfY kb s.heap q I).get? s.heap.objs.size=some { cls:=.type (nmI kb),data:=.fields #[.ref q,.int 0 0] }:=by unfold zfY;exact ae _ (ae _ (ae _ (ae _ (am _ rfl))))
 refine⟨⟨_,gz,rfl⟩,h _ gz O L ⟨_,Y,rfl,rfl⟩ ⟨_,U,rfl,rfl⟩ ?_ λb o x=>?_⟩
 ·unfold zfY;rw[cw,z4]
 ·unfold zfY;exact ae _ (ae _ (ae _ (ae _ (ae _ x))))
end
def Izg (kb:Bool)(K:PySem.W.Frag)(a b:Addr):It:=
 ⟨λi H=>∃xs ys x y,SqV kb K H a xs/\SqT K H b ys/\xs[i]?=some x/\ys[i]?=some y,λi H v H'=>∃T x y,v = .ref T/\H T=none/\H'=upd H T (.tup [x,y])/\(∀xs,SqV kb K H a xs->xs[i]?=some x)/\∀ys,SqT K H b ys->ys[i]?=some y,λi H=>∃xs,SqV kb K H a xs/\xs.length<=i⟩
def ziU{P:Program}{w:World}{K:PySem.W.Frag}{a2:List Expr}{x1}(z TI TO J i2 a b:Addr)(D:ZipApart z TI TO J i2 a b) :
  Turn P w K (.Tuple a2 x1 tpos) (Izg kb K a b) [z,TI,TO,J,i2] z (λi h=>IsZip h z TI TO .none/\IsPair h TI (.ref J) (.ref i2)/\(∃c d,IsPair h TO c d)/\ItH kb h J a i/\h.IsTupleIter i2 b i) where
 mem:=by simp
 obj:=λi h st c F=>by
  obtain⟨hz,L,⟨u,v,ag⟩,⟨o1,e1,c1,d1⟩,⟨o2,e2,c2,d2⟩⟩:=st
  grind
 keep:=λi h h' st k=>by obtain⟨hz,L,⟨u,v,ag⟩,⟨o1,e1,r1⟩,⟨o2,e2,r2⟩⟩:=st;exact⟨k z (by simp) _ hz,k TI (by simp) _ L,⟨u,v,k TO (by simp) _ ag⟩,⟨o1,k J (by simp) _ e1,r1⟩,⟨o2,k i2 (by simp) _ e2,r2⟩⟩
 item:=by
  intro X hP hw hK F i pins s σ H E I hf st hg;subst hP hw hK;obtain⟨xs,ys,x,y,a3,a4,hx,hy⟩:=hg;obtain⟨b8,bo,p1⟩:=zeQ I a3;obtain⟨ca,bs,p2,ci⟩:=I.tuple a4;obtain⟨u1,bt,bx⟩:=bo.get hx;obtain⟨u2,b0,b1⟩:=bs.get hy;have Y:=hf z (by simp);have Z:=hf TO (by simp);have f1:=hf J (by simp);have f2:=hf i2 (by simp);obtain⟨hz,L,⟨c0,d0,ag⟩,an,as⟩:=st;have hT:s.TypeIs (.ref z) "zip" := ⟨_,hz,rfl⟩;unfold pyNext
  refine aa (cU (wpAny_callSpecial?_slot (name:=Str.ofString "__next__") hT cj
   (aY cj hT eh (zb3 (A:=X.A.in1) D hz L ag an as p1 p2 (x:=u1) (y:=u2) (by simpa using bt) (by simpa using b0) λh' gz b2 b3 b4 gT cn hk=>?_) (dR _))))
  refine ai ⟨_,rfl,?_⟩;refine wpAny_letOwnedTupleGo_zip (s:={ s with heap:=h' }) gz λal a5 O=>?_;have nz:∀b' o',s.heap.get? b'=some o'->s.heap.objs.size≠b':=λb' o' e=>cP (ak e);have a7:s.heap.objs.size≠z:=nz z _ hz;have bb:s.heap.objs.size≠TO:=nz TO _ ag;have b5:s.heap.objs.size≠J:=by obtain⟨o,ho,_⟩:=an;exact nz J _ ho
  have b6:s.heap.objs.size≠i2:=by obtain⟨o,ho,_⟩:=as;exact nz i2 _ ho
  have bd:s.heap.objs.size≠TI:=nz TI _ L;have B:=I.hok.fresh (af s.heap.objs.size);have kp:∀c o,c≠z->c≠TO->c≠J->c≠i2->s.heap.get? c=some o->al.get? c=some o:=λc o h1 h2 h3 U hb=>(O.2 c h1).trans (hk c o h1 h2 h3 U hb);have bk:al.get? s.heap.objs.size=some { cls:=.type "tuple",data:=.seq #[u1,u2] }:=(O.2 _ a7).trans gT;have cd:∀b' u',H b'=some u'->b'≠z/\b'≠TO/\b'≠J/\b'≠i2:=λb' u' hb=>⟨zc hb Y.1,zc hb Z.1,zc hb f1.1,zc hb f2.1⟩
  have bl:HOk X.prog X.w (upd H s.heap.objs.size (.tup [x,y])) al:=by
   intro b' u' hb;by_cases bm:b'=s.heap.objs.size
   ·subst bm;rw[zg] at hb;cases hb;exact⟨by show 2<=sizeLine;decide,[u1,u2],.cons bx (.cons b1 .nil),_,bk,rfl,⟨0,rfl⟩,rfl⟩
   ·rw[zb bm] at hb;refine (I.hok b' u' hb).stay (λc v ab q=>?_) (λc q=>?_) (λc ys q=>?_)
    ·have:c≠z/\c≠TO/\c≠J/\c≠i2:=by
      rcases ab with rfl | ab
      all_goals simp_all
     simp_all
    ·rw[zb (zc q B)];exact q
    ·rw[zb (zc q B)];exact q
  have ad:∀c o,c∉[z,TO,J,i2]->s.heap.get? c=some o->al.get? c=some o:=λc o F e=>kp c o (λq=>F (by simp[q])) (λq=>F (by simp[q])) (λq=>F (by simp[q])) (λq=>F (by simp[q])) e
  have I1:Inv X pins σ (upd H s.heap.objs.size (.tup [x,y])) { s with heap:=al,toks:=s.toks }:=by
   refine Inv.step (ch:=[z,TO,J,i2]) (g':=s.gens) (d':=s.drawn) (t':=s.toks) I (λc F=>?_) (λc o h1 h2 h3 U h5=>?_) (λc o h1 h2 h3 U h5=>?_) (λc o h3 U h5=>?_) (λc o h3 U=>?_) (λc ys q=>?_) (λc o u' q=>?_) (λc ps q=>?_) (λm hm=>?_) bl I.bare
   ·simp only[ax,ba,or_false] at F;rcases F with rfl | rfl | rfl | rfl
    ·exact⟨Y.2.2.2.1,Y.2.1,Y.2.2.2.2.1,Y.2.2.2.2.2⟩
    ·exact⟨Z.2.2.2.1,Z.2.1,Z.2.2.2.2.1,Z.2.2.2.2.2⟩
    ·exact⟨f1.2.2.2.1,f1.2.1,f1.2.2.2.2.1,f1.2.2.2.2.2⟩
    ·exact⟨f2.2.2.2.1,f2.2.1,f2.2.2.2.2.1,f2.2.2.2.2.2⟩
   ·exact ad c o h3 U
   ·exact⟨o.slots,ad c o h3 U⟩
   ·rw[zb (aD (ak U))];exact h5
   ·exact⟨o,ad c o h3 U⟩
   ·rw[zb (zc q B)];exact q
   ·rw[zb (zc q B)];exact q
   ·exact⟨#[],by rw[zb (zc q B),dD];exact q⟩
   ·obtain⟨o,es,ep,a0,r1⟩:=hm;exact⟨o,es,ep,kp _ o (Ne.symm Y.2.1) (Ne.symm Z.2.1) (Ne.symm f1.2.1) (Ne.symm f2.2.1) a0,r1⟩
  refine⟨.ref s.heap.objs.size,_,I1,rfl,⟨s.heap.objs.size,x,y,rfl,B,rfl,λzs a1=>by rw[zsl I a1 a3];exact hx,λzs a1=>by rw[I.tuple_inj a1 a4];exact hy⟩,⟨a5,?_,⟨_,_,(O.2 TO D.TOz).trans b2⟩,?_,?_⟩,λc F=>?_⟩
  ·exact kp TI _ D.TIz D.TITO D.TIi1 D.TIi2 L
  ·obtain⟨o,ho,r⟩:=b3;exact⟨o,(O.2 J D.i1z).trans ho,r⟩
  ·obtain⟨o,ho,r⟩:=b4;exact⟨o,(O.2 i2 D.i2z).trans ho,r⟩
  ·simp only[ax,ba,or_false] at F;rcases F with rfl | rfl | rfl | rfl | rfl
   ·rw[zb (Ne.symm a7)];exact Y.1
   ·rw[zb (Ne.symm bd)];exact (hf _ (by simp)).1
   ·rw[zb (Ne.symm bb)];exact Z.1
   ·rw[zb (Ne.symm b5)];exact f1.1
   ·rw[zb (Ne.symm b6)];exact f2.1
 done:=by
  intro X hP hw hK F i pins s σ H E I hf st hg;subst hP hw hK;obtain⟨xs,hq,hx⟩:=hg;obtain⟨its,rv,p⟩:=zeQ I hq;have Y:=hf z (by simp);have f1:=hf J (by simp);obtain⟨hz,L,⟨c0,d0,ag⟩,an,as⟩:=st;have hl:=rv.length;have hT:s.TypeIs (.ref z) "zip" := ⟨_,hz,rfl⟩;unfold pyNext
  refine aa (cU (wpAny_callSpecial?_slot (name:=Str.ofString "__next__") hT cj
   (aY cj hT eh (zdb (A:=X.A.in1) D (I.ok.hd F) hz L an p (by simp;lia) λh' e ko he=>?_) (dR _))))
  obtain⟨o,ho,b7⟩:=he;refine aa (cJ (T := "StopIteration") (b:=true) ⟨o,ho,b7⟩ eX ?_);refine ai ⟨rfl,?_⟩;have ad:∀c o,c∉[z,J]->s.heap.get? c=some o->h'.get? c=some o:=λc o F e=>ko c o (λq=>F (by simp[q])) (λq=>F (by simp[q])) e;refine Inv.step (ch:=[z,J]) (g':=s.gens) (d':=s.drawn) (t':=s.toks) I (λc F=>?_) (λc o h1 h2 h3 U h5=>ad c o h3 U) (λc o h1 h2 h3 U h5=>⟨o.slots,ad c o h3 U⟩) (λc o h3 U h5=>h5) (λc o h3 U=>⟨o,ad c o h3 U⟩) (λc ys q=>q) (λc o u' q=>q) (λc ps q=>⟨#[],by simp_all⟩) (λm hm=>?_) (λb' u' hb=>?_) I.bare
  ·simp only[ax,ba,or_false] at F;rcases F with rfl | rfl
   ·exact⟨Y.2.2.2.1,Y.2.1,Y.2.2.2.2.1,Y.2.2.2.2.2⟩
   ·exact⟨f1.2.2.2.1,f1.2.1,f1.2.2.2.2.1,f1.2.2.2.2.2⟩
  ·obtain⟨o,es,ep,a0,r1⟩:=hm;exact⟨o,es,ep,ko _ o (Ne.symm Y.2.1) (Ne.symm f1.2.1) a0,r1⟩
  ·refine (I.hok b' u' hb).stay (λc v ab q=>?_) (λc q=>q) (λc ys q=>q)
   have:c≠z/\c≠J:=by
    rcases ab with rfl | ab
    ·exact⟨zc hb Y.1,zc hb f1.1⟩
    ·exact⟨zc ab Y.1,zc ab f1.1⟩
   exact ko c v this.1 this.2 q
 self:=λA i s Q E st h=>by obtain⟨hz,_⟩:=st;exact ei hz h
def zo0 (kb:Bool)(K:PySem.W.Frag)(ta:TA):TI:=λσ H R=>ta σ H λvs H1=>∃a b,vs=[.ref a,.ref b]/\(∃xs,SqV kb K H1 a xs)/\(∃ys,SqT K H1 b ys)/\R (Izg kb K a b) H1
def znf (kb:Bool){X:Cx}{F:List Expr}{x1}{tpos:Pos}{a b:Expr}{ta:TA}{p pos:Pos}(hg:Gl X "zip")(hm:X.mg "zip" = none)(ha:PA X [a,b] ta)(hs:starEach [a,b] X.env=[(false,eval a X.env),(false,eval b X.env)]:=by rfl)(J:starEach [b] X.env=[(false,eval b X.env)]:=by rfl) :
  PI X (.Tuple F x1 tpos) (.Call (.Name "zip" p) [a,b] [] pos) (zo0 kb X.K ta):=by
 intro pins s σ H R I h;refine Call_ (zbf I hg hm boot_zip (bG (thn (ha pos pins s σ H _ I h) λus B ⟨vs,H1,I1,r1,q1⟩=>?_) (by rw[hs,J]) (by rw[J];rfl)));obtain⟨c,d,e,⟨xs,O⟩,⟨ys,U⟩,q⟩:=q1;subst e
 cases r1 with
 | cons r Y=>
  cases Y with
  | cons r' Y=>
   cases Y;cases r;cases r';obtain⟨as,a0,p1⟩:=zeQ I1 O;obtain⟨L,a1,p2,a2⟩:=I1.tuple U;have Z:c<B.heap.objs.size:=by obtain⟨o,ho,_⟩:=id p1;exact ak ho
   have ab:d<B.heap.objs.size:=by obtain⟨o,ho,_⟩:=id p2;exact ak ho
   refine zgG p1 (show B.heap.IsTuple d L.toArray from p2) λh' gz ad ag al an hsz hk=>?_;have I2:Inv X pins σ H1 { B with heap:=h',toks:=B.toks }:=I1.kept (t':=B.toks) hk;refine ei gz ?_;refine⟨B.heap.objs.size+4,[B.heap.objs.size+4,B.heap.objs.size+2,B.heap.objs.size+3,B.heap.objs.size,B.heap.objs.size+1],_,_,H1,rfl,I2,ziU _ _ _ _ _ c d (zipApart_new Z ab),⟨gz,ad,⟨_,_,ag⟩,al,an⟩,λe he=>?_,q⟩;simp only[ax,ba,or_false] at he;rcases he with rfl | rfl | rfl | rfl | rfl
   ·exact I1.fpOk (by lia) (I1.hok.fresh (by lia))
   ·exact I1.fpOk (by lia) (I1.hok.fresh (by lia))
   ·exact I1.fpOk (by lia) (I1.hok.fresh (by lia))
   ·exact I1.fpOk (af _) (I1.hok.fresh (af _))
   ·exact I1.fpOk (by lia) (I1.hok.fresh (by lia))
def znB (kb:Bool){X:Cx}{q:List Expr}{x1}{tpos:Pos}{a b:Expr}{ta:TA}{p pos:Pos}(F:Gl X "zip")(I:X.mg "zip" = none)(J:QA X [a,b] ta)(L:starEach [a,b] X.env=[(false,eval a X.env),(false,eval b X.env)]:=by rfl)(B:starEach [b] X.env=[(false,eval b X.env)]:=by rfl) :
  QI X (.Tuple q x1 tpos) (.Call (.Name "zip" p) [a,b] [] pos) (zo0 kb X.K ta):=⟨znf kb F I J.run L B⟩
section
variable {X:Cx}
def zln{T:String}{name:Str}{id:String}{r:V->List V->Hp->VK->Prop}{es:List Expr}{to:TE}{t:TA}{apos cpos:Pos}(O:PlainAttrs T)(I:Slot T name id)(L:typeOf (.builtin id)=pure (.type "method_descriptor"))(U:MtR X id r)(Y:QE X o to)(Z:QA X (e::es) t)(B:attributeBase o name X.env (eval o X.env)=eval o X.env:=by rfl)(J:((backTo cpos (starEach (e::es) X.env)).all (λx=>!x.1)&&(backToKw cpos (keywordEach [] X.env)).all (λx=>x.1.isSome)
   && decide ((e::es).length+([]:List Keyword).length+(if ([]:List Keyword).isEmpty then 0 else 1)<30))=true:=by rfl)(F:(apos.endLine==cpos.line)=true:=by rfl)(hs:starEach (e::es) X.env=(false,eval e X.env)::starEach es X.env:=by rfl)(q:(backTo cpos (starEach es X.env)).any (·.1)=false:=by rfl) :
  QE X (.Call (.Attribute o name apos) (e::es) [] cpos) (tBM X.K T r to t):=⟨zpV O I L U Y.run Z.run B J F hs q⟩
end
mutual
def Dt.hk:Dt->Bool
 | .int _=>true
 | .tup l=>Dt.hks l
 | _=>false
def Dt.hks:List Dt->Bool
 | []=>true
 | d::ds=>d.hk&&Dt.hks ds
end
def yP:∀ {l:List Dt},Dt.hks l=true↔∀d∈l,d.hk=true
 | []=>by simp[Dt.hks]
 | d::l=>by simp[Dt.hks,yP (l:=l)]
noncomputable instance:DecidableEq Dt:=λa b=>Classical.propDecidable _
section
mutual
def uN:Dt->Int
 | .int n=>hashInt n
 | .tup l=>reduceHash (Builtin.Tuple.tupleHashOf (zfs l))
 | _=>0
def zfs:List Dt->List Int
 | []=>[]
 | d::ds=>uN d::zfs ds
end
mutual
def drD:Dt->Nat
 | .tup l=>zfm l+1
 | _=>1
def zfm:List Dt->Nat
 | []=>0
 | d::ds=>drD d+zfm ds
end
def zcb:∀l:List Dt,zfs l=l.map uN
 | []=>rfl
 | d::l=>by rw[zfs,zcb l,ao]
def zfn:∀l m:List Dt,zfm (l++m)=zfm l+zfm m
 | [],m=>by simp[zfm]
 | d::l,m=>by rw[bw,zfm,zfn l m,zfm,fq]
end
section
variable {P:Program}{w:World}
def xA(h:PySem.W.kqdOk (n+1) (Dt.tup l).toW=true):∀d∈l,PySem.W.kqdOk n d.toW=true:=λd q=>by
 simp only[Dt.toW,PySem.W.kqdOk,a9,u8] at h
 simp_all
def zmb:∀ (n:Nat) {d:Dt} {A:Around} {v:Value} {as:List Addr} {s:Shared} {Q:Int->Shared->Prop},d.hk=true->PySem.W.kqdOk n d.toW=true->Reads s.heap v (PySem.W.kqdP d.toW) as->A.units+n<cLine->
  Q (uN d) { s with toks:=s.toks+drD d }->wpAny (model P w) A (pyHash v) Q E s:=by
 intro n
 induction n with
 | zero=>
  intro d A v as s Q O Y J hu q
  cases d with
  | int i=>
   cases J;exact (intKind P w).pyHash (k:=i) (by simp[intKind,Value.isInt]) q
  | tup l=>simp[Dt.toW,PySem.W.kqdOk] at Y
  | _=>cases O
 | succ n ih=>
  intro d A v as s Q O Y J hu q
  cases d with
  | int i=>
   cases J;exact (intKind P w).pyHash (k:=i) (by simp[intKind,Value.isInt]) q
  | tup l=>
   have hi:=xA Y;have Z:=yP.mp (show Dt.hks l=true from O)
   cases J with
   | @tuple a o vs m xs as g hc hd L=>
   have U:s.TypeIs (.ref a) "tuple" := ⟨o,g,hc⟩;unfold pyHash
   first | unfold pyHashByItsType | skip
   first | refine aa (wpAny_cRoomFor_or (.inr (by lia)) ?_) | skip
   refine aa (eF U F.slot_tuple_hash.lookup ?_);show wpAny _ _ (if (some (Value.builtin "tuple.__hash__")==some Value.none)=true then _ else _) Q E s;rw[if_neg (by rw[beq_builtin_none];exact aG)];refine aa (eF U F.slot_tuple_hash.lookup ?_);show wpAny _ _ (callSpecialIfBoundUnlessNone? (.ref a) "__hash__" _ >>= _) Q E s;refine aa (wpAny_callSpecialIfBoundUnlessNone?_slot U F.slot_tuple_hash (aY F.slot_tuple_hash U F.entry_tuple_hash ?_ (F.args_tuple_hash_1 _)));show wpAny _ _ (Builtin.Tuple.tupleItemsOf (.ref a) >>= _) _ _ s;refine aa (eT g hd ?_);refine aa ?_;rw[<- Array.forIn_toList]
   refine fF _
    (λye (b:Array Int) s'=>∃done left bs,l=done++left/\ReadsAll s.heap ye (PySem.W.kqdPs (Dt.toWs left)) bs/\b.toList=done.map uN/\s'={ s with toks:=s.toks+zfm done })
    _ ?_ ?_ _ _ ⟨[],l,_,rfl,L,rfl,rfl⟩
   ·rintro x ye b s' ⟨done,left,bs,rfl,L,hb,rfl⟩
    cases left with
    | nil=>cases L
    | cons y left=>
     simp only[Dt.toWs,PySem.W.kqdPs] at L
     cases L with
     | cons h1 ab=>
     refine aa (ih (s:={ s with toks:=s.toks+zfm done }) (Z y (by simp)) (hi y (by simp)) h1 (by show A.units+1+n<cLine;lia) ?_);refine (λz=>?_:∀z,_) (⟨done++[y],left,_,by simp,ab,by simp[hb],by rw[zfn];simp[zfm,fq]⟩:∃B I ad,done++y::left=B++I/\ReadsAll s.heap ye (PySem.W.kqdPs (Dt.toWs I)) ad/\(b.push (uN y)).toList=B.map uN/\({ s with toks:=s.toks+zfm done+drD y }:Shared)={ s with toks:=s.toks+zfm B })
     first
      | exact ai z
      | exact aa (ai (ai z))
   ·rintro b s' ⟨done,left,bs,rfl,L,hb,rfl⟩
    cases left with
    | cons y left=>simp only[Dt.toWs,PySem.W.kqdPs] at L;cases L
    | nil=>
    rw[bc] at q;have q:Q (reduceHash (Builtin.Tuple.tupleHashOf (done.map uN))) { s with toks:=s.toks+(zfm done+1) }:=by rw[<- zcb];exact q
    show wpAny _ _ (retInt (Builtin.Tuple.tupleHashOf b.toList)) _ _ _;rw[hb];refine wpAny_ret_mkInt ?_;show wpAny _ _ (if (decide (-(2:Int) ^ 63<=Builtin.Tuple.tupleHashOf (done.map uN))&&decide (Builtin.Tuple.tupleHashOf (done.map uN)<2 ^ 63))=true then _ else _) Q E _;unfold reduceHash at q;by_cases J:(decide (-(2:Int) ^ 63<=Builtin.Tuple.tupleHashOf (done.map uN))&&decide (Builtin.Tuple.tupleHashOf (done.map uN)<2 ^ 63))=true
    ·rw[if_pos J];rw[if_pos J] at q;exact ai (by simpa [fq] using q)
    ·rw[if_neg J];rw[if_neg J] at q;exact aa (di (ai (by simpa [fq] using q)))
  | _=>cases O
def zkw:∀ (n:Nat) {d:Dt} {v:Value} {as:List Addr} {Q:Bool->Shared->Prop},d.hk=true->PySem.W.kqdOk n d.toW=true->Reads s.heap v (PySem.W.kqdP d.toW) as->
  Q true s->wpAny (model P w) A (eqIsQuiet n v) Q E s:=by
 intro n
 induction n with
 | zero=>
  intro d v as Q J L B q
  cases d with
  | tup l=>simp[Dt.toW,PySem.W.kqdOk] at L
  | int i=>cases B;rw[eqIsQuiet_byValue _ rfl];exact ai q
  | _=>cases J
 | succ n ih=>
  intro d v as Q J L B q
  cases d with
  | int i=>cases B;rw[eqIsQuiet_byValue _ rfl];exact ai q
  | tup l=>
   have hi:=xA L;have O:=yP.mp (show Dt.hks l=true from J)
   cases B with
   | @tuple a o vs m xs as g hc U I=>
   have hT:s.TypeIs (.ref a) "tuple" := ⟨o,g,hc⟩;unfold eqIsQuiet;refine aa (eF hT F.slot_tuple_eq.lookup ?_);show wpAny _ _ (isInstance (.ref a) (.type "tuple") >>= _) _ _ s;refine aa (cJ hT isSubtype_tuple_tuple ?_);simp only[fB,bR,if_false];refine aa (cu g U ?_);refine aa ?_;show wpAny _ _ (forIn vs _ _) _ _ s;rw[<- Array.forIn_toList];refine fF _ (λye r s'=>r.1=none/\s'=s/\∃left bs,(∀d∈left,d∈l)/\ReadsAll s.heap ye (PySem.W.kqdPs (Dt.toWs left)) bs) _ ?_ ?_ _ _ ⟨rfl,rfl,l,_,λ_ z=>z,I⟩
   ·rintro x ye r s' ⟨B,rfl,left,bs,Y,I⟩
    cases left with
    | nil=>cases I
    | cons y left=>
     simp only[Dt.toWs,PySem.W.kqdPs] at I
     cases I with
     | cons h1 Z=>
     refine aa (ih (O y (Y y (by simp))) (hi y (Y y (by simp))) h1 ?_);simp only[fB,bR,if_false];exact ai ⟨rfl,rfl,left,_,λd U=>Y d (av _ U),Z⟩
   ·rintro⟨r1,r2⟩ s' ⟨B,rfl,_⟩;simp only at B;subst B;exact ai q
  | _=>cases J
mutual
def xJ {h h':Heap}(k:∀b o vs n,h.get? b=some o->o.cls = .type "tuple" -> o.data = .seq vs n->h'.get? b=some o):∀ {d:Dt} {v:Value} {as:List Addr},d.hk=true->Reads h v (PySem.W.kqdP d.toW) as->Reads h' v (PySem.W.kqdP d.toW) as
 | .int i,_,_,_,r=>by cases r;exact .int _ _
 | .str _,_,_,hk,_=>by cases hk
 | .tup l,_,_,hk,r=>by
  cases r with
  | tuple g hc hd hl=>exact .tuple (k _ _ _ _ g hc hd) hc hd (zaz k hk hl)
 | .non,_,_,hk,_=>by cases hk
 | .bl _,_,_,hk,_=>by cases hk
 | .lst _,_,_,hk,_=>by cases hk
 | .dct,_,_,hk,_=>by cases hk
def zaz {h h':Heap}(k:∀b o vs n,h.get? b=some o->o.cls = .type "tuple" -> o.data = .seq vs n->h'.get? b=some o):∀ {l:List Dt} {vs:List Value} {as:List Addr},Dt.hks l=true->ReadsAll h vs (PySem.W.kqdPs (Dt.toWs l)) as->ReadsAll h' vs (PySem.W.kqdPs (Dt.toWs l)) as
 | [],_,_,_,r=>by simp only[Dt.toWs,PySem.W.kqdPs] at r ⊢;cases r;exact .nil
 | d::l,_,_,hk,r=>by
  simp only[Dt.hks,aH] at hk;simp only[Dt.toWs,PySem.W.kqdPs] at r ⊢
  cases r with
  | cons r1 r2=>exact .cons (xJ k hk.1 r1) (zaz k hk.2 r2)
end
def zoi (h:Heap)(k:Dt)(a:Addr):Prop:=k.hk=true/\k.eqOk/\∃as,Reads h (.ref a) (PySem.W.kqdP k.toW) as
def zk1 {x y:Dt}(q:x.eqOk)(B:y.eqOk):PyData.eqv (PySem.W.kqdP x.toW) (PySem.W.kqdP y.toW)=decide (x=y):=by rw[a8,cO,cQ 8 _ _ 8 q B];exact⟨λh=>zbK h,λh=>by rw[h]⟩
noncomputable def zji (P:Program)(w:World):HeapKind P w Dt where
 is:=zoi
 hash:=uN
 draws:=drD
 room:=λA=>A.units+9<cLine
 inj:=λ{h a x y} B J=>by obtain⟨_,I,_,L⟩:=B;obtain⟨_,F,_,O⟩:=J;have:=SeqAt.Reads.unique _ _ _ _ _ (cA 8 _ I).1 L O;exact zbK ((cQ 8 _ _ 8 I F).mp (by rw[this];exact (cQ 8 _ _ 8 F F).mpr rfl))
 keeps:=λ{h h' k a d o es ep} B ho hd hs=>by
  obtain⟨h1,h2,_,r⟩:=B;refine⟨h1,h2,_,xJ (λb u vs n e _ U=>?_) h1 r⟩;by_cases Y:b=d
  ·subst Y;rw[ho] at e;cases e;rw[hd] at U;cases U
  ·exact (hs.2 b Y).trans e
 pyHash:=λ{A E s k a Q} hu B q=>by obtain⟨h1,h2,_,r⟩:=B;exact zmb 8 h1 h2 r (by lia) q
 eqBool:=λ{A E s x y a b Q} hu B J q=>by obtain⟨h1,I,_,L⟩:=B;obtain⟨h2,F,_,O⟩:=J;have Z:=cA 8 _ I;have l2:=cA 8 _ F;refine SeqAt.eqBoolOverData _ _ _ _ _ _ _ _ _ _ _ _ L O Z.1 l2.1 ?_ (by rw[zk1 I F];exact q);have:min (PySem.W.kqdP x.toW).depth (PySem.W.kqdP y.toW).depth<=8:=ah (Nat.min_le_left _ _) Z.2;lia
 quiet:=λB q=>by obtain⟨h1,h2,_,r⟩:=B;exact zkw 8 h1 h2 r q
def DDo (h:Heap)(a:Addr)(ks:List (Dt×Addr×V)):Prop:=ks.length<=sizeLine/\(a==sysModules)=false/\∃xs:List (Dt×Addr×Value),
 Paired (λ(p:Dt×Addr×V) (q:Dt×Addr×Value)=>p.1=q.1/\p.2.1=q.2.1/\zX p.2.2 q.2.2) ks xs/\∃o es ep,h.get? a=some o/\o.ExactDict/\o.data = .dict es ep/\es.toList=xs.map (λx=>⟨uN x.1,.ref x.2.1,x.2.2⟩)/\(xs.map (·.1)).Nodup
def ddO (a:Addr)(ks:List (Dt×Addr×V)):HO:=.ext λh=>DDo h a ks
def zfk(S:DDo h a ks):zD P w H h a (ddO a ks):=by
 refine⟨S,?_,λh1 h2 q k=>?_⟩
 ·obtain⟨_,_,_,_,o,_,_,B,_⟩:=S;exact⟨o,B⟩
 ·obtain⟨z,lo,xs,r,o,es,ep,B,q⟩:=q;exact⟨z,lo,xs,r,o,es,ep,k o B,q⟩
def zhV:∀kvs,pnK (ddO a ks)=some kvs->xg kvs (Sum.inr "at" : Key)=none:=λkvs e=>by
 unfold ddO pnK at e;dsimp only at e;rw[if_neg] at e
 ·cases e
 ·rintro⟨d,ob,⟨F,I⟩,z⟩;have h1:DDo F a ks:=by rw[show DDo F a ks=_ from congrFun z F];exact I
  obtain⟨J,lo,xs,r,o,es,ep,Y,⟨L,O,U⟩,Z,q⟩:=h1
  have k:∀B:Nat,({ o with data:=.dict es B }:Obj)=ob:=λB=>by have h2:DDo (⟨Array.replicate (a+1) { o with data:=.dict es B },{}⟩:Heap) a ks:=⟨J,lo,xs,r,{ o with data:=.dict es B },es,B,by simp[Heap.get?],⟨L,O,U⟩,rfl,q⟩;rw[show DDo _ a ks=_ from congrFun z _] at h2;exact (ziH h2).symm
  have:=congrArg Obj.data ((k 0).trans (k 1).symm);cases this
noncomputable def zbR (ks:List (Dt×Addr×V))(k:Dt):Option V:=(ks.find? λq=>decide (q.1=k)).map (·.2.2)
noncomputable def zeR (ks:List (Dt×Addr×V))(k:Dt)(b:Addr)(v:V):List (Dt×Addr×V):=if (zbR ks k).isSome then ks.map λq=>if q.1=k then (q.1,q.2.1,v) else q else ks++[(k,b,v)]
def yH (H:Hp)(ks:List (Dt×Addr×V)):Prop:=∀q∈ks,q.1.hk=true/\q.1.eqOk/\Is H q.1 (.ref q.2.1)
abbrev PrN (p:Dt×Addr×V)(q:Dt×Addr×Value):Prop:=p.1=q.1/\p.2.1=q.2.1/\zX p.2.2 q.2.2
def zfT(r:Paired PrN ks xs)(k:Dt):zfZ (zbR ks k) ((atKey xs k).map (·.2)):=by
 unfold zbR atKey
 induction r with
 | nil=>trivial
 | cons h _ q=>
  obtain⟨B,F,h⟩:=h;rw[bf,bf,B];split
  ·exact h
  ·exact q
def zfN(r:Paired PrN ks xs):∀ {x},x∈xs->∃p∈ks,PrN p x:=by
 induction r with
 | nil=>intro x B;cases B
 | @cons p q ps I a _ F=>
  intro x B;rcases ax.mp B with rfl | B
  ·exact⟨p,by simp,a⟩
  ·obtain⟨p',h1,h2⟩:=F B;exact⟨p',av _ h1,h2⟩
end
section
variable {X:Cx}{pins:List (Addr×Obj)}{σ:St}{H:Hp}{s:Shared}
def xH(I:Inv X pins σ H s)(h1:k.hk=true)(h2:k.eqOk)(h:Is H k (.ref b)):(zji X.prog X.w).is s.heap k b:=⟨h1,h2,yS I.hok 8 h rfl h2⟩
def zoI(I:Inv X pins σ H s)(h:Rd H a (ddO a ks))(q:yH H ks):(a==sysModules)=false/\ks.length<=sizeLine/\∃xs,Paired PrN ks xs/\s.heap.DictOfH (zji X.prog X.w) a xs:=by obtain⟨⟨z,lo,xs,r,o,es,ep,B,h1,h2,F,J⟩,_⟩:=(show zD X.prog X.w H s.heap a (ddO a ks) from h.ok I.hok);refine⟨lo,z,xs,r,o,es,ep,B,h1,h2,F,λx L=>?_,J⟩;obtain⟨p,hp,O,U,_⟩:=zfN r L;obtain⟨k1,k2,k3⟩:=q p hp;rw[<- O,<- U];exact xH I k1 k2 k3
end
def zgs (q:Bool)(T:Hp)(a:Addr)(ks:List (Dt×Addr×V)):Prop:=if q=true then ∃ob,T a=some (.frz ob (ddO a ks)) else T a=some (ddO a ks)
def zgs.rd(h:zgs q T a ks):Rd T a (ddO a ks):=by
 cases q with
 | true=>exact .inr (by simpa [zgs] using h)
 | false=>exact .inl (by simpa [zgs] using h)
def zgs.imp(h:zgs q T a ks)(t:∀o,(∀kvs,pnK o=some kvs->xg kvs (Sum.inr "at" : Key)=none)->T a=some o->T' a=some o):zgs q T' a ks:=by
 cases q with
 | true=>
  obtain⟨ob,e⟩:∃ob,T a=some (.frz ob (ddO a ks)):=by simpa [zgs] using h
  exact (if_pos rfl).mpr ⟨ob,t _ (λ_ z=>by cases z) e⟩
 | false=>exact t _ zhV (by simpa [zgs] using h)
def yH.stay(h:yH G ks)(s:zn G G'):yH G' ks:=λq B=>let ⟨h1,h2,h3⟩:=h q B;⟨h1,h2,h3.stay s⟩
def kvN (ks:List (Dt×Addr×V)):List (Dt×V):=ks.map λq=>(q.1,q.2.2)
end L2
namespace L3
open PySem L2
abbrev zrJ:=Addr×Addr×List Int
@[reducible] def imm:HO->Bool
 | .lst _=>false
 | .dK _=>false
 | .dT _=>false
 | .ext _=>false
 | _=>true
def Mt (o:HO):Prop:=imm o=false
def Mt.tup(h:Mt o):∀xs,o≠.tup xs:=λ_ e=>by subst e;cases h
def NP (o:HO):Prop:=∀kvs,pnK o=some kvs->xg kvs (Sum.inr "at" : Key)=none
def NP.lst:NP (.lst xs):=λ_ e=>by cases e
structure Jv where
 K:(Addr->Prop)->Hp->Prop
 same:∀ {A:Addr->Prop} {H H':Hp},K A H->yz H H'->K A H'
 grow:∀ {A A':Addr->Prop} {H:Hp},K A' H->(∀a,A a->A' a\/∃o,H a=some o/\NP o/\Mt o)->K A H
 upd:∀ {A:Addr->Prop} {H:Hp} {p:Addr} {o:HO},K A H->A p->K A (L2.upd H p o)
 frz:∀ {A:Addr->Prop} {H:Hp} {p:Addr} {o o':HO},K A H->H p=some o->NP o->Mt o->K A (L2.upd H p o')
structure PN where
 pn:Option zrJ
 J:Jv
def J0:Jv:=⟨λ_ _=>True,λ_ _=>trivial,λ_ _=>trivial,λ_ _=>trivial,λ_ _ _ _=>trivial⟩
inductive W where
 | d (x:Dt) | pen (p:Addr) | dk (kvs:List (Key×Dt)) | dt (kvs:List (List Int×Dt)) | ss (P:Program) (w:World) (ks:List (List Int)) | df (kvs:List (List Int×Dt)) | kf (kvs:List (Key×Dt)) | fl (l:List Dt) | ad (a:Addr) (x:Dt) | tz (kvs:List (List Int×Dt)) (x:Dt) | dn (fz:Bool) (kvs:List (Dt×Dt)) | wd (d:Addr) (fs:List (Key×Dt)) (kn:List (List Int×Dt)) | lf (ls:List (List Dt))
abbrev Mo (α:Type):=Nat->(α->Nat->Prop)->Prop
abbrev Ev:=List (Option W)
open Classical in
noncomputable def zG (A:Addr->Prop)(H:Hp):Hp:=λb=>if A b then none else H b
section
variable {A A0:Addr->Prop}{H H' G G' T T':Hp}{a b:Addr}{o:HO}
def zx:zG A H b=some o↔¬ A b/\H b=some o:=by
 unfold zG
 grind
def zi (h:¬ A b)(e:H b=some o):zG A H b=some o:=zx.mpr ⟨h,e⟩
def zl:yz (zG A H) H:=λb o e=>(zx.mp e).2
def _root_.L2.Rd.sub(h:Rd (zG A H) b u):Rd H b u:=h.imp (zl b _) λ⟨o,h⟩=>⟨o,zl b _ h⟩
def _root_.L2.Rd.hid(h:Rd H b u)(n:¬ A b):Rd (zG A H) b u:=h.imp (zi n) λ⟨o,h⟩=>⟨o,zi n h⟩
def zN (s:zn H H'):zn (zG A H) (zG A H'):=λb o e n=>zi (zx.mp e).1 (s b o (zx.mp e).2 n)
def xz (s:yz H H'):yz (zG A H) (zG A H'):=λb o e=>zi (zx.mp e).1 (s b o (zx.mp e).2)
def yk (h:∀b,A0 b->A b):yz (zG A H) (zG A0 H):=λb o e=>zi (λz=>(zx.mp e).1 (h b z)) (zx.mp e).2
def yf (h:A a):zG A (upd H a o)=zG A H:=by
 funext b;unfold zG;by_cases q:A b
 ·simp[q]
 ·have:b≠a:=λe=>q (e ▸ h);simp[q,zb this]
end
def DAt (T G:Hp):Dt->V->Prop
 | .lst l,v=>∃a xs,v = .ref a/\Rd T a (.lst xs)/\IsL G l xs
 | .dct,v=>∃a kvs,v = .ref a/\T a=some (.dK kvs)/\kvs=[]
 | .non,v=>Is G .non v
 | .bl b,v=>Is G (.bl b) v
 | .int i,v=>Is G (.int i) v
 | .str x,v=>Is G (.str x) v
 | .tup l,v=>Is G (.tup l) v
def DAt.is(h:DAt G G x v):Is G x v:=by cases x <;> exact h
def DAt.of(h:Is G x v):DAt G G x v:=by cases x <;> exact h
def DAt.up(t:zn T T')(g:zn G G')(h:DAt T G x v):DAt T' G' x v:=by
 cases x with
 | lst l=>obtain⟨a,xs,e,h1,h2⟩:=h;exact⟨a,xs,e,t.rdl h1,h2.stay g⟩
 | dct=>obtain⟨a,kvs,e,h1,h2⟩:=h;exact⟨a,kvs,e,t _ _ h1 λk q=>by cases q;subst h2;rfl,h2⟩
 | _=>exact Is.stay g h
def DAt.full(t:yz T H)(g:yz G H)(h:DAt T G x v):Is H x v:=(DAt.up (zn.same t) (zn.same g) h).is
def xh {κ:Type}(G:Hp):List (κ×Dt)->List (κ×V)->Prop
 | [],ks=>ks=[]
 | q::r,ks=>∃v s,ks=(q.1,v)::s/\Is G q.2 v/\xh G r s
def xh.stay {κ:Type}{G G':Hp}(s:zn G G'):∀ {kvs:List (κ×Dt)} {ks:List (κ×V)},xh G kvs ks->xh G' kvs ks
 | [],_,h=>h
 | q::r,ks,⟨v,t,e,h1,h2⟩=>⟨v,t,e,h1.stay s,xh.stay s h2⟩
def SIs (G:Hp)(ks:List (List Int))(xs:List (List Int×Addr)):Prop:=ks=xs.map (·.1)/\(∀q∈xs,G q.2=some (.tup (q.1.map V.int)))/\ks.Nodup
def SIs.stay{ks:List (List Int)}{xs:List (List Int×Addr)}(h:SIs G ks xs)(s:zn G G'):SIs G' ks xs:=⟨h.1,λq B=>s _ _ (h.2.1 q B) (λ_ e=>by cases e),h.2.2⟩
noncomputable def zmV (a:Addr)(H:Hp):Hp:=zG (λb=>b≠a/\∃xs,H b=some (.lst xs)) H
def zce(s:zn H H'):zn (zmV a H) (zmV a H'):=λb o e n=>by obtain⟨h1,h2⟩:=zx.mp e;have q:=s b o h2 n;refine zi (λz=>h1 ⟨z.1,?_⟩) q;obtain⟨xs,B⟩:=z.2;rw[q] at B;cases B;exact⟨_,h2⟩
def zok (G:Hp)(d:Addr)(fs:List (Key×Dt))(I:List (List Int×Dt))(ks:List (Key×V)):Prop:=xg ks (Sum.inr "at" : Key)=none/\∃q F ob B,ks=q++([(Sum.inr "known",V.ref F),(Sum.inr "wide",V.ref d)]:List (Key×V))/\xh G fs q/\G F=some (.frz ob (dtO B))/\xh G I B
def zok.stay{I:List (List Int×Dt)}(h:zok G d fs I ks)(s:zn G G'):zok G' d fs I ks:=by obtain⟨J,B,L,ob,F,h1,h2,O,U⟩:=h;exact⟨J,B,L,ob,F,h1,h2.stay s,s _ _ O (λk q=>by cases q),U.stay s⟩
def zn6 (G:Hp):List (List Dt)->List V->Prop
 | [],xs=>xs=[]
 | l::r,xs=>∃b o ys s,xs = .ref b::s/\G b=some (.frz o (.lst ys))/\IsL G l ys/\zn6 G r s
def zn6.stay(s:zn G G'):∀ {B:List (List Dt)} {xs:List V},zn6 G B xs->zn6 G' B xs
 | [],_,h=>h
 | _::_,_,⟨b,o,ys,t,e,h1,h2,F⟩=>⟨b,o,ys,t,e,s _ _ h1 (λk q=>by cases q),h2.stay s,zn6.stay s F⟩
def WAt (T G:Hp):W->V->Prop
 | .d x,v=>DAt T G x v
 | .pen p,v=>v = .ref p
 | .dk kvs,v=>∃a ks,v = .ref a/\T a=some (.dK ks)/\xh G kvs ks/\xg ks (Sum.inr "at" : Key)=none
 | .dt kvs,v=>∃a ks,v = .ref a/\T a=some (dtO ks)/\xh G kvs ks
 | .ss P w ks,v=>∃a xs,v = .ref a/\T a=some (ztA P w a (zsz xs))/\SIs G ks xs
 | .dn q kvs,v=>∃a ks,v = .ref a/\zgs q T a ks/\yH G ks/\xh G kvs (kvN ks)
 | .wd d fs B,v=>∃a ks,v = .ref a/\T a=some (.dK ks)/\zok G d fs B ks
 | .lf F,v=>∃a xs,v = .ref a/\Rd T a (.lst xs)/\zn6 G F xs
 | .df kvs,v=>∃a ob ks,v = .ref a/\T a=some (.frz ob (dtO ks))/\xh G kvs ks
 | .kf kvs,v=>∃a ob ks,v = .ref a/\T a=some (.frz ob (.dK ks))/\xh G kvs ks
 | .fl l,v=>∃a ob xs,v = .ref a/\T a=some (.frz ob (.lst xs))/\IsL G l xs
 | .ad a x,v=>(∃b,v = .ref b)/\Is (zmV a G) x v
 | .tz kvs x,v=>∃a b ob ks y,v = .ref a/\G a=some (.tup [.ref b,y])/\G b=some (.frz ob (dtO ks))/\xh G kvs ks/\Is G x y
def WAt.up(t:zn T T')(g:zn G G')(h:WAt T G w v):WAt T' G' w v:=by
 cases w with
 | d x=>exact DAt.up t g h
 | pen p=>exact h
 | dk kvs=>
  obtain⟨a,ks,e,h1,h2,B⟩:=h;exact⟨a,ks,e,t _ _ h1 λk q=>by cases q;exact B,h2.stay g,B⟩
 | dt kvs=>
  obtain⟨a,ks,e,h1,h2⟩:=h;exact⟨a,ks,e,t _ _ h1 (λk q=>by cases q),h2.stay g⟩
 | dn I kvs=>
  obtain⟨a,ks,e,h1,h2,B⟩:=h;exact⟨a,ks,e,h1.imp λo n q=>t a o q n,h2.stay g,B.stay g⟩
 | wd d fs J=>
  obtain⟨a,ks,e,h1,h2⟩:=h;exact⟨a,ks,e,t _ _ h1 (λk q=>by cases q;exact h2.1),h2.stay g⟩
 | lf L=>
  obtain⟨a,xs,e,h1,h2⟩:=h;exact⟨a,xs,e,t.rdl h1,h2.stay g⟩
 | ss P w kvs=>
  obtain⟨a,ks,e,h1,h2⟩:=h;exact⟨a,ks,e,t _ _ h1 zle,h2.stay g⟩
 | df kvs=>
  obtain⟨a,ob,ks,e,h1,h2⟩:=h;exact⟨a,ob,ks,e,t _ _ h1 (λk q=>by cases q),h2.stay g⟩
 | kf kvs=>
  obtain⟨a,ob,ks,e,h1,h2⟩:=h;exact⟨a,ob,ks,e,t _ _ h1 (λk q=>by cases q),h2.stay g⟩
 | fl kvs=>
  obtain⟨a,ob,ks,e,h1,h2⟩:=h;exact⟨a,ob,ks,e,t _ _ h1 (λk q=>by cases q),h2.stay g⟩
 | ad a x=>exact⟨h.1,Is.stay (zce g) h.2⟩
 | tz kvs x=>
  obtain⟨a,b,ob,ks,y,e,h1,h2,B,F⟩:=h;exact⟨a,b,ob,ks,y,e,g.tup h1,g _ _ h2 (λk q=>by cases q),B.stay g,F.stay g⟩
@[reducible] def W.mut:W->Bool
 | .d (.lst _)=>true
 | .d .dct=>true
 | .dk _=>true
 | .dt _=>true
 | .ss _ _ _=>true
 | .dn false _=>true
 | _=>false
abbrev Val (A:Addr->Prop)(H:Hp)(w:W)(v:V):Prop:=WAt (zG A H) (zG A H) w v
abbrev Bor (A:Addr->Prop)(H:Hp)(w:W)(v:V):Prop:=WAt H (zG A H) w v
def Val.bor(h:Val A H w v):Bor A H w v:=WAt.up (zn.same zl) (zn.refl _) h
def Val.stay(h:Val A H w v)(s:zn H H'):Val A H' w v:=WAt.up (zN s) (zN s) h
def Bor.stay(h:Bor A H w v)(s:zn H H'):Bor A H' w v:=WAt.up s (zN s) h
def Bor.is(h:Bor A H (.d x) v):Is H x v:=DAt.full (ziK _) zl h
def Val.is(h:Val A H (.d x) v):Is (zG A H) x v:=DAt.is h
def Val.of(h:Is (zG A H) x v):Val A H (.d x) v:=DAt.of h
mutual
def zk8 {A:Addr->Prop}{H:Hp}(hA:∀a xs,A a->H a≠some (.tup xs)):∀ {x:Dt} {v:V},x.noL=true->Is H x v->Is (zG A H) x v
 | .non,_,_,h=>h
 | .bl _,_,_,h=>h
 | .int _,_,_,h=>h
 | .str _,_,_,h=>h
 | .tup l,_,n,h=>by obtain⟨p,xs,e,hp,hl⟩:=h;exact⟨p,xs,e,zi (λz=>hA p xs z hp) hp,uD hA (by simpa [Dt.noL] using n) hl⟩
 | .lst l,_,n,_=>by simp[Dt.noL] at n
 | .dct,_,n,_=>by simp[Dt.noL] at n
def uD {A:Addr->Prop}{H:Hp}(hA:∀a xs,A a->H a≠some (.tup xs)):∀ {ds:List Dt} {xs:List V},Dt.noLs ds=true->IsL H ds xs->IsL (zG A H) ds xs
 | [],_,_,h=>h
 | d::ds,xs,n,h=>by
  obtain⟨x,r,e,h1,h2⟩:=h;have n':(d.noL&&Dt.noLs ds)=true:=by simpa [Dt.noLs] using n
  rw[aH] at n';exact⟨x,r,e,zk8 hA n'.1 h1,uD hA n'.2 h2⟩
end
def yA (Pn:PN)(A:Addr->Prop)(n:Nat)(H:Hp):Prop:=
 (match Pn.pn with
 | none=>True
 | some (p,c,ns)=>Pen H p c ns n/\¬ A c/\¬ A p)/\Pn.J.K A H
def Own (A:Addr->Prop)(H:Hp)(w:W)(v:V):Prop:=∃a,v = .ref a/\A a/\Bor A H w v/\w.mut=true
def Al (A:Addr->Prop)(H:Hp):Prop:=∀a,A a->∃o,H a=some o/\NP o/\Mt o
structure EnvR (A:Addr->Prop)(M:List Nat)(σ:St)(H:Hp)(ρ:Ev):Prop where
 len:σ.length=ρ.length
 val:∀i w,ρ[i]?=some (some w)->∃v,σ[i]?=some (some v)/\(i∉M->Val A H w v)/\(i∈M->Own A H w v)
 dis:∀i j w u a,i∈M->j∈M->i≠j->ρ[i]?=some (some w)->ρ[j]?=some (some u)->σ[i]?=some (some (.ref a))->σ[j]?≠some (some (.ref a))
 al:Al A H
def _root_.L2.Rd.own(h:Rd H a (.lst xs))(q:Al A H)(B:A a):H a=some (.lst xs):=by
 rcases h with h | ⟨o,h⟩
 ·exact h
 ·obtain⟨u,e,_,m⟩:=q a B;rw[h] at e;cases e;cases m
def EnvR.stay(E:EnvR A M σ H ρ)(s:zn H H'):EnvR A M σ H' ρ where
 len:=E.len
 val:=λi w e=>by obtain⟨v,h1,h2,q⟩:=E.val i w e;refine⟨v,h1,λz=>(h2 z).stay s,λz=>?_⟩;obtain⟨a,e,B,F,I⟩:=q z;exact⟨a,e,B,F.stay s,I⟩
 dis:=E.dis
 al:=λa h=>by obtain⟨o,h1,h2,q⟩:=E.al a h;exact⟨o,s _ _ h1 h2,h2,q⟩
def EnvR.new(E:EnvR A M σ H ρ)(h:H p=none):¬ A p:=λz=>by
 obtain⟨o,h1,_⟩:=E.al p z
 grind
def Fr (H:Hp)(a:Addr):Prop:=∀o,H a=some o->¬ NP o
def Fr.of(h:H a=none):Fr H a:=λo e=>by rw[h] at e;cases e
def Fr.back(h:Fr H1 a)(s:zn H H1):Fr H a:=λo e n=>h o (s _ _ e n) n
def FrV (A:Addr->Prop)(H H':Hp)(w:W)(v:V):Prop:=∃a,v = .ref a/\Fr H a/\(∃o,H' a=some o/\Mt o)/\WAt H' (zG (λb=>A b\/b=a) H') w v
def FrV.back(h:FrV A H1 H' w v)(s:zn H H1):FrV A H H' w v:=let ⟨a,e,f,g⟩:=h;⟨a,e,f.back s,g⟩
def FrV.less(h:FrV A H H' w v)(s:∀a,A0 a->A a):FrV A0 H H' w v:=let ⟨a,e,f,m,g⟩:=h;⟨a,e,f,m,WAt.up (zn.refl _) (zn.same (yk λb z=>z.elim (λz=>.inl (s b z)) .inr)) g⟩
def EnvR.newF(E:EnvR A M σ H ρ)(h:Fr H p):¬ A p:=λz=>by obtain⟨o,h1,h2,_⟩:=E.al p z;exact h o h1 h2
def yI(s:zn H H')(n:Fr H p):zn (zG A H) (zG (λb=>A b\/b=p) H'):=λb o e np=>by obtain⟨h1,h2⟩:=zx.mp e;exact zi (λz=>z.elim h1 λz=>by subst z;exact n o h2 np) (s b o h2 np)
structure Go (Pn:PN)(A:Addr->Prop)(H:Hp)(n:Nat)(H':Hp):Prop where
 st:zn H H'
 pn:yA Pn A n H'
def Go.trans(a:Go Pn A H n H1)(b:Go Pn A H1 m H2):Go Pn A H m H2:=⟨a.st.trans b.st,b.pn⟩
structure RE (Pn:PN)(M:List Nat)(fr:Bool)(te:TE)(f:Ev->Mo W):Prop where
 run:∀A σ H ρ n Q R,EnvR A M σ H ρ->yA Pn A n H->f ρ n R->(∀w m v H',R w m->Val A H' w v->Go Pn A H m H'->(fr=true->FrV A H H' w v)->Q v H')->te σ H Q
structure RB (Pn:PN)(M:List Nat)(te:TE)(f:Ev->Mo W):Prop where
 run:∀A σ H ρ n Q R,EnvR A M σ H ρ->yA Pn A n H->f ρ n R->(∀w m v H',R w m->Bor A H' w v->Go Pn A H m H'->Q v H')->te σ H Q
structure RT (Pn:PN)(M:List Nat)(te:TT)(f:Ev->Mo Bool):Prop where
 run:∀A σ H ρ n Q R,EnvR A M σ H ρ->yA Pn A n H->f ρ n R->(∀b m H',R b m->Go Pn A H m H'->Q b H')->te σ H Q
def zn5 (A:Addr->Prop)(H:Hp):List W->List V->Prop
 | [],vs=>vs=[]
 | w::q,vs=>∃v r,vs=v::r/\Bor A H w v/\zn5 A H q r
def zbQ (A:Addr->Prop)(H:Hp):List W->List V->Prop
 | [],vs=>vs=[]
 | w::q,vs=>∃v r,vs=v::r/\Val A H w v/\zbQ A H q r
def zbQ.bor:∀ {q:List W} {vs:List V},zbQ A H q vs->zn5 A H q vs
 | [],_,h=>h
 | _::_,_,⟨v,r,e,h1,h2⟩=>⟨v,r,e,h1.bor,zbQ.bor h2⟩
structure RA (Pn:PN)(M:List Nat)(ta:TA)(f:Ev->Mo (List W)):Prop where
 run:∀A σ H ρ n Q R,EnvR A M σ H ρ->yA Pn A n H->f ρ n R->(∀ws m vs H',R ws m->zbQ A H' ws vs->Go Pn A H m H'->Q vs H')->ta σ H Q
structure RAB (Pn:PN)(M:List Nat)(ta:TA)(f:Ev->Mo (List W)):Prop where
 run:∀A σ H ρ n Q R,EnvR A M σ H ρ->yA Pn A n H->f ρ n R->(∀ws m vs H',R ws m->zn5 A H' ws vs->Go Pn A H m H'->Q vs H')->ta σ H Q
structure Kt where
 nx:Ev->Nat->Prop
 rt:W->Nat->Prop
 bk:Ev->Nat->Prop:=λ_ _=>False
 ct:Ev->Nat->Prop:=λ_ _=>False
abbrev Ms:=Ev->Nat->Kt->Prop
def StX (q:Addr->Prop)(H0 H:Hp):Prop:=∀b o,H0 b=some o->NP o->¬ q b->H b=some o
def StX.of(s:zn H0 H):StX q H0 H:=λb o e n _=>s b o e n
def StX.stay(s:StX (λ_=>False) H0 H):zn H0 H:=λb o e n=>s b o e n λz=>z
structure Frm (A0:Addr->Prop)(H0:Hp)(ca:Addr->Prop)(A:Addr->Prop)(H:Hp):Prop where
 sub:∀a,A0 a->A a
 new:∀a,A a->A0 a\/Fr H0 a\/ca a
 st:StX ca H0 H
 al:Al A0 H0
 cn:∀a,ca a->¬ A0 a
 cs:∀a,ca a->∃o,H a=some o/\NP o
def Frm.back(f:Frm A0 H0 q A H)(h:Fr H a)(n:¬ A a):Fr H0 a:=λo e np=>h o (f.st a o e np λz=>let ⟨o2,e2,n2⟩:=f.cs a z;h o2 e2 n2) np
structure Bs where
 ca:Addr->Prop:=λ_=>False
 A0:Addr->Prop
 H0:Hp
 G0:Hp
 σ0:St
def NoL (G:Hp):Prop:=∀a xs,G a≠some (.lst xs)
structure At3 (Pn:PN)(B:Bs)(S M:List Nat)(A:Addr->Prop)(σ:St)(H:Hp)(ρ:Ev)(n:Nat):Prop where
 env:EnvR A M σ H ρ
 frm:Frm B.A0 B.H0 B.ca A H
 pn:yA Pn A n H
 prot:zn B.G0 (zG A H)
 fix:(∀i∈S,σ[i]?=B.σ0[i]?)/\(9999∈S->NoL B.G0/\NoL B.H0)
 mine:∀i w a,i∈M->ρ[i]?=some (some w)->σ[i]?=some (some (.ref a))->Fr B.H0 a\/B.ca a
structure KOk (Pn:PN)(B:Bs)(S M:List Nat)(fr:Bool)(k:Kt)(D:Ends):Prop where
 nx:∀A σ H ρ n,At3 Pn B S M A σ H ρ n->k.nx ρ n->D.nx σ H
 bk:∀A σ H ρ n,At3 Pn B S M A σ H ρ n->k.bk ρ n->D.bk σ H
 ct:∀A σ H ρ n,At3 Pn B S M A σ H ρ n->k.ct ρ n->D.ct σ H
 fc:∀a,¬ B.ca a
 rt:∀w n v H,Val B.A0 H w v->StX B.ca B.H0 H->yA Pn B.A0 n H->(fr=true->FrV B.A0 B.H0 H w v)->k.rt w n->D.rt v H
structure RS (Pn:PN)(S M:List Nat)(fr:Bool)(ts:TS)(fs:Ms):Prop where
 run:∀B A σ H ρ n k D,At3 Pn B S M A σ H ρ n->KOk Pn B S M fr k D->fs ρ n k->ts D σ H
structure RG (S M:List Nat)(g:TG)(mg:W->Ev->(Ev->Prop)->Prop):Prop where
 run:∀A σ H ρ v w Q R,EnvR A M σ H ρ->Val A H w v->mg w ρ R->(∀ σ' ρ',R ρ'->EnvR A M σ' H ρ'->(∀i∈S,σ'[i]?=σ[i]?/\ρ'[i]?=ρ[i]?)->Q σ' H)->g v σ H Q
structure RGs (S M:List Nat)(g:TGs)(mg:List Dt->Ev->(Ev->Prop)->Prop):Prop where
 run:∀A σ H ρ vs ds Q R,EnvR A M σ H ρ->IsL (zG A H) ds vs->mg ds ρ R->(∀ σ' ρ',R ρ'->EnvR A M σ' H ρ'->(∀i∈S,σ'[i]?=σ[i]?/\ρ'[i]?=ρ[i]?)->Q σ' H)->g vs σ H Q
structure ItV (ow:Bool)(A:Addr->Prop)(H:Hp)(J:It)(l:List W):Prop where
 one:∀i w A2 H2,l[i]?=some w->zn (zG A H) (zG A2 H2)->(ow=true->zn H H2)->(∀p,H2 p=none->¬ A2 p)->J.go i H2/\∀x H3,J.yld i H2 x H3->yz H2 H3/\Val A2 H3 w x
 stop:∀A2 H2,zn (zG A H) (zG A2 H2)->(ow=true->zn H H2)->J.stop l.length H2
structure RI (Pn:PN)(M:List Nat)(ow:Bool)(wi:TI)(f:Ev->Mo (List W)):Prop where
 run:∀A σ H ρ n Q R,EnvR A M σ H ρ->yA Pn A n H->f ρ n R->(∀l m J H',R l m->ItV ow A H' J l->Go Pn A H m H'->Q J H')->wi σ H Q
def RE.rb(h:RE Pn M fr te f):RB Pn M te f:=
 ⟨λA σ H ρ n Q R E P hf k=>h.run A σ H ρ n Q R E P hf λw m v H' r a g _=>k w m v H' r a.bor g⟩
def RA.rab(h:RA Pn M te f):RAB Pn M te f:=
 ⟨λA σ H ρ n Q R E P hf k=>h.run A σ H ρ n Q R E P hf λw m v H' r a g=>k w m v H' r a.bor g⟩
def yA.same(h:yA Pn A n H)(s:yz H H'):yA Pn A n H':=by
 refine⟨?_,Pn.J.same h.2 s⟩;have h:=h.1;split at h
 ·trivial
 ·exact⟨h.1.same s,h.2⟩
def Go.same(h:yA Pn A n H)(s:yz H H'):Go Pn A H n H':=⟨zn.same s,h.same s⟩
def Go.refl(h:yA Pn A n H):Go Pn A H n H:=⟨zn.refl _,h⟩
open PySem L2
structure JE (X:Cx)(Pn:PN)(M:List Nat)(fr:Bool)(e:Expr)(f:Ev->Mo W):Prop where
 ex:∃te,QE X e te/\RE Pn M fr te f
structure JB (X:Cx)(Pn:PN)(M:List Nat)(e:Expr)(f:Ev->Mo W):Prop where
 ex:∃te,QE X e te/\RB Pn M te f
structure JT (X:Cx)(Pn:PN)(M:List Nat)(e:Expr)(f:Ev->Mo Bool):Prop where
 ex:∃te,QT X e te/\RT Pn M te f
structure JW (X:Cx)(Pn:PN)(M:List Nat)(e:Expr)(f:Ev->Mo Bool):Prop where
 ex:∃te,QW X e te/\RT Pn M te f
structure JA (X:Cx)(Pn:PN)(M:List Nat)(es:List Expr)(f:Ev->Mo (List W)):Prop where
 ex:∃te,QA X es te/\RA Pn M te f
structure JAB (X:Cx)(Pn:PN)(M:List Nat)(es:List Expr)(f:Ev->Mo (List W)):Prop where
 ex:∃te,QA X es te/\RAB Pn M te f
structure JO (X:Cx)(Pn:PN)(M:List Nat)(e:Option Expr)(f:Ev->Mo (Option Int)):Prop where
 ex:∃t,QO X e t/\∀A σ H ρ n Q R,EnvR A M σ H ρ->yA Pn A n H->f ρ n R->(∀o m H',R o m->Go Pn A H m H'->Q o H')->t σ H Q
section
variable {X:Cx}{Pn:PN}{M:List Nat}{fr:Bool}{e a b c:Expr}{es:List Expr}{f fa fb fc:Ev->Mo W}{pos p:Pos}
def zpo (i:Nat):Ev->Mo W:=λρ n Q=>∃w,ρ[i]?=some (some w)/\Q w n
@[reducible] def mC (w:W):Ev->Mo W:=λ_ n Q=>Q w n
@[reducible] def zph (F:W->W->Mo W) (fa fb:Ev->Mo W):Ev->Mo W:=λρ n Q=>fa ρ n λx q=>fb ρ q λy B=>F x y B Q
@[reducible] def mUn (F:W->Mo W) (fa:Ev->Mo W):Ev->Mo W:=λρ n Q=>fa ρ n λx q=>F x q Q
def zld (fa:Ev->Mo W):Ev->Mo Bool:=λρ n Q=>fa ρ n λx q=>∃c,x = .d (.bl c)/\Q c q
def zru (t u:Ev->Mo Bool):Ev->Mo Bool:=λρ n Q=>t ρ n λc q=>if c=true then u ρ q Q else Q false q
def mOr (t u:Ev->Mo Bool):Ev->Mo Bool:=λρ n Q=>t ρ n λc q=>if c=true then Q true q else u ρ q Q
def zsP (t:Ev->Mo Bool):Ev->Mo Bool:=λρ n Q=>t ρ n λc q=>Q (!c) q
def zmB (fa fb:Ev->Mo W):Ev->Mo W:=λρ n Q=>fa ρ n λx q=>∃c,x = .d (.bl c)/\if c=true then fb ρ q Q else Q (.d (.bl false)) q
def mIf (t:Ev->Mo Bool)(fa fb:Ev->Mo W):Ev->Mo W:=λρ n Q=>t ρ n λc q=>if c=true then fa ρ q Q else fb ρ q Q
@[reducible] def mNil:Ev->Mo (List W):=λ_ n Q=>Q [] n
@[reducible] def zpi (fa:Ev->Mo W) (fr:Ev->Mo (List W)):Ev->Mo (List W):=λρ n Q=>fa ρ n λx q=>fr ρ q λxs B=>Q (x::xs) B
@[reducible] def zsD (F:List W->Mo W) (fa:Ev->Mo (List W)):Ev->Mo W:=λρ n Q=>fa ρ n λxs q=>F xs q Q
def JE.bo (h:JE X Pn M fr e f):JB X Pn M e f:=let ⟨te,h1,h2⟩:=h.ex;⟨te,h1,h2.rb⟩
def JA.bo {f:Ev->Mo (List W)}(h:JA X Pn M es f):JAB X Pn M es f:=let ⟨te,h1,h2⟩:=h.ex;⟨te,h1,h2.rab⟩
def zqB(hi:i∉M):RE Pn M false (ze6 i) (zpo i):=⟨λA σ H ρ n Q R E P hf k=>by obtain⟨w,e,r⟩:=hf;obtain⟨v,h1,h2,_⟩:=E.val i w e;exact⟨v,h1,k w n v H r (h2 hi) (Go.refl P) λz=>by cases z⟩⟩
def zqx:RB Pn M (ze6 i) (zpo i):=⟨λA σ H ρ n Q R E P hf k=>by
 obtain⟨w,e,r⟩:=hf;obtain⟨v,h1,h2,q⟩:=E.val i w e;refine⟨v,h1,k w n v H r ?_ (Go.refl P)⟩;by_cases hi:i∈M
 ·obtain⟨a,_,_,h,_⟩:=q hi;exact h
 ·exact (h2 hi).bor⟩
def zjE (i:Nat){x:Str}(hi:i∉M:=by decide)(B:X.N[i]?=some x:=by rfl)(F:Vis X.env.scope x:=by walk_at "v")(I:(x==("__debug__" : Str))=false:=by decide)
  (q:(x==("__classdict__" : Str))=false:=by decide):JE X Pn M false (.Name x pos) (zpo i):=⟨_,qv i B F I q,zqB hi⟩
def zsn(i:Nat)(B:X.N[i]?=some x:=by rfl)(F:Vis X.env.scope x:=by walk_at "v")(I:(x==("__debug__" : Str))=false:=by decide)(q:(x==("__classdict__" : Str))=false:=by decide):JB X Pn M (.Name x pos) (zpo i):=⟨_,qv i B F I q,zqx⟩
def ztt(h:∀G,Is G x v):RE Pn M false (tC v) (mC (.d x)):=⟨λA σ H ρ n Q R E P hf k=>k _ n v H hf (Val.of (h _)) (Go.refl P) λz=>by cases z⟩
def zk{i:Int}:JE X Pn M false (.Constant (.int i) j pos) (mC (.d (.int i))):=⟨_,yg,ztt λ_=>rfl⟩
def zez:JE X Pn M false (.Constant (.bool k) j pos) (mC (.d (.bl k))):=⟨_,zqn,ztt λ_=>rfl⟩
def zmk{i:Int}(q:Gl X x)(h:∃w,zX (.int i) w/\X.mg x=some w)(B:(x==("__debug__" : Str))=false:=by decide):JE X Pn M false (.Name x pos) (mC (.d (.int i))):=⟨_,zcZ q h B,ztt λ_=>rfl⟩
def Al.new {A:Addr->Prop}{H:Hp}(h:Al A H){p:Addr}(e:H p=none):¬ A p:=λz=>by
 obtain⟨o,h1,_⟩:=h p z
 grind
def Al.stay(h:Al A H)(s:zn H H'):Al A H':=λa z=>by obtain⟨o,h1,h2,q⟩:=h a z;exact⟨o,s _ _ h1 h2,h2,q⟩
def Al.noT(h:Al A H):∀a xs,A a->H a≠some (.tup xs):=λa xs z e=>by
 obtain⟨o,h1,_,q⟩:=h a z;have:=q.tup
 grind
def Al.noT' {A:Addr->Prop}{H H':Hp}(h:Al A H)(s:zn H H'){p:Addr}{xs:List V}(e:H' p=some (.tup xs)):¬ A p:=λz=>(h.stay s).noT p xs z e
structure F2 (Pn:PN)(fr:Bool)(r:R2)(F:W->W->Mo W):Prop where
 run:∀A H x y wx wy n Q R,Al A H->Bor A H wx x->Bor A H wy y->yA Pn A n H->F wx wy n R->(∀w m v H',R w m->Val A H' w v->Go Pn A H m H'->(fr=true->FrV A H H' w v)->Q v H')->r x y H Q
structure F1 (Pn:PN)(fr:Bool)(r:V->Hp->VK->Prop)(F:W->Mo W):Prop where
 run:∀A H x wx n Q R,Al A H->Bor A H wx x->yA Pn A n H->F wx n R->(∀w m v H',R w m->Val A H' w v->Go Pn A H m H'->(fr=true->FrV A H H' w v)->Q v H')->r x H Q
structure FL (Pn:PN)(fr:Bool)(r:List V->Hp->VK->Prop)(F:List W->Mo W):Prop where
 run:∀A H xs ws n Q R,Al A H->zn5 A H ws xs->yA Pn A n H->F ws n R->(∀w m v H',R w m->Val A H' w v->Go Pn A H m H'->(fr=true->FrV A H H' w v)->Q v H')->r xs H Q
def zky(B:F2 Pn fr r F)(I:RB Pn M ta fa)(J:RB Pn M tb fb):RE Pn M fr (tOp r ta tb) (zph F fa fb):=⟨λA σ H ρ n Q R E P hf k=>by refine I.run A σ H ρ n _ _ E P hf λx L O H1 U Y q=>?_;refine J.run A σ H1 ρ L _ _ (E.stay q.st) q.pn U λy Z v2 H2 r2 b2 g2=>?_;have g:=q.trans g2;exact B.run A H2 O v2 x y Z _ _ (E.stay g.st).al (Y.stay g2.st) b2 g2.pn r2 λw m v H' h1 h2 h3 h4=>k w m v H' h1 h2 (g.trans h3) λz=>(h4 z).back g.st⟩
def ztv(B:F1 Pn fr r F)(I:RB Pn M ta fa):RE Pn M fr (tUn r ta) (mUn F fa):=⟨λA σ H ρ n Q R E P hf k=>by refine I.run A σ H ρ n _ _ E P hf λx J L H1 O U q=>?_;exact B.run A H1 L x J _ _ (E.stay q.st).al U q.pn O λw m v H' h1 h2 Y Z=>k w m v H' h1 h2 (q.trans Y) λz=>(Z z).back q.st⟩
def zqy {r:List V->Hp->VK->Prop}{F:List W->Mo W}{ta:TA}{fa:Ev->Mo (List W)}(B:FL Pn fr r F)(I:RAB Pn M ta fa):RE Pn M fr (tCB r ta) (zsD F fa):=⟨λA σ H ρ n Q R E P hf k=>by refine I.run A σ H ρ n _ _ E P hf λx J L H1 O U q=>?_;exact B.run A H1 L x J _ _ (E.stay q.st).al U q.pn O λw m v H' h1 h2 Y Z=>k w m v H' h1 h2 (q.trans Y) λz=>(Z z).back q.st⟩
def uK(q:OpQ X (binaryOp op) r)(B:F2 Pn fr r F)(I:JB X Pn M a fa)(J:JB X Pn M b fb):JE X Pn M fr (.BinOp a op b pos) (zph F fa fb):=by obtain⟨ta,L,O⟩:=I.ex;obtain⟨tb,U,Y⟩:=J.ex;exact⟨_,yL q L U,zky B O Y⟩
def j_un(q:UnQ X (unaryOp op) r)(B:F1 Pn fr r F)(I:JB X Pn M a fa):JE X Pn M fr (.UnaryOp op a pos) (mUn F fa):=by obtain⟨ta,J,L⟩:=I.ex;exact⟨_,ztp q J,ztv B L⟩
def zcC(q:OpQ X (compareOp op) r)(B:F2 Pn fr r F)(I:JB X Pn M a fa)(J:JB X Pn M b fb)(L:behindInMarks op b=false):JE X Pn M fr (.Compare a [op] [b] pos) (zph F fa fb):=by obtain⟨ta,O,U⟩:=I.ex;obtain⟨tb,Y,Z⟩:=J.ex;exact⟨_,znt q O Y L,zky B U Z⟩
def zlv(h:RB Pn M ta fa):RT Pn M (znS ta) (zld fa):=⟨λA σ H ρ n Q R E P hf k=>by refine h.run A σ H ρ n _ _ E P hf  ?_;rintro x B F H1 ⟨c,e,r⟩ I J;subst e;have q:F = .bl c:=I;exact⟨c,q,k c B H1 r J⟩⟩
def yv(q:OpQ X (compareOp op) r)(B:F2 Pn fr r F)(I:JB X Pn M a fa)(J:JB X Pn M b fb)(L:behindInMarks op b=false):JT X Pn M (.Compare a [op] [b] pos) (zld (zph F fa fb)):=by obtain⟨ta,O,U⟩:=I.ex;obtain⟨tb,Y,Z⟩:=J.ex;exact⟨_,zan q O Y L,zlv (zky B U Z).rb⟩
def y8 (h:JB X Pn M e f)(he:∀whole,isTrue e X.env whole=(do let v <- whole;standAt e.pos;holding [v] (truthy v)):=by intro _;rfl):JT X Pn M e (zld f):=by obtain⟨ta,qa,ra⟩:=h.ex;exact⟨_,ziu qa he,zlv ra⟩
def uQ(h:JT X Pn M a t):JT X Pn M (.UnaryOp .Not a pos) (zsP t):=by obtain⟨ta,q,B⟩:=h.ex;exact⟨_,zit q,⟨λA σ H ρ n Q R E P hf k=>B.run A σ H ρ n _ _ E P hf λb m H' r g=>k _ m H' r g⟩⟩
def zbd(q:op = .And\/op = .Or)(h:JT X Pn M a t):JW X Pn M (.BoolOp op [a] pos) t:=by
 obtain⟨ta,B,F⟩:=h.ex;rcases q with rfl | rfl
 ·exact⟨_,ziv B,F⟩
 ·exact⟨_,zls B,F⟩
def zqJ(h:RT Pn M t ft)(h':RT Pn M u q):RT Pn M (ztB t u) (zru ft q):=⟨λA σ H ρ n Q R E P hf k=>by
 refine h.run A σ H ρ n _ _ E P hf λc m H1 r g=>?_
 cases c with
 | true=>exact h'.run A σ H1 ρ m _ _ (E.stay g.st) g.pn (by simpa using r) λb B H' F g'=>k b B H' F (g.trans g')
 | false=>exact k false m H1 (by simpa using r) g⟩
def ztw(h:RT Pn M t ft)(h':RT Pn M u q):RT Pn M (tOr t u) (mOr ft q):=⟨λA σ H ρ n Q R E P hf k=>by
 refine h.run A σ H ρ n _ _ E P hf λc m H1 r g=>?_
 cases c with
 | false=>exact h'.run A σ H1 ρ m _ _ (E.stay g.st) g.pn (by simpa using r) λb B H' F g'=>k b B H' F (g.trans g')
 | true=>exact k true m H1 (by simpa using r) g⟩
def zhx {ye:List Expr}{t u:Ev->Mo Bool}(h:JT X Pn M a t)(h':JW X Pn M (.BoolOp .And (b::ye) pos) u):JW X Pn M (.BoolOp .And (a::b::ye) pos) (zru t u):=by obtain⟨ta,q,B⟩:=h.ex;obtain⟨tb,F,I⟩:=h'.ex;exact⟨_,zlr q F,zqJ B I⟩
def zjL {ye:List Expr}{t u:Ev->Mo Bool}(h:JT X Pn M a t)(h':JW X Pn M (.BoolOp .Or (b::ye) pos) u):JW X Pn M (.BoolOp .Or (a::b::ye) pos) (mOr t u):=by obtain⟨ta,q,B⟩:=h.ex;obtain⟨tb,F,I⟩:=h'.ex;exact⟨_,zqv q F,ztw B I⟩
def JW.t {t:Ev->Mo Bool}(h:JW X Pn M e t):JT X Pn M e t:=let ⟨te,h1,h2⟩:=h.ex;⟨te,h1.pt,h2⟩
def zmm(h:JE X Pn M false a fa):JE X Pn M false (.BoolOp op [a] pos) fa:=let ⟨te,h1,h2⟩:=h.ex;⟨te,zqs h1,h2⟩
def zjD {ye:List Expr}(h:JB X Pn M a fa)(h':JE X Pn M false (.BoolOp .And (b::ye) pos) fb):JE X Pn M false (.BoolOp .And (a::b::ye) pos) (zmB fa fb):=by
 obtain⟨ta,B,F⟩:=h.ex;obtain⟨tb,I,J⟩:=h'.ex;refine⟨_,zql B I,⟨λA σ H ρ n Q R E P hf k=>?_⟩⟩;refine F.run A σ H ρ n _ _ E P hf  ?_;rintro x m v H1 ⟨c,L,r⟩ O g;subst L;have q:v = .bl c:=O;refine⟨c,q,?_⟩
 cases c with
 | true=>
  rw[if_pos rfl] at r ⊢;exact J.run A σ H1 ρ m _ _ (E.stay g.st) g.pn r λw U Y H' Z a' g' _=>k w U Y H' Z a' (g.trans g') λz=>by cases z
 | false=>
  rw[if_neg (by decide)] at r ⊢;exact k _ m _ H1 r (Val.of rfl) g λz=>by cases z
def j_if(L:JT X Pn M c t)(O:JE X Pn M fr a fa)(U:JE X Pn M fr b fb):JE X Pn M fr (.IfExp c a b pos) (mIf t fa fb):=by
 obtain⟨tc,Y,Z⟩:=L.ex;obtain⟨ta,qa,ra⟩:=O.ex;obtain⟨tb,qb,rb⟩:=U.ex;refine⟨_,zkr Y qa qb,⟨λA σ H ρ n Q R E P hf k=>?_⟩⟩;refine Z.run A σ H ρ n _ _ E P hf λc m H1 r g=>?_
 cases c with
 | true=>
  rw[if_pos rfl] at r ⊢;exact ra.run A σ H1 ρ m _ _ (E.stay g.st) g.pn r λw q B H' F I g' J=>k w q B H' F I (g.trans g') λz=>(J z).back g.st
 | false=>
  rw[if_neg (by decide)] at r ⊢;exact rb.run A σ H1 ρ m _ _ (E.stay g.st) g.pn r λw q B H' F I g' J=>k w q B H' F I (g.trans g') λz=>(J z).back g.st
@[reducible] def zo2:W->Bool
 | .d .non=>true
 | _=>false
@[reducible] def mIsN (fa:Ev->Mo W):Ev->Mo W:=λρ n Q=>fa ρ n λx q=>Q (.d (.bl (zo2 x))) q
@[reducible] def mNotN (fa:Ev->Mo W):Ev->Mo W:=λρ n Q=>fa ρ n λx q=>Q (.d (.bl (!zo2 x))) q
def zqK(h:RB Pn M ta fa):RT Pn M (tB ta) (zld fa):=⟨λA σ H ρ n Q R E P hf k=>by refine h.run A σ H ρ n _ _ E P hf  ?_;rintro x B F H1 ⟨c,e,r⟩ I J;subst e;have q:F = .bl c:=I;exact⟨c,q,k c B H1 r J⟩⟩
def zf:JA X Pn M [] mNil:=⟨_,yn,⟨λA σ H ρ n Q R E P hf k=>k [] n [] H hf rfl (Go.refl P)⟩⟩
def za(B:JE X Pn M fr e f)(F:JA X Pn M es fs)(I:starEach (e::es) X.env=(false,eval e X.env)::starEach es X.env:=by rfl):JA X Pn M (e::es) (zpi f fs):=by obtain⟨ta,J,L⟩:=B.ex;obtain⟨tb,O,U⟩:=F.ex;refine⟨_,zz J O I,⟨λA σ H ρ n Q R E P hf k=>?_⟩⟩;refine L.run A σ H ρ n _ _ E P hf λx Y Z H1 r1 b1 q _=>?_;exact U.run A σ H1 ρ Y _ _ (E.stay q.st) q.pn r1 λxs n2 vs H2 r2 b2 g2=>k _ n2 _ H2 r2 ⟨Z,vs,rfl,b1.stay g2.st,b2⟩ (q.trans g2)
def zr:JAB X Pn M [] mNil:=zf.bo
def zj(B:JB X Pn M e f)(F:JAB X Pn M es fs)(I:starEach (e::es) X.env=(false,eval e X.env)::starEach es X.env:=by rfl):JAB X Pn M (e::es) (zpi f fs):=by obtain⟨ta,J,L⟩:=B.ex;obtain⟨tb,O,U⟩:=F.ex;refine⟨_,zz J O I,⟨λA σ H ρ n Q R E P hf k=>?_⟩⟩;refine L.run A σ H ρ n _ _ E P hf λx Y Z H1 r1 b1 q=>?_;exact U.run A σ H1 ρ Y _ _ (E.stay q.st) q.pn r1 λxs n2 vs H2 r2 b2 g2=>k _ n2 _ H2 r2 ⟨Z,vs,rfl,b1.stay g2.st,b2⟩ (q.trans g2)
def lim:Nat:=500000
def zdE(h:n<=lim):n<=sizeLine:=ah h (by decide)
def zfB(h:n<=lim):n<sizeLine:=be h (by decide)
def dts:List W->Option (List Dt)
 | []=>some []
 | .d x::r=>(dts r).map (x::·)
 | _::_=>none
def zbQ.dts:∀ {q:List W} {vs:List V} {l:List Dt},zbQ A H q vs->dts q=some l->IsL (zG A H) l vs
 | [],vs,l,h,e=>by cases e;exact h
 | .d x::q,vs,l,⟨v,r,B,h1,h2⟩,e=>by obtain⟨l',F,rfl⟩:=ay.mp e;exact⟨v,r,B,h1.is,zbQ.dts h2 F⟩
 | .pen _::_,_,_,_,e=>by cases e
 | .dk _::_,_,_,_,e=>by cases e
 | .dt _::_,_,_,_,e=>by cases e
 | .ss _ _ _::_,_,_,_,e=>by cases e
 | .dn _ _::_,_,_,_,e=>by cases e
 | .wd _ _ _::_,_,_,_,e=>by cases e
 | .lf _::_,_,_,_,e=>by cases e
 | .df _::_,_,_,_,e=>by cases e
 | .kf _::_,_,_,_,e=>by cases e
 | .fl _::_,_,_,_,e=>by cases e
 | .ad _ _::_,_,_,_,e=>by cases e
 | .tz _ _::_,_,_,_,e=>by cases e
def zbQ.len:∀ {q:List W} {vs:List V},zbQ A H q vs->vs.length=q.length
 | [],_,h=>by cases h;rfl
 | _::q,vs,⟨v,r,e,_,h2⟩=>by rw[e,aN,aN,zbQ.len h2]
def zc9 {A:Addr->Prop}{H H':Hp}{p:Addr}{xs:List V}{l:List Dt}(q:IsL (zG A H) l xs)(s:zn H H')(n:¬ A p)(g:H' p=some (.tup xs)):Val A H' (.d (.tup l)) (.ref p):=
 Val.of ⟨p,xs,rfl,zi n g,q.stay (zN s)⟩
def zbO {A:Addr->Prop}{H H':Hp}{p:Addr}{xs:List V}{l:List Dt}(q:IsL (zG A H) l xs)(s:zn H H')(n:¬ A p)(g:H' p=some (.lst xs)):Val A H' (.d (.lst l)) (.ref p):=
 Val.of ⟨p,xs,rfl,.inl (zi n g),q.stay (zN s)⟩
def za5 {A:Addr->Prop}{H H':Hp}{p:Addr}{xs:List V}{l:List Dt}(q:IsL (zG A H) l xs)(s:yz H H')(n:H p=none)(g:H' p=some (.lst xs)):FrV A H H' (.d (.lst l)) (.ref p):=
 ⟨p,rfl,.of n,⟨_,g,rfl⟩,p,xs,rfl,.inl g,q.stay (yI (zn.same s) (.of n))⟩
@[reducible] def zry:Nat->List W->(List Dt->Prop)->Prop
 | _,[],P=>P []
 | k+1,.d x::r,P=>zry k r λl=>P (x::l)
 | _,_,_=>False
def zcT:∀ {k:Nat} {l:List W} {P:List Dt->Prop},zry k l P->∃ds,dts l=some ds/\P ds/\l.length<=k
 | 0,[],P,h=>⟨[],rfl,h,a6 _⟩
 | k+1,[],P,h=>⟨[],rfl,h,a6 _⟩
 | 0,.d x::r,P,h=>h.elim
 | k+1,.d x::r,P,h=>by obtain⟨ds,e,h2,q⟩:=zcT (k:=k) (l:=r) (P:=λl=>P (x::l)) h;exact⟨x::ds,by simp[dts,e],h2,Nat.succ_le_succ q⟩
 | 0,.pen _::r,P,h=>h.elim
 | k+1,.pen _::r,P,h=>h.elim
 | 0,.dk _::r,P,h=>h.elim
 | k+1,.dk _::r,P,h=>h.elim
 | 0,.dt _::r,P,h=>h.elim
 | 0,.ss _ _ _::r,P,h=>h.elim
 | 0,.dn _ _::r,P,h=>h.elim
 | 0,.wd _ _ _::r,P,h=>h.elim
 | 0,.lf _::r,P,h=>h.elim
 | 0,.df _::r,P,h=>h.elim
 | 0,.kf _::r,P,h=>h.elim
 | 0,.fl _::r,P,h=>h.elim
 | 0,.ad _ _::r,P,h=>h.elim
 | 0,.tz _ _::r,P,h=>h.elim
 | k+1,.dt _::r,P,h=>h.elim
 | k+1,.ss _ _ _::r,P,h=>h.elim
 | k+1,.dn _ _::r,P,h=>h.elim
 | k+1,.wd _ _ _::r,P,h=>h.elim
 | k+1,.lf _::r,P,h=>h.elim
 | k+1,.df _::r,P,h=>h.elim
 | k+1,.kf _::r,P,h=>h.elim
 | k+1,.fl _::r,P,h=>h.elim
 | k+1,.ad _ _::r,P,h=>h.elim
 | k+1,.tz _ _::r,P,h=>h.elim
@[reducible] def zsU (fa:Ev->Mo (List W)):Ev->Mo W:=λρ n Q=>fa ρ n λq m=>zry 200 q λl=>Q (.d (.tup l)) m
def z9{x1}(h:JA X Pn M es fs):JE X Pn M false (.Tuple es x1 pos) (zsU fs):=by obtain⟨ta,q,B⟩:=h.ex;refine⟨_,zeS q,⟨λA σ H ρ n Q R E P hf k=>?_⟩⟩;refine B.run A σ H ρ n _ _ E P hf λL m vs H1 F b g=>?_;obtain⟨l,e,r,I⟩:=zcT F;refine⟨zdE (by rw[b.len];exact ah I (by decide)),λp H2 np J S=>?_⟩;exact k _ m _ H2 r (zc9 (b.dts e) (zn.same S) ((E.stay g.st).new np) J) (g.trans (Go.same g.pn S)) λz=>by cases z
@[reducible] def zsN (fa:Ev->Mo (List W)):Ev->Mo W:=λρ n Q=>fa ρ n λq m=>zry 200 q λl=>Q (.d (.lst l)) m
def xU(h:JA X Pn M es fs):JE X Pn M true (.List es pos) (zsN fs):=by obtain⟨ta,B,F⟩:=h.ex;refine⟨_,zil B,⟨λA σ H ρ n Q R E P hf k=>?_⟩⟩;refine F.run A σ H ρ n _ _ E P hf λL m vs H1 I b g=>?_;obtain⟨l,e,r,J⟩:=zcT I;refine⟨zdE (by rw[b.len];exact ah J (by decide)),λp H2 np q S=>?_⟩;exact k _ m _ H2 r (zbO (b.dts e) (zn.same S) ((E.stay g.st).new np) q) (g.trans (Go.same g.pn S)) λ_=>(za5 (b.dts e) S np q).back g.st
def zZ {id:String}{r:List V->Hp->VK->Prop}{F:List W->Mo W}{x:Str}{fs:Ev->Mo (List W)}(I:CallQ X (.builtin id) r)(J:FL Pn fr r F)(L:Gl X x)(O:X.mg x=none)(U:bootBuiltins x=some (.builtin id))(Y:JAB X Pn M (e::es) fs)(Z:x ≠ "__name__" := by decide)(q:(x==("__debug__" : Str))=false:=by decide)
  (he:starEach (e::es) X.env=(false,eval e X.env)::starEach es X.env:=by rfl) (B:(backTo pos (starEach es X.env)).any (·.1)=false:=by rfl):JE X Pn M fr (.Call (.Name x p) (e::es) [] pos) (zsD F fs):=by
 obtain⟨ta,qa,ra⟩:=Y.ex;exact⟨_,yq I L O U qa Z q he B,zqy J ra⟩
def xl(I:CallQ X (.type T) r)(J:FL Pn fr r F)(L:Gl X x)(O:X.mg x=none)(U:bootBuiltins x=some (.type T))(Y:JAB X Pn M (e::es) fs)(Z:x ≠ "__name__" := by decide)(q:(x==("__debug__" : Str))=false:=by decide)(he:starEach (e::es) X.env=(false,eval e X.env)::starEach es X.env:=by rfl)(B:(backTo pos (starEach es X.env)).any (·.1)=false:=by rfl):JE X Pn M fr (.Call (.Name x p) (e::es) [] pos) (zsD F fs):=by
 obtain⟨ta,qa,ra⟩:=Y.ex;exact⟨_,zbv I L O U qa Z q he B,zqy J ra⟩
end
open PySem L2
section
variable {Pn:PN}{K:PySem.W.Frag}{A:Addr->Prop}{H:Hp}
def xt{i:Int}(h:Bor A H (.d (.int i)) v):v = .int i:=h
def xF(h:Bor A H (.d (.tup l)) v):∃a xs,v = .ref a/\H a=some (.tup xs)/\IsL (zG A H) l xs:=by obtain⟨a,xs,e,h1,h2⟩:=h;exact⟨a,xs,e,zl _ _ h1,h2⟩
def xu(h:Bor A H (.d (.lst l)) v):∃a xs,v = .ref a/\Rd H a (.lst xs)/\IsL (zG A H) l xs:=h
def zlK(h:Bor A H (.d (.lst l)) v\/Bor A H (.d (.tup l)) v):∃a xs,v = .ref a/\(SqL K H a xs\/SqT K H a xs)/\IsL (zG A H) l xs:=by
 rcases h with h | h
 ·obtain⟨a,xs,e,h1,h2⟩:=xu h;exact⟨a,xs,e,.inl (.inl h1),h2⟩
 ·obtain⟨a,xs,e,h1,h2⟩:=xF h;exact⟨a,xs,e,.inr (.of h1),h2⟩
def fI (C:Int->Int->Prop)(g:Int->Int->Dt):W->W->Mo W:=λx y n Q=>∃i j,x = .d (.int i)/\y = .d (.int j)/\C i j/\Q (.d (g i j)) n
def fI0 (g:Int->Int->Dt):W->W->Mo W:=λx y n Q=>∃i j,x = .d (.int i)/\y = .d (.int j)/\Q (.d (g i j)) n
def f2_I {C:Int->Int->Prop}{g:Int->Int->V}{g':Int->Int->Dt}(B:∀i j G,Is G (g' i j) (g i j)):F2 Pn false (rI C g) (fI C g'):=⟨by
 rintro A H x y wx L n Q R O F q P ⟨i,j,I,J,c,r⟩ k;subst I J;exact⟨i,j,xt F,xt q,c,k _ n _ H r (Val.of (B _ _ _)) (Go.refl P) λz=>by cases z⟩⟩
def zjm {g:Int->Int->V}{g':Int->Int->Dt}(B:∀i j G,Is G (g' i j) (g i j)):F2 Pn false (rI0 g) (fI0 g'):=⟨by
 rintro A H x y wx L n Q R O F q P ⟨i,j,I,J,r⟩ k;subst I J;exact⟨i,j,xt F,xt q,k _ n _ H r (Val.of (B _ _ _)) (Go.refl P) λz=>by cases z⟩⟩
abbrev fAdd:=fI0 λi j=>.int (i+j)
abbrev fSub:=fI0 λi j=>.int (i - j)
abbrev fMul:=fI zkP λi j=>.int (i * j)
abbrev fMod:=fI (λ_ j=>0<j) λi j=>.int (i % j)
abbrev fLe:=fI0 λi j=>.bl (decide (i<=j))
abbrev fGt:=fI0 λi j=>.bl (decide (j<i))
def ztQ:F2 Pn false (rI0 λi j=>.int (i+j)) fAdd:=zjm λ_ _ _=>rfl
def zt2:F2 Pn false (rI0 λi j=>.int (i - j)) fSub:=zjm λ_ _ _=>rfl
def ztZ:F2 Pn false (rI zkP λi j=>.int (i * j)) fMul:=f2_I λ_ _ _=>rfl
def ztY:F2 Pn false (rI (λ_ j=>0<j) λi j=>.int (i % j)) fMod:=f2_I λ_ _ _=>rfl
def v_le:F2 Pn false (rI0 λi j=>.bl (decide (i<=j))) fLe:=zjm λ_ _ _=>rfl
def v_gt:F2 Pn false (rI0 λi j=>.bl (decide (j<i))) fGt:=zjm λ_ _ _=>rfl
def zsg:W->Mo W:=λx n Q=>∃i,x = .d (.int i)/\Q (.d (.int (-i))) n
def zt1:F1 Pn false (rU λi=>.int (-i)) zsg:=⟨by
 rintro A H x wx n Q R B q P ⟨i,e,r⟩ k;subst e;exact⟨i,xt q,k _ n _ H r (Val.of rfl) (Go.refl P) λz=>by cases z⟩⟩
@[reducible] def sEq:Dt->Dt->Option Bool
 | .int i,.int j=>some (decide (i=j))
 | .bl i,.bl j=>some (decide (i=j))
 | .str i,.str j=>some (decide (i=j))
 | .non,.non=>some true
 | .non,.int _=>some false
 | .int _,.non=>some false
 | .non,.bl _=>some false
 | .bl _,.non=>some false
 | .non,.str _=>some false
 | .str _,.non=>some false
 | .int _,.str _=>some false
 | .str _,.int _=>some false
 | _,_=>none
def plain:Dt->Option V
 | .int i=>some (.int i)
 | .bl i=>some (.bl i)
 | .str i=>some (.str i)
 | .non=>some .non
 | _=>none
def zlw(h:sEq a b=some r):∃x y,plain a=some x/\plain b=some y/\ztz x y=true/\decide (x=y)=r:=by cases a <;> cases b <;> cases h <;> refine⟨_,_,rfl,rfl,rfl,?_⟩ <;> first | rfl | exact aQ (by lia) | exact decide_eq_decide.mpr (by simp)
def uL(h:Bor A H (.d a) v)(e:plain a=some x):v=x:=by cases a <;> cases e <;> exact h
def fEq:W->W->Mo W:=λx y n Q=>∃a b r,x = .d a/\y = .d b/\sEq a b=some r/\Q (.d (.bl r)) n
def fNe:W->W->Mo W:=λx y n Q=>∃a b r,x = .d a/\y = .d b/\sEq a b=some r/\Q (.d (.bl (!r))) n
def v_eq:F2 Pn false rEq fEq:=⟨by
 rintro A H x y wx J n Q R L B q P ⟨a,b,r,F,I,e,h⟩ k;subst F I;obtain⟨O,U,p1,p2,s,d⟩:=zlw e;obtain rfl:=uL B p1;obtain rfl:=uL q p2;exact⟨s,k _ n _ H h (Val.of (by rw[d];rfl)) (Go.refl P) λz=>by cases z⟩⟩
def v_ne:F2 Pn false rNe fNe:=⟨by
 rintro A H x y wx J n Q R L B q P ⟨a,b,r,F,I,e,h⟩ k;subst F I;obtain⟨O,U,p1,p2,s,d⟩:=zlw e;obtain rfl:=uL B p1;obtain rfl:=uL q p2;exact⟨s,k _ n _ H h (Val.of (by rw[d];rfl)) (Go.refl P) λz=>by cases z⟩⟩
def zsa:W->W->Mo W:=λx y n Q=>∃a b,x = .d a/\y = .d b/\a.eqOk/\b.eqOk/\∀r:Bool,(r=true↔a=b)->Q (.d (.bl r)) n
def zsf:W->W->Mo W:=λx y n Q=>∃a b,x = .d a/\y = .d b/\a.eqOk/\b.eqOk/\∀r:Bool,(r=true↔a=b)->Q (.d (.bl (!r))) n
def ztT:F2 Pn false zrA zsa:=⟨by
 rintro A H x y wx U n Q R Y B q P ⟨a,b,F,I,J,L,h⟩ k;subst F I;exact⟨a,b,B.is,q.is,J,L,λr O=>k _ n _ H (h r O) (Val.of rfl) (Go.refl P) λz=>by cases z⟩⟩
def zt0:F2 Pn false zrD zsf:=⟨by
 rintro A H x y wx U n Q R Y B q P ⟨a,b,F,I,J,L,h⟩ k;subst F I;exact⟨a,b,B.is,q.is,J,L,λr O=>k _ n _ H (h r O) (Val.of rfl) (Go.refl P) λz=>by cases z⟩⟩
def zsb (q:Bool):W->W->Mo W:=λx y n Q=>∃d ds,x = .d d/\(y = .d (.lst ds)\/y = .d (.tup ds))/\d.eqOk/\(Dt.lst ds).eqOk/\∀b:Bool,(b=true↔d∈ds)->Q (.d (.bl (if q then !b else b))) n
def ztU:F2 Pn false (ztr q) (zsb q):=⟨by
 rintro A H x y wx Y n Q R Z F B P ⟨d,ds,I,J,L,O,h⟩ k;subst I;refine⟨d,ds,F.is,?_,L,O,λb U=>k _ n _ H (h b U) (Val.of rfl) (Go.refl P) λz=>by cases z⟩;rcases J with rfl | rfl
 ·exact .inl B.is
 ·exact .inr B.is⟩
def zk6{i:Int}(h:IsL G l xs)(e:atI l i=some d):∃v,atI xs i=some v/\Is G d v:=by
 unfold atI at e ⊢;rw[h.length];obtain⟨j,h1,h2⟩:=dF.mp e;obtain⟨v,q,B⟩:=h.getD h2
 simp_all
def zsd:W->W->Mo W:=λx y n Q=>∃l i d,x = .d (.tup l)/\y = .d (.int i)/\atI l i=some d/\Q (.d d) n
def zsc:W->W->Mo W:=λx y n Q=>∃l i d,x = .d (.lst l)/\y = .d (.int i)/\atI l i=some d/\Q (.d d) n
def ztW:F2 Pn false (zrC K) zsd:=⟨by
 rintro A H x y wx U n Q R Y B q P ⟨l,i,d,F,I,e,h⟩ k;subst F I;obtain⟨a,xs,J,L,O⟩:=xF B;obtain⟨v,h1,h2⟩:=zk6 O e;exact⟨a,xs,i,v,J,xt q,.of L,h1,k _ n _ H h (Val.of h2) (Go.refl P) λz=>by cases z⟩⟩
def ztV:F2 Pn false (zrB K) zsc:=⟨by
 rintro A H x y wx U n Q R Y B q P ⟨l,i,d,F,I,e,h⟩ k;subst F I;obtain⟨a,xs,J,L,O⟩:=xu B;obtain⟨v,h1,h2⟩:=zk6 O e;exact⟨a,xs,i,v,J,xt q,.inl L,h1,k _ n _ H h (Val.of h2) (Go.refl P) λz=>by cases z⟩⟩
def zlU:W->W->Mo W:=λx y n Q=>∃l m,x = .d (.tup l)/\y = .d (.tup m)/\l.length+m.length<=lim/\Q (.d (.tup (l++m))) n
def zrh:F2 Pn false (ziw K) zlU:=⟨by
 rintro A H x y wx wy n Q R I J q P ⟨l,m,L,O,z,h⟩ k;subst L O;obtain⟨a,xs,U,Y,B⟩:=xF J;obtain⟨b,ys,Z,hb,F⟩:=xF q;refine⟨a,b,xs,ys,U,Z,Y,hb,zdE (by rw[B.length,F.length];exact z),λp H' g S=>?_⟩;exact k _ n _ H' h (zc9 (B.append F) (zn.same S) (I.noT' (zn.same S) g) g) (Go.same P S) λz=>by cases z⟩
def zlT:W->W->Mo W:=λx y n Q=>∃l m,x = .d (.lst l)/\y = .d (.lst m)/\l.length+m.length<=lim/\Q (.d (.lst (l++m))) n
def zrg:F2 Pn true znH zlT:=⟨by
 rintro A H x y wx wy n Q R I J q P ⟨l,m,L,O,z,h⟩ k;subst L O;obtain⟨a,xs,U,Y,B⟩:=xu J;obtain⟨b,ys,Z,hb,F⟩:=xu q;refine⟨a,b,xs,ys,U,Z,Y,hb,zdE (by rw[B.length,F.length];exact z),λp H' np g S=>?_⟩;exact k _ n _ H' h (zbO (B.append F) (zn.same S) (I.new np) g) (Go.same P S) λz=>za5 (B.append F) S np g⟩
@[reducible] def lenD:W->Option Nat
 | .d (.lst l)=>some l.length
 | .d (.tup l)=>some l.length
 | _=>none
def zse:List W->Mo W:=λq n Q=>∃x k,q=[x]/\lenD x=some k/\Q (.d (.int (k:Int))) n
def zaH(h:zn5 A H [w] vs):∃v,vs=[v]/\Bor A H w v:=by obtain⟨v,r,e,h1,h2⟩:=h;cases h2;exact⟨v,e,h1⟩
def ztX:FL Pn false (λxs H Q=>∃x n,xs=[x]/\zrn K x H n/\Q (.int n) H) zse:=⟨by
 rintro A H xs L n Q R O b P ⟨x,j,J,q,h⟩ k;subst J;obtain⟨v,rfl,I⟩:=zaH b;refine⟨v,j,rfl,?_,k _ n _ H h (Val.of rfl) (Go.refl P) λz=>by cases z⟩
 cases x with
 | d x=>
  cases x with
  | lst l=>
   cases q;obtain⟨a,ys,rfl,B,F⟩:=xu I;exact .inl ⟨ys,.inl B,F.length.symm⟩
  | tup l=>
   cases q;obtain⟨a,ys,rfl,B,F⟩:=xF I;exact .inr ⟨ys,.of B,F.length.symm⟩
  | _=>cases q
 | _=>cases q⟩
def zex:∀ {bs:List Bool} {xs:List V},IsL G (bs.map .bl) xs->xs=bs.map V.bl
 | [],_,h=>h
 | b::bs,xs,h=>by obtain⟨y,r,rfl,h1,h2⟩:=h;cases h1;rw[zex h2];rfl
def zr8:List W->Mo W:=λq n Q=>∃bs:List Bool,q=[.d (.lst (bs.map .bl))]/\Q (.d (.bl (bs.all id))) n
def ztR:FL Pn false (λxs H Q=>∃ (p:Addr) (bs:List Bool),xs=[.ref p]/\Rd H p (.lst (bs.map V.bl))/\Q (.bl (bs.all id)) H) zr8:=⟨by
 rintro A H xs J n Q R L b P ⟨bs,q,h⟩ k;subst q;obtain⟨v,rfl,B⟩:=zaH b;obtain⟨a,ys,rfl,F,I⟩:=xu B;obtain rfl:=zex I;exact⟨a,bs,rfl,F,k _ n _ H h (Val.of rfl) (Go.refl P) λz=>by cases z⟩⟩
def zoR:List W->Mo W:=λq n Q=>∃l,(q=[.d (.lst l)]\/q=[.d (.tup l)])/\Q (.d (.lst l)) n
def zri:FL Pn true (ziy K) zoR:=⟨by
 rintro A H xs L n Q R B b P ⟨l,F,h⟩ k
 obtain⟨v,rfl,I⟩:∃v,xs=[v]/\(Bor A H (.d (.lst l)) v\/Bor A H (.d (.tup l)) v):=by
  rcases F with rfl | rfl
  ·obtain⟨v,e,h⟩:=zaH b;exact⟨v,e,.inl h⟩
  ·obtain⟨v,e,h⟩:=zaH b;exact⟨v,e,.inr h⟩
 obtain⟨a,ys,rfl,J,q⟩:=zlK (K:=K) I;exact⟨a,ys,rfl,J,λp H' np g S=>k _ n _ H' h (zbO q (zn.same S) (B.new np) g) (Go.same P S) λz=>za5 q S np g⟩⟩
def zk3:List W->Mo W:=λq n Q=>∃l,(q=[.d (.lst l)]\/q=[.d (.tup l)])/\Q (.d (.tup l)) n
def zn0:FL Pn false (zeY K) zk3:=⟨by
 rintro A H xs L n Q R I b P ⟨l,J,h⟩ k;rcases J with rfl | rfl
 ·obtain⟨v,rfl,B⟩:=zaH b;obtain⟨a,ys,rfl,q,F⟩:=xu B;exact⟨a,ys,rfl,.inl ⟨.inl q,λp H' np g S=>k _ n _ H' h (zc9 F (zn.same S) (I.new np) g) (Go.same P S) λz=>by cases z⟩⟩
 ·obtain⟨v,rfl,B⟩:=zaH b;obtain⟨a,ys,e,q,F⟩:=id B;subst e;exact⟨a,ys,rfl,.inr ⟨.of (zl _ _ q),k _ n _ H h (Val.of ⟨a,ys,rfl,q,F⟩) (Go.refl P) λz=>by cases z⟩⟩⟩
def zdc {α:Type}(xs:List α)(lo hi:Option Int):List α:=(xs.drop (HT.sIx xs.length 0 lo)).take (HT.sIx xs.length xs.length hi - HT.sIx xs.length 0 lo)
def zmg{lo hi:Option Int}(h:IsL G l xs):IsL G (zdc l lo hi) (zgt xs lo hi):=by unfold zdc zgt;rw[h.length];exact (h.drop _).take _
def zS {κ:Type}[DecidableEq κ](kvs:List (κ×Dt))(k:κ):Option Dt:=(kvs.find? λq=>decide (q.1=k)).map (·.2)
def xh.look {κ:Type}[DecidableEq κ]{G:Hp}{k:κ}:∀ {kvs:List (κ×Dt)} {ks:List (κ×V)},xh G kvs ks->(zS kvs k=none->xg ks k=none)/\∀d,zS kvs k=some d->∃v,xg ks k=some v/\Is G d v
 | [],_,h=>by cases h;exact⟨λ_=>rfl,λd e=>by cases e⟩
 | q::r,ks,⟨v,s,e,h1,h2⟩=>by
  subst e;have F:=xh.look (k:=k) h2;by_cases B:q.1=k
  ·refine⟨λz=>?_,λd z=>?_⟩
   ·simp[zS,bf,B] at z
   ·simp[zS,bf,B] at z;subst z;exact⟨v,zI B,h1⟩
  ·have I:zS (q::r) k=zS r k:=by simp[zS,bf,B]
   rw[I,zC B];exact F
end
open PySem L2
section
variable {X:Cx}{Pn:PN}{M S:List Nat}{fr:Bool}{e a b c:Expr}{es:List Expr}{f fa fb fc:Ev->Mo W}{pos p:Pos}
def zcD(q:IxQ X r)(B:F2 Pn fr r F)(I:JB X Pn M a fa)(J:JB X Pn M b fb)(L:zee b):JE X Pn M fr (.Subscript a b pos) (zph F fa fb):=by obtain⟨ta,O,U⟩:=I.ex;obtain⟨tb,Y,Z⟩:=J.ex;exact⟨_,zqp q O Y L,zky B U Z⟩
@[reducible] def zmJ:Ev->Mo (Option Int):=λ_ n Q=>Q none n
def zmK (fa:Ev->Mo W):Ev->Mo (Option Int):=λρ n Q=>fa ρ n λx m=>∃i,x = .d (.int i)/\Q (some i) m
def xV:JO X Pn M none zmJ:=⟨_,zio,λA σ H ρ n Q R E P hf k=>k none n H hf (Go.refl P)⟩
def xW (h:JB X Pn M e f):JO X Pn M (some e) (zmK f):=by obtain⟨te,q,r⟩:=h.ex;refine⟨_,ziq q,λA σ H ρ n Q R E P hf k=>?_⟩;refine r.run A σ H ρ n _ _ E P hf  ?_;rintro w m v H' ⟨i,e,r⟩ B g;subst e;exact⟨i,xt B,k (some i) m H' r g⟩
def zsS (fa:Ev->Mo W)(fl q:Ev->Mo (Option Int)):Ev->Mo W:=λρ n Q=>fa ρ n λx B=>fl ρ B λlo F=>q ρ F λhi I=>∃l,x = .d (.tup l)/\Q (.d (.tup (zdc l lo hi))) I
def zdv{fl I:Ev->Mo (Option Int)}(L:JB X Pn M e f)(B:JO X Pn M lo fl)(O:JO X Pn M hi I):JE X Pn M false (.Subscript e (.Slice lo hi none p2) pos) (zsS f fl I):=by obtain⟨te,U,Y⟩:=L.ex;obtain⟨tl,Z,rl⟩:=B.ex;obtain⟨th,qh,rh⟩:=O.ex;refine⟨_,zfK znP U Z qh,⟨λA σ H ρ n Q R E P hf k=>?_⟩⟩;refine Y.run A σ H ρ n _ _ E P hf λw m v H1 r1 bb q=>?_;refine rl A σ H1 ρ m _ _ (E.stay q.st) q.pn r1 λo m2 H2 r2 g2=>?_;refine rh A σ H2 ρ m2 _ _ ((E.stay q.st).stay g2.st) g2.pn r2  ?_;rintro o3 m3 H3 ⟨l,e,r3⟩ F;subst e;have g:=(q.trans g2).trans F;obtain⟨ad,xs,rfl,ha,B⟩:=xF (bb.stay (g2.trans F).st);exact⟨ad,xs,rfl,ha,λp H' J S=>k _ m3 _ H' r3 (zc9 (zmg B) (zn.same S) (Al.noT' (E.stay g.st).al (zn.same S) J) J) (g.trans (Go.same F.pn S)) λz=>by cases z⟩
def zhk:∀ {ds:List Dt} {xs:List V},IsL G ds xs->IsL G ds.reverse xs.reverse
 | [],_,h=>by cases h;rfl
 | d::ds,xs,h=>by obtain⟨x,r,rfl,h1,h2⟩:=h;rw[cT,cT];exact (zhk h2).append (IsL.one h1)
@[reducible] def zmu:W->Option Key
 | .d (.int i)=>some (Sum.inl i)
 | .d (.str x)=>some (Sum.inr x)
 | _=>none
def zk9(h:Bor A H w v)(e:zmu w=some k):v=kV k:=by
 cases w with
 | d x=>
  cases x with
  | int i=>cases e;exact h
  | str i=>cases e;exact h
  | _=>cases e
 | _=>cases e
def zmE (fd fk:Ev->Mo W):Ev->Mo W:=λρ n Q=>fd ρ n λx q=>fk ρ q λy B=>∃kvs k d,x = .dk kvs/\zmu y=some k/\zS kvs k=some d/\Q (.d d) B
def zpj (q:Bool)(fk fd:Ev->Mo W):Ev->Mo W:=λρ n Q=>fk ρ n λy B=>fd ρ B λx F=>∃kvs k,x = .dk kvs/\zmu y=some k/\Q (.d (.bl (if q then !(zS kvs k).isSome else (zS kvs k).isSome))) F
def zkU(h:Bor A H (.dk kvs) v):∃a ks,v = .ref a/\H a=some (.dK ks)/\xh (zG A H) kvs ks/\xg ks (Sum.inr "at" : Key)=none:=h
def zo5 (F:X.A.units+1<cLine)(I:JB X Pn M a fa)(J:JB X Pn M b fb)(L:zn8 b):JE X Pn M false (.Subscript a b pos) (zmE fa fb):=by obtain⟨ta,O,U⟩:=I.ex;obtain⟨tb,Y,Z⟩:=J.ex;refine⟨_,yR F O Y L,⟨λA σ H ρ n Q R E P hf k=>?_⟩⟩;refine U.run A σ H ρ n _ _ E P hf λw1 m1 v1 H1 r1 b1 q=>?_;refine Z.run A σ H1 ρ m1 _ _ (E.stay q.st) q.pn r1  ?_;rintro w2 m2 v2 H2 ⟨kvs,ky,d,e1,e2,e3,r⟩ b2 g2;subst e1;obtain⟨ad,ks,rfl,B,hk,_⟩:=zkU (b1.stay g2.st);obtain⟨v,h1,h2⟩:=(hk.look (k:=ky)).2 d e3;refine⟨ad,v,rfl,?_,k _ m2 _ H2 r (Val.of h2) (q.trans g2) λz=>by cases z⟩;rw[zk9 b2 e2,<- h1];exact zaV.k B
def zqz(J:RB Pn M ta fa)(L:RB Pn M tb fb):RE Pn M false (ztD ta tb) (zpj false fa fb):=⟨λA σ H ρ n Q R E P hf k=>by
 refine J.run A σ H ρ n _ _ E P hf λw1 O v1 H1 U Y B=>?_;refine L.run A σ H1 ρ O _ _ (E.stay B.st) B.pn U  ?_;rintro w2 Z v2 H2 ⟨kvs,q,e1,e2,r⟩ b2 g2;subst e1;obtain⟨ad,ks,rfl,F,I,_⟩:=zkU b2;refine⟨ad,xg ks q,rfl,by rw[zk9 Y e2];exact zaV.k F,k _ Z _ H2 r (Val.of ?_) (B.trans g2) λz=>by cases z⟩
 have:(xg ks q).isSome=(zS kvs q).isSome:=by
  cases e:zS kvs q with
  | none=>rw[(I.look (k:=q)).1 e];rfl
  | some d=>obtain⟨v,h1,_⟩:=(I.look (k:=q)).2 d e;rw[h1];rfl
 rw[this];rfl⟩
def zo9 (q:X.A.units+1<cLine)(B:JB X Pn M a fa)(F:JB X Pn M b fb)(h1:behindInMarks .In b=false:=by first | exact uU _ (by decide) (by decide) | rfl):JT X Pn M (.Compare a [.In] [b] pos) (zld (zpj false fa fb)):=by obtain⟨ta,I,J⟩:=B.ex;obtain⟨tb,L,O⟩:=F.ex;exact⟨_,zlq (zqk q I L) h1,zqK (zqz J O).rb⟩
@[reducible] def prD (q:Int×Dt):Dt:=.tup [.int q.1,q.2]
def kvD (q:Int×Dt):Key×Dt:=(Sum.inl q.1,q.2)
def zhb:List W->Mo W:=λq n Q=>∃ps:List (Int×Dt),q=[.d (.tup (ps.map prD))]/\(ps.map (·.1)).Nodup/\ps.length<=1000/\Q (.dk (ps.map kvD)) n
def zlm(s:yz G H):∀ {ps:List (Int×Dt)} {xs:List V},IsL G (ps.map prD) xs->∃B:List (Addr×Int×V),xs=B.map (λq=>V.ref q.1)/\(∀q∈B,H q.1=some (.tup [.int q.2.1,q.2.2]))/\B.map (·.2.1)=ps.map (·.1)/\xh G (ps.map kvD) (B.map λq=>((Sum.inl q.2.1:Key),q.2.2))
 | [],xs,h=>by cases h;exact⟨[],rfl,λ_ h=>by simp at h,rfl,rfl⟩
 | p::ps,xs,h=>by
  obtain⟨x,r,rfl,⟨L,ys,rfl,F,y0,r0,rfl,O,J,r1,rfl,h1,h2⟩,U⟩:=h;cases O;cases h2;obtain⟨B,rfl,Y,a2,Z⟩:=zlm s U;refine⟨(L,p.1,J)::B,rfl,λq I=>?_,by simp_all,J,_,rfl,h1,Z⟩;rcases ax.mp I with rfl | I
  ·exact s _ _ F
  ·exact Y q I
def zfV (ps:List (Addr×Int×V)):xg (ps.map λq=>((Sum.inl q.2.1:Key),q.2.2)) (Sum.inr "at" : Key)=none:=by
 induction ps with
 | nil=>rfl
 | cons q ps B=>
  rw[ao,zC (by simp)];exact B
def znZ:FL Pn true zix zhb:=⟨by
 rintro A H xs ws n Q R O b P ⟨ps,U,B,hz,h⟩ k;subst U;obtain⟨v,rfl,Y⟩:=zaH b;obtain⟨Z,ys,rfl,F,hl⟩:=xF Y;obtain⟨q,rfl,a1,I,J⟩:=zlm zl hl;have L:q.length=ps.length:=by have:=congrArg List.length I;simpa using this
 refine⟨Z,q,rfl,⟨F,a1⟩,by rw[I];exact B,by lia,λp H' np g S=>?_⟩;exact k _ n _ H' h ⟨p,_,rfl,zi (O.new np) g,J.stay (zN (zn.same S)),zfV q⟩ (Go.same P S) λz=>⟨p,rfl,.of np,⟨_,g,rfl⟩,p,_,rfl,g,J.stay (yI (zn.same S) (.of np)),zfV q⟩⟩
def spV (k:Nat)(fr:Bool)(F:PN->List W->Mo W):Sp:=λvs H Q _=>∃Pn A q n R,Al A H/\zbQ A H q vs/\q.length=k/\yA Pn A n H/\F Pn q n R/\∀w m v H',R w m->Val A H' w v->Go Pn A H m H'->(fr=true->FrV A H H' w v)->Q v H'
def mFn (k:Nat)(F:List W->Mo W)(fa:Ev->Mo (List W)):Ev->Mo W:=λρ n Q=>fa ρ n λq m=>q.length=k/\F q m Q
def ztu(q:RA Pn M ta fs):RE Pn M fr (zd4 (spV k fr F) [] E0 ta) (mFn k (F Pn) fs):=⟨λA σ H ρ n Q R E P hf kk=>by refine q.run A σ H ρ n _ _ E P hf  ?_;rintro B m vs H1 ⟨I,r⟩ b g;rw[bc];exact⟨Pn,A,B,m,R,(E.stay g.st).al,b,I,g.pn,r,λw J v H' h1 h2 L O=>kk w J v H' h1 h2 (g.trans L) λz=>(O z).back g.st⟩⟩
def yT(D:Dfn X.K X.mg x st ps fA fd)(G:FnOk X.prog X.w X.K X.mg X.base CX0 j fA fd ps (spV k fr F))(J:Room kk X.A)(L:JA X Pn M (e::es) fs)(q:j<=kk:=by decide)(O:Gl X x:=by rfl)(B:(x==("__debug__" : Str))=false:=by decide)(U:starEach (e::es) X.env=(false,eval e X.env)::starEach es X.env:=by rfl)(I:(backTo pos (starEach es X.env)).any (·.1)=false:=by rfl) :
  JE X Pn M fr (.Call (.Name x p) (e::es) [] pos) (mFn k (F Pn) fs):=by
 obtain⟨ta,Y,Z⟩:=L.ex;exact⟨_,zik D G J Y q O B U I,ztu Z⟩
@[reducible] def W.flat (fr:Bool):W->Bool
 | .d (.lst l)=>fr&&Dt.noLs l
 | .d x=>x.noL
 | .pen _=>true
 | .dk _=>false
 | .dt _=>false
 | .ss _ _ _=>false
 | .dn _ _=>false
 | .wd _ _ _=>false
 | .lf _=>false
 | .df _=>false
 | .kf _=>false
 | .fl _=>false
 | .ad _ _=>false
 | .tz _ _=>false
def zjr(F:Al A H)(s:zn H H')(h:Val A' H' w v)(hf:fr=true->FrV A' H H' w v)(fl:w.flat fr=true):Val A H' w v:=by
 have q:=F.stay s
 cases w with
 | d x=>
  cases x with
  | lst l=>
   rw[show W.flat fr (.d (.lst l))=(fr&&Dt.noLs l) from rfl,aH] at fl;obtain⟨ad,xs,rfl,B,I⟩:=h;obtain⟨Y,J,f2,_⟩:=hf fl.1;cases J
   have L:¬ A ad:=λz=>by obtain⟨o,O,U,_⟩:=F ad z;exact f2 o O U
   exact⟨ad,xs,rfl,B.sub.hid L,uD q.noT fl.2 (I.stay (zn.same zl))⟩
  | dct=>cases fl
  | non=>exact h
  | bl c=>exact h
  | int c=>exact h
  | str c=>exact h
  | tup l=>exact Val.of (zk8 q.noT fl ((Val.is h).stay (zn.same zl)))
 | pen p=>exact h
 | dk kvs=>cases fl
 | dt kvs=>cases fl
 | ss P w kvs=>cases fl
 | dn Z kvs=>cases fl
 | wd d fs kn=>cases fl
 | lf ls=>cases fl
 | df kvs=>cases fl
 | kf kvs=>cases fl
 | fl kvs=>cases fl
 | ad a x=>cases fl
 | tz kvs x=>cases fl
def zjq(L:Al A H)(s:zn H H')(h:Val A' H' w v)(hf:FrV A' H H' w v)(fl:w.flat true=true):FrV A H H' w v:=by
 obtain⟨I,B,f2,J,h2⟩:=hf;refine⟨I,B,f2,J,?_⟩;have F:=L.stay s
 cases w with
 | d x=>
  cases x with
  | lst l=>
   obtain⟨ad,xs,e,q,O⟩:=h2;rw[B] at e;cases e;refine⟨I,xs,B,q,uD (λb ys z g=>?_) (by lia) (O.stay (zn.same zl))⟩;rcases z with z | z
   ·exact F.noT b ys z g
   ·obtain⟨o,e,U⟩:=J;subst z;rw[e] at g;cases g;exact U.tup ys rfl
  | tup l=>
   obtain⟨ad,xs,e,q,_⟩:=h2;rw[B] at e;cases e;exact absurd rfl (λz=>(zx.mp q).1 (.inr z))
  | dct=>cases fl
  | non=>exact h2
  | bl c=>exact h2
  | int c=>exact h2
  | str c=>exact h2
 | pen p=>exact h2
 | dk kvs=>cases fl
 | dt kvs=>cases fl
 | ss P w kvs=>cases fl
 | dn Y kvs=>cases fl
 | wd d fs Z=>cases fl
 | lf ls=>cases fl
 | df kvs=>cases fl
 | kf kvs=>cases fl
 | fl kvs=>cases fl
 | ad a x=>cases fl
 | tz kvs x=>cases fl
def zsA (A:Addr->Prop)(vs:List V):Addr->Prop:=λb=>A b/\V.ref b∉vs
def zfd {A:Addr->Prop}{H:Hp}{all:List V}:∀ {J:List W} {vs:List V},(∀v∈vs,v∈all)->zn5 A H J vs->zbQ (zsA A all) H J vs
 | [],vs,_,h=>h
 | w::J,vs,L,⟨v,r,e,h1,h2⟩=>by
  subst e;refine⟨v,r,rfl,?_,zfd (by grind) h2⟩;have I:=L v aL;have q:yz (zG A H) (zG (zsA A all) H):=yk λb z=>z.1
  cases w with
  | d x=>
   cases x with
   | lst l=>obtain⟨ad,xs,rfl,B,F⟩:=h1;exact⟨ad,xs,rfl,B.hid (λz=>z.2 I),F.stay (zn.same q)⟩
   | dct=>obtain⟨ad,xs,rfl,B,F⟩:=h1;exact⟨ad,xs,rfl,zi (λz=>z.2 I) B,F⟩
   | non=>exact h1
   | bl c=>exact h1
   | int c=>exact h1
   | str c=>exact h1
   | tup l=>exact Is.stay (zn.same q) h1
  | pen p=>exact h1
  | dk kvs=>obtain⟨ad,xs,rfl,B,F,O⟩:=h1;exact⟨ad,xs,rfl,zi (λz=>z.2 I) B,F.stay (zn.same q),O⟩
  | dt kvs=>obtain⟨ad,xs,rfl,B,F⟩:=h1;exact⟨ad,xs,rfl,zi (λz=>z.2 I) B,F.stay (zn.same q)⟩
  | dn fz kvs=>obtain⟨ad,xs,rfl,B,h2,U⟩:=h1;exact⟨ad,xs,rfl,B.imp λo _ e=>zi (λz=>z.2 I) e,h2.stay (zn.same q),U.stay (zn.same q)⟩
  | wd d fs kn=>obtain⟨ad,xs,rfl,B,F⟩:=h1;exact⟨ad,xs,rfl,zi (λz=>z.2 I) B,F.stay (zn.same q)⟩
  | lf ls=>obtain⟨ad,xs,rfl,B,F⟩:=h1;exact⟨ad,xs,rfl,B.hid (λz=>z.2 I),F.stay (zn.same q)⟩
  | ss P w kvs=>obtain⟨ad,xs,rfl,B,F⟩:=h1;exact⟨ad,xs,rfl,zi (λz=>z.2 I) B,F.stay (zn.same q)⟩
  | df kvs=>obtain⟨ad,ob,xs,rfl,B,F⟩:=h1;exact⟨ad,ob,xs,rfl,zi (λz=>z.2 I) B,F.stay (zn.same q)⟩
  | kf kvs=>obtain⟨ad,ob,xs,rfl,B,F⟩:=h1;exact⟨ad,ob,xs,rfl,zi (λz=>z.2 I) B,F.stay (zn.same q)⟩
  | fl kvs=>obtain⟨ad,ob,xs,rfl,B,F⟩:=h1;exact⟨ad,ob,xs,rfl,zi (λz=>z.2 I) B,F.stay (zn.same q)⟩
  | ad a x=>exact⟨h1.1,Is.stay (zce (zn.same q)) h1.2⟩
  | tz kvs x=>obtain⟨a,b,ob,ks,y,e,Y,Z,z3,z4⟩:=h1;exact⟨a,b,ob,ks,y,e,q _ _ Y,q _ _ Z,z3.stay (zn.same q),z4.stay (zn.same q)⟩
def yA.more(h:yA Pn A n H)(h':yA Pn A' m H')(q:∀a,A a->A' a\/∃o,H' a=some o/\NP o/\Mt o):yA Pn A m H':=by
 refine⟨?_,Pn.J.grow h'.2 q⟩;have h:=h.1;have h':=h'.1;split at h
 all_goals simp_all
def yA.less(h:yA Pn A n H)(s:∀a,A' a->A a):yA Pn A' n H:=by
 refine⟨?_,Pn.J.grow h.2 λa z=>.inl (s a z)⟩;have h:=h.1;split at h
 ·trivial
 ·exact⟨h.1,λz=>h.2.1 (s _ z),λz=>h.2.2 (s _ z)⟩
def zrw (k:Nat)(fr:Bool)(F:List W->Mo W)(fa:Ev->Mo (List W)):Ev->Mo W:=λρ n Q=>fa ρ n λq m=>q.length=k/\F q m λw B=>w.flat fr=true/\Q w B
def zqA(J:RAB Pn M ta fs):RE Pn M fr (zd4 (spV k fr F) [] E0 ta) (zrw k fr (F Pn) fs):=⟨λA σ H ρ n Q R E P hf kk=>by refine J.run A σ H ρ n _ _ E P hf  ?_;rintro L m vs H1 ⟨O,r⟩ b g;rw[bc];have B:=(E.stay g.st).al;refine⟨Pn,zsA A vs,L,m,_,λa z=>B a z.1,zfd (λ_ z=>z) b,O,g.pn.less λa z=>z.1,r,?_⟩;rintro w U v H' ⟨fl,h1⟩ h2 q I;refine kk w U v H' h1 (zjr B q.st h2 I fl) (g.trans ⟨q.st,g.pn.more q.pn λa z=>let ⟨o,o1,o2,o3⟩:=B a z;.inr ⟨o,q.st _ _ o1 o2,o2,o3⟩⟩) λz=>?_;subst z;exact (zjq B q.st h2 (I rfl) fl).back g.st⟩
def zsp(D:Dfn X.K X.mg x st ps fA fd)(G:FnOk X.prog X.w X.K X.mg X.base CX0 j fA fd ps (spV k fr F))(J:Room kk X.A)(L:JAB X Pn M (e::es) fs)(q:j<=kk:=by decide)(O:Gl X x:=by rfl)(B:(x==("__debug__" : Str))=false:=by decide)(U:starEach (e::es) X.env=(false,eval e X.env)::starEach es X.env:=by rfl)(I:(backTo pos (starEach es X.env)).any (·.1)=false:=by rfl) :
  JE X Pn M fr (.Call (.Name x p) (e::es) [] pos) (zrw k fr (F Pn) fs):=by
 obtain⟨ta,Y,Z⟩:=L.ex;exact⟨_,zik D G J Y q O B U I,zqA Z⟩
end
open PySem L2
structure JG (X:Cx)(S M:List Nat)(e:Expr)(mg:W->Ev->(Ev->Prop)->Prop):Prop where
 ex:∃g,QG X e g/\RG S M g mg
structure JGs (X:Cx)(S M:List Nat)(es:List Expr)(mg:List Dt->Ev->(Ev->Prop)->Prop):Prop where
 ex:∃g,QGs X es g/\RGs S M g mg
structure JI (X:Cx)(Pn:PN)(M:List Nat)(ow:Bool)(tg e:Expr)(f:Ev->Mo (List W)):Prop where
 ex:∃wi,QI X tg e wi/\RI Pn M ow wi f
structure JTs (X:Cx)(Pn:PN)(M:List Nat)(es:List Expr)(f:Ev->Mo Bool):Prop where
 ex:∃t,QTs X es t/\RT Pn M t f
section
variable {X:Cx}{Pn:PN}{M S:List Nat}{fr:Bool}{e a b c:Expr}{es:List Expr}{f fa fb fc:Ev->Mo W}{pos p:Pos}
def gN (i:Nat):W->Ev->(Ev->Prop)->Prop:=λw ρ Q=>Q (ρ.set i (some w))
def gNl:List Dt->Ev->(Ev->Prop)->Prop:=λds ρ Q=>ds=[]/\Q ρ
def gCn (g:W->Ev->(Ev->Prop)->Prop)(u:List Dt->Ev->(Ev->Prop)->Prop):List Dt->Ev->(Ev->Prop)->Prop:=λds ρ Q=>∃d r,ds=d::r/\g (.d d) ρ λq=>u r q Q
def gTp (n:Nat)(u:List Dt->Ev->(Ev->Prop)->Prop):W->Ev->(Ev->Prop)->Prop:=λw ρ Q=>∃ds,w = .d (.tup ds)/\ds.length=n/\u ds ρ Q
def EnvR.set(E:EnvR A M σ H ρ)(hi:i∉M)(h:Val A H w v):EnvR A M (σ.set i (some v)) H (ρ.set i (some w)) where
 len:=by rw[bi,bi];exact E.len
 val:=λj u e=>by
  by_cases q:j=i
  ·subst q
   have J:j<ρ.length:=by
    have:=(aj.mp e).1
    simp_all
   rw[aP J] at e;cases e;exact⟨v,aP (by rw[E.len];exact J),λ_=>h,λz=>absurd z hi⟩
  ·rw[aq (Ne.symm q)] at e ⊢;exact E.val j u e
 dis:=λj k u Z ad q L B O U Y=>by have F:i≠j:=λz=>hi (z ▸ q);have I:i≠k:=λz=>hi (z ▸ L);rw[aq F] at O Y;rw[aq I] at U ⊢;exact E.dis j k u Z ad q L B O U Y
 al:=E.al
def zeZ(hi:i∉M)(q:i∉S):RG S M (zaK i) (gN i):=⟨λA σ H ρ v w Q R E h r k=>k _ _ r (E.set hi h) λj B=>⟨aq λ(z:i=j)=>q (by rw[z];exact B),aq λ(z:i=j)=>q (by rw[z];exact B)⟩⟩
def zm(q:X.N.Nodup)(B:X.N[i]?=some x:=by rfl)(F:Loc X.env.scope x:=by first | exact Or.inl rfl | exact Or.inr rfl)(hi:i∉M:=by decide)(I:i∉S:=by decide)(hf:X.fn x=true\/X.env.scope.names.lookup x=some .local:=by walk_at "l"):JG X S M (.Name x pos) (gN i):=⟨_,zbw q B F hf,zeZ hi I⟩
def uF:JGs X S M [] gNl:=⟨_,zny,⟨by
 rintro A σ H ρ vs ds Q R E h ⟨e,r⟩ k;subst e;exact⟨h,k σ ρ r E λ_ _=>⟨rfl,rfl⟩⟩⟩⟩
def zV(h1:JG X S M e g)(h2:JGs X S M es u)(J:(assignEach (e::es) X.env).map (·.2)=assign e X.env::(assignEach es X.env).map (·.2):=by rfl):JGs X S M (e::es) (gCn g u):=by obtain⟨t1,L,O⟩:=h1.ex;obtain⟨t2,U,Y⟩:=h2.ex;refine⟨_,zkt L U J,⟨ ?_⟩⟩;rintro A σ H ρ vs ds Q R E h ⟨d,r,e,Z⟩ k;subst e;obtain⟨v,s,rfl,hv,hr⟩:=h;refine⟨v,s,rfl,?_⟩;refine O.run A σ H ρ v _ _ _ E (Val.of hv) Z λq B hu E' f1=>?_;exact Y.run A q H B s _ _ _ E' hr hu λF I hR E2 f2=>k F I hR E2 λi hi=>⟨(f2 i hi).1.trans (f1 i hi).1,(f2 i hi).2.trans (f1 i hi).2⟩
def zbc {k n:Nat}{u:List Dt->Ev->(Ev->Prop)->Prop}(K:PySem.W.Frag)(I:X.K=K)(J:X.calm=true)(h:JGs X S M es u)(L:(assignEach es X.env).length=n:=by rfl)(q:(assignEach es X.env).findIdx? (·.1)=none:=by rfl):JG X S M (.Tuple es k pos) (gTp n u):=by obtain⟨t1,O,U⟩:=h.ex;refine⟨_,znx K I J O L q,⟨ ?_⟩⟩;rintro A σ H ρ v w Q R E h ⟨ds,e,Y,Z⟩ kk;subst e;obtain⟨ad,xs,rfl,B,F⟩:=h;exact⟨ad,xs,rfl,.of (zl _ _ B),by rw[F.length];exact Y,U.run A σ H ρ xs ds _ _ E F Z kk⟩
def zsK (fa:Ev->Mo W):Ev->Mo (List W):=λρ n Q=>fa ρ n λx m=>∃l,x = .d (.lst l)/\Q (l.map W.d) m
def zsM (fa:Ev->Mo W):Ev->Mo (List W):=λρ n Q=>fa ρ n λx m=>∃l,x = .d (.tup l)/\Q (l.map W.d) m
def zho {G G':Hp}{l:List Dt}{xs:List V}{i:Nat}{w:W}(h:IsL G l xs)(e:(l.map W.d)[i]?=some w)(s:zn G G'):∃d x,w = .d d/\xs[i]?=some x/\Is G' d x:=by rw[aB] at e;obtain⟨d,h1,rfl⟩:=ay.mp e;obtain⟨x,h2,q⟩:=h.getD h1;exact⟨d,x,rfl,h2,q.stay s⟩
def zjA(h:Rd (zG A H) q (.lst xs))(B:IsL (zG A H) l xs):ItV false A H (Itl K q) (l.map W.d) where
 one:=λi w A2 H2 e s _ _=>by obtain⟨d,x,rfl,F,I⟩:=zho B e s;have g:=(s.rdl h).sub;refine⟨⟨xs,x,.inl g,F⟩,?_⟩;rintro y H3 ⟨J,L⟩;subst J;have:=L xs (.inl g);rw[F] at this;cases this;exact⟨λ_ _ z=>z,Val.of I⟩
 stop:=λA2 H2 s _=>⟨xs,.inl (s.rdl h).sub,by rw[ac,B.length];exact af _⟩
def zmi(h:zG A H q=some (.tup xs))(B:IsL (zG A H) l xs):ItV false A H (Itt K q) (l.map W.d) where
 one:=λi w A2 H2 e s _ _=>by obtain⟨d,x,rfl,F,I⟩:=zho B e s;have g:=zl _ _ (s.tup h);refine⟨⟨xs,x,.of g,F⟩,?_⟩;rintro y H3 ⟨J,L⟩;subst J;have:=L xs (.of g);rw[F] at this;cases this;exact⟨λ_ _ z=>z,Val.of I⟩
 stop:=λA2 H2 s _=>⟨xs,.of (zl _ _ (s.tup h)),by rw[ac,B.length];exact af _⟩
def yh(K:PySem.W.Frag)(F:X.K=K)(h:JE X Pn M fr e f):JI X Pn M false tg e (zsK f):=by obtain⟨te,q,r⟩:=h.ex;refine⟨_,zfL K F q,⟨λA σ H ρ n Q R E P hf k=>?_⟩⟩;refine r.run A σ H ρ n _ _ E P hf  ?_;rintro w m v H1 ⟨l,e,r⟩ I g _;subst e;obtain⟨J,xs,rfl,B,L⟩:=I;exact⟨J,rfl,⟨xs,.inl B.sub⟩,k _ m _ H1 r (zjA B L) g⟩
def zft(K:PySem.W.Frag)(F:X.K=K)(h:JE X Pn M fr e f):JI X Pn M false tg e (zsM f):=by obtain⟨te,q,r⟩:=h.ex;refine⟨_,znA K F q,⟨λA σ H ρ n Q R E P hf k=>?_⟩⟩;refine r.run A σ H ρ n _ _ E P hf  ?_;rintro w m v H1 ⟨l,e,r⟩ I g _;subst e;obtain⟨J,xs,rfl,B,L⟩:=I;exact⟨J,rfl,⟨xs,.of (zl _ _ B)⟩,k _ m _ H1 r (zmi B L) g⟩
def zgn (lo:Int)(n:Nat):List W:=(List.range n).map λi:Nat=>W.d (.int (lo+i))
def zmh{lo:Int}:ItV false A H (Itr lo n) (zgn lo n) where
 one:=λi w A2 H2 e s _ _=>by unfold zgn at e;rw[aB] at e;obtain⟨j,h1,rfl⟩:=ay.mp e;obtain⟨hi,h2⟩:=aj.mp h1;rw[eU] at h2;subst h2;rw[aJ] at hi;refine⟨hi,?_⟩;rintro y H3 ⟨q,B⟩;subst q B;exact⟨λ_ _ z=>z,Val.of rfl⟩
 stop:=λA2 H2 s _=>by
  show n<=(zgn lo n).length;unfold zgn
  simp_all
def zsL (fa:Ev->Mo (List W)):Ev->Mo (List W):=λρ n Q=>fa ρ n λq m=>∃j:Int,q=[.d (.int j)]/\j<=1000000/\-1000000<=j/\Q (zgn 0 j.toNat) m
def ym(B:Gl X "range")(F:X.mg "range" = none)(I:JAB X Pn M [a] fs)(J:starEach [a] X.env=[(false,eval a X.env)]:=by rfl):JI X Pn M false tg (.Call (.Name "range" p) [a] [] pos) (zsL fs):=by obtain⟨te,q,r⟩:=I.ex;refine⟨_,zin B F q J,⟨λA σ H ρ n Q R E P hf k=>?_⟩⟩;refine r.run A σ H ρ n _ _ E P hf  ?_;rintro U m vs H1 ⟨j,e,j1,j2,r⟩ L g;subst e;obtain⟨v,rfl,O⟩:=zaH L;obtain rfl:=xt O;exact⟨j,rfl,by lia,by lia,k _ m _ H1 r zmh g⟩
def enW:Nat->List Dt->List W
 | _,[]=>[]
 | k,x::r=>.d (.tup [.int k,x])::enW (k+1) r
def zer:∀ (l:List Dt) (k i:Nat),(enW k l)[i]?=(l[i]?).map λx=>W.d (.tup [.int ((k+i:Nat):Int),x])
 | [],_,_=>by simp[enW]
 | x::r,k,0=>by simp[enW]
 | x::r,k,i+1=>by have:=zer r (k+1) i;simp only[enW,cH,this];rw[show k+1+i=k+(i+1) by lia]
def zg4:∀ (l:List Dt) (k:Nat),(enW k l).length=l.length
 | [],_=>rfl
 | x::r,k=>by rw[enW,aN,aN,zg4 r]
def zsJ (fa:Ev->Mo (List W)):Ev->Mo (List W):=λρ n Q=>fa ρ n λq m=>∃l,q=[.d (.tup l)]/\Q (enW 0 l) m
def zjz(h:zG A H q=some (.tup xs))(B:IsL (zG A H) l xs):ItV false A H (Ite K q) (enW 0 l) where
 one:=λi w A2 H2 e s _ J=>by rw[zer] at e;obtain⟨d,h1,rfl⟩:=ay.mp e;obtain⟨x,F,L⟩:=B.getD h1;have g:=zl _ _ (s.tup h);refine⟨⟨xs,x,.of g,F⟩,?_⟩;rintro y H3 ⟨T,z,O,I,U,Y⟩;subst O U;have:=Y xs (.of g);rw[F] at this;cases this;have S:=yz.upd (o:=.tup [.int i,x]) I;refine⟨S,Val.of ⟨T,_,rfl,zi (J T I) zg,_,_,rfl,?_,_,_,rfl,(L.stay s).stay (zn.same (xz S)),rfl⟩⟩;show V.int (i:Int)=V.int ((0+i:Nat):Int);rw[Nat.zero_add]
 stop:=λA2 H2 s _=>⟨xs,.of (zl _ _ (s.tup h)),by rw[zg4,B.length];exact af _⟩
def zhr{x1}(J:Gl X "enumerate")(L:X.mg "enumerate" = none)(O:JA X Pn M [a] fs)(I:starEach [a] X.env=[(false,eval a X.env)]:=by rfl):JI X Pn M false (.Tuple B x1 tpos) (.Call (.Name "enumerate" p) [a] [] pos) (zsJ fs):=by obtain⟨te,q,r⟩:=O.ex;refine⟨_,znz J L q I,⟨λA σ H ρ n Q R E P hf k=>?_⟩⟩;refine r.run A σ H ρ n _ _ E P hf  ?_;rintro ws m vs H1 ⟨l,e,r⟩ U g;subst e;obtain⟨v,s,rfl,⟨Y,xs,rfl,F,Z⟩,I⟩:=U;cases I;exact⟨Y,rfl,⟨xs,.of (zl _ _ F)⟩,k _ m _ H1 r (zjz F Z) g⟩
def ziW:List Dt->List Dt->List W
 | x::r,y::s=>.d (.tup [x,y])::ziW r s
 | _,_=>[]
def zi0:∀ (l k:List Dt) (i:Nat),l.length=k.length->(ziW l k)[i]?=(l[i]?).bind λx=>(k[i]?).map λy=>W.d (.tup [x,y])
 | [],[],_,_=>by simp[ziW]
 | [],_::_,_,h=>by simp at h
 | _::_,[],_,h=>by simp at h
 | x::r,y::s,0,_=>by simp[ziW]
 | x::r,y::s,i+1,h=>by have:=zi0 r s i (by simpa using h);simp only[ziW,cH,this]
def zi1:∀ (l k:List Dt),l.length=k.length->(ziW l k).length=l.length
 | [],[],_=>rfl
 | [],_::_,h=>by simp at h
 | _::_,[],h=>by simp at h
 | x::r,y::s,h=>by rw[ziW,aN,aN,zi1 r s (by simpa using h)]
def mItZ (fa:Ev->Mo (List W)):Ev->Mo (List W):=λρ n Q=>fa ρ n λq m=>∃l k,q=[.d (.tup l),.d (.tup k)]/\l.length=k.length/\Q (ziW l k) m
def zjB(q:l.length=k.length)(h:∀ {A2:Addr->Prop} {H2:Hp},zn (zG A H) (zG A2 H2)->SqV kb K H2 J xs)(O:IsL (zG A H) l xs)(h':zG A H L=some (.tup ys))(hk:IsL (zG A H) k ys):ItV false A H (Izg kb K J L) (ziW l k) where
 one:=λi w A2 H2 e s _ hA=>by rw[zi0 _ _ _ q] at e;obtain⟨d,h1,e⟩:=dF.mp e;obtain⟨d',B,rfl⟩:=ay.mp e;obtain⟨x,U,hd⟩:=O.getD h1;obtain⟨y,Y,F⟩:=hk.getD B;have g:=h s;have g':=zl _ _ (s.tup h');refine⟨⟨xs,ys,x,y,g,.of g',U,Y⟩,?_⟩;rintro v H3 ⟨T,z,z',e1,Z,e3,hz,I⟩;subst e1 e3;have q1:=hz xs g;have q2:=I ys (.of g');rw[U] at q1;rw[Y] at q2;cases q1;cases q2;have S:=yz.upd (o:=.tup [x,y]) Z;exact⟨S,Val.of ⟨T,_,rfl,zi (hA T Z) zg,_,_,rfl,(hd.stay s).stay (zn.same (xz S)),_,_,rfl,(F.stay s).stay (zn.same (xz S)),rfl⟩⟩
 stop:=λA2 H2 s _=>⟨xs,h s,by rw[zi1 _ _ q,O.length];exact af _⟩
def zo7 {B:List Expr}{x1}{tpos:Pos}{fs:Ev->Mo (List W)}(U:Gl X "zip")(Y:X.mg "zip" = none)(Z:JA X Pn M [a,b] fs)(L:starEach [a,b] X.env=[(false,eval a X.env),(false,eval b X.env)]:=by rfl)(O:starEach [b] X.env=[(false,eval b X.env)]:=by rfl):JI X Pn M false (.Tuple B x1 tpos) (.Call (.Name "zip" p) [a,b] [] pos) (mItZ fs):=by obtain⟨te,q,r⟩:=Z.ex;refine⟨_,znB true U Y q L O,⟨λA σ H ρ n Q R E P hf k=>?_⟩⟩;refine r.run A σ H ρ n _ _ E P hf  ?_;rintro ws m vs H1 ⟨l,kk,e,F,r⟩ hv g;subst e;obtain⟨v,s,rfl,⟨ad,xs,rfl,I,hl⟩,v2,s2,rfl,⟨bd,ys,rfl,J,hk⟩,L⟩:=hv;cases L;exact⟨ad,bd,rfl,⟨xs,.of (zl _ _ I)⟩,⟨ys,.of (zl _ _ J)⟩,k _ m _ H1 r (zjB F (λs=>.of (zl _ _ (s.tup I))) hl J hk) g⟩
def zf3 (ρ:Ev)(cix:List (Option Nat)):Ev:=cix.map λo=>match o with
 | none=>none
 | some i=>(ρ[i]?).join
def zaI (M:List Nat)(cix:List (Option Nat)):List Nat:=(List.range cix.length).filter λk=>match cix[k]? with
 | some (some i)=>M.contains i
 | _=>false
def zaR:k∈zaI M cix↔∃i,cix[k]?=some (some i)/\i∈M:=by
 unfold zaI;rw[az,aX];constructor
 ·rintro⟨h1,h2⟩;rw[ar h1] at h2 ⊢
  cases e:cix[k] with
  | none=>rw[e] at h2;cases h2
  | some i=>rw[e] at h2;exact⟨i,rfl,by simpa using h2⟩
 ·rintro⟨i,h1,h2⟩;exact⟨(aj.mp h1).1,by simp_all⟩
def zac {α:Type}{l:List (Option α)}{cix:List (Option Nat)}{k:Nat}{x:α}:(cix.map λo=>match o with | none=>none | some i=>(l[i]?).join)[k]?=some (some x)↔∃i,cix[k]?=some (some i)/\l[i]?=some (some x):=by
 rw[aB]
 cases e:cix[k]? with
 | none=>simp
 | some o=>
  cases o with
  | none=>simp
  | some i=>
   simp only[Option.map_some,Option.some.injEq];constructor
   ·intro h;refine⟨i,rfl,?_⟩
    cases q:l[i]? with
    | none=>rw[q] at h;cases h
    | some z=>rw[q] at h;cases z with
     | none=>cases h
     | some y=>cases h;rfl
   ·simp_all
def EnvR.cap(E:EnvR A M σ H ρ)(U:(cix.filterMap id).Nodup):EnvR A (zaI M cix) (zbV σ cix) H (zf3 ρ cix) where
 len:=by unfold zbV zf3;rw[ac,ac]
 val:=λk w e=>by
  obtain⟨i,h1,h2⟩:=zac.mp e;obtain⟨v,Y,Z,s3⟩:=E.val i w h2;refine⟨v,zac.mpr ⟨i,h1,Y⟩,λz=>Z λy=>z (zaR.mpr ⟨i,h1,y⟩),λz=>?_⟩;obtain⟨j,h3,h4⟩:=zaR.mp z
  simp_all
 dis:=λk k' w u ad hk ab ag e1 e2 Y Z=>by
  obtain⟨i,h1,h2⟩:=zac.mp e1;obtain⟨i',q,an⟩:=zac.mp e2;obtain⟨j,h3,h4⟩:=zac.mp Y;obtain⟨j',F,as⟩:=zac.mp Z;rw[h1] at h3;cases h3;rw[q] at F;cases F;obtain⟨m,m1,m2⟩:=zaR.mp hk;rw[h1] at m1;cases m1;obtain⟨m',I,a0⟩:=zaR.mp ab;rw[q] at I;cases I;refine E.dis _ _ w u ad m2 a0 (λz=>?_) h2 an h4 as;subst z
  have key:∀ (l:List (Option Nat)) (a b:Nat) (x:Nat),(l.filterMap id).Nodup->l[a]?=some (some x)->l[b]?=some (some x)->a=b:=by
   intro l
   induction l with
   | nil=>intro a b x _ h;simp at h
   | cons o l ih=>
    intro a b x U J L;have O:∀ (l:List (Option Nat)) (a:Nat),l[a]?=some (some x)->x∈l.filterMap id:=λl a h=>cL.mpr ⟨some x,aC h,rfl⟩
    cases o with
    | none=>
     have a1:(l.filterMap id).Nodup:=by simpa using U
     cases a with
     | zero=>simp at J
     | succ a=>
      cases b with
      | zero=>simp at L
      | succ b=>rw[ih a b x a1 (by simpa using J) (by simpa using L)]
    | some y=>
     have B:y∉l.filterMap id/\(l.filterMap id).Nodup:=by simp_all
     cases a with
     | zero=>
      have a2:y=x:=by simpa using J
      subst a2
      cases b with
      | zero=>rfl
      | succ b=>exact absurd (O l b (by simpa using L)) B.1
     | succ a=>
      cases b with
      | zero=>
       have a3:y=x:=by simpa using L
       subst a3;exact absurd (O l a (by simpa using J)) B.1
      | succ b=>rw[ih a b x B.2 (by simpa using J) (by simpa using L)]
  exact ag (key cix k k' _ U h1 q)
 al:=E.al
def EnvR.more {A:Addr->Prop}{σ:St}{H H':Hp}{ρ:Ev}(E:EnvR A M σ H ρ){p:Addr}{o:HO}(s:zn H H')(n:Fr H p)(g:H' p=some o)(np:NP o)(B:Mt o):EnvR (λb=>A b\/b=p) M σ H' ρ where
 len:=E.len
 val:=λi w e=>by obtain⟨v,h1,h2,q⟩:=E.val i w e;refine⟨v,h1,λz=>WAt.up (yI s n) (yI s n) (h2 z),λz=>?_⟩;obtain⟨a,e,F,I,J⟩:=q z;exact⟨a,e,.inl F,WAt.up s (yI s n) I,J⟩
 dis:=E.dis
 al:=λa h=>by
  rcases h with h | h
  ·obtain⟨o,h1,h2,q⟩:=E.al a h;exact⟨o,s _ _ h1 h2,h2,q⟩
  ·subst h;exact⟨o,g,np,B⟩
def EnvR.upd{A:Addr->Prop}{σ:St}{H:Hp}{ρ:Ev}(E:EnvR A M σ H ρ){p:Addr}(hp:A p)(Z:∀i w,i∈M->ρ[i]?=some (some w)->σ[i]?≠some (some (.ref p)))(np:NP o)(nt:Mt o):EnvR A M σ (L2.upd H p o) ρ where
 len:=E.len
 val:=λi w e=>by
  obtain⟨v,h1,h2,h3⟩:=E.val i w e;refine⟨v,h1,λz=>?_,λz=>?_⟩
  ·show WAt _ _ _ _;rw[yf hp];exact h2 z
  ·obtain⟨a,F,h4,L,U⟩:=h3 z;have J:a≠p:=λq=>Z i w z e (by rw[h1,F,q]);refine⟨a,F,h4,?_,U⟩;show WAt _ _ _ _;rw[yf hp]
   cases w with
   | d x=>
    cases x with
    | lst l=>obtain⟨O,xs,B,I,g2⟩:=L;rw[F] at B;cases B;exact⟨a,xs,F,by unfold Rd;rw[zb J];exact I,g2⟩
    | dct=>obtain⟨O,xs,B,I,g2⟩:=L;rw[F] at B;cases B;exact⟨a,xs,F,by rw[zb J];exact I,g2⟩
    | _=>cases U
   | pen p=>cases U
   | dk k=>obtain⟨O,xs,B,I,g2⟩:=L;rw[F] at B;cases B;exact⟨a,xs,F,by rw[zb J];exact I,g2⟩
   | dt k=>obtain⟨O,xs,B,I,g2⟩:=L;rw[F] at B;cases B;exact⟨a,xs,F,by rw[zb J];exact I,g2⟩
   | dn fz k=>obtain⟨O,xs,B,I,g2⟩:=L;rw[F] at B;cases B;exact⟨a,xs,F,I.imp λo _ e=>by rw[zb J];exact e,g2⟩
   | wd d fs kn=>cases U
   | lf ls=>cases U
   | ss P w k=>obtain⟨O,xs,B,I,g2⟩:=L;rw[F] at B;cases B;exact⟨a,xs,F,by rw[zb J];exact I,g2⟩
   | df k=>obtain⟨O,ob,xs,B,I,g2⟩:=L;rw[F] at B;cases B;exact⟨a,ob,xs,F,by simp_all,g2⟩
   | kf k=>obtain⟨O,ob,xs,B,I,g2⟩:=L;rw[F] at B;cases B;exact⟨a,ob,xs,F,by simp_all,g2⟩
   | ad a x=>cases U
   | tz kvs x=>cases U
   | fl k=>obtain⟨O,ob,xs,B,I,g2⟩:=L;rw[F] at B;cases B;exact⟨a,ob,xs,F,by simp_all,g2⟩
 dis:=E.dis
 al:=λa h=>by
  by_cases Y:a=p
  ·subst Y;exact⟨o,zg,np,nt⟩
  ·rw[zb Y];exact E.al a h
def yA.upd{A:Addr->Prop}{H:Hp}{p:Addr}(h:yA Pn A n H)(hp:A p):yA Pn A n (L2.upd H p o):=by
 refine⟨?_,Pn.J.upd h.2 hp⟩;have h:=h.1;split at h
 ·trivial
 ·refine⟨?_,h.2⟩;rename_i q c ns _;obtain⟨h1,h2,B⟩:=h;have F:c≠p:=λz=>h2 (z ▸ hp);have I:q≠p:=λz=>B (z ▸ hp);obtain⟨a,l,L,g2,O,U⟩:=h1.ob;exact⟨⟨a,l,by rw[zb I];exact L,g2,O,U⟩,let ⟨ob,e⟩:=h1.ls;⟨ob,by rw[zb F];exact e⟩,h1.len⟩
end
open PySem L2
structure JS (X:Cx)(Pn:PN)(S M:List Nat)(fr:Bool)(st:Stmt)(fs:Ms):Prop where
 ex:∃ts,QS X st ts/\RS Pn S M fr ts fs
structure JSs (X:Cx)(Pn:PN)(S M:List Nat)(fr:Bool)(st:List Stmt)(fs:Ms):Prop where
 ex:∃ts,QSs X st ts/\RS Pn S M fr ts fs
section
variable {X:Cx}{Pn:PN}{M S:List Nat}{fr fr':Bool}{e a b c:Expr}{es:List Expr}{f fa fb fc:Ev->Mo W}{pos p:Pos}
def yA.grow'(h:yA Pn A n H)(h':yA Pn A m H')(B:Fr H q)(g:H' q=some o)(np:NP o)(F:Mt o):yA Pn (λb=>A b\/b=q) m H':=by
 refine⟨?_,Pn.J.grow h'.2 λa z=>z.imp_right λe=>⟨o,by rw[e];exact g,np,F⟩⟩;have h:=h.1;have h':=h'.1;revert h h'
 cases Pn.pn with
 | none=>exact λ_ _=>trivial
 | some x=>
  obtain⟨p,c,ns⟩:=x;intro h h';refine⟨h'.1,λz=>z.elim h'.2.1 λz=>?_,λz=>z.elim h'.2.2 λz=>?_⟩
  ·subst z;obtain⟨ob,e⟩:=h.1.ls;exact B _ e (λ_ z=>by cases z)
  ·subst z;obtain⟨a,l,e,_⟩:=h'.1.ob;rw[e] at g;cases g;have:=np _ rfl;rw[zm9] at this;cases this
def zrc(h:∀C s H ex,JE (zH X scope N C s H ex) Pn M fr e f):∃te,(∀C s H ex,QE (zH X scope N C s H ex) e te)/\RE Pn M fr te f:=
 ⟨λσ H Q=>∀C s H0 ex,(h C s H0 ex).ex.choose σ H Q,λC s H0 ex=>⟨λpins s' σ H Q I z=>(h C s H0 ex).ex.choose_spec.1.run pins s' σ H Q I (z C s H0 ex)⟩,
  ⟨λA σ H ρ n Q R E P hf k C s H0 ex=>(h C s H0 ex).ex.choose_spec.2.run A σ H ρ n Q R E P hf k⟩⟩
def zre(h:∀C s H ex,JTs (zH X scope N C s H ex) Pn M es ft):∃te,(∀C s H ex,QTs (zH X scope N C s H ex) es te)/\RT Pn M te ft:=
 ⟨λσ H Q=>∀C s H0 ex,(h C s H0 ex).ex.choose σ H Q,λC s H0 ex=>⟨λpins s' σ H Q I z=>(h C s H0 ex).ex.choose_spec.1.run pins s' σ H Q I (z C s H0 ex)⟩,
  ⟨λA σ H ρ n Q R E P hf k C s H0 ex=>(h C s H0 ex).ex.choose_spec.2.run A σ H ρ n Q R E P hf k⟩⟩
def zrd(h:∀C s H ex,JG (zH X scope N C s H ex) S M e mg):∃g,(∀C s H ex,QG (zH X scope N C s H ex) e g)/\RG S M g mg:=
 ⟨λv σ H Q=>∀C s H0 ex,(h C s H0 ex).ex.choose v σ H Q,λC s H0 ex=>⟨λpins s' σ H v u Q I q z=>(h C s H0 ex).ex.choose_spec.1.run pins s' σ H v u Q I q (z C s H0 ex)⟩,
  ⟨λA σ H ρ v w Q R E B hf k C s H0 ex=>(h C s H0 ex).ex.choose_spec.2.run A σ H ρ v w Q R E B hf k⟩⟩
def zel (mg:W->Ev->(Ev->Prop)->Prop)(ft:Ev->Mo Bool)(O:Ev->Mo W)(J:Ev)(Q:W->Nat->Prop):List W->Nat->Prop:=λl U=>l.length<=lim/\∃I:Nat->Ev->Nat->List Dt->Prop,I 0 J U []/\
 (∀i w q F acc,l[i]?=some w->I i q F acc->mg w q λB=>ft B F λb L=>if b=true then O B L λx Y=>∃d,x = .d d/\I (i+1) B Y (acc++[d]) else I (i+1) B L acc)/\
 ∀ q F acc,I l.length q F acc->Q (.d (.lst acc)) F
@[reducible] def zmD (q:Ev->Mo (List W)) (mg:W->Ev->(Ev->Prop)->Prop) (ft:Ev->Mo Bool) (B:Ev->Mo W) (cix:List (Option Nat)):Ev->Mo W:=λρ n Q=>q ρ n (zel mg ft B (zf3 ρ cix) Q)
def ziC(hn:(cix.filterMap id).Nodup)(hi:RI Pn M ow wi fi)(hg:RG (zaI M cix) (zaI M cix) g mg)(ht:RT Pn (zaI M cix) ti ft)(he:RE Pn (zaI M cix) fr' te fe):RE Pn M true (ziO wi g ti te cix) (zmD fi mg ft fe cix):=⟨λA σ H ρ n Q R E P hf k=>by
 refine hi.run A σ H ρ n _ _ E P hf λl m J H1 ⟨hz,I,i0,it,ie⟩ iv g1=>λacc B=>?_;have E1:=E.stay g1.st;have E2:=(E1.cap hn).more (zn.upd (o:=.lst []) B) (Fr.of B) zg NP.lst rfl;have P2:yA Pn (λb=>A b\/b=acc) m (L2.upd H1 acc (.lst [])):=g1.pn.grow' (g1.pn.same (yz.upd B)) (Fr.of B) zg NP.lst rfl
 have a3:∀k w,k∈zaI M cix->(zf3 ρ cix)[k]?=some (some w)->(zbV σ cix)[k]?≠some (some (.ref acc)):=λk w hk hw z=>by obtain⟨v,s1,_,s3⟩:=(E1.cap hn).val k w hw;obtain⟨a,e,hA,_⟩:=s3 hk;rw[z] at s1;cases s1;cases e;exact E1.new B hA
 have key:∀ L F H',EnvR (λb=>A b\/b=acc) (zaI M cix) L H' F->(∀k∈zaI M cix,L[k]?=(zbV σ cix)[k]?/\F[k]?=(zf3 ρ cix)[k]?)->∀k w,k∈zaI M cix->F[k]?=some (some w)->L[k]?≠some (some (.ref acc)):=λL F H' E' an k w hk hw z=>by simp_all
 refine⟨λi mm L H'=>mm=l.length - i/\i<=l.length/\∃ F n' q xs,EnvR (λb=>A b\/b=acc) (zaI M cix) L H' F/\yA Pn (λb=>A b\/b=acc) n' H'/\I i F n' q/\H' acc=some (.lst xs)/\IsL (zG (λb=>A b\/b=acc) H') q xs/\q.length<=i/\zn (zG A H1) (zG (λb=>A b\/b=acc) H')/\zn H1 H'/\(∀k∈zaI M cix,L[k]?=(zbV σ cix)[k]?/\F[k]?=(zf3 ρ cix)[k]?),
  ⟨l.length,by simp,a6 _,_,m,[],[],E2,P2,i0,zg,rfl,af _,yI (zn.upd B) (Fr.of B),zn.upd B,λk hk=>⟨rfl,rfl⟩⟩,?_⟩
 rintro i mm L H' ⟨rfl,a4,F,n',q,xs,E',P',hI,U,Y,a5,st,s1,an⟩;by_cases a0:i<l.length
 ·right;have al:l[i]?=some l[i]:=ar a0;obtain⟨go,yl⟩:=iv.one i l[i] _ H' al st (λ_=>s1) λp hp=>E'.new hp
  refine⟨go,λas H2=>∃ F n' q xs,EnvR (λb=>A b\/b=acc) (zaI M cix) as H2 F/\yA Pn (λb=>A b\/b=acc) n' H2/\I (i+1) F n' q/\H2 acc=some (.lst xs)/\IsL (zG (λb=>A b\/b=acc) H2) q xs/\q.length<=i+1/\zn (zG A H1) (zG (λb=>A b\/b=acc) H2)/\zn H1 H2/\(∀k∈zaI M cix,as[k]?=(zbV σ cix)[k]?/\F[k]?=(zf3 ρ cix)[k]?),
   λas H2 h=>⟨l.length - (i+1),by lia,rfl,a0,h⟩,λx H2 hy=>?_⟩
  obtain⟨S2,V2⟩:=yl x H2 hy;refine hg.run _ L H2 F x l[i] _ _ (E'.stay (zn.same S2)) V2 (it i l[i] F n' q al hI) λad O r3 E3 f3=>?_;have Z:∀k∈zaI M cix,ad[k]?=(zbV σ cix)[k]?/\O[k]?=(zf3 ρ cix)[k]?:=λk hk=>⟨(f3 k hk).1.trans (an k hk).1,(f3 k hk).2.trans (an k hk).2⟩;refine ht.run _ ad H2 O n' _ _ E3 (P'.same S2) r3 λb m3 H4 r4 g4=>?_;have ab:=(zn.same S2).trans g4.st
  cases b with
  | false=>
   rw[if_neg (by decide)] at r4 ⊢;exact⟨O,m3,q,xs,E3.stay g4.st,g4.pn,r4,ab.lst U,Y.stay (zN ab),by lia,st.trans (zN ab),s1.trans ab,Z⟩
  | true=>
   rw[if_pos rfl] at r4 ⊢;refine he.run _ ad H4 O m3 _ _ (E3.stay g4.st) g4.pn r4  ?_;rintro w5 m5 v5 H5 ⟨d,e5,r5⟩ V5 g5 _;subst e5;have ag:=ab.trans g5.st;have E5:=(E3.stay g4.st).stay g5.st;have a1:=ag.lst U;refine⟨xs,a1,zfB (by rw[Y.length];lia),O,m5,q++[d],xs++[v5],E5.upd (.inr rfl) (key ad O H5 E5 Z) NP.lst rfl,g5.pn.upd (.inr rfl),r5,zg,?_,by simp_all,?_,?_,Z⟩
   ·rw[yf (.inr rfl)];exact (Y.stay (zN ag)).append (IsL.one V5.is)
   ·rw[yf (.inr rfl)];exact st.trans (zN ag)
   ·exact λb o e nn=>by rw[zb (zc e B)];exact s1.trans ag b o e nn
 ·refine Or.inl ?_;have a2:i=l.length:=by lia
  subst a2;refine⟨iv.stop _ H' st (λ_=>s1),k _ n' _ H' (ie F n' q hI) (Val.of ⟨acc,xs,rfl,.inl (zi (E1.new B) U),Y.stay (zn.same (yk λb z=>.inl z))⟩) (g1.trans ⟨s1,P'.less λa z=>.inl z⟩) λ_=>⟨acc,rfl,(Fr.of B).back g1.st,⟨_,U,rfl⟩,acc,xs,rfl,.inl U,Y⟩⟩⟩
@[reducible] def zsW:Ev->Mo Bool:=λ_ n Q=>Q true n
def yr:JTs X Pn M [] zsW:=⟨_,zeW,⟨λA σ H ρ n Q R E P hf k=>k true n H hf (Go.refl P)⟩⟩
def zcE(h:JT X Pn M c ft):JTs X Pn M [c] ft:=let ⟨t,h1,h2⟩:=h.ex;⟨t,znG h1,h2⟩
def yJ(F:X.calm=true)(cc:CompOk X scope N cix)(hi:JI X Pn M ow tg iter q)(I:∀C s H ex,JG (zH X scope N C s H ex) (zaI M cix) (zaI M cix) tg mg)(J:∀C s H ex,JTs (zH X scope N C s H ex) Pn (zaI M cix) ifs ft)(L:∀C s H ex,JE (zH X scope N C s H ex) Pn (zaI M cix) fr' elt B)(O:(cix.filterMap id).Nodup:=by decide)(U:∀x,foldedSetIterable iter X.env x=pure x:=by intro _;rfl):JE X Pn M true (.ListComp elt [⟨tg,iter,ifs,0⟩] scope pos) (zmD q mg ft B cix):=by
 obtain⟨ti,Y,Z⟩:=hi.ex;obtain⟨g,qg,rg⟩:=zrd I;obtain⟨tt,qt,rt⟩:=zre J;obtain⟨te,qe,re⟩:=zrc L;exact⟨_,zkq F cc Y qg qt qe U,ziC O Z rg rt re⟩
def zfu{ifs:List Expr}{scope:Scope}{N:List Str}{cix:List (Option Nat)}{L:Ev->Mo (List W)}{mg:W->Ev->(Ev->Prop)->Prop}{ft:Ev->Mo Bool}{O:Ev->Mo W}{nx:Str}{px spos:Pos}(q:X.N.Nodup)(B:X.N[ix]?=some nx)(F:X.env.scope.names.lookup nx=some .local)(U:X.calm=true)(cc:CompOk X scope N cix)(hi:JI X Pn M ow tg iter L)(Y:∀C s H ex,JG (zH X scope N C s H ex) (zaI M cix) (zaI M cix) tg mg)(Z:∀C s H ex,JTs (zH X scope N C s H ex) Pn (zaI M cix) ifs ft)(he:∀C s H ex,JE (zH X scope N C s H ex) Pn (zaI M cix) fr' elt O)(hn:(cix.filterMap id).Nodup:=by decide)(I:swapsWithSole [.Name nx px] (.ListComp elt [⟨tg,iter,ifs,0⟩] scope pos) spos.line X.env=pure true:=by rfl)(hs:∀x,foldedSetIterable iter X.env x=pure x:=by intro _;rfl)(J:(assignEach [.Name nx px] X.env).map (·.2)=[assign (.Name nx px) X.env]:=by rfl):∃te,QS X (.Assign [.Name nx px] (.ListComp elt [⟨tg,iter,ifs,0⟩] scope pos) spos) (zgu te (zaK ix))/\RE Pn M true te (zmD L mg ft O cix):=by
 obtain⟨ti,qi,ri⟩:=hi.ex;obtain⟨g,qg,rg⟩:=zrd Y;obtain⟨tt,qt,rt⟩:=zre Z;obtain⟨te,qe,re⟩:=zrc he;exact⟨_,znF q B F U cc qi qg qt qe I hs J,ziC hn ri rg rt re⟩
def At3.step(h:At3 Pn B S M A σ H ρ n)(g:Go Pn A H m H'):At3 Pn B S M A σ H' ρ m where
 env:=h.env.stay g.st
 frm:=⟨h.frm.sub,h.frm.new,λb o e n c=>g.st b o (h.frm.st b o e n c) n,h.frm.al,h.frm.cn,λa z=>let ⟨o,e,n⟩:=h.frm.cs a z;⟨o,g.st a o e n,n⟩⟩
 pn:=g.pn
 prot:=h.prot.trans (zN g.st)
 fix:=h.fix
 mine:=h.mine
@[reducible] def mRet (f:Ev->Mo W):Ms:=λρ n k=>f ρ n k.rt
def zqH(h:RE Pn M fr te f):RS Pn S M fr (zq3 te) (mRet f):=⟨λB A σ H ρ n k D a kk hf=>by
 refine h.run A σ H ρ n _ _ a.env a.pn hf λw m v H' r q g F=>?_;have I:=a.step g
 exact kk.rt w m v H' (WAt.up (zn.same (yk a.frm.sub)) (zn.same (yk a.frm.sub)) q) I.frm.st (g.pn.less a.frm.sub) (λz=>by obtain⟨b,e,f1,f2⟩:=F z;exact FrV.less ⟨b,e,a.frm.back f1 (a.env.newF f1),f2⟩ a.frm.sub) r⟩
def zL (h:JE X Pn M fr e f):JS X Pn S M fr (.Return (some e) pos) (mRet f):=let ⟨te,q,r⟩:=h.ex;⟨_,xP q,zqH r⟩
def zmM (i:Nat):Ms:=λρ n k=>∃w,ρ[i]?=some (some w)/\k.rt w n
def znK(hi:i∈M):RS Pn S M fr (zq3 (ze6 i)) (zmM i):=⟨by
 rintro B A σ H ρ n k D a kk ⟨w,e,r⟩;obtain⟨v,s1,_,s3⟩:=a.env.val i w e;obtain⟨ad,rfl,hA,J,Y⟩:=s3 hi;have Z:=a.mine i w ad hi e s1
 have L:¬ B.A0 ad:=λz=>by
  rcases Z with Z | Z
  ·obtain⟨o,o1,o2,_⟩:=a.frm.al ad z;exact Z o o1 o2
  ·exact a.frm.cn ad Z z
 have q:yz (zG A H) (zG B.A0 H):=yk a.frm.sub;have U:yz (zG A H) (zG (λb=>B.A0 b\/b=ad) H):=yk λb z=>z.elim (a.frm.sub b) λz=>z ▸ hA;refine⟨.ref ad,s1,kk.rt w n (.ref ad) H ?_ a.frm.st (a.pn.less a.frm.sub) (λz=>⟨ad,rfl,Z.resolve_right (kk.fc ad),(let ⟨o,o1,_,o3⟩:=a.env.al ad hA;⟨o,o1,o3⟩),WAt.up (zn.refl _) (zn.same U) J⟩) r⟩
 cases w with
 | d x=>
  cases x with
  | lst l=>obtain⟨O,xs,F,I,g2⟩:=J;cases F;exact⟨ad,xs,rfl,I.hid L,g2.stay (zn.same q)⟩
  | dct=>obtain⟨O,xs,F,I,g2⟩:=J;cases F;exact⟨ad,xs,rfl,zi L I,g2⟩
  | _=>cases Y
 | pen p=>cases Y
 | dk kvs=>obtain⟨O,xs,F,I,g2,g3⟩:=J;cases F;exact⟨ad,xs,rfl,zi L I,g2.stay (zn.same q),g3⟩
 | dt kvs=>obtain⟨O,xs,F,I,g2⟩:=J;cases F;exact⟨ad,xs,rfl,zi L I,g2.stay (zn.same q)⟩
 | dn fz kvs=>obtain⟨O,xs,F,I,g2,g3⟩:=J;cases F;exact⟨ad,xs,rfl,I.imp λo _ e=>zi L e,g2.stay (zn.same q),g3.stay (zn.same q)⟩
 | wd d fs kn=>cases Y
 | lf ls=>cases Y
 | ss P w kvs=>obtain⟨O,xs,F,I,g2⟩:=J;cases F;exact⟨ad,xs,rfl,zi L I,g2.stay (zn.same q)⟩
 | kf kvs=>obtain⟨O,ob,xs,F,I,g2⟩:=J;cases F;exact⟨ad,ob,xs,rfl,zi L I,g2.stay (zn.same q)⟩
 | ad a x=>cases Y
 | tz kvs x=>cases Y
 | fl kvs=>obtain⟨O,ob,xs,F,I,g2⟩:=J;cases F;exact⟨ad,ob,xs,rfl,zi L I,g2.stay (zn.same q)⟩
 | df kvs=>obtain⟨O,ob,xs,F,I,g2⟩:=J;cases F;exact⟨ad,ob,xs,rfl,zi L I,g2.stay (zn.same q)⟩⟩
def zhv (i:Nat){x:Str}(hi:i∈M:=by decide)(B:X.N[i]?=some x:=by rfl)(F:Vis X.env.scope x:=by walk_at "v")(I:(x==("__debug__" : Str))=false:=by decide)
  (q:(x==("__classdict__" : Str))=false:=by decide) {pos':Pos}:JS X Pn S M fr (.Return (some (.Name x pos)) pos') (zmM i):=⟨_,xP (qv i B F I q),znK hi⟩
@[reducible] def zmC (f:Ev->Mo W) (mg:W->Ev->(Ev->Prop)->Prop):Ms:=λρ n k=>f ρ n λw m=>mg w ρ λq=>k.nx q m
def EnvR.mineG(a:At3 Pn B S M A σ H ρ n)(E:EnvR A M q H F)(f:∀i∈S++M,q[i]?=σ[i]?/\F[i]?=ρ[i]?):At3 Pn B S M A q H F n where
 env:=E
 frm:=a.frm
 pn:=a.pn
 prot:=a.prot
 fix:=⟨λi hi=>(f i (aK.mpr (.inl hi))).1.trans (a.fix.1 i hi),a.fix.2⟩
 mine:=λi w I hi e s=>by obtain⟨f1,f2⟩:=f i (aK.mpr (.inr hi));rw[f1] at s;rw[f2] at e;exact a.mine i w I hi e s
def ziJ(h:RE Pn M fr' te f)(J:RG (S++M) M g mg):RS Pn S M fr (zgu te g) (zmC f mg):=⟨λB A σ H ρ n k D a kk hf=>by refine h.run A σ H ρ n _ _ a.env a.pn hf λw m v H' r L g' _=>?_;have I:=a.step g';exact J.run A σ H' ρ v w _ _ I.env L r λq F O E2 f2=>kk.nx A q H' F m (EnvR.mineG I E2 f2) O⟩
def zE {i:Nat}{x:Str}{pos':Pos}(I:X.N.Nodup)(J:JE X Pn M fr' e f)(hi:X.N[i]?=some x:=by rfl)(L:Loc X.env.scope x:=by first | exact Or.inl rfl | exact Or.inr rfl)(B:i∉M:=by decide)(F:i∉S++M:=by decide)(O:swapsWith e (some (.Name x pos')) pos.line X.env=pure false:=by rfl)(hf:X.fn x=true\/X.env.scope.names.lookup x=some .local:=by walk_at "l") :
  JS X Pn S M fr (.Assign [.Name x pos'] e pos) (zmC f (gN i)):=let ⟨te,q,r⟩:=J.ex;⟨_,xo I hi L q O hf,ziJ r (zeZ B F)⟩
def zhw{st:Stmt}(h:∃te,QS X st (zgu te (zaK i))/\RE Pn M true te f)(B:i∉M:=by decide)(F:i∉S++M:=by decide):JS X Pn S M fr st (zmC f (gN i)):=let ⟨te,q,r⟩:=h;⟨_,q,ziJ r (zeZ B F)⟩
def zht(B:JE X Pn M fr' e f)(F:JG X (S++M) M tg mg)(I:swapsWithSole [tg] e pos.line X.env=pure false:=by rfl)(J:swappedStores [tg] e X.env=pure none:=by rfl)(h1:(assignEach [tg] X.env).map (·.2)=[assign tg X.env]:=by rfl):JS X Pn S M fr (.Assign [tg] e pos) (zmC f mg):=let ⟨te,q,r⟩:=B.ex;let ⟨g,q2,r2⟩:=F.ex;⟨_,zqu q q2 I J h1,ziJ r r2⟩
def zrx (i:Nat)(f:Ev->Mo W):Ms:=λρ n k=>f ρ n λw m=>w.mut=true/\k.nx (ρ.set i (some w)) m
def zmQ(h:WAt T G w v)(hm:w.mut=true)(hk:∀a o,v = .ref a->T a=some o->Mt o):∃a o,v = .ref a/\T a=some o/\NP o/\Mt o:=by
 cases w with
 | d x=>
  cases x with
  | lst l=>
   obtain⟨a,xs,e,g1,_⟩:=h;rcases g1 with g1 | ⟨o,g1⟩
   ·exact⟨a,_,e,g1,NP.lst,rfl⟩
   ·cases hk a _ e g1
  | dct=>obtain⟨a,xs,e,g1,g2⟩:=h;exact⟨a,_,e,g1,λk z=>by cases z;subst g2;rfl,rfl⟩
  | _=>cases hm
 | pen p=>cases hm
 | dk kvs=>obtain⟨a,xs,e,g1,_,g3⟩:=h;exact⟨a,_,e,g1,λk z=>by cases z;exact g3,rfl⟩
 | dt kvs=>obtain⟨a,xs,e,g1,_⟩:=h;exact⟨a,_,e,g1,(λk z=>by cases z),rfl⟩
 | ss P w kvs=>obtain⟨a,xs,e,g1,_⟩:=h;exact⟨a,_,e,g1,zle,rfl⟩
 | dn fz kvs=>
  obtain⟨a,ks,e,g1,_⟩:=h;rcases g1.rd with g1 | ⟨o,g1⟩
  ·exact⟨a,_,e,g1,zhV,rfl⟩
  ·cases hk a _ e g1
 | wd d fs kn=>cases hm
 | lf ls=>cases hm
 | df kvs=>cases hm
 | kf kvs=>cases hm
 | ad a x=>cases hm
 | tz kvs x=>cases hm
 | fl kvs=>cases hm
def zqG(h:RE Pn M true te f)(hi:i∈M)(hs:i∉S):RS Pn S M fr (zgu te (zaK i)) (zrx i f):=⟨λB A σ H ρ n k D a kk hf=>by
 refine h.run A σ H ρ n _ _ a.env a.pn hf  ?_;rintro w m v H' ⟨hm,r⟩ hv g' ab;obtain⟨Y,rfl,O,⟨o',ag,an⟩,hb⟩:=ab rfl;obtain⟨a2,o,U,ho,np,nt⟩:=zmQ hb hm λb u e z=>by cases e;rw[ag] at z;cases z;exact an
 cases U;have E1:=a.env.more g'.st O ho np nt;have Z:¬ A Y:=a.env.newF O;refine kk.nx (λb=>A b\/b=Y) _ H' _ m ⟨⟨?_,?_,?_,E1.al⟩,⟨λb z=>.inl (a.frm.sub b z),λb z=>?_,λb o e n c=>g'.st b o (a.frm.st b o e n c) n,a.frm.al,a.frm.cn,λb z=>let ⟨o,e,n⟩:=a.frm.cs b z;⟨o,g'.st b o e n,n⟩⟩,a.pn.grow' g'.pn O ho np nt,a.prot.trans (yI g'.st O),⟨λj I=>?_,a.fix.2⟩,λj u b I e s=>?_⟩ r
 ·rw[bi,bi];exact a.env.len
 ·intro j u e;by_cases I:j=i
  ·subst I
   have J:j<ρ.length:=by
    have:=(aj.mp e).1
    simp_all
   rw[aP J] at e;cases e;exact⟨.ref Y,aP (by rw[a.env.len];exact J),λz=>absurd hi z,λ_=>⟨Y,rfl,.inr rfl,hb,hm⟩⟩
  ·rw[aq (Ne.symm I)] at e ⊢;exact E1.val j u e
 ·intro j l u u' b I J L e1 U s1 s2
  have as:∀q u,q∈M->q≠i->ρ[q]?=some (some u)->σ[q]?≠some (some (.ref Y)):=λq u hq a3 eq sq=>by
   obtain⟨v,s,_,s3⟩:=a.env.val q u eq;obtain⟨c,ec,hc,_⟩:=s3 hq
   simp_all
  have a0:∀q (u:W),(ρ.set i (some w))[q]?=some (some u)->q<σ.length:=λq u e=>by have:=(aj.mp e).1;rw[bi] at this;rw[a.env.len];exact this
  by_cases F:j=i
  ·subst F;rw[aP (a0 _ _ e1)] at s1;cases s1;rw[aq L] at U s2;exact as l u' J (Ne.symm L) U s2
  ·rw[aq (Ne.symm F)] at e1 s1;by_cases a1:l=i
   ·simp_all
   ·rw[aq (Ne.symm a1)] at U s2;exact a.env.dis j l u u' b I J L e1 U s1 s2
 ·rcases z with z | z
  ·exact a.frm.new b z
  ·subst z;exact .inr (.inl (a.frm.back O Z))
 ·rw[aq λ(z:i=j)=>hs (by rw[z];exact I)];exact a.fix.1 j I
 ·by_cases F:j=i
  ·subst F
   have J:j<σ.length:=by
    have:=(aj.mp s).1
    simp_all
   rw[aP J] at s;cases s;exact .inl (a.frm.back O Z)
  ·rw[aq (Ne.symm F)] at e s;exact a.mine j u b I e s⟩
def zat {i:Nat}{x:Str}{pos':Pos}(I:X.N.Nodup)(J:JE X Pn M true e f)(hi:X.N[i]?=some x:=by rfl)(L:Loc X.env.scope x:=by first | exact Or.inl rfl | exact Or.inr rfl)(B:i∈M:=by decide)(F:i∉S:=by decide)(O:swapsWith e (some (.Name x pos')) pos.line X.env=pure false:=by rfl)(hf:X.fn x=true\/X.env.scope.names.lookup x=some .local:=by walk_at "l") :
  JS X Pn S M fr (.Assign [.Name x pos'] e pos) (zrx i f):=let ⟨te,q,r⟩:=J.ex;⟨_,xo I hi L q O hf,zqG r B F⟩
end
open PySem PySem.Spec L2
section
variable {X:Cx}{Pn:PN}{M S:List Nat}{fr fr':Bool}{e a b c:Expr}{es:List Expr}{f fa fb fc:Ev->Mo W}{pos p:Pos}{st:Stmt}{sts:List Stmt}{fs gs:Ms}
@[reducible] def mNx:Ms:=λρ n k=>k.nx ρ n
structure blk (g:Ms)(ρ:Ev)(n:Nat)(k:Kt):Prop where
 go:g ρ n k
def zos(h:g ρ n k):blk g ρ n k:=⟨h⟩
@[reducible] def mSeq (f g:Ms):Ms:=λρ n k=>f ρ n { k with nx:=λq B=>blk g q B k }
def zsI (t:Ev->Mo Bool)(f g:Ms):Ms:=λρ n k=>t ρ n λc m=>if c=true then blk f ρ m k else blk g ρ m k
def zJ:JSs X Pn S M fr [] mNx:=⟨_,zam,⟨λB A σ H ρ n k D a kk hf=>kk.nx A σ H ρ n a hf⟩⟩
def zqI(h1:RS Pn S M fr t fs)(h2:RS Pn S M fr u gs):RS Pn S M fr (ztI t u) (mSeq fs gs):=⟨λB A σ H ρ n k D a kk hf=>
 h1.run B A σ H ρ n { k with nx:=λq F=>blk gs q F k } _ a ⟨λA' I H' q F J r=>h2.run B A' I H' q F k D J kk r.go,kk.bk,kk.ct,kk.fc,kk.rt⟩ hf⟩
def ze (h1:JS X Pn S M fr st fs)(h2:JSs X Pn S M fr sts gs):JSs X Pn S M fr (st::sts) (mSeq fs gs):=let ⟨t,q,r⟩:=h1.ex;let ⟨u,q2,r2⟩:=h2.ex;⟨_,zy q q2,zqI r r2⟩
def zh (h1:JS X Pn S M fr st fs):JSs X Pn S M fr [st] fs:=let ⟨t,q,r⟩:=h1.ex;⟨_,yj q,r⟩
def yU(F:JT X Pn M c t)(I:JSs X Pn S M fr body fs)(J:JSs X Pn S M fr q gs):JS X Pn S M fr (.If c body q pos) (zsI t fs gs):=by
 obtain⟨tc,L,O⟩:=F.ex;obtain⟨ta,U,Y⟩:=I.ex;obtain⟨tb,Z,rb⟩:=J.ex;refine⟨_,zeV L U Z,⟨λB A σ H ρ n k D a kk hf=>?_⟩⟩;refine O.run A σ H ρ n _ _ a.env a.pn hf λc m H1 r g=>?_
 cases c with
 | true=>rw[if_pos rfl] at r ⊢;exact Y.run B A σ H1 ρ m k D (a.step g) kk r.go
 | false=>rw[if_neg (by decide)] at r ⊢;exact rb.run B A σ H1 ρ m k D (a.step g) kk r.go
@[reducible] def zsG (f:Ev->Mo W):Ms:=λρ n k=>f ρ n λ_ m=>k.nx ρ m
def zhu (F:JE X Pn M fr' e f)(I:swapsWith e none pos.line X.env=pure false:=by rfl):JS X Pn S M fr (.Expr e pos) (zsG f):=by obtain⟨te,q,r⟩:=F.ex;exact⟨_,zbx q I,⟨λB A σ H ρ n k D a kk hf=>r.run A σ H ρ n _ _ a.env a.pn hf λw m v H' J _ g _=>kk.nx A σ H' ρ m (a.step g) J⟩⟩
def At3.wr(h:At3 Pn B S M A σ H ρ n)(hi:i∈M)(e:ρ[i]?=some (some w))(s:σ[i]?=some (some (.ref ad)))(hl:IsL (zG A H) l xs):At3 Pn B S M A σ (L2.upd H ad (.lst xs)) (ρ.set i (some (.d (.lst l)))) n:=by
 obtain⟨v,s1,_,s3⟩:=h.env.val i w e;rw[s] at s1;cases s1;obtain⟨U,F,hA,_,_⟩:=s3 hi;cases F;have ab:i<ρ.length:=(aj.mp e).1
 have hE:EnvR A M σ (L2.upd H ad (.lst xs)) (ρ.set i (some (.d (.lst l)))):=by
  refine⟨by rw[bi];exact h.env.len,λj u Y=>?_,λj q u u' b Z hq I e1 F=>?_,λb hb=>?_⟩
  ·by_cases Z:j=i
   ·subst Z;rw[aP ab] at Y;cases Y;exact⟨.ref ad,s,λz=>absurd hi z,λ_=>⟨ad,rfl,hA,⟨ad,xs,rfl,.inl zg,by rw[yf hA];exact hl⟩,rfl⟩⟩
   ·rw[aq (Ne.symm Z)] at Y;obtain⟨v,t1,t2,t3⟩:=h.env.val j u Y;refine⟨v,t1,λz=>?_,λz=>?_⟩
    ·show WAt _ _ _ _;rw[yf hA];exact t2 z
    ·obtain⟨b,rfl,hb,J,hm⟩:=t3 z;have I:b≠ad:=λq=>h.env.dis i j w u ad hi z (Ne.symm Z) e Y s (by rw[t1,q]);refine⟨b,rfl,hb,?_,hm⟩;show WAt _ _ _ _;rw[yf hA]
     cases u with
     | d x=>
      cases x with
      | lst l=>obtain⟨U,xs,F,L,g2⟩:=J;cases F;exact⟨b,xs,rfl,by unfold Rd;rw[zb I];exact L,g2⟩
      | dct=>obtain⟨U,xs,F,L,g2⟩:=J;cases F;exact⟨b,xs,rfl,by rw[zb I];exact L,g2⟩
      | _=>cases hm
     | pen p=>cases hm
     | dk k=>obtain⟨U,xs,F,L,g2⟩:=J;cases F;exact⟨b,xs,rfl,by rw[zb I];exact L,g2⟩
     | dt k=>obtain⟨U,xs,F,L,g2⟩:=J;cases F;exact⟨b,xs,rfl,by rw[zb I];exact L,g2⟩
     | dn fz k=>obtain⟨U,xs,F,L,g2⟩:=J;cases F;exact⟨b,xs,rfl,L.imp λo _ e=>by rw[zb I];exact e,g2⟩
     | wd d fs kn=>cases hm
     | lf ls=>cases hm
     | ss P w k=>obtain⟨U,xs,F,L,g2⟩:=J;cases F;exact⟨b,xs,rfl,by rw[zb I];exact L,g2⟩
     | df k=>obtain⟨U,ob,xs,F,L,g2⟩:=J;cases F;exact⟨b,ob,xs,rfl,by simp_all,g2⟩
     | kf k=>obtain⟨U,ob,xs,F,L,g2⟩:=J;cases F;exact⟨b,ob,xs,rfl,by simp_all,g2⟩
     | ad a x=>cases hm
     | tz kvs x=>cases hm
     | fl k=>obtain⟨U,ob,xs,F,L,g2⟩:=J;cases F;exact⟨b,ob,xs,rfl,by simp_all,g2⟩
  ·have ag:∀q (u:W),(ρ.set i (some (.d (.lst l))))[q]?=some (some u)->∃u',ρ[q]?=some (some u'):=λq u z=>by
    by_cases hq:q=i
    ·subst hq;exact⟨w,e⟩
    ·rw[aq (Ne.symm hq)] at z;exact⟨u,z⟩
   obtain⟨v1,f1⟩:=ag j u e1;obtain⟨v2,f2⟩:=ag q u' F;exact h.env.dis j q v1 v2 b Z hq I f1 f2
  ·by_cases O:b=ad
   ·subst O;exact⟨_,zg,NP.lst,rfl⟩
   ·rw[zb O];exact h.env.al b hb
 refine⟨hE,⟨h.frm.sub,h.frm.new,λb o eb nn nc=>?_,h.frm.al,h.frm.cn,λb z=>(by
  by_cases O:b=ad
  ·subst O;exact⟨_,zg,NP.lst⟩
  ·rw[zb O];exact h.frm.cs b z)⟩,h.pn.upd hA,by rw[yf hA];exact h.prot,h.fix,λj u b Z Y sj=>?_⟩
 ·have I:b≠ad:=λq=>by
   subst q;rcases h.mine i w b hi e s with z | z
   ·exact z o eb nn
   ·exact nc z
  rw[zb I];exact h.frm.st b o eb nn nc
 ·by_cases an:j=i
  ·subst an;exact h.mine j w b Z e sj
  ·rw[aq (Ne.symm an)] at Y;exact h.mine j u b Z Y sj
def zrv (i:Nat)(f:Ev->Mo W):Ms:=λρ n k=>(∃l,ρ[i]?=some (some (.d (.lst l))))/\f ρ n λw m=>∃l d,ρ[i]?=some (some (.d (.lst l)))/\w = .d d/\l.length<lim/\k.nx (ρ.set i (some (.d (.lst (l++[d]))))) m
def zqE(h:RE Pn M fr' te f)(hi:i∈M):RS Pn S M fr (znR (tBM K "list" zeX (ze6 i) (zd5 te zoa))) (zrv i f):=⟨by
 rintro B A σ H ρ n k D a kk ⟨⟨l0,O⟩,hf⟩;obtain⟨v,q,_,U⟩:=a.env.val i _ O;obtain⟨J,rfl,Y,Z,_⟩:=U hi;obtain⟨a2,ab,e2,g0,_⟩:=Z;cases e2;refine⟨.ref J,q,.inl ⟨rfl,_,.inl g0⟩,?_⟩;refine h.run A σ H ρ n _ _ a.env a.pn hf  ?_;rintro w m v H' ⟨l,d,e,ed,hz,r⟩ hv g _;subst ed;have F:=a.step g;obtain⟨v2,t1,_,t3⟩:=F.env.val i _ e;rw[q] at t1;cases t1;obtain⟨a3,e3,ag,I,_⟩:=t3 hi;cases e3;obtain⟨a4,xs,e4,g4,L⟩:=I;cases e4;exact⟨J,xs,v,rfl,rfl,g4.own F.env.al Y,zfB (by rw[L.length];exact cC hz),kk.nx A σ _ _ m (F.wr hi e q (L.append (IsL.one hv.is))) r⟩⟩
def zdw (i:Nat){x:Str}{ap cp sp np:Pos}(U:JE X Pn M fr' e f)(hi:i∈M:=by decide)(Y:X.N[i]?=some x:=by rfl)(Z:Vis X.env.scope x:=by walk_at "v")(hd:(x==("__debug__" : Str))=false:=by decide)
  (O:(x==("__classdict__" : Str))=false:=by decide) (J:starEach (e::[]) X.env=(false,eval e X.env)::starEach [] X.env:=by rfl) (hs:swapsWith (.Call (.Attribute (.Name x np) "append" ap) [e] [] cp) none sp.line X.env=pure false:=by rfl) (F:attributeBase (.Name x np) "append" X.env (eval (.Name x np) X.env)=eval (.Name x np) X.env:=by rfl) (I:(ap.endLine==cp.line)=true:=by rfl)
  (L:((backTo cp (starEach [e] X.env)).all (λx=>!x.1)&&(backToKw cp (keywordEach [] X.env)).all (λx=>x.1.isSome)&&decide (([e]:List Expr).length+([]:List Keyword).length+(if ([]:List Keyword).isEmpty then 0 else 1)<30))=true:=by rfl) (B:(backTo cp (starEach [] X.env)).any (·.1)=false:=by rfl) :
  JS X Pn S M fr (.Expr (.Call (.Attribute (.Name x np) "append" ap) [e] [] cp) sp) (zrv i f):=by
 obtain⟨te,q,r⟩:=U.ex;exact⟨_,zbx (zqm (qv i Y Z hd O) (zz q yn J) F L I J B) hs,zqE r hi⟩
def zl2 (mg:W->Ev->(Ev->Prop)->Prop)(fb:Ms)(ρ:Ev)(k:Kt):List W->Nat->Prop:=λl J=>∃I:Nat->Ev->Nat->Prop,I 0 ρ J/\
 (∀i w q B,l[i]?=some w->I i q B->mg w q λF=>fb F B { k with nx:=I (i+1),ct:=I (i+1),bk:=k.nx })/\∀ q B,I l.length q B->k.nx q B
@[reducible] def mFor (q:Ev->Mo (List W)) (mg:W->Ev->(Ev->Prop)->Prop) (fb:Ms):Ms:=λρ n k=>q ρ n (zl2 mg fb ρ k)
def zjs{B:Bs}{A:Addr->Prop}{σ:St}{H1:Hp}{ρ:Ev}{k:Kt}{D:Ends}{J:It}{l:List W}{g:TG}{tb:TS}{mg:W->Ev->(Ev->Prop)->Prop}{fb:Ms}(hg:RG (S++M) M g mg)(hb:RS Pn S M fr tb fb)(hS:9999∉S)(a1:At3 Pn B S M A σ H1 ρ m)(kk:KOk Pn B S M fr k D)(iv:ItV false A H1 J l)(hf:zl2 mg fb ρ k l m) :
  ∃W:Nat->Nat->St->Hp->Prop,(∃m,W 0 m σ H1)/\∀i m σ H,W i m σ H->(J.stop i H/\D.nx σ H)\/(J.go i H/\∃N:St->Hp->Prop,(∀ L H',N L H'->∃m',m'<m/\W (i+1) m' L H')/\∀x H',J.yld i H x H'->g x σ H' λY H2=>tb { D with nx:=N,ct:=N,bk:=D.nx } Y H2):=by
 obtain⟨I,i0,it,ie⟩:=hf;have ad:∀ {A':Addr->Prop} {L:St} {H':Hp} {F:Ev} {O:Nat},At3 Pn { B with G0:=zG A H1 } S M A' L H' F O->At3 Pn B S M A' L H' F O:=λ{A' L H' F O} q=>⟨q.env,q.frm,q.pn,a1.prot.trans q.prot,⟨q.fix.1,a1.fix.2⟩,q.mine⟩;refine⟨λi mm L H'=>mm=l.length - i/\i<=l.length/\∃A' F O,At3 Pn { B with G0:=zG A H1 } S M A' L H' F O/\I i F O,⟨l.length,by simp,a6 _,A,ρ,m,⟨a1.env,a1.frm,a1.pn,zn.refl _,⟨a1.fix.1,λz=>absurd z hS⟩,a1.mine⟩,i0⟩,?_⟩;rintro i mm L H' ⟨rfl,a0,A',F,O,a',hI⟩;by_cases ag:i<l.length
 ·right;have Z:l[i]?=some l[i]:=ar ag;obtain⟨go,yl⟩:=iv.one i l[i] A' H' Z a'.prot (λz=>by cases z) λp hp=>a'.env.new hp;refine⟨go,λY H2=>∃A' F O,At3 Pn { B with G0:=zG A H1 } S M A' Y H2 F O/\I (i+1) F O,λY H2 h=>⟨l.length - (i+1),by lia,rfl,ag,h⟩,λx H2 hy=>?_⟩;obtain⟨S2,V2⟩:=yl x H2 hy;have a2:=a'.step (Go.same a'.pn S2);refine hg.run A' L H2 F x l[i] _ _ a2.env V2 (it i l[i] F O Z hI) λal an r3 E3 f3=>?_;refine hb.run { B with G0:=zG A H1 } A' al H2 an O _ _ (EnvR.mineG a2 E3 f3) ⟨?_,?_,?_,kk.fc,?_⟩ r3
  ·exact λA4 ab H4 U n4 a4 r4=>⟨A4,U,n4,a4,r4⟩
  ·exact λA4 ab H4 U n4 a4 r4=>kk.nx A4 ab H4 U n4 (ad a4) r4
  ·exact λA4 ab H4 U n4 a4 r4=>⟨A4,U,n4,a4,r4⟩
  ·exact kk.rt
 ·refine Or.inl ?_;have as:i=l.length:=by lia
  subst as;exact⟨iv.stop A' H' a'.prot (λz=>by cases z),kk.nx A' L H' F O (ad a') (ie F O hI)⟩
def zqF {wi:TI}{g:TG}{tb:TS}{q:Ev->Mo (List W)}{mg:W->Ev->(Ev->Prop)->Prop}{fb:Ms}(hi:RI Pn M false wi q)(F:RG (S++M) M g mg)(I:RS Pn S M fr tb fb)(L:9999∉S):RS Pn S M fr (ztE wi g tb) (mFor q mg fb):=⟨λB A σ H ρ n k D a kk hf=>hi.run A σ H ρ n _ _ a.env a.pn hf λl m J H1 O U Y=>zjs F I L (a.step Y) kk U O⟩
def yZ {tg iter:Expr}{body:List Stmt}{q:Ev->Mo (List W)}{mg:W->Ev->(Ev->Prop)->Prop}{fb:Ms}(hp:PassesOwn (model X.prog X.w) X.A X.env X.xe)(B:X.calm=true)(hi:JI X Pn M false tg iter q)(F:JG X (S++M) M tg mg)(I:JSs X Pn S M fr body fb)(J:∀x,foldedSetIterable iter X.env x=pure x:=by intro _;rfl)(L:9999∉S:=by decide) :
  JS X Pn S M fr (.For tg iter body [] pos) (mFor q mg fb):=by
 obtain⟨ti,O,U⟩:=hi.ex;obtain⟨Y,Z,rg⟩:=F.ex;obtain⟨tb,qb,rb⟩:=I.ex;exact⟨_,zis hp B O Z qb J,zqF U rg rb L⟩
def xp (N:List Str)(q:List W):Ev:=q.map some++List.replicate (N.length - q.length) none
def zbQ.get:∀ {q:List W} {vs:List V} {i:Nat} {w:W},zbQ A H q vs->q[i]?=some w->∃v,vs[i]?=some v/\Val A H w v
 | [],_,_,_,_,e=>by simp at e
 | x::q,vs,0,w,⟨v,r,B,h1,_⟩,e=>by simp_all
 | x::q,vs,i+1,w,⟨v,r,B,_,h2⟩,e=>by
  subst B;obtain⟨u,F,I⟩:=zbQ.get (i:=i) h2 (by simpa using e)
  simp_all
def za2 {A:Addr->Prop}{H:Hp}{N:List Str}{ws:List W}{vs:List V}(al:Al A H)(h:zbQ A H ws vs)(hM:∀i∈M,ws.length<=i):EnvR A M (L2.yO N vs) H (xp N ws) where
 len:=by unfold L2.yO xp;rw[aM,aM,ac,ac,List.length_replicate,List.length_replicate,h.len]
 val:=λi w e=>by
  unfold xp at e
  have hi:i<ws.length:=by
   apply Classical.byContradiction;intro z;rw[bK (by simp_all)] at e;obtain⟨_,q⟩:=aj.mp e
   simp_all
  rw[cr (by simp_all),aB] at e;obtain⟨w',e1,e2⟩:=ay.mp e;cases e2;obtain⟨v,h1,h2⟩:=h.get e1;refine⟨v,?_,λ_=>h2,λz=>absurd (hM i z) (by lia)⟩;unfold L2.yO;have hi':i<vs.length:=by rw[h.len];exact hi
  rw[cr (by simp_all),aB,h1];rfl
 dis:=λi j w u ad hi hj hne e1=>by
  unfold xp at e1;have:=hM i hi;rw[bK (by simp_all)] at e1;obtain⟨_,q⟩:=aj.mp e1
  simp_all
 al:=al
def zpz{P:Program}{w:World}{K:PySem.W.Frag}{mg:Str->Option Value}{base:Heap}{qual:Str}{f:Addr}{fd:FuncData}{N ps:List Str}{F:PN->List W->Mo W}(M:List Nat)(U:(∀vs H Q E,spV m fr F vs H Q E->vs.length=ps.length)->(∀ (B:Value) (A:Around) (outer:List Env) (s:Shared) (H:Hp) (vs:List V) (Q:VK) (E:XK),Room k (A.deeper (PyProof.Rows.envOfC qual (zd st) s.heap.objs.size f B))->spV m fr F vs H Q E->
   ∃t,QSs (zaN CX0 P w K mg base N qual (zd st) f B A outer s H E).nox (zU st) t/\t { nx:=λ_ H'=>Q .non H',rt:=Q } (L2.yO N vs) H)->FnOk P w K mg base CX0 (k+1) f fd ps (spV m fr F))(hm:m=ps.length)(hM:∀i∈M,m<=i)(I:∀ (B:Value) (A:Around) (outer:List Env) (s:Shared) (H:Hp) (E:XK) (Pn:PN),Room k (A.deeper (PyProof.Rows.envOfC qual (zd st) s.heap.objs.size f B))->
   ∃fs,JSs (zaN CX0 P w K mg base N qual (zd st) f B A outer s H E).nox Pn [] M fr (zU st) fs/\∀J n R,J.length=m->F Pn J n R->fs (xp N J) n { nx:=λ_ O=>fr=false/\R (.d .non) O,rt:=R }):FnOk P w K mg base CX0 (k+1) f fd ps (spV m fr F):=by
 refine U (λvs H Q E h=>?_) (λB A outer s H vs Q E hr h=>?_)
 ·obtain⟨Pn,A,J,n,R,_,Y,Z,_⟩:=h;rw[Y.len,Z,hm]
 ·obtain⟨Pn,A3,J,n,R,al,Y,Z,hp,hF,q⟩:=h;obtain⟨fs,⟨t,qs,rs⟩,ab⟩:=I B A outer s H E Pn hr;refine⟨t,qs,rs.run { A0:=A3,H0:=H,G0:=zG A3 H,σ0:=L2.yO N vs } A3 (L2.yO N vs) H (xp N J) n _ _ ⟨za2 al Y (λi hi=>by simp_all),⟨λ_ z=>z,λ_ z=>.inl z,.of (zn.refl _),al,λ_ z=>z.elim,λ_ z=>z.elim⟩,hp,zn.refl _,⟨λi hi=>rfl,λz=>by cases z⟩,λi w a hi e=>?_⟩ ⟨?_,?_,?_,λ_ z=>z,?_⟩ (ab J n R Z hF)⟩
  ·exact absurd e (by unfold xp;have:=hM i hi;rw[bK (by simp_all)];intro z;obtain⟨_,q⟩:=aj.mp z;rw[List.getElem_replicate] at q;cases q)
  ·intro A' ag H' an O a' ⟨L,r⟩;exact q _ O .non H' r (Val.of (show Is _ .non .non from rfl)) ⟨a'.frm.st.stay,a'.pn.less a'.frm.sub⟩ λz=>by rw[L] at z;cases z
  ·simp_all
  ·simp_all
  ·intro w O v H' ad st pn L r;exact q w O v H' r ad ⟨st.stay,pn⟩ L
end
open PySem PySem.Spec L2
section
variable {X:Cx}{Pn:PN}{M S:List Nat}{fr fr':Bool}{e a b c:Expr}{es:List Expr}{f fa fb fc:Ev->Mo W}{pos p p2:Pos}
def zlc (B:Dt->Bool)(f:Ev->Mo W):Ev->Mo W:=λρ n Q=>f ρ n λw m=>∃d,w = .d d/\Q (.d (.bl (B d))) m
def ziD(q:∀d:Dt,PySem.W.kitOne K (.type d.ty) (.type T)=some (B d))(h:RB Pn M te f):RE Pn M false (tCB (λxs H Q=>∃x T t b,xs=[x,.ty T]/\TyOf K H x t/\PySem.W.kitOne K t (.type T)=some b/\Q (.bl b) H) (zd5 te (zd5 (tC (.ty T)) zoa))) (zlc B f):=⟨λA σ H ρ n Q R E P hf k=>by refine h.run A σ H ρ n _ _ E P hf  ?_;rintro w m v H' ⟨d,e,r⟩ F g;subst e;exact⟨v,T,_,_,rfl,F.is.ty,q d,k _ m _ H' r (Val.of rfl) g λz=>by cases z⟩⟩
@[reducible] def zjy:Dt->Bool
 | .str _=>true
 | _=>false
@[reducible] def isDct:Dt->Bool
 | .dct=>true
 | _=>false
def zmw (K:PySem.W.Frag)(d:Dt):PySem.W.kitOne K (.type d.ty) (.type "str")=some (zjy d):=by cases d <;> rfl
def zml(U:∀d:Dt,PySem.W.kitOne X.K (.type d.ty) (.type T)=some (B d))(Y:bootBuiltins x=some (.type T))(I:Gl X x)(Z:x ≠ "__name__")(hd:(x==("__debug__" : Str))=false)(hg:Gl X "isinstance")(hm:X.mg "isinstance" = none)(J:X.mg x=none)(h:JB X Pn M e f)(F:starEach (e::[.Name x p2]) X.env=(false,eval e X.env)::starEach [.Name x p2] X.env)(L:starEach (.Name x p2::[]) X.env=(false,eval (.Name x p2) X.env)::starEach [] X.env)(O:(backTo pos (starEach [.Name x p2] X.env)).any (·.1)=false):JE X Pn M false (.Call (.Name "isinstance" p) [e,.Name x p2] [] pos) (zlc B f):=by
 obtain⟨te,q,r⟩:=h.ex;exact⟨_,yq zgQ hg hm bE (zz q (zz (zcY (v:=.ty T) I J Y rfl Z hd) yn L) F) (by decide) (by decide) F O,ziD U r⟩
def ul (L:Gl X "isinstance")(O:X.mg "isinstance" = none)(q:X.mg "tuple" = none)(h:JB X Pn M e f)(B:Gl X "tuple" := by rfl)(F:starEach (e::[.Name "tuple" p2]) X.env=(false,eval e X.env)::starEach [.Name "tuple" p2] X.env:=by rfl)(I:starEach (.Name "tuple" p2::[]) X.env=(false,eval (.Name "tuple" p2) X.env)::starEach [] X.env:=by rfl)(J:(backTo pos (starEach [.Name "tuple" p2] X.env)).any (·.1)=false:=by rfl) :
  JE X Pn M false (.Call (.Name "isinstance" p) [e,.Name "tuple" p2] [] pos) (zlc Dt.isTup f):=zml (zmx _) bJ B (by decide) (by decide) L O q h F I J
def yx (L:Gl X "isinstance")(O:X.mg "isinstance" = none)(q:X.mg "bool" = none)(h:JB X Pn M e f)(B:Gl X "bool" := by rfl)(F:starEach (e::[.Name "bool" p2]) X.env=(false,eval e X.env)::starEach [.Name "bool" p2] X.env:=by rfl)(I:starEach (.Name "bool" p2::[]) X.env=(false,eval (.Name "bool" p2) X.env)::starEach [] X.env:=by rfl)(J:(backTo pos (starEach [.Name "bool" p2] X.env)).any (·.1)=false:=by rfl) :
  JE X Pn M false (.Call (.Name "isinstance" p) [e,.Name "bool" p2] [] pos) (zlc Dt.isBl f):=zml (zpf _) PyProof.Rows.boot_bool B (by decide) (by decide) L O q h F I J
def zar (L:Gl X "isinstance")(O:X.mg "isinstance" = none)(q:X.mg "str" = none)(h:JB X Pn M e f)(B:Gl X "str" := by rfl)(F:starEach (e::[.Name "str" p2]) X.env=(false,eval e X.env)::starEach [.Name "str" p2] X.env:=by rfl)(I:starEach (.Name "str" p2::[]) X.env=(false,eval (.Name "str" p2) X.env)::starEach [] X.env:=by rfl)(J:(backTo pos (starEach [.Name "str" p2] X.env)).any (·.1)=false:=by rfl) :
  JE X Pn M false (.Call (.Name "isinstance" p) [e,.Name "str" p2] [] pos) (zlc zjy f):=zml (zmw _) PyProof.Rows.boot_str B (by decide) (by decide) L O q h F I J
def zkC (n:Nat):List Dt:=(List.range n).map λi:Nat=>Dt.int i
def zhl(n:Nat):IsL G (zkC n) ((List.range n).map λi:Nat=>V.int i):=by
 have q:zkC n=(((List.range n).map λi:Nat=>(i:Int))).map Dt.int:=by unfold zkC;rw[au];rfl
 have B:((List.range n).map λi:Nat=>V.int i)=(((List.range n).map λi:Nat=>(i:Int))).map V.int:=by rw[au];rfl
 rw[q,B];exact IsL.ints
def zcK (fa:Ev->Mo (List W)):Ev->Mo W:=λρ n Q=>fa ρ n λq m=>∃j:Nat,q=[.d (.int (j:Int))]/\j<=1000/\Q (.d (.lst (zkC j))) m
def zhq{q:Pos}{J:Pos}(hm:X.mg "list" = none)(L:X.mg "range" = none)(ha:JAB X Pn M [a] fs)(hc:X.calm=true:=by rfl)(hg:Gl X "list" := by rfl)(O:Gl X "range" := by rfl)(hs:starEach (a::[]) X.env=(false,eval a X.env)::starEach [] X.env:=by rfl)(F:starEach (.Call (.Name "range" J) [a] [] q::[]) X.env=(false,eval (.Call (.Name "range" J) [a] [] q) X.env)::starEach [] X.env:=by rfl)(U:(backTo q (starEach [] X.env)).any (·.1)=false:=by rfl)(Y:(backTo pos (starEach [] X.env)).any (·.1)=false:=by rfl):JE X Pn M true (.Call (.Name "list" p) [.Call (.Name "range" J) [a] [] q] [] pos) (zcK fs):=by
 obtain⟨ta,qa,ra⟩:=ha.ex;refine⟨_,zbv (zem hc) hg hm cK (zz (zbv zjh O L PyProof.Rows.boot_range qa (by decide) (by decide) hs U) yn F) (by decide) (by decide) F Y,⟨λA σ H ρ n Q R E P hf k=>?_⟩⟩;refine ra.run A σ H ρ n _ _ E P hf  ?_;rintro ws m vs H1 ⟨j,e,hj,r⟩ bb g;subst e;obtain⟨v,rfl,b1⟩:=zaH bb;obtain rfl:=xt b1;refine⟨_,rfl,λp1 H2 np g2 S2=>⟨p1,j,rfl,g2,hj,λp3 H3 I Z S3=>?_⟩⟩;have B:=g.trans (Go.same g.pn S2);exact k _ m _ H3 r (zbO (H:=H2) (zhl j) (zn.same S3) ((E.stay B.st).new I) Z) (B.trans (Go.same B.pn S3)) λ_=>(za5 (H:=H2) (zhl j) S3 I Z).back B.st
@[reducible] def truD:W->Option Bool
 | .d (.lst l)=>some (!l.isEmpty)
 | .d (.tup l)=>some (!l.isEmpty)
 | .d (.bl b)=>some b
 | .d (.int i)=>some (i != 0)
 | .d .non=>some false
 | _=>none
def At3.own(h:At3 Pn B S M A σ H ρ n)(hi:i∈M)(e:ρ[i]?=some (some (.d (.lst l)))):∃q xs,σ[i]?=some (some (.ref q))/\A q/\H q=some (.lst xs)/\IsL (zG A H) l xs:=by obtain⟨v,I,_,J⟩:=h.env.val i _ e;obtain⟨q,rfl,F,L,_⟩:=J hi;obtain⟨Z,xs,O,U,Y⟩:=L;cases O;exact⟨q,xs,I,F,U.own h.env.al F,Y⟩
def zcL (i:Nat):Ms:=λρ n k=>∃l,ρ[i]?=some (some (.d (.lst l)))/\k.nx (ρ.set i (some (.d (.lst l.reverse)))) n
def zgd (i:Nat){x:Str}{ap cp sp np:Pos}(hi:i∈M:=by decide)(U:X.N[i]?=some x:=by rfl)(Y:Vis X.env.scope x:=by walk_at "v")(Z:(x==("__debug__" : Str))=false:=by decide)
  (I:(x==("__classdict__" : Str))=false:=by decide) (hs:swapsWith (.Call (.Attribute (.Name x np) "reverse" ap) [] [] cp) none sp.line X.env=pure false:=by rfl) (q:attributeBase (.Name x np) "reverse" X.env (eval (.Name x np) X.env)=eval (.Name x np) X.env:=by rfl) (F:(ap.endLine==cp.line)=true:=by rfl) :
  JS X Pn S M fr (.Expr (.Call (.Attribute (.Name x np) "reverse" ap) [] [] cp) sp) (zcL i):=by
 refine⟨_,zbx (znw (qv i U Y Z I) q F) hs,⟨ ?_⟩⟩;rintro B A σ H ρ n k D a kk ⟨l,e,r⟩;obtain⟨J,xs,L,hA,O,hl⟩:=a.own hi e;exact⟨.ref J,L,.inl ⟨rfl,_,SqL.of O⟩,J,xs,rfl,rfl,O,kk.nx A σ _ _ n (a.wr hi e L (zhk hl)) r⟩
end
open PySem PySem.Spec L2
section
variable {A:Addr->Prop}{H:Hp}
def zn1(h:zbQ A H [w] vs):∃v,vs=[v]/\Val A H w v:=by obtain⟨v,r,e,h1,h2⟩:=h;cases h2;exact⟨v,e,h1⟩
def zt3(h:zbQ A H [w,u] vs):∃v y,vs=[v,y]/\Val A H w v/\Val A H u y:=by obtain⟨v,r,e,h1,h2⟩:=h;obtain⟨y,rfl,q⟩:=zn1 h2;exact⟨v,y,e,h1,q⟩
def zrk{st:List Int}(h:Val A H (.d (stD st)) v):∃a,v = .ref a/\H a=some (.tup (st.map V.int)):=by obtain⟨a,xs,e,h1,h2⟩:=h;obtain rfl:=h2.of_ints;exact⟨a,e,zl _ _ h1⟩
end
structure RoomOk (rm:List Int):Prop where
 ne:rm≠[]
 few:rm.length<=8
 box:∀r∈rm,2<=r/\r<=4
def RoomOk.pos {rm:List Int}(h:RoomOk rm):1<=rm.length:=by
 cases rm with
 | nil=>exact absurd rfl h.ne
 | cons _ _=>simp
abbrev FV:=PN->List W->Mo W
def zro (k:Nat)(fr:Bool)(F:FV)(sp:Sp):Prop:=∀vs H Q E,spV k fr F vs H Q E->sp vs H Q E
def FnOk.lift(h:FnOk P w K mg base CX j f fd ps sp)(l:zro k fr F sp):FnOk P w K mg base CX j f fd ps (spV k fr F):=h.imp l
def zod:FV:=λPn q n R=>∃p c ns zA,Pn=⟨some (p,c,ns),J0⟩/\q=[.pen p,.d (.int zA)]/\n<=1000000/\1<=zA/\zA<1073741824/\∀r,0<=r->r<zA->R (.d (.int r)) (n+1)
@[reducible] def zrm:FV:=λPn B n R=>∃p c ns q,Pn=⟨some (p,c,ns),J0⟩/\B=[.pen p,.d (.int q)]/\n+20<=1000000/\4<=q/\q<=256/\∀rm,RoomOk rm->yu rm<=q->R (.d (stD rm)) (n+10)
@[reducible] def zkQ:FV:=λPn q n R=>∃p c ns rm,Pn=⟨some (p,c,ns),J0⟩/\q=[.pen p,.d (stD rm)]/\n+20<=1000000/\RoomOk rm/\∀st,st.length=rm.length->(∀b:Int,0<=b->b<rm.length->0<=zA st b/\zA st b<zA rm b)->R (.d (stD st)) (n+10)
@[reducible] def yp (g:List (Int×Int)):Dt:=.tup (g.map zF)
@[reducible] def zoe:FV:=λPn F n R=>∃p c ns rm B,Pn=⟨some (p,c,ns),J0⟩/\F=[.pen p,.d (stD rm),.d (.int B)]/\n+40<=1000000/\RoomOk rm/\∀g,Giv rm g->(∀q∈g,q.1≠B)->g.length<=8->R (.d (yp g)) (n+30)
@[reducible] def zrH:FV:=λ_ q n R=>∃d,q=[.d d]/\R (.d (.bl d.isWhole)) n
@[reducible] def zrG:FV:=λ_ q n R=>∃a b,q=[.d (.bl a),.d (.bl b)]/\R (.d (.bl (a==b))) n
@[reducible] def zkR:FV:=λ_ q n R=>∃ns:List Int,q=[.d (stD ns)]/\(∀n∈ns,2<=n/\n<=4)/\R (.d (.int (yu ns))) n
def zhG:zro 1 false zkR zlx:=by rintro vs H Q E ⟨Pn,A,L,n,R,O,B,U,hp,⟨ns,rfl,h1,F⟩,q⟩;obtain⟨v,rfl,I⟩:=zn1 B;obtain⟨a,rfl,J⟩:=zrk I;exact⟨a,ns,rfl,J,h1,q _ n _ H F (Val.of rfl) (Go.refl hp) λz=>by cases z⟩
@[reducible] def zrF:FV:=λ_ B n R=>∃st g,B=[.d (stD st),.d (yp g)]/\(∀q∈g,0<=q.1/\q.1<st.length)/\R (.d (.bl (zB st g))) n
@[reducible] def xS (sts:List (List Int)):Dt:=.lst (sts.map stD)
def znQ{sts:List (List Int)}(F:Al A H)(s:yz H H')(n:H a=none)(h:H' a=some (.lst ys))(I:IsL H' (sts.map stD) ys):Val A H' (.d (xS sts)) (.ref a)/\FrV A H H' (.d (xS sts)) (.ref a):=by
 have q:=F.stay (zn.same s);have B:=uD q.noT (zaT sts) I;refine⟨Val.of ⟨a,ys,rfl,.inl (zi (F.new n) h),B⟩,a,rfl,.of n,⟨_,h,rfl⟩,a,ys,rfl,.inl h,uD (λb xs z e=>?_) (zaT sts) I⟩;rcases z with z | z
 ·exact q.noT b xs z e
 ·grind
@[reducible] def F_all:FV:=λ_ q n R=>∃rm,q=[.d (stD rm)]/\RoomOk rm/\yu rm<=256/\R (.d (xS (yy (rm.map zq)))) n
@[reducible] def lsD (c:List Int):Dt:=.lst (c.map .int)
@[reducible] def zb4:FV:=λ_ q n R=>∃cs:List (List Int),q=[.d (.lst (cs.map lsD))]/\cs.length<=8/\(∀c∈cs,c.length<=4)/\R (.d (xS (yy cs))) n
def zjX(s:yz G H):∀ {cs:List (List Int)} {xs:List V},IsL G (cs.map lsD) xs->zoj H xs cs:=λ{cs xs} h=>by refine⟨by rw[h.length,ac],λi c F=>?_⟩;obtain⟨v,h1,h2⟩:=h.getD (i:=i) (d:=lsD c) (by simp_all);obtain⟨a,ys,rfl,q,B⟩:=h2;obtain rfl:=B.of_ints;exact⟨a,h1,q.same s⟩
def zcH:zro 1 true zb4 (zco K):=by rintro vs H Q E ⟨Pn,A,ws,n,R,I,J,hl,hp,⟨cs,rfl,h1,h2,L⟩,q⟩;obtain⟨v,rfl,O⟩:=zn1 J;obtain⟨a,xs,rfl,U,Y⟩:=O;refine⟨a,xs,cs,rfl,U.sub,zjX zl Y,h1,h2,λa ys H' Z B F S=>?_⟩;obtain⟨z1,z2⟩:=znQ I S Z B F;exact q _ n _ H' L z1 (Go.same hp S) λ_=>z2
open PySem PySem.Spec L2
def zgL {α:Type}{l:List W}{F:Ev}{n:Nat}{mg:W->Ev->(Ev->Prop)->Prop}{ft:Ev->Mo Bool}{Y:Ev->Mo W}{Q:W->Nat->Prop}(xs:List α)(I:α->W)(hl:l=xs.map I)(J:Ev->Prop)(P:α->Bool)(E:α->Dt)(Z:xs.length<=lim)(j0:J F)
  (h:∀a∈xs,∀ B,J B->∀C:Ev->Nat->Option Dt->Prop,(∀ q,J q->C q n (if P a then some (E a) else none))->mg (I a) B λq=>ft q n λb n2=>if b=true then Y q n2 λx L=>∃d,x = .d d/\C q L (some d) else C q n2 none)
  (fin:Q (.d (.lst ((xs.filter P).map E))) n):zel mg ft Y F Q l n:=by
 subst hl;refine⟨by simp_all,λi B O acc=>J B/\O=n/\acc=((xs.take i).filter P).map E,⟨j0,rfl,by simp⟩,?_,?_⟩
 ·rintro i w B O acc hw ⟨hj,rfl,rfl⟩;rw[aB] at hw;obtain⟨a,ha,rfl⟩:=ay.mp hw
  have:=h a (aC ha) B hj (λq L o=>match o with
   | some d=>J q/\L=O/\((xs.take i).filter P).map E++[d]=((xs.take (i+1)).filter P).map E
   | none=>J q/\L=O/\((xs.take i).filter P).map E=((xs.take (i+1)).filter P).map E) (λq U=>by
    rw[zp ha,bS,aA];by_cases hp:P a=true
    ·simp_all
    ·rw[if_neg hp];exact⟨U,rfl,by simp[hp]⟩)
  exact this
 ·grind
def zje {α:Type}{l:List W}{F:Ev}{n:Nat}{mg:W->Ev->(Ev->Prop)->Prop}{Y:Ev->Mo W}{Q:W->Nat->Prop}(xs:List α)(I:α->W)(hl:l=xs.map I)(J:Ev->Prop)(E:α->Dt)(Z:xs.length<=lim)(j0:J F)
  (h:∀a∈xs,∀ B,J B->∀C:Ev->Nat->Dt->Prop,(∀ q,J q->C q n (E a))->mg (I a) B λq=>Y q n λx L=>∃d,x = .d d/\C q L d)
  (fin:Q (.d (.lst (xs.map E))) n):zel mg zsW Y F Q l n:=by
 subst hl;refine⟨by simp_all,λi B O acc=>J B/\O=n/\acc=(xs.take i).map E,⟨j0,rfl,by simp⟩,?_,?_⟩
 ·rintro i w B O acc hw ⟨hj,rfl,rfl⟩;rw[aB] at hw;obtain⟨a,ha,rfl⟩:=ay.mp hw;exact h a (aC ha) B hj (λq L d=>J q/\L=O/\(xs.take i).map E++[d]=(xs.take (i+1)).map E) λq U=>⟨U,rfl,by rw[zp ha,aA];rfl⟩
 ·grind
def zl3(I:Nat->Ev->Nat->Prop)(O:I 0 ρ n)(h:∀i q B,i<r->I i q B->mg (.d (.int (i:Int))) q λF=>fb F B { k with nx:=I (i+1),ct:=I (i+1),bk:=k.nx })(U:∀ q B,I r q B->k.nx q B):zl2 mg fb ρ k (zgn 0 r) n:=by
 refine⟨I,O,λi w q B J L=>?_,λq B L=>U q B ?_⟩
 ·unfold zgn at J;rw[aB] at J;obtain⟨j,h1,rfl⟩:=ay.mp J;obtain⟨hi,h2⟩:=aj.mp h1;rw[eU] at h2
  simp_all
 ·unfold zgn at L
  simp_all
def zhe{α:Type}(xs:List α)(F:α->W)(U:l=xs.map F)(I:Nat->Ev->Nat->Prop)(Y:I 0 ρ n)(h:∀i a q B,xs[i]?=some a->I i q B->mg (F a) q λJ=>fb J B { k with nx:=I (i+1),ct:=I (i+1),bk:=k.nx })(Z:∀ q B,I xs.length q B->k.nx q B):zl2 mg fb ρ k l n:=by
 subst U;refine⟨I,Y,λi w q B L O=>?_,λq B O=>Z q B (by simp_all)⟩;rw[aB] at L;obtain⟨a,ha,rfl⟩:=ay.mp L;exact h i a q B ha O
def zdn(I:Nat->Ev->Nat->Prop)(L:I 0 ρ n)(h:∀i q F,i<r->I i q F->∀ (C B:Ev->Nat->Prop) (E:W->Nat->Prop),(∀ {ρ m},I (i+1) ρ m->C ρ m)->(∀ {ρ m},k.nx ρ m->B ρ m)->(∀ {w m},k.rt w m->E w m)->mg (.d (.int (i:Int))) q λJ=>fb J F { rt:=E,nx:=C,ct:=C,bk:=B })(O:∀ q F,I r q F->k.nx q F):zl2 mg fb ρ k (zgn 0 r) n:=
 zl3 I L (λi q F hi U=>h i q F hi U (I (i+1)) k.nx k.rt (λz=>z) (λz=>z) λz=>z) O
def yF{α:Type}(xs:List α)(F:α->W)(O:l=xs.map F)(I:Nat->Ev->Nat->Prop)(U:I 0 ρ n)(h:∀i a q J,xs[i]?=some a->I i q J->∀ (C B:Ev->Nat->Prop) (E:W->Nat->Prop),(∀ {ρ m},I (i+1) ρ m->C ρ m)->(∀ {ρ m},k.nx ρ m->B ρ m)->(∀ {w m},k.rt w m->E w m)->mg (F a) q λL=>fb L J { rt:=E,nx:=C,ct:=C,bk:=B })(Y:∀ q J,I xs.length q J->k.nx q J):zl2 mg fb ρ k l n:=
 zhe xs F O I U (λi a q J Z hI=>h i a q J Z hI (I (i+1)) k.nx k.rt (λz=>z) (λz=>z) λz=>z) Y
def zjd{α:Type}(xs:List α)(L:α->W)(hl:l=xs.map L)(U:xs.length<=lim)(I:Nat->Ev->Nat->List Dt->Prop)(h0:I 0 J n [])(h:∀i a q B acc,xs[i]?=some a->I i q B acc->∀C:Ev->Nat->List Dt->Prop,(∀ {ρ m l},I (i+1) ρ m l->C ρ m l)->mg (L a) q λF=>ft F B λb Y=>if b=true then O F Y λx n3=>∃d,x = .d d/\C F n3 (acc++[d]) else C F Y acc)(fin:∀ q B acc,I xs.length q B acc->Q (.d (.lst acc)) B):zel mg ft O J Q l n:=by
 subst hl;refine⟨by simp_all,I,h0,λi w q B acc Z hI=>?_,λq B acc hI=>fin q B acc (by simp_all)⟩;rw[aB] at Z;obtain⟨a,ha,rfl⟩:=ay.mp Z;exact h i a q B acc ha hI (I (i+1)) λz=>z
def zgD {α:Type}{l:List α}{i:Nat}{x:α}(h:l[i]?=some x):atI l (i:Int)=some x:=by
 have:=(aj.mp h).1;unfold atI ixN
 simp_all
def zoq {α:Type}{l:List α}{i:Int}(B:0<=i)(h1:i<l.length):∃d,atI l i=some d/\d∈l:=by
 obtain⟨j,rfl⟩:∃j:Nat,i=j:=⟨i.toNat,by lia⟩;have q:j<l.length:=by lia
 exact⟨l[j],zgD (ar q),aZ q⟩
def zgC {α:Type}{l:List α}(h:l≠[]):∃d,atI l (-1)=some d/\d∈l:=by
 have q:0<l.length:=bN.mpr h;unfold atI ixN;rw[if_neg (by lia),if_pos (by lia)];have B:(-1+(l.length:Int)).toNat<l.length:=by lia
 simp_all
def zlJ {st:List Int}{b:Int}(B:0<=b)(h1:b<st.length):atI (st.map Dt.int) b=some (.int (zA st b)):=by
 obtain⟨j,rfl⟩:∃j:Nat,b=j:=⟨b.toNat,by lia⟩;have q:j<st.length:=by lia
 refine zgD ?_;rw[aB,ar q,uS];simp[q]
open PySem L2
def gw (g:List (Int×Int))(i:Nat):Option Int:=(g.find? λq=>decide (q.1=(i:Int))).map (·.2)
def zmy (g:List (Int×Int))(i:Nat):zS (List.map kvD (List.map (λq:Int×Int=>(q.1,Dt.int q.2)) g)) (Sum.inl (i:Int))=(gw g i).map Dt.int:=by
 unfold zS gw
 induction g with
 | nil=>rfl
 | cons q g B=>
  rw[ao,ao,bf,bf];by_cases h:q.1=(i:Int)
  ·have h1:decide ((kvD (q.1,Dt.int q.2)).1=(Sum.inl (i:Int):Key))=true:=aF (by show (Sum.inl q.1:Key)=_;rw[h]);rw[h1,aF h];rfl
  ·have h1:decide ((kvD (q.1,Dt.int q.2)).1=(Sum.inl (i:Int):Key))=false:=aQ λz=>h (Sum.inl.inj z)
   simp_all
def zg5 (rm:List Int):enW 0 (rm.map Dt.int)=(List.range rm.length).map λi:Nat=>W.d (.tup [.int (i:Int),.int (rm.getD i 0)]):=by
 apply List.ext_getElem?;intro i;rw[zer,aB,aB];by_cases h:i<rm.length
 all_goals simp_all
def cho (rm:List Int)(g:List (Int×Int))(i:Nat):List Int:=match gw g i with
 | some w=>[w]
 | none=>zq (rm.getD i 0)
def chs (rm:List Int)(g:List (Int×Int)):List (List Int):=(List.range rm.length).map (cho rm g)
def zbW (rm:List Int)(g:List (Int×Int)):List (List Int):=yy (chs rm g)
def kpN (g:List (Int×Int))(n:Nat)(st:List Int):Bool:=g.all λq=>!decide (q.1<n) || decide (zA st q.1=q.2)
def zcF {g:List (Int×Int)}{n:Nat}{st:List Int}:kpN g n st=true↔∀q∈g,q.1<(n:Int)->zA st q.1=q.2:=by
 unfold kpN;rw[a9];constructor
 ·intro h q B F;have:=h q B
  simp_all
 ·intro h q B
  grind
def zdm {B:List (List Int)}{F:List Int}{p p':List Int->Bool}{q:Int->Bool}(h:∀r∈B,∀w∈F,p (r++[w])=(p' r&&q w)):(yX B F).filter p=yX (B.filter p') (F.filter q):=by
 unfold yX
 induction B with
 | nil=>rfl
 | cons r B J=>
  have I:=J λL O=>h L (av _ O);rw[List.flatMap_cons,bS,I,el]
  have e:(F.map λw=>r++[w]).filter p=if p' r=true then (F.filter q).map (λw=>r++[w]) else []:=by
   rw[List.filter_map];have U:F.filter (p ∘ λw=>r++[w])=F.filter λw=>p' r&&q w:=ff λw Y=>h r aL w Y;rw[U]
   cases p' r with
   | true=>simp
   | false=>simp
  rw[e]
  cases p' r with
  | true=>simp
  | false=>simp
def zet {rm:List Int}{g:List (Int×Int)}(B:Giv rm g){i:Nat}{w:Int}(h:gw g i=some w):((i:Int),w)∈g:=by
 unfold gw at h;obtain⟨q,h1,h2⟩:=ay.mp h
 grind
def zma{g:List (Int×Int)}(h:gw g i=none):∀q∈g,q.1≠(i:Int):=λq B e=>by unfold gw at h;have:=List.find?_eq_none.mp (Option.map_eq_none_iff.mp h) q B;simp[e] at this
def zl7 {rm:List Int}{g:List (Int×Int)}(B:Giv rm g){q r:Int×Int}(h1:q∈g)(h2:r∈g)(e:q.1=r.1):q=r:=by
 have key:∀g:List (Int×Int),(g.Pairwise λa b=>a.1<b.1)->q∈g->r∈g->q=r:=by
  intro g hp
  induction hp with
  | nil=>intro h;simp at h
  | cons F _ I=>
   grind
 exact key g B.up h1 h2
def ziB {m w:Int}(I:0<=w)(h1:w<m):(zq m).filter (λx=>decide (x=w))=[w]:=by
 unfold zq;rw[List.filter_map]
 have key:∀n:Nat,w.toNat<n->(List.range n).filter ((λx:Int=>decide (x=w)) ∘ λi:Nat=>(i:Int))=[w.toNat]:=by
  intro n
  induction n with
  | zero=>intro h;lia
  | succ n B=>
   intro h;rw[List.range_succ,bS];by_cases F:w.toNat<n
   ·rw[B F];have:¬ ((n:Int)=w):=by lia
    simp[this]
   ·have q:w.toNat=n:=by lia
    have e:(n:Int)=w:=by lia
    have:(List.range n).filter ((λx:Int=>decide (x=w)) ∘ λi:Nat=>(i:Int))=[]:=by
     rw[List.filter_eq_nil_iff]
     grind
    rw[this];simp[e,q]
 grind
def zdy {rm:List Int}{g:List (Int×Int)}(I:Giv rm g):∀n:Nat,n<=rm.length->(yy ((rm.take n).map zq)).filter (kpN g n)=yy ((List.range n).map (cho rm g))
 | 0,_=>by
  have:kpN g 0 []=true:=zcF.mpr λq B J=>by have:=(I.ok q B).1;lia
  simp[yy,this]
 | n+1,J=>by
  have F:n<rm.length:=J;have ih:=zdy I n (cC F);rw[zp (ar F),aA,List.range_succ,aA];show (yy (_++[zq rm[n]])).filter _=yy (_++[cho rm g n]);rw[z8,z8,<- ih]
  have L:∀r∈yy ((rm.take n).map zq),r.length=n:=λr Y=>by rw[xi _ _ Y,ac,aV];lia
  have e:rm.getD n 0=rm[n]:=by simp[F]
  have em:zA rm (n:Int)=rm[n]:=by unfold zA;simp[F]
  rw[zdm (p':=kpN g n) (q:=λw=>match gw g n with | some v=>decide (w=v) | none=>true)]
  ·congr 1;unfold cho
   cases B:gw g n with
   | none=>rw[e];simp
   | some v=>
    have Z:=I.ok _ (zet I B);have h2:v<zA rm (n:Int):=Z.2.2.2;exact ziB Z.2.2.1 (by lia)
  ·intro r Y w hw;have hl:=L r Y;rw[a8,aH,zcF,zcF];have lt:∀q∈g,q.1<(n:Int)->zA (r++[w]) q.1=zA r q.1:=λq B J=>x6 (I.ok q B).1 (by lia);have ab:zA (r++[w]) (n:Int)=w:=by rw[<- hl];exact x5
   constructor
   ·intro h;refine⟨λq B J=>by rw[<- lt q B J];exact h q B (by lia),?_⟩
    cases B:gw g n with
    | none=>rfl
    | some v=>
     have h1:=h _ (zet I B) (by lia)
     simp_all
   ·rintro⟨h1,h2⟩ q B J;by_cases O:q.1<(n:Int)
    ·rw[lt q B O];exact h1 q B O
    ·have U:q.1=(n:Int):=by lia
     have ad:gw g n=some q.2:=by
      cases hz:gw g n with
      | none=>exact absurd U (zma hz q B)
      | some v=>rw[zl7 I B (zet I hz) U]
     simp_all
def zbe {rm:List Int}{g:List (Int×Int)}(F:Giv rm g):(yy (rm.map zq)).filter (λst=>zB st g)=zbW rm g:=by
 have h:=zdy F rm.length (af _);rw[aT] at h;unfold zbW chs;rw[<- h];refine ff λst I=>?_;rw[a8,zcF];unfold zB;rw[a9];constructor
 ·intro z q B _;exact aS (z q B)
 ·intro z q B;exact aF (z q B (F.ok q B).2.1)
def zhz {rm:List Int}{g:List (Int×Int)}(B:RoomOk rm):(zbW rm g).length<=65536:=by
 have h:=zcs (cs:=chs rm g) (by unfold chs;rw[ac,aJ];exact B.few) (λc F=>by
  obtain⟨i,hi,rfl⟩:=aw.mp F;have q:=aX.mp hi;have I:=B.box _ (aZ q);have e:rm.getD i 0=rm[i]:=by simp[q]
  unfold cho
  cases gw g i with
  | some v=>simp
  | none=>rw[yD];lia) (chs rm g).length
 rw[aT] at h;exact h
section
variable {X:Cx}{Pn:PN}{M S:List Nat}{fr fr':Bool}{e a b c:Expr}{es:List Expr}{f fa fb fc:Ev->Mo W}{pos p p2:Pos}
def zda:∀ (l k:List Dt) (i:Nat),(ziW l k)[i]?=(l[i]?).bind λx=>(k[i]?).map λy=>W.d (.tup [x,y])
 | [],_,_=>by simp[ziW]
 | _::_,[],_=>by simp[ziW]
 | x::r,y::s,0=>by simp[ziW]
 | x::r,y::s,i+1=>by have:=zda r s i;simp only[ziW,cH,this]
def zfW:∀ (l k:List Dt),(ziW l k).length=min l.length k.length
 | [],_=>by simp[ziW]
 | _::_,[]=>by simp[ziW]
 | x::r,y::s=>by rw[ziW,aN,aN,aN,zfW r s];lia
def zpl (fa:Ev->Mo (List W)):Ev->Mo (List W):=λρ n Q=>fa ρ n λq m=>∃l k,q=[.d (.lst l),.d (.lst k)]/\Q (ziW l k) m
def zjC(h:Rd (zG A H) I (.lst xs))(L:IsL (zG A H) l xs)(h':Rd (zG A H) J (.lst ys))(O:IsL (zG A H) k ys):ItV false A H (Izl K I J) (ziW l k) where
 one:=λi w A2 H2 e s _ hA=>by rw[zda] at e;obtain⟨d,h1,e⟩:=dF.mp e;obtain⟨d',q,rfl⟩:=ay.mp e;obtain⟨x,U,hd⟩:=L.getD h1;obtain⟨y,Y,B⟩:=O.getD q;have g:=(s.rdl h).sub;have g':=(s.rdl h').sub;refine⟨⟨xs,ys,x,y,.inl g,.inl g',U,Y⟩,?_⟩;rintro v H3 ⟨T,z,z',e1,Z,e3,hz,F⟩;subst e1 e3;have q1:=hz xs (.inl g);have q2:=F ys (.inl g');rw[U] at q1;rw[Y] at q2;cases q1;cases q2;have S:=yz.upd (o:=.tup [x,y]) Z;exact⟨S,Val.of ⟨T,_,rfl,zi (hA T Z) zg,_,_,rfl,(hd.stay s).stay (zn.same (xz S)),_,_,rfl,(B.stay s).stay (zn.same (xz S)),rfl⟩⟩
 stop:=λA2 H2 s _=>⟨xs,ys,.inl (s.rdl h).sub,.inl (s.rdl h').sub,by rw[zfW,L.length,O.length];lia⟩
def zmn {B:List Expr}{x1}{tpos:Pos}{fs:Ev->Mo (List W)}(O:Gl X "zip")(U:X.mg "zip" = none)(Y:JA X Pn M [a,b] fs)(J:starEach [a,b] X.env=[(false,eval a X.env),(false,eval b X.env)]:=by rfl)(L:starEach [b] X.env=[(false,eval b X.env)]:=by rfl):JI X Pn M false (.Tuple B x1 tpos) (.Call (.Name "zip" p) [a,b] [] pos) (zpl fs):=by obtain⟨te,q,r⟩:=Y.ex;refine⟨_,znC O U q J L,⟨λA σ H ρ n Q R E P hf k=>?_⟩⟩;refine r.run A σ H ρ n _ _ E P hf  ?_;rintro ws m vs H1 ⟨l,kk,e,r⟩ Z g;subst e;obtain⟨v,s,rfl,⟨ad,xs,rfl,F,hl⟩,v2,s2,rfl,⟨bd,ys,rfl,I,hk⟩,J⟩:=Z;cases J;exact⟨ad,bd,rfl,⟨xs,.inl F.sub⟩,⟨ys,.inl I.sub⟩,k _ m _ H1 r (zjC F hl I hk) g⟩
def zsH (i:Nat)(f:Ev->Mo W):Ms:=λρ n k=>(∃l,ρ[i]?=some (some (.d (.lst l))))/\f ρ n λw m=>∃l q,ρ[i]?=some (some (.d (.lst l)))/\w = .d (.lst q)/\l.length+q.length<=lim/\k.nx (ρ.set i (some (.d (.lst (l++q))))) m
def zo8 (i:Nat){x:Str}{ap cp sp np:Pos}(he:JE X Pn M fr' e f)(hi:i∈M:=by decide)(hN:X.N[i]?=some x:=by rfl)(Z:Vis X.env.scope x:=by walk_at "v")(hd:(x==("__debug__" : Str))=false:=by decide)
  (ab:(x==("__classdict__" : Str))=false:=by decide) (O:starEach (e::[]) X.env=(false,eval e X.env)::starEach [] X.env:=by rfl) (hs:swapsWith (.Call (.Attribute (.Name x np) "extend" ap) [e] [] cp) none sp.line X.env=pure false:=by rfl) (J:attributeBase (.Name x np) "extend" X.env (eval (.Name x np) X.env)=eval (.Name x np) X.env:=by rfl) (L:(ap.endLine==cp.line)=true:=by rfl)
  (U:((backTo cp (starEach [e] X.env)).all (λx=>!x.1)&&(backToKw cp (keywordEach [] X.env)).all (λx=>x.1.isSome)&&decide (([e]:List Expr).length+([]:List Keyword).length+(if ([]:List Keyword).isEmpty then 0 else 1)<30))=true:=by rfl) (I:(backTo cp (starEach [] X.env)).any (·.1)=false:=by rfl) :
  JS X Pn S M fr (.Expr (.Call (.Attribute (.Name x np) "extend" ap) [e] [] cp) sp) (zsH i f):=by
 obtain⟨te,q,r⟩:=he.ex;refine⟨_,zbx (zln cG PySem.F.slot_list_extend PySem.F.type_list_extend zhR (qv i hN Z hd ab) (zz q yn O) J U L O I) hs,⟨ ?_⟩⟩;rintro B A σ H ρ n k D a kk ⟨⟨l0,e0⟩,hf⟩;obtain⟨ad,al,s1,hA,g0,_⟩:=a.own hi e0;refine⟨.ref ad,s1,.inl ⟨rfl,_,SqL.of g0⟩,?_⟩;refine r.run A σ H ρ n _ _ a.env a.pn hf  ?_;rintro w m v H' ⟨l,l2,e,ed,hz,r⟩ Z g _;subst ed;have a':=a.step g;obtain⟨an,xs,s2,_,g4,hl⟩:=a'.own hi e;rw[s1] at s2;cases s2;obtain⟨b2,ys,rfl,ag,Y⟩:=Z;exact⟨ad,b2,xs,ys,rfl,rfl,g4,ag.sub,zdE (by rw[hl.length,Y.length];exact hz),kk.nx A σ _ _ m (a'.wr hi e s1 (hl.append Y)) r⟩
def insD {α:Type}(l:List α)(k:Nat)(x:α):List α:=l.take k++x::l.drop k
def zdq:∀ {ds:List Dt} {xs:List V} (k:Nat),IsL G ds xs->IsL G (ds.eraseIdx k) (xs.eraseIdx k)
 | [],_,_,h=>by cases h;rfl
 | x::ds,xs,0,⟨y,r,e,h1,h2⟩=>by subst e;exact h2
 | x::ds,xs,k+1,⟨y,r,e,h1,h2⟩=>by subst e;exact⟨y,_,rfl,h1,zdq k h2⟩
def zmL (i:Nat)(fk:Ev->Mo W):Ms:=λρ n k=>(∃l,ρ[i]?=some (some (.d (.lst l))))/\fk ρ n λy m=>∃l j,ρ[i]?=some (some (.d (.lst l)))/\y = .d (.int j)/\0<=j/\j<l.length/\l.length<=lim/\k.nx (ρ.set i (some (.d (.lst (l.eraseIdx j.toNat))))) m
def zqO {n:Nat}{j:Int}(q:0<=j)(h1:j<n):seqIndex? j n=some j.toNat:=(zhp (by unfold ixN;rw[if_pos q,if_pos h1])).1
def zmr (i:Nat){x:Str}{ap cp sp np:Pos}(hc:JB X Pn M c fc)(hi:i∈M:=by decide)(hN:X.N[i]?=some x:=by rfl)(U:Vis X.env.scope x:=by walk_at "v")(hd:(x==("__debug__" : Str))=false:=by decide)
  (Y:(x==("__classdict__" : Str))=false:=by decide) (L:starEach (c::[]) X.env=(false,eval c X.env)::starEach [] X.env:=by rfl) (hs:swapsWith (.Call (.Attribute (.Name x np) "pop" ap) [c] [] cp) none sp.line X.env=pure false:=by rfl) (I:attributeBase (.Name x np) "pop" X.env (eval (.Name x np) X.env)=eval (.Name x np) X.env:=by rfl) (J:(ap.endLine==cp.line)=true:=by rfl)
  (O:((backTo cp (starEach [c] X.env)).all (λx=>!x.1)&&(backToKw cp (keywordEach [] X.env)).all (λx=>x.1.isSome)&&decide (([c]:List Expr).length+([]:List Keyword).length+(if ([]:List Keyword).isEmpty then 0 else 1)<30))=true:=by rfl) (q:(backTo cp (starEach [] X.env)).any (·.1)=false:=by rfl) :
  JS X Pn S M fr (.Expr (.Call (.Attribute (.Name x np) "pop" ap) [c] [] cp) sp) (zmL i fc):=by
 obtain⟨tc,qc,rc⟩:=hc.ex;refine⟨_,zbx (zln cG PySem.F.slot_list_pop PySem.F.type_list_pop zj5 (qv i hN U hd Y) (zz qc yn L) I O J L q) hs,⟨ ?_⟩⟩;rintro B A σ H ρ n k D a kk ⟨⟨l0,e0⟩,hf⟩;obtain⟨ad,al,Z,hA,g0,_⟩:=a.own hi e0;refine⟨.ref ad,Z,.inl ⟨rfl,_,SqL.of g0⟩,?_⟩;refine rc.run A σ H ρ n _ _ a.env a.pn hf  ?_;rintro w m v H' ⟨l,j,e,ey,j0,j1,hz,r⟩ U g;subst ey;have e1:v = .int j:=U;subst e1;have a':=a.step g;obtain⟨an,xs,s2,_,g4,hl⟩:=a'.own hi e;rw[Z] at s2;cases s2;have ab:=hl.length;have ag:(l.length:Int)<=500000:=by have:l.length<=500000:=hz;lia
 exact⟨ad,xs,j,j.toNat,xs[j.toNat]'(by lia),rfl,rfl,g4,by lia,by lia,zqO j0 (by lia),ar _,kk.nx A σ _ _ m (a'.wr hi e Z (zdq _ hl)) r⟩
def zi3 {κ:Type}[DecidableEq κ](kvs:List (κ×Dt))(k:κ)(d:Dt):List (κ×Dt):=
 if (kvs.any λkv=>decide (kv.1=k))=true then kvs.map (λkv=>if kv.1=k then (kv.1,d) else kv) else kvs++[(k,d)]
def xh.any {κ:Type}[DecidableEq κ]{G:Hp}{k:κ}:∀ {kvs:List (κ×Dt)} {ks:List (κ×V)},xh G kvs ks->(ks.any λkv=>decide (kv.1=k))=kvs.any λkv=>decide (kv.1=k)
 | [],_,h=>by cases h;rfl
 | q::r,ks,⟨v,s,e,h1,h2⟩=>by subst e;rw[cm,cm,xh.any h2]
def xh.map1 {κ:Type}[DecidableEq κ]{G:Hp}{k:κ}{d:Dt}{x:V}(F:Is G d x):∀ {kvs:List (κ×Dt)} {ks:List (κ×V)},xh G kvs ks->xh G (kvs.map λkv=>if kv.1=k then (kv.1,d) else kv) (ks.map λkv=>if kv.1=k then (kv.1,x) else kv)
 | [],_,h=>by cases h;rfl
 | q::r,ks,⟨v,s,e,h1,h2⟩=>by
  subst e;rw[ao,ao];by_cases B:q.1=k
  ·rw[if_pos B,if_pos B];exact⟨x,_,rfl,F,xh.map1 F h2⟩
  ·rw[if_neg B,if_neg B];exact⟨v,_,rfl,h1,xh.map1 F h2⟩
def xh.snoc {κ:Type}{G:Hp}{k:κ}{d:Dt}{x:V}(B:Is G d x):∀ {kvs:List (κ×Dt)} {ks:List (κ×V)},xh G kvs ks->xh G (kvs++[(k,d)]) (ks++[(k,x)])
 | [],_,h=>by cases h;exact⟨x,[],rfl,B,rfl⟩
 | q::r,ks,⟨v,s,e,h1,h2⟩=>by subst e;exact⟨v,_,rfl,h1,xh.snoc B h2⟩
def xh.put{κ:Type}[DecidableEq κ]{k:κ}{kvs:List (κ×Dt)}{ks:List (κ×V)}(h:xh G kvs ks)(q:Is G d x):xh G (zi3 kvs k d) (xI ks k x):=by
 unfold zi3 xI;rw[h.any];split
 ·exact h.map1 q
 ·exact h.snoc q
def xh.len {κ:Type}{G:Hp}:∀ {kvs:List (κ×Dt)} {ks:List (κ×V)},xh G kvs ks->ks.length=kvs.length
 | [],_,h=>by cases h;rfl
 | q::r,ks,⟨v,s,e,h1,h2⟩=>by subst e;rw[aN,aN,xh.len h2]
def At3.wrX(h:At3 Pn B S M A σ H ρ n)(hi:i∈M)(e:ρ[i]?=some (some w))(s:σ[i]?=some (some (.ref ad)))(hw:WAt (L2.upd H ad o) (zG A H) w' (.ref ad))(hm':w'.mut=true)(np:NP o)(nt:Mt o):At3 Pn B S M A σ (L2.upd H ad o) (ρ.set i (some w')) n:=by
 obtain⟨v,s1,_,s3⟩:=h.env.val i w e;rw[s] at s1;cases s1;obtain⟨a2,e2,hA,_,_⟩:=s3 hi;cases e2;have hlen:i<ρ.length:=(aj.mp e).1
 have hE:EnvR A M σ (L2.upd H ad o) (ρ.set i (some w')):=by
  refine⟨by rw[bi];exact h.env.len,λj u ej=>?_,λj q u u' b hj hq hne e1 e2=>?_,λb hb=>?_⟩
  ·by_cases hj:j=i
   ·subst hj;rw[aP hlen] at ej;cases ej;exact⟨.ref ad,s,λz=>absurd hi z,λ_=>⟨ad,rfl,hA,by show WAt _ _ _ _;rw[yf hA];exact hw,hm'⟩⟩
   ·rw[aq (Ne.symm hj)] at ej;obtain⟨v,t1,t2,t3⟩:=h.env.val j u ej;refine⟨v,t1,λz=>?_,λz=>?_⟩
    ·show WAt _ _ _ _;rw[yf hA];exact t2 z
    ·obtain⟨b,rfl,hb,hbb,hm⟩:=t3 z;have hne:b≠ad:=λq=>h.env.dis i j w u ad hi z (Ne.symm hj) e ej s (by rw[t1,q]);refine⟨b,rfl,hb,?_,hm⟩;show WAt _ _ _ _;rw[yf hA]
     cases u with
     | d x=>
      cases x with
      | lst l=>obtain⟨a2,xs,e2,g1,g2⟩:=hbb;cases e2;exact⟨b,xs,rfl,by unfold Rd;rw[zb hne];exact g1,g2⟩
      | dct=>obtain⟨a2,xs,e2,g1,g2⟩:=hbb;cases e2;exact⟨b,xs,rfl,by rw[zb hne];exact g1,g2⟩
      | _=>cases hm
     | pen p=>cases hm
     | dk k=>obtain⟨a2,xs,e2,g1,g2⟩:=hbb;cases e2;exact⟨b,xs,rfl,by rw[zb hne];exact g1,g2⟩
     | dt k=>obtain⟨a2,xs,e2,g1,g2⟩:=hbb;cases e2;exact⟨b,xs,rfl,by rw[zb hne];exact g1,g2⟩
     | dn fz k=>obtain⟨a2,xs,e2,g1,g2⟩:=hbb;cases e2;exact⟨b,xs,rfl,g1.imp λo _ e=>by rw[zb hne];exact e,g2⟩
     | wd d fs kn=>cases hm
     | lf ls=>cases hm
     | ss P w k=>obtain⟨a2,xs,e2,g1,g2⟩:=hbb;cases e2;exact⟨b,xs,rfl,by rw[zb hne];exact g1,g2⟩
     | df k=>obtain⟨a2,ob,xs,e2,g1,g2⟩:=hbb;cases e2;exact⟨b,ob,xs,rfl,by simp_all,g2⟩
     | kf k=>obtain⟨a2,ob,xs,e2,g1,g2⟩:=hbb;cases e2;exact⟨b,ob,xs,rfl,by simp_all,g2⟩
     | ad a x=>cases hm
     | tz kvs x=>cases hm
     | fl k=>obtain⟨a2,ob,xs,e2,g1,g2⟩:=hbb;cases e2;exact⟨b,ob,xs,rfl,by simp_all,g2⟩
  ·have get:∀q (u:W),(ρ.set i (some w'))[q]?=some (some u)->∃u',ρ[q]?=some (some u'):=λq u z=>by
    by_cases hq:q=i
    ·subst hq;exact⟨w,e⟩
    ·rw[aq (Ne.symm hq)] at z;exact⟨u,z⟩
   obtain⟨v1,f1⟩:=get j u e1;obtain⟨v2,f2⟩:=get q u' e2;exact h.env.dis j q v1 v2 b hj hq hne f1 f2
  ·by_cases hb':b=ad
   ·subst hb';exact⟨_,zg,np,nt⟩
   ·rw[zb hb'];exact h.env.al b hb
 refine⟨hE,⟨h.frm.sub,h.frm.new,λb o eb nn nc=>?_,h.frm.al,h.frm.cn,λb z=>(by
  by_cases hb':b=ad
  ·subst hb';exact⟨_,zg,np⟩
  ·rw[zb hb'];exact h.frm.cs b z)⟩,h.pn.upd hA,by rw[yf hA];exact h.prot,h.fix,λj u b hj ej sj=>?_⟩
 ·have hne:b≠ad:=λq=>by
   subst q;rcases h.mine i w b hi e s with z | z
   ·exact z o eb nn
   ·exact nc z
  rw[zb hne];exact h.frm.st b o eb nn nc
 ·by_cases hj':j=i
  ·subst hj';exact h.mine j w b hj e sj
  ·rw[aq (Ne.symm hj')] at ej;exact h.mine j u b hj ej sj
end
open PySem PySem.Spec L2
def zog:FV:=λPn q n R=>∃p c ns l,Pn=⟨some (p,c,ns),J0⟩/\q=[.pen p,.d (.lst l)]/\n+l.length<=1000000/\l.length<=100000/\∀l':List Dt,l'.Perm l->R (.d (.lst l')) (n+l.length)
section
variable {X:Cx}{Pn:PN}{M S:List Nat}{fr fr':Bool}{e a b c:Expr}{es:List Expr}{f fa fb fc:Ev->Mo W}{pos p:Pos}
def WAt.mv(t:∀o,T ad=some o->T' ad=some o)(g:yz G G')(m:w.mut=true)(h:WAt T G w (.ref ad)):WAt T' G' w (.ref ad):=by
 cases w with
 | d x=>
  cases x with
  | lst l=>obtain⟨a2,xs,e2,g1,g2⟩:=h;cases e2;exact⟨ad,xs,rfl,g1.imp (t _) λ⟨o,g1⟩=>⟨o,t _ g1⟩,g2.stay (zn.same g)⟩
  | dct=>obtain⟨a2,xs,e2,g1,g2⟩:=h;cases e2;exact⟨ad,xs,rfl,t _ g1,g2⟩
  | _=>cases m
 | pen p=>cases m
 | dk k=>obtain⟨a2,xs,e2,g1,g2,g3⟩:=h;cases e2;exact⟨ad,xs,rfl,t _ g1,g2.stay (zn.same g),g3⟩
 | dt k=>obtain⟨a2,xs,e2,g1,g2⟩:=h;cases e2;exact⟨ad,xs,rfl,t _ g1,g2.stay (zn.same g)⟩
 | dn fz k=>obtain⟨a2,xs,e2,g1,g2,g3⟩:=h;cases e2;exact⟨ad,xs,rfl,g1.imp λo _ e=>t _ e,g2.stay (zn.same g),g3.stay (zn.same g)⟩
 | wd d fs kn=>cases m
 | lf ls=>cases m
 | ss P w k=>obtain⟨a2,xs,e2,g1,g2⟩:=h;cases e2;exact⟨ad,xs,rfl,t _ g1,g2.stay (zn.same g)⟩
 | df k=>obtain⟨a2,ob,xs,e2,g1,g2⟩:=h;cases e2;exact⟨ad,ob,xs,rfl,t _ g1,g2.stay (zn.same g)⟩
 | kf k=>obtain⟨a2,ob,xs,e2,g1,g2⟩:=h;cases e2;exact⟨ad,ob,xs,rfl,t _ g1,g2.stay (zn.same g)⟩
 | ad a x=>cases m
 | tz kvs x=>cases m
 | fl k=>obtain⟨a2,ob,xs,e2,g1,g2⟩:=h;cases e2;exact⟨ad,ob,xs,rfl,t _ g1,g2.stay (zn.same g)⟩
def At3.move(h:At3 Pn B S M A σ H ρ n)(hj:j∈M)(hi:i∉M)(a0:i∉S)(e:ρ[j]?=some (some w))(s:σ[j]?=some (some (.ref I))):At3 Pn B S M (λb=>A b/\b≠I) (σ.set i (some (.ref I))) H ((ρ.set j none).set i (some w)) n:=by
 obtain⟨v,s1,_,s3⟩:=h.env.val j w e;rw[s] at s1;cases s1;obtain⟨a2,e2,hA,ag,an⟩:=s3 hj;cases e2;have a4:i≠j:=λz=>hi (z ▸ hj);have J:∀b,(A b/\b≠I)->A b:=λb z=>z.1;have L:yz (zG A H) (zG (λb=>A b/\b≠I) H):=yk J
 have Y:∀q (u:W),((ρ.set j none).set i (some w))[q]?=some (some u)->q≠i->q≠j/\ρ[q]?=some (some u):=λq u z hq=>by
  rw[aq (Ne.symm hq)] at z;by_cases O:q=j
  ·subst O;rw[List.getElem?_set] at z
   simp_all
  ·rw[aq (Ne.symm O)] at z;exact⟨O,z⟩
 have Z:¬ B.A0 I:=λz=>by
  rcases h.mine j w I hj e s with q | q
  ·obtain⟨o,o1,o2,_⟩:=h.frm.al I z;exact q o o1 o2
  ·exact h.frm.cn I q z
 have ab:Val (λb=>A b/\b≠I) H w (.ref I):=by exact WAt.mv (λo ho=>zi (λz=>z.2 rfl) ho) L an ag
 refine⟨⟨?_,?_,?_,?_⟩,⟨λb z=>⟨h.frm.sub b z,λq=>Z (q ▸ z)⟩,λb z=>h.frm.new b z.1,h.frm.st,h.frm.al,h.frm.cn,h.frm.cs⟩,h.pn.less J,h.prot.trans (zn.same L),⟨λk hk=>?_,h.fix.2⟩,λk u b hk ek sk=>?_⟩
 ·rw[bi,bi,bi];exact h.env.len
 ·intro q u eq;by_cases hq:q=i
  ·subst hq
   have U:q<(ρ.set j none).length:=by
    have:=(aj.mp eq).1
    simp_all
   rw[aP U] at eq;cases eq;rw[bi] at U;refine⟨.ref I,aP (by rw[h.env.len];exact U),λ_=>ab,λz=>absurd z hi⟩
  ·obtain⟨O,z⟩:=Y q u eq hq;obtain⟨v,t1,t2,t3⟩:=h.env.val q u z;refine⟨v,by rw[aq (Ne.symm hq)];exact t1,λy=>WAt.up (zn.same L) (zn.same L) (t2 y),λy=>?_⟩;obtain⟨b,rfl,hb,a1,hm⟩:=t3 y;refine⟨b,rfl,⟨hb,λq'=>?_⟩,WAt.up (zn.refl _) (zn.same L) a1,hm⟩;subst q';exact h.env.dis j q w u b hj y (Ne.symm O) e z s t1
 ·intro q k u u' b hq hk a3 e1 e2;have as:q≠i:=λz=>hi (z ▸ hq);have F:k≠i:=λz=>hi (z ▸ hk);rw[aq (Ne.symm as),aq (Ne.symm F)];exact h.env.dis q k u u' b hq hk a3 (Y q u e1 as).2 (Y k u' e2 F).2
 ·exact λb z=>h.env.al b z.1
 ·have F:k≠i:=λz=>a0 (z ▸ hk);rw[aq (Ne.symm F)];exact h.fix.1 k hk
 ·have F:k≠i:=λz=>hi (z ▸ hk);rw[aq (Ne.symm F)] at sk;exact h.mine k u b hk (Y k u ek F).2 sk
def zmI (i j:Nat):Ms:=λρ n k=>∃w,ρ[j]?=some (some w)/\k.nx ((ρ.set j none).set i (some w)) n
def zmp(j:Nat){x y:Str}{px L sp:Pos}(Y:X.N.Nodup)(hi:X.N[i]?=some x)(Z:Loc X.env.scope x)(O:j∈M:=by decide)(q:i∉M:=by decide)(F:i∉S:=by decide)(I:X.N[j]?=some y:=by rfl)(hv:Vis X.env.scope y:=by walk_at "v")(hd:(y==("__debug__" : Str))=false:=by decide)(J:(y==("__classdict__" : Str))=false:=by decide)(hs:swapsWith (.Name y L) (some (.Name x px)) sp.line X.env=pure false:=by rfl)(hf:X.fn x=true\/X.env.scope.names.lookup x=some .local:=by walk_at "l"):JS X Pn S M fr (.Assign [.Name x px] (.Name y L) sp) (zmI i j):=by
 refine⟨_,xo (i:=i) Y hi Z (qv j I hv hd J) hs hf,⟨ ?_⟩⟩;rintro B A σ H ρ n k D a kk ⟨w,e,r⟩;obtain⟨v,U,_,s3⟩:=a.env.val j w e;obtain⟨ad,rfl,hA,_,_⟩:=s3 O;exact⟨.ref ad,U,kk.nx _ _ H _ n (a.move O q F e U) r⟩
end
open PySem PySem.Spec L2
end L3
namespace L3
open PySem PySem.Spec L2
structure StOk (rm st:List Int):Prop where
 len:st.length=rm.length
 box:∀b:Int,0<=b->b<rm.length->0<=zA st b/\zA st b<zA rm b
def zeg:∀ (ns:List Int),(∀n∈ns,1<=n)->((yy (ns.map zq)).length:Int)=yu ns:=by
 have:∀ (k:Nat) (ns:List Int),ns.length=k->(∀n∈ns,1<=n)->((yy (ns.map zq)).length:Int)=yu ns:=by
  intro k
  induction k with
  | zero=>intro ns e _;rw[bz e];rfl
  | succ k B=>
   intro ns e h
   obtain⟨m,x,rfl⟩:∃m x,ns=m++[x]:=by
    have q:ns≠[]:=by intro z;rw[z] at e;cases e
    exact⟨ns.dropLast,ns.getLast q,(bp q).symm⟩
   rw[aM] at e;rw[aA,ao,cD,z8,ud,yW,yD];have h1:=B m (by simpa using e) λn F=>h n (bV _ F);have h2:=h x (aO _ (by simp));rw[Int.natCast_mul,h1,Int.toNat_of_nonneg (by lia)]
 simp_all
def zif:∀ {ns:List Int},(∀n∈ns,1<=n)->1<=yu ns:=λ{ns} h=>by
 have h1:=zeg ns h
 have:∀ (ns:List Int) (a:Int),1<=a->(∀n∈ns,1<=n)->1<=ns.foldl (· * ·) a:=by
  intro ns
  induction ns with
  | nil=>intro a q _;exact q
  | cons n ns F=>
   intro a q B;refine F (a * n) ?_ λm I=>B m (av _ I);have:=B n aL;exact Int.le_trans (by decide) (eW q this (by decide) (by lia))
 exact this ns 1 (by decide) h
def zrN (rm:List Int)(bk:List Wi)(g:List (Int×Int)):List (List Int):=(zbW rm g).filter λst=>decide (zoW bk st (g.map (·.1))=[])
@[reducible] def zot (bk:List Wi):Dt:=.tup (bk.map zt4)
def BkOk (rm:List Int)(bk:List Wi):Prop:=∀x∈bk,WishOk rm x
@[reducible] def F_bett:FV:=λ_ B n R=>∃rm bk st q,B=[.d (stD rm),.d (zot bk),.d (stD st),.d (stD q)]/\RoomOk rm/\BkOk rm bk/\st.length=rm.length/\R (.d (xS (betF bk st q))) n
@[reducible] def zrl:FV:=λ_ q n R=>∃rm bk g,q=[.d (stD rm),.d (zot bk),.d (yp g)]/\RoomOk rm/\BkOk rm bk/\Giv rm g/\R (.d (xS (zrN rm bk g))) n
def u3 (r:Nat):zgn 0 r=(List.range r).map λk:Nat=>W.d (.int (k:Int)):=by
 unfold zgn
 simp_all
def zaM {ns:List Int}(I:ns.length<=8)(q:∀m∈ns,2<=m/\m<=4)(k:Nat):(yy ((ns.take k).map zq)).length<=65536:=by
 have:=zcs (cs:=ns.map zq) (by simp_all) (λc B=>by obtain⟨m,F,rfl⟩:=aw.mp B;have:=q m F;rw[yD];lia) k
 simp_all
def zop {L:List Dt}{a:Int}{G:Dt->Prop}(q:0<=a)(h1:a<L.length)(h:∀x∈L,G x):∃x,atI L a=some x/\G x:=by obtain⟨d,h2,B⟩:=zoq q h1;exact⟨d,h2,h d B⟩
def zay:∀ {rm:List Int},(∀r∈rm,2<=r/\r<=4)->yu rm<=256->rm.length<=8:=λ{rm} B hp=>by
 have:∀ (k:Nat) (rm:List Int),rm.length=k->(∀r∈rm,2<=r/\r<=4)->(2:Int) ^ k<=yu rm:=by
  intro k
  induction k with
  | zero=>intro rm e _;rw[bz e];decide
  | succ k I=>
   intro rm e B
   obtain⟨m,x,rfl⟩:∃m x,rm=m++[x]:=by
    have q:rm≠[]:=by intro z;rw[z] at e;cases e
    exact⟨rm.dropLast,rm.getLast q,(bp q).symm⟩
   rw[aM] at e;have h1:=I m (by simpa using e) λn F=>B n (bV _ F);have h2:=B x (aO _ (by simp));rw[yW,Int.pow_succ];have J:(0:Int)<=2 ^ k:=Int.pow_nonneg (by decide);exact eW h1 h2.1 (by decide) (by lia)
 apply Classical.byContradiction;intro F;have h1:=this _ rm rfl B
 have h2:(2:Int) ^ 9<=2 ^ rm.length:=by
  have:(2:Nat) ^ 9<=2 ^ rm.length:=cy (by decide) (by lia)
  exact_mod_cast this
 grind
def StOk.snoc {rm st:List Int}{w v:Int}(h:StOk rm st)(I:0<=v)(J:v<w):StOk (rm++[w]) (st++[v]):=by
 have L:=h.len;refine⟨by simp_all,λb q B=>?_⟩;rw[aM] at B;by_cases F:b<(rm.length:Int)
 ·rw[x6 q (by lia),x6 q F];exact h.box b q F
 ·have e:b=(rm.length:Int):=by
   have:b<(rm.length:Int)+1:=by simpa using B
   lia
  subst e;rw[x5,<- L,x5];exact⟨I,J⟩
def zae {α q:Type}(f:α->q)(l:List α)(lo hi:Option Int):zdc (l.map f) lo hi=(zdc l lo hi).map f:=by
 unfold zdc
 simp_all
def unI:Dt->Int
 | .int i=>i
 | _=>0
def zcx {α:Type}(l:List α)(k:Nat):zdc l none (some (k:Int))=l.take k:=by
 unfold zdc;rw[HT.sIx_none,HT.sIx_nat,List.drop_zero,Nat.sub_zero]
 grind
def zgz:∀ (ns st:List Int),st∈yy (ns.map zq)->StOk ns st:=by
 have:∀ (k:Nat) (ns:List Int),ns.length=k->∀st,st∈yy (ns.map zq)->StOk ns st:=by
  intro k
  induction k with
  | zero=>
   intro ns e st q;rw[bz e] at q ⊢;rw[aE.mp q];exact⟨rfl,λb U F=>absurd F (by simp;lia)⟩
  | succ k I=>
   intro ns e st q
   obtain⟨m,x,rfl⟩:∃m x,ns=m++[x]:=by
    have B:ns≠[]:=by intro z;rw[z] at e;cases e
    exact⟨ns.dropLast,ns.getLast B,(bp B).symm⟩
   rw[aM] at e;rw[aA,ao,cD,z8] at q;obtain⟨r,J,q⟩:=List.mem_flatMap.mp q;obtain⟨v,L,rfl⟩:=aw.mp q;obtain⟨j,O,rfl⟩:=aw.mp L;have:=aX.mp O;exact (I m (by simpa using e) r J).snoc (by lia) (by lia)
 simp_all
section
variable {X:Cx}{Pn:PN}{M S:List Nat}{fr fr':Bool}{e a b c:Expr}{es:List Expr}{f fa fb fc:Ev->Mo W}{pos p:Pos}
end
end L3
namespace L2
open PySem PySem.Spec PyProof.Rows
section
variable {prog:Program}{w:World}{A:Around}{E:Value->Shared->Prop}{R:Result->Shared->Prop}{s:Shared}
end
section
variable {X:Cx}{pins:List (Addr×Obj)}{σ:St}{H:Hp}{s:Shared}{a:Addr}{y v:V}{u r:Value}{o:Option V}{A:Around}{E:Value->Shared->Prop}
def zgT(hu:A.units+1<cLine)(I:Inv X pins σ H s)(g:zed H a y v H')(Z:zX y u)(rv:zX v r)(h:∀s',Inv X pins σ H' s'->Q () s') :
  wpAny (model X.prog X.w) A (dictSet a u r) Q E s:=by
 rcases g with ⟨kvs,k,e,ey,l,eH⟩ | ⟨kvs,k,b,e,ey,eb,l,eH⟩
 ·subst ey eH;obtain⟨z,L,vs,B,dd⟩:=zlP I.hok e;have O:vs.length<=sizeLine:=by rw[<- B.length];exact z
  have U:(xI kvs k v).length<=sizeLine:=by have:=y9 kvs k v;lia
  refine wpAny_dictSet_pairs (hsz:=O) (zeB Z) dd λh' F Y=>h _ ?_;have he:∃q,h'.get? a=some q:=let ⟨q,_,_,J,_⟩:=F;⟨q,J⟩;exact zaf I (by rw[e];exact True.intro) Y he (zg1 U L (B.put k rv) F)
 ·subst ey eH;cases (show u=Value.ref b from Z);obtain⟨z,L,xs,B,dd⟩:=zoK I.hok e;have O:xs.length<=sizeLine:=by rw[<- ez B];exact z
  have U:(xI kvs k v).length<=sizeLine:=by have:=y9 kvs k v;lia
  refine wpAny_dictSet_heap (hsz:=O) (Nat.lt_of_succ_lt hu) (zcd I.hok eb) dd λh' F Y=>h _ ?_;obtain⟨q,es,ep,J,h2,h3,h4,_,h5⟩:=F;refine zaf I (by rw[e];exact True.intro) Y ⟨q,J⟩ ⟨U,L,_,(B.put k eb rv).keeps λc ys ec=>?_,q,es,ep,J,h2,h3,h4,h5⟩;rw[zb (by grind)];exact ec
end
section
variable {X:Cx}{Fam:Cx->Prop}{scope:Scope}{N:List Str}{cix:List (Option Nat)}{z:Str}{use:Option (Value->Sem Unit)}{Qp:Value->Shared->Prop}{elt ke ve tg iter tg2 iter2:Expr}{ifs ifs2:List Expr}{pos ipos spos px:Pos}{wi wi2:TI}{g g2:TG}{ti ti2:TT}{te tk tv:TE}{pins:List (Addr×Obj)}{σ:St}{H:Hp}{s:Shared}{Q:VK}{o0:HO}
end
def zdG:typeLookup (.type "list") "keys" = pure none:=by rw[typeLookup_type,builtinLookup_eq_fast];kernel_rfl
def zbU {prog:Program}{w:World}{A:Around}{E:Value->Shared->Prop}{s:Shared}{a:Addr}{xs:Array Value}{k:Nat}{name:Str}{Q:Option Value->Shared->Prop}
  (hx:s.heap.get? a=some { cls:=.type "list",data:=.seq xs k }) (hmiss:typeLookup (.type "list") name=pure none) (hname:(["__module__","__name__","__qualname__","__doc__","__annotations__"]:List Str).contains name=false) (hA:A.handled=none)
  (h:∀h' tk e,Heap.NewExcOf s.heap h' e "AttributeError" -> Q none { s with heap:=h',toks:=tk }) (hsz:name.length+100<=sizeLine:=by size_fits) :
  wpAny (model prog w) A (getAttr? (.ref a) name) Q E s:=by
 obtain⟨hp,g,d,tk,os⟩:=s;have hT:∀tk',(⟨hp,g,d,tk',os⟩:Shared).TypeIs (.ref a) "list" := λ_=>⟨_,hx,rfl⟩;have f1:=sub_AttributeError;have f3:=F.slot_list_getattribute.lookup;have f4:=F.slot_list_getattribute.bind (.ref a);have f5:=am_list_getattr_none;unfold getAttr? getAttrBy? getAttrBy
 repeat (any_goals (first | assumption | exact hT _ | ((with_reducible show wpAny _ _ (call (Value.builtin "list.__getattribute__") _ _) _ _ _);refine eZ F.slot_list_getattribute (hT _) am_entry_list_getattribute (F.args_list_getattribute_2 _ _) (meets_getattribute_miss_list a xs k #[] name _ hmiss hname hsz) ⟨hx,hA,λh' tk e hx'=>?_⟩) | wp_step))
 obtain⟨t',u',he⟩:=hx'.there;show wpAny _ _ (getattributeRaised _ _ _ _ _ _ _) _ _ _;unfold getattributeRaised
 repeat (any_goals (first | assumption | wp_step))
 exact h _ _ _ hx'.of
section
variable {X:Cx}{pins:List (Addr×Obj)}{σ:St}{H:Hp}{A:Around}
abbrev Pr:=Addr×Addr×List Int×V
structure PrL (H:Hp)(l:Addr)(ps:List Pr):Prop where
 at':Rd H l (.lst (ps.map λq=>V.ref q.1))
 one:∀q∈ps,H q.1=some (.tup [.ref q.2.1,q.2.2.2])/\H q.2.1=some (.tup (q.2.2.1.map V.int))
 nd:(ps.map (·.2.2.1)).Nodup
 few:ps.length<=500000
def prK (ps:List Pr):List (List Int×V):=ps.map λq=>(q.2.2.1,q.2.2.2)
def znk(h:q.2.2.1∉ps.map (·.2.2.1)):xI (prK ps) q.2.2.1 q.2.2.2=prK (ps++[q]):=by
 rw[zkm]
 ·unfold prK;rw[aA];rfl
 ·unfold xg prK;rw[List.find?_eq_none.mpr]
  ·rfl
  ·intro x B;obtain⟨y,F,rfl⟩:=aw.mp B;intro e;exact h (aw.mpr ⟨y,F,aS e⟩)
def zf8(hh:A.in1.handled=none)(hu:A.in1.units+1<cLine)(hp:PrL H l ps)(O:H D=none)(hf:zdd X pins H it)(F:it≠D) :
  ∀ (k i:Nat) (s:Shared) (j:Int) (U:Tok),ps.length - i=k->i<=ps.length->s.heap.IsListIter it l i->Inv X pins σ (upd H D (dtO (prK (ps.take i)))) s->
   (∀s',Inv X pins σ (upd H D (dtO (prK ps))) s'->R (.ok (.ret .none)) s')->
   codeAny (model X.prog X.w) A (.builtin "dict.update.loop" ⟨[.ref D,.ref it,.int j U,.none],[]⟩) R s:=by
 have nD:∀ {b o},H b=some o->b≠D:=λ{b o} e z=>by rw[z,O] at e;cases e
 obtain⟨Y,f1,f2,Z,f4,f5⟩:=hf;intro k
 induction k with
 | zero=>
  intro i s j U hk hi hI I hR;have ab:i=ps.length:=by lia
  subst ab;rw[aT] at I;obtain⟨its,rv,p,hz⟩:=I.list (show SqL X.K _ l (ps.map λq=>V.ref q.1) from .inl (hp.at'.upd O));refine cB zO ?_;rw[c5 zo _];show wpAny _ A.in1 (pyNext (.ref it) >>= _) _ _ s;have hl:=rv.length;rw[ac] at hl;refine aa (wpAny_pyNext_list_end hh hI p.isList (by simp;lia) λh' hx=>?_);show wpAny _ A.in1 (Builtin.Dict.addKeywords D [] >>= _) _ _ _;refine aa (ai (ai (hR _ (I.turned (t':=s.toks) (λb o L e=>hx b o L e) (by rw[zb F];exact Y) f1 Z f4 f5))))
 | succ k ih=>
  intro i s j U hk hi hI I hR;have B:i<ps.length:=by lia
  have ad:ps[i]∈ps:=aZ B;obtain⟨o1,o2⟩:=hp.one _ ad;obtain⟨its,rv,p,hz⟩:=I.list (show SqL X.K _ l (ps.map λq=>V.ref q.1) from .inl (hp.at'.upd O));have ag:(ps.map λq=>V.ref q.1)[i]?=some (V.ref ps[i].1):=by rw[aB,ar B];rfl
  obtain⟨u,al,ru⟩:=rv.get ag;cases ru;refine cB zO ?_;rw[c5 zo _];show wpAny _ A.in1 (pyNext (.ref it) >>= _) _ _ s;refine aa (wpAny_pyNext_list_item hI p.isList (x:=.ref ps[i].1) (by simpa using al) λh1 an as=>?_);have I1:Inv X pins σ (upd H D (dtO (prK (ps.take i)))) { s with heap:=h1 }:=I.turned (t':=s.toks) (λb o L e=>(as.2 b L).trans e) (by rw[zb F];exact Y) f1 Z f4 f5;obtain⟨_,us,J,ob,ho,hc,⟨n,hd⟩,_⟩:=(show zD X.prog X.w _ h1 ps[i].1 (.tup [.ref ps[i].2.1,ps[i].2.2.2]) from I1.hok _ _ (by rw[zb (nD o1)];exact o1))
  cases J with
  | cons rk J=>
   cases J with
   | @cons _ uv _ _ ru rn=>
    cases rn;cases rk;have hT:Shared.TypeIs { s with heap:=h1 } (.ref ps[i].1) "tuple" := ⟨ob,ho,hc⟩;refine aa (bX ?_);refine aa (wpAny_tryCatch ?_);unfold Builtin.Dict.pairItems;refine aa (cq hT ?_);rw[if_pos (by decide)];refine aa (ub ho hd ?_);refine ai ?_;show wpAny _ _ (holding [Value.ref ps[i].2.1,uv] (dictSet D (Value.ref ps[i].2.1) uv)) _ _ _;refine bX ?_;have a2:zdd X pins (upd H D (dtO (prK (ps.take i)))) it:=⟨by rw[zb F];exact Y,f1,f2,Z,f4,f5⟩;obtain⟨oi,oe,oc,od⟩:=id an;have I2:=I1.pinned (fp:=[it]) (λb L=>by simp_all) (λb L=>by simp_all);have a0:(prK (ps.take i)).length<sizeLine:=by unfold prK;rw[ac,aV,cE];have:=hp.few;lia
    refine zgT hu I2 (zed.i (st:=ps[i].2.2.1) zg (by rw[zb (nD o2)];exact o2) a0) rfl ru λs3 I3=>?_;rw[ze8,znk (ps:=ps.take i) (q:=ps[i]),<- zp (ar B)] at I3
    ·refine ai ⟨fj zo _,ih (i+1) _ (j+1) _ (by lia) B ?_ I3.unpinned hR⟩;exact⟨oi,(I3.pin (it,oi) (aO _ (aO _ (uf (by simp) oe)))).1,oc,od⟩
    ·have:=hp.nd;intro z;obtain⟨y,hy,e⟩:=aw.mp z;obtain⟨j,hj,e2⟩:=eo.mp hy;rw[aV] at hj;have a1:j<ps.length:=by lia
     have e3:ps[j]=y:=by rw[<- e2,List.getElem_take]
     have:=(ef (h₀:=by rw[ac];exact a1) (h₁:=by rw[ac];exact B) hp.nd).mp (by simp_all);lia
def zlt:List V->Hp->VK->Prop:=λxs H Q=>∃ (l:Addr) (ps:List Pr),xs=[.ref l]/\PrL H l ps/\New H (dtO (prK ps)) Q
def zjf (hc:X.calm=true)(hu:X.A.units+64<cLine):CallQ X (.type "dict") zlt:=⟨by
 intro pins s σ H xs us Q I rr Y;obtain⟨l,ps,rfl,hp,q⟩:=Y;obtain⟨u,rfl,ru⟩:=zbP rr;cases ru;have hf:H s.heap.objs.size=none:=I.hok.fresh (af _);refine callType_codes (Q₁:=λL B=>L = .ref s.heap.objs.size/\B={ s with heap:=s.heap.push { cls:=.type "dict",data:=.dict #[] } }) F.kt_called_dict (F.kt_typeCall_dict_1 _) F.entry_dict_init (kt_code_dict_new _ ⟨rfl,rfl⟩) ?_;rintro L B ⟨rfl,rfl⟩;have J:(s.heap.push { cls:=.type "dict",data:=.dict #[] }).get? s.heap.objs.size=some { cls:=.type "dict",data:=.dict #[] }:=am _ rfl;have O:Shared.TypeIs { s with heap:=s.heap.push { cls:=.type "dict",data:=.dict #[] } } (.ref s.heap.objs.size) "dict" := ⟨_,J,rfl⟩;have nD:∀ {b o},H b=some o->b≠s.heap.objs.size:=λ{b o} e z=>by rw[z,hf] at e;cases e
 have I1:Inv X pins σ (upd H s.heap.objs.size (dtO [])) { s with heap:=s.heap.push { cls:=.type "dict",data:=.dict #[] } }:=I.laid (t':=s.toks) (λb o e=>ae _ e) (af _) ⟨a6 _,c8.mpr (Ne.symm (aD I.big)),[],.nil,_,#[],0,J,⟨rfl,rfl,rfl⟩,rfl,rfl,.nil⟩;obtain⟨hz,its,n,rv,Z⟩:=(show zD X.prog X.w _ _ l (.lst _) from (hp.at'.upd hf).ok I1.hok);have ab:Shared.TypeIs { s with heap:=s.heap.push { cls:=.type "dict",data:=.dict #[] } } (.ref l) "list" := ⟨_,Z,rfl⟩;refine⟨O,F.args_dict_init_2 _ _,?_⟩;unfold Builtin.«dict.__init__»;refine aa ?_;unfold Builtin.Dict.selfAndRest;refine aa (dX O ?_);show wpAny _ _ (pure (s.heap.objs.size,[Value.ref l])) _ _ _;refine ai ?_;show wpAny _ _ (Builtin.Dict.updateFrom "dict.__init__" s.heap.objs.size (.ref l) [] .none) _ _ _;unfold Builtin.Dict.updateFrom;refine aa (cq ab ?_);rw[if_pos (by decide)];have Y:X.A.handled=none:=I.ok.hd hc;refine aa (zbU Z zdG (by decide) (by simp[Y]) (λh2 tk e hx=>?_) (by decide));rw[if_pos (by rfl)];refine aa (di ?_);have I2:Inv X pins σ (upd H s.heap.objs.size (dtO [])) { s with heap:=h2,toks:=tk }:=I1.kept (t':=tk) hx.keeps;refine aa (cS (s:={ s with heap:=h2,toks:=tk }) (items:=its.toArray) ⟨_,hx.keeps _ _ Z,rfl,n,rfl⟩ ?_);have I3:Inv X pins σ (upd H s.heap.objs.size (dtO (prK (ps.take 0)))) _:=I2.kept (t':=tk) (h':=h2.push { cls:=.type "list_iterator",data:=.fields #[.ref l,.int 0 0] }) λb o e=>ae _ e;have U:s.heap.objs.size<h2.objs.size:=ak (hx.keeps _ _ J);refine ai ⟨fj zo _,?_⟩;refine zf8 (X:=X) (pins:=pins) (σ:=σ) (H:=H) (A:=X.A.in1) (ps:=ps) (l:=l) (by simp[Y]) (by lia) hp hf ?_ (Ne.symm (aD U)) (ps.length - 0) 0 _ _ _ rfl (a6 _) ⟨_,am _ rfl,rfl,rfl⟩ I3 λs' I'=>⟨rfl,?_⟩
 ·have:=I2.fpOk (H':=H) (b:=h2.objs.size) (af _) ?_
  ·exact this
  ·have:=I2.hok.fresh (af h2.objs.size);rwa[zb (Ne.symm (aD U))] at this
 ·exact⟨.ref s.heap.objs.size,_,I',rfl,q.at hf⟩⟩
end
end L2
namespace L3
open PySem PySem.Spec L2
section
variable {X:Cx}{Pn:PN}{M S:List Nat}{fr fr':Bool}{e a b c:Expr}{es:List Expr}{f fa fb fc:Ev->Mo W}{pos p:Pos}
def zs2 (ks:List (List Int×V)):NP (dtO ks):=λ_ e=>by cases e
def zoH (mg:W->Ev->(Ev->Prop)->Prop)(ft:Ev->Mo Bool)(fk fv:Ev->Mo W)(J:Ev)(Q:W->Nat->Prop):List W->Nat->Prop:=λl O=>l.length<=lim/\∃I:Nat->Ev->Nat->List (List Int×Dt)->Prop,I 0 J O []/\
 (∀i w B F acc,l[i]?=some w->I i B F acc->mg w B λq=>ft q F λb L=>if b=true then fk q L λy U=>fv q U λx Y=>∃st d,y = .d (stD st)/\x = .d d/\I (i+1) q Y (zi3 acc st d) else I (i+1) q L acc)/\
 ∀ B F acc,I l.length B F acc->Q (.dt acc) F
@[reducible] def zsF (q:Ev->Mo (List W)) (mg:W->Ev->(Ev->Prop)->Prop) (ft:Ev->Mo Bool) (fk fv:Ev->Mo W) (cix:List (Option Nat)):Ev->Mo W:=λρ n Q=>q ρ n (zoH mg ft fk fv (zf3 ρ cix) Q)
def zoG (mg:W->Ev->(Ev->Prop)->Prop)(ft:Ev->Mo Bool)(fk fv:Ev->Mo W)(J:Ev)(Q:W->Nat->Prop):List W->Nat->Prop:=λl O=>l.length<=lim/\∃I:Nat->Ev->Nat->List (Key×Dt)->Prop,I 0 J O []/\
 (∀i w B F acc,l[i]?=some w->I i B F acc->mg w B λq=>ft q F λb L=>if b=true then fk q L λy U=>fv q U λx Y=>∃ (j:Int) (d:Dt),y = .d (.int j)/\x = .d d/\I (i+1) q Y (zi3 acc (Sum.inl j) d) else I (i+1) q L acc)/\
 ∀ B F acc,I l.length B F acc->Q (.dk acc) F
@[reducible] def zsE (q:Ev->Mo (List W)) (mg:W->Ev->(Ev->Prop)->Prop) (ft:Ev->Mo Bool) (fk fv:Ev->Mo W) (cix:List (Option Nat)):Ev->Mo W:=λρ n Q=>q ρ n (zoG mg ft fk fv (zf3 ρ cix) Q)
end
open PySem PySem.Spec L2
@[reducible] def onI (w:W) (P:Int->Prop):Prop:=match w with | .d (.int i)=>P i | _=>False
@[reducible] def onB (w:W) (P:Bool->Prop):Prop:=match w with | .d (.bl i)=>P i | _=>False
@[reducible] def onT (w:W) (P:List Dt->Prop):Prop:=match w with | .d (.tup i)=>P i | _=>False
@[reducible] def onL (w:W) (P:List Dt->Prop):Prop:=match w with | .d (.lst i)=>P i | _=>False
@[reducible] def onS (w:W) (P:List Dt->Prop):Prop:=match w with | .d (.lst i)=>P i | .d (.tup i)=>P i | _=>False
@[reducible] def onD (w:W) (P:Dt->Prop):Prop:=match w with | .d i=>P i | _=>False
@[reducible] def onK (w:W) (P:List (Key×Dt)->Prop):Prop:=match w with | .dk i=>P i | _=>False
@[reducible] def onE (w:W) (P:List (List Int×Dt)->Prop):Prop:=match w with | .dt i=>P i | _=>False
@[reducible] def onO {α:Type} (o:Option α) (P:α->Prop):Prop:=match o with | some i=>P i | none=>False
@[reducible] def onC (c:Bool) (A B:Prop):Prop:=match c with | true=>A | false=>B
@[reducible] def on1 (l:List W) (P:W->Prop):Prop:=match l with | [a]=>P a | _=>False
@[reducible] def on2 (l:List W) (P:W->W->Prop):Prop:=match l with | [a,b]=>P a b | _=>False
@[reducible] def onV:Ev->Nat->(W->Prop)->Prop
 | [],_,_=>False
 | a::_,0,P=>onO a P
 | _::r,i+1,P=>onV r i P
@[reducible] def onP:Ev->Nat->W->(Ev->Prop)->Prop
 | [],_,_,Q=>Q []
 | _::r,0,w,Q=>Q (some w::r)
 | a::r,i+1,w,Q=>onP r i w λq=>Q (a::q)
@[reducible] def onN:Ev->Nat->(Ev->Prop)->Prop
 | [],_,Q=>Q []
 | _::r,0,Q=>Q (none::r)
 | a::r,i+1,Q=>onN r i λq=>Q (a::q)
@[reducible] def zbp {α:Type}:Nat->List α->Prop->Prop
 | 0,[],P=>P
 | k+1,_::r,P=>zbp k r P
 | _,_,_=>False
def uX{P:Int->Prop}:onI w P = ∃i,w = .d (.int i)/\P i:=propext ⟨λh=>by rcases w with (x|x|x|x|_|_) <;> first | exact False.elim h | (cases x <;> first | exact False.elim h | exact⟨_,rfl,h⟩),by simp_all⟩
def zfH:onB w P = ∃i,w = .d (.bl i)/\P i:=propext ⟨λh=>by rcases w with (x|x|x|x|_|_) <;> first | exact False.elim h | (cases x <;> first | exact False.elim h | exact⟨_,rfl,h⟩),by rintro⟨i,e,h⟩;subst e;exact h⟩
def zbq:onT w P = ∃i,w = .d (.tup i)/\P i:=propext ⟨λh=>by rcases w with (x|x|x|x|_|_) <;> first | exact False.elim h | (cases x <;> first | exact False.elim h | exact⟨_,rfl,h⟩),by simp_all⟩
def ut:onL w P = ∃i,w = .d (.lst i)/\P i:=propext ⟨λh=>by rcases w with (x|x|x|x|_|_) <;> first | exact False.elim h | (cases x <;> first | exact False.elim h | exact⟨_,rfl,h⟩),by simp_all⟩
def zh0:onS w P = ∃i,(w = .d (.lst i)\/w = .d (.tup i))/\P i:=propext ⟨λh=>by rcases w with (x|x|x|x|_|_) <;> first | exact False.elim h | (cases x <;> first | exact False.elim h | exact⟨_,.inl rfl,h⟩ | exact⟨_,.inr rfl,h⟩),by rintro⟨i,e,h⟩;rcases e with e | e <;> subst e <;> exact h⟩
def xn:onD w P = ∃i,w = .d i/\P i:=propext ⟨λh=>by cases w <;> first | exact False.elim h | exact⟨_,rfl,h⟩,by simp_all⟩
def zlh:onK w P = ∃i,w = .dk i/\P i:=propext ⟨λh=>by cases w <;> first | exact False.elim h | exact⟨_,rfl,h⟩,by simp_all⟩
def zpD{P:List (List Int×Dt)->Prop}:onE w P = ∃i,w = .dt i/\P i:=propext ⟨λh=>by cases w <;> first | exact False.elim h | exact⟨_,rfl,h⟩,by simp_all⟩
def zax {α:Type}{w:Option α}{P:α->Prop}:onO w P = ∃i,w=some i/\P i:=propext ⟨λh=>by cases w <;> first | exact False.elim h | exact⟨_,rfl,h⟩,by simp_all⟩
def zbo{A B:Prop}:onC c A B=if c=true then A else B:=by cases c <;> simp[onC]
def ur:on1 l P = ∃a,l=[a]/\P a:=propext ⟨λh=>by rcases l with (_|⟨a,_|⟨b,l⟩⟩) <;> first | exact False.elim h | exact⟨_,rfl,h⟩,by simp_all⟩
def uw:∀ {ρ:Ev} {i:Nat} {P:W->Prop},onV ρ i P = ∃w,ρ[i]?=some (some w)/\P w
 | [],i,P=>by simp[onV]
 | some w::r,0,P=>by simp[onV]
 | none::r,0,P=>by simp[onV]
 | some w::r,i+1,P=>by simpa [onV] using uw (ρ:=r) (i:=i) (P:=P)
 | none::r,i+1,P=>by simpa [onV] using uw (ρ:=r) (i:=i) (P:=P)
def uu:∀ {ρ:Ev} {i:Nat} {w:W} {Q:Ev->Prop},onP ρ i w Q=Q (ρ.set i (some w))
 | [],i,w,Q=>rfl
 | a::r,0,w,Q=>rfl
 | a::r,i+1,w,Q=>by rw[onP,uu];rfl
def zhZ:∀ {ρ:Ev} {i:Nat} {Q:Ev->Prop},onN ρ i Q=Q (ρ.set i none)
 | [],i,Q=>rfl
 | a::r,0,Q=>rfl
 | a::r,i+1,Q=>by rw[onN,zhZ];rfl
def zaU {α:Type}:∀ {k:Nat} {l:List α} {P:Prop},zbp k l P=(l.length=k/\P)
 | 0,[],P=>by simp[zbp]
 | 0,a::r,P=>by simp[zbp]
 | k+1,[],P=>by simp[zbp]
 | k+1,a::r,P=>by simp[zbp,zaU (l:=r)]
def zdN {P:Prop}[Decidable P]{A B:Prop}(h1:P->A)(h2:¬ P->B):onC (decide P) A B:=by
 by_cases h:P
 all_goals simp_all
def zgj {P:Prop}[Decidable P]{A B:Prop}(h1:¬ P->A)(h2:P->B):onC (!decide P) A B:=by
 by_cases h:P
 all_goals simp_all
def zlg{A B:Prop}(h1:c=false->A)(h2:c=true->B):onC (!c) A B:=by
 cases c
 ·exact h1 rfl
 ·exact h2 rfl
def zpC{A B:Prop}(h:c=true)(h1:A):onC c A B:=by subst h;exact h1
def zka{A B:Prop}(h:c=false)(h1:B):onC c A B:=by subst h;exact h1
def uY {α:Type}{o:Option α}{a:α}{P:α->Prop}(e:o=some a)(h:P a):onO o P:=by subst e;exact h
def onA{st:List Int}{b:Int}(q:0<=b)(h1:b<st.length)(h:P (.int (zA st b))):onO (atI (st.map Dt.int) b) P:=uY (zlJ q h1) h
def zj9 {L:List Dt}{a:Int}{P:Dt->Prop}(q:0<=a)(h1:a<L.length)(h:∀x∈L,P x):onO (atI L a) P:=by obtain⟨x,e,B⟩:=zop q h1 h;exact uY e B
def onG {α:Type}{L:List α}{f:α->Dt}{i:Nat}{x:α}{P:Dt->Prop}(e:L[i]?=some x)(h:P (f x)):onO (atI (L.map f) (i:Int)) P:=uY (zgD (by simp_all)) h
section
variable {X:Cx}{Pn:PN}{M S:List Nat}{fr fr':Bool}{e a b c:Expr}{es:List Expr}{f fa fb fc g:Ev->Mo W}{pos p:Pos}{t u:Ev->Mo Bool}{fs gs:Ev->Mo (List W)}
def wE (h:f=g)(j:JE X Pn M fr e f):JE X Pn M fr e g:=h ▸ j
def wB (h:f=g)(j:JB X Pn M e f):JB X Pn M e g:=h ▸ j
def wT (h:t=u)(j:JT X Pn M e t):JT X Pn M e u:=h ▸ j
def wW (h:t=u)(j:JW X Pn M e t):JW X Pn M e u:=h ▸ j
def wO {f g:Ev->Mo (Option Int)}{e:Option Expr}(h:f=g)(j:JO X Pn M e f):JO X Pn M e g:=h ▸ j
def wG {f g:W->Ev->(Ev->Prop)->Prop}(h:f=g)(j:JG X S M e f):JG X S M e g:=h ▸ j
def wH {f g:List Dt->Ev->(Ev->Prop)->Prop}(h:f=g)(j:JGs X S M es f):JGs X S M es g:=h ▸ j
def wI(h:fs=gs)(j:JI X Pn M ow tg e fs):JI X Pn M ow tg e gs:=h ▸ j
def wS {s:Stmt}{f g:Ms}(h:f=g)(j:JS X Pn S M fr s f):JS X Pn S M fr s g:=h ▸ j
@[reducible] def zr5 (i:Nat):Ev->Mo W:=λρ n Q=>onV ρ i λw=>Q w n
def zhO:zpo i=zr5 i:=by funext ρ n Q;exact uw.symm
def kv (i:Nat){x:Str}(hi:i∉M:=by decide)(B:X.N[i]?=some x:=by rfl)(F:Vis X.env.scope x:=by walk_at "v")(I:(x==("__debug__" : Str))=false:=by decide)
  (q:(x==("__classdict__" : Str))=false:=by decide):JE X Pn M false (.Name x pos) (zr5 i):=wE zhO (zjE i hi B F I q)
def kb(i:Nat)(B:X.N[i]?=some x:=by rfl)(F:Vis X.env.scope x:=by walk_at "v")(I:(x==("__debug__" : Str))=false:=by decide)(q:(x==("__classdict__" : Str))=false:=by decide):JB X Pn M (.Name x pos) (zr5 i):=wB zhO (zsn i B F I q)
@[reducible] def zrr (fa:Ev->Mo W):Ev->Mo Bool:=λρ n Q=>fa ρ n λx m=>onB x λc=>Q c m
def zv:zld fa=zrr fa:=by funext ρ n Q;simp only[zld,zrr,zfH]
@[reducible] def dAnd (t u:Ev->Mo Bool):Ev->Mo Bool:=λρ n Q=>t ρ n λc m=>onC c (u ρ m Q) (Q false m)
def zeC:zru t u=dAnd t u:=by funext ρ n Q;simp only[zru,dAnd,zbo]
@[reducible] def dOr (t u:Ev->Mo Bool):Ev->Mo Bool:=λρ n Q=>t ρ n λc m=>onC c (Q true m) (u ρ m Q)
def zfC:mOr t u=dOr t u:=by funext ρ n Q;simp only[mOr,dOr,zbo]
@[reducible] def dNot (t:Ev->Mo Bool):Ev->Mo Bool:=λρ n Q=>t ρ n λc m=>onC c (Q false m) (Q true m)
def xY:zsP t=dNot t:=by funext ρ n Q;simp only[zsP,dNot];congr 1;funext c m;cases c <;> rfl
@[reducible] def zoy (fa fb:Ev->Mo W):Ev->Mo W:=λρ n Q=>fa ρ n λx m=>onB x λc=>onC c (fb ρ m Q) (Q (.d (.bl false)) m)
def zaQ:zmB fa fb=zoy fa fb:=by funext ρ n Q;simp only[zmB,zoy,zbo,zfH]
@[reducible] def dOrV (fa fb:Ev->Mo W):Ev->Mo W:=λρ n Q=>fa ρ n λx m=>onB x λc=>onC c (Q (.d (.bl true)) m) (fb ρ m Q)
@[reducible] def dNotV (fa:Ev->Mo W):Ev->Mo W:=λρ n Q=>fa ρ n λx m=>onB x λc=>Q (.d (.bl (!c))) m
@[reducible] def dIf (t:Ev->Mo Bool) (fa fb:Ev->Mo W):Ev->Mo W:=λρ n Q=>t ρ n λc m=>onC c (fa ρ m Q) (fb ρ m Q)
def zpk:mIf t fa fb=dIf t fa fb:=by funext ρ n Q;simp only[mIf,dIf,zbo]
@[reducible] def dI (C:Int->Int->Prop) (g:Int->Int->Dt):W->W->Mo W:=λx y n Q=>onI x λi=>onI y λj=>C i j/\Q (.d (g i j)) n
def zoQ {C:Int->Int->Prop}{g:Int->Int->Dt}:fI C g=dI C g:=by funext x y n Q;simp only[dI,uX];exact propext ⟨by rintro⟨i,j,q,B,h⟩;exact⟨i,q,j,B,h⟩,by rintro⟨i,q,j,B,h⟩;exact⟨i,j,q,B,h⟩⟩
@[reducible] def dI0 (g:Int->Int->Dt):W->W->Mo W:=λx y n Q=>onI x λi=>onI y λj=>Q (.d (g i j)) n
def zfq {g:Int->Int->Dt}:fI0 g=dI0 g:=by funext x y n Q;simp only[dI0,uX];exact propext ⟨by rintro⟨i,j,q,B,h⟩;exact⟨i,q,j,B,h⟩,by rintro⟨i,q,j,B,h⟩;exact⟨i,j,q,B,h⟩⟩
def zbL:F2 Pn false (rI0 λi j=>.int (i+j)) (dI0 λi j=>.int (i+j)):=zfq ▸ ztQ
def ztO:F2 Pn false (rI0 λi j=>.int (i - j)) (dI0 λi j=>.int (i - j)):=zfq ▸ zt2
def zra:F2 Pn false (rI zkP λi j=>.int (i * j)) (dI zkP λi j=>.int (i * j)):=zoQ ▸ ztZ
def zq9:F2 Pn false (rI (λ_ j=>0<j) λi j=>.int (i % j)) (dI (λ_ j=>0<j) λi j=>.int (i % j)):=zoQ ▸ ztY
def u_le:F2 Pn false (rI0 λi j=>.bl (decide (i<=j))) (dI0 λi j=>.bl (decide (i<=j))):=zfq ▸ v_le
def u_gt:F2 Pn false (rI0 λi j=>.bl (decide (i > j))) (dI0 λi j=>.bl (decide (j<i))):=zfq ▸ v_gt
@[reducible] def zr2:W->Mo W:=λx n Q=>onI x λi=>Q (.d (.int (-i))) n
def ztN:F1 Pn false (rU λi=>.int (-i)) zr2:=(show zsg=zr2 by funext x n Q;simp only[zsg,zr2,uX]) ▸ zt1
@[reducible] def dEq:W->W->Mo W:=λx y n Q=>onD x λa=>onD y λb=>onO (sEq a b) λr=>Q (.d (.bl r)) n
def zoP:fEq=dEq:=by
 funext x y n Q;simp only[fEq,dEq,xn,zax]
 simp_all
@[reducible] def dNe:W->W->Mo W:=λx y n Q=>onD x λa=>onD y λb=>onO (sEq a b) λr=>Q (.d (.bl (!r))) n
def zoS:fNe=dNe:=by
 funext x y n Q;simp only[fNe,dNe,xn,zax]
 simp_all
def zkI:F2 Pn false rEq dEq:=zoP ▸ v_eq
def zob:F2 Pn false rNe dNe:=zoS ▸ v_ne
@[reducible] def zrT:W->W->Mo W:=λx y n Q=>onD x λa=>onD y λb=>a.eqOk/\b.eqOk/\∀r:Bool,(r=true↔a=b)->Q (.d (.bl r)) n
@[reducible] def zr1:W->W->Mo W:=λx y n Q=>onD x λa=>onD y λb=>a.eqOk/\b.eqOk/\∀r:Bool,(r=true↔a=b)->Q (.d (.bl (!r))) n
def zlV:zsa=zrT:=by
 funext x y n Q;simp only[zsa,zrT,xn]
 simp_all
def zl0:zsf=zr1:=by
 funext x y n Q;simp only[zsf,zr1,xn]
 simp_all
def znX:F2 Pn false zrA zrT:=zlV ▸ ztT
def znY:F2 Pn false zrD zr1:=zl0 ▸ zt0
@[reducible] def dIsB:W->W->Mo W:=λx y n Q=>onB x λa=>onB y λb=>Q (.d (.bl (a==b))) n
@[reducible] def zrW:W->W->Mo W:=λx y n Q=>onB x λa=>onB y λb=>Q (.d (.bl (a != b))) n
@[reducible] def dInI:W->W->Mo W:=λx y n Q=>onI x λb=>onS y λl=>∃ns:List Int,l=ns.map .int/\Q (.d (.bl (ns.contains b))) n
@[reducible] def zr3:W->W->Mo W:=λx y n Q=>onI x λb=>onS y λl=>∃ns:List Int,l=ns.map .int/\Q (.d (.bl (!ns.contains b))) n
@[reducible] def xr:Bool->Bool->Bool
 | false,b=>b
 | true,b=>!b
@[reducible] def zrU (q:Bool):W->W->Mo W:=λx y n Q=>onD x λd=>onS y λds=>d.eqOk/\(Dt.lst ds).eqOk/\∀b:Bool,(b=true↔d∈ds)->Q (.d (.bl (xr q b))) n
def zn4 {q b:Bool}:(if q then !b else b)=xr q b:=by cases q <;> rfl
def zlW:zsb q=zrU q:=by
 funext x y n Q;simp only[zsb,zrU,xn,zh0,zn4]
 simp_all
def zq8:F2 Pn false (ztr q) (zrU q):=zlW ▸ ztU
@[reducible] def zrY:W->W->Mo W:=λx y n Q=>onT x λl=>onI y λi=>onO (atI l i) λd=>Q (.d d) n
@[reducible] def zrX:W->W->Mo W:=λx y n Q=>onL x λl=>onI y λi=>onO (atI l i) λd=>Q (.d d) n
def zlY:zsd=zrY:=by
 funext x y n Q;simp only[zsd,zrY,zbq,uX,zax]
 simp_all
def zlX:zsc=zrX:=by
 funext x y n Q;simp only[zsc,zrX,ut,uX,zax]
 simp_all
def zaq:F2 Pn false (zrC K) zrY:=zlY ▸ ztW
def zgr:F2 Pn false (zrB K) zrX:=zlX ▸ ztV
@[reducible] def zlN:W->W->Mo W:=λx y n Q=>onT x λl=>onT y λm=>l.length+m.length<=lim/\Q (.d (.tup (l++m))) n
@[reducible] def zlM:W->W->Mo W:=λx y n Q=>onL x λl=>onL y λm=>l.length+m.length<=lim/\Q (.d (.lst (l++m))) n
def zjo:zlU=zlN:=by
 funext x y n Q;simp only[zlU,zlN,zbq]
 simp_all
def zjn:zlT=zlM:=by
 funext x y n Q;simp only[zlT,zlM,ut]
 simp_all
def uA:F2 Pn false (ziw K) zlN:=zjo ▸ zrh
def zfS:F2 Pn true znH zlM:=zjn ▸ zrg
@[reducible] def dRepT:W->W->Mo W:=λx y n Q=>onT x λl=>onI y λj=>(1<=j/\j<=1000000/\l.length * j.toNat<=lim)/\Q (.d (.tup (List.replicate j.toNat l).flatten)) n
@[reducible] def dRepL:W->W->Mo W:=λx y n Q=>onL x λl=>onI y λj=>(0<=j/\j<=1000000/\l.length * j.toNat<=lim)/\Q (.d (.lst (List.replicate j.toNat l).flatten)) n
@[reducible] def zrZ:List W->Mo W:=λq n Q=>on1 q λx=>onO (lenD x) λk=>Q (.d (.int (k:Int))) n
def zlZ:zse=zrZ:=by
 funext ws n Q;simp only[zse,zrZ,ur,zax]
 simp_all
def zbM:FL Pn false (λxs H Q=>∃x n,xs=[x]/\zrn K x H n/\Q (.int n) H) zrZ:=zlZ ▸ ztX
@[reducible] def dAbs:List W->Mo W:=λq n Q=>on1 q λx=>onI x λi=>Q (.d (.int (if i<0 then -i else i))) n
@[reducible] def dMin:List W->Mo W:=λq n Q=>on2 q λx y=>onI x λi=>onI y λj=>Q (.d (.int (if j<i then j else i))) n
@[reducible] def dMax:List W->Mo W:=λq n Q=>on2 q λx y=>onI x λi=>onI y λj=>Q (.d (.int (if j > i then j else i))) n
@[reducible] def zrQ:List W->Mo W:=λq n Q=>on1 q λx=>onL x λl=>∃bs:List Bool,l=bs.map .bl/\Q (.d (.bl (bs.all id))) n
def zlR:zr8=zrQ:=by funext ws n Q;simp only[zr8,zrQ,ur,ut];exact propext ⟨by rintro⟨x,e,h⟩;exact⟨_,e,_,rfl,x,rfl,h⟩,by simp_all⟩
def znU:FL Pn false (λxs H Q=>∃ (p:Addr) (bs:List Bool),xs=[.ref p]/\Rd H p (.lst (bs.map V.bl))/\Q (.bl (bs.all id)) H) zrQ:=zlR ▸ ztR
@[reducible] def zoA:List W->Mo W:=λq n Q=>on1 q λx=>onS x λl=>Q (.d (.lst l)) n
@[reducible] def zkY:List W->Mo W:=λq n Q=>on1 q λx=>onS x λl=>Q (.d (.tup l)) n
def zqR:(∃l,(q=[.d (.lst l)]\/q=[.d (.tup l)])/\P l)=on1 q λx=>onS x P:=by
 simp only[ur,zh0]
 grind
def zlC:FL Pn true (ziy K) zoA:=(show zoR=zoA by funext ws n Q;exact zqR) ▸ zri
def zc7:FL Pn false (zeY K) zkY:=(show zk3=zkY by funext ws n Q;exact zqR) ▸ zn0
@[reducible] def zgR:List W->Mo W:=λq n Q=>on1 q λx=>onT x λl=>∃ps:List (Int×Dt),l=ps.map prD/\(ps.map (·.1)).Nodup/\ps.length<=1000/\Q (.dk (ps.map kvD)) n
def zhc:zhb=zgR:=by funext ws n Q;simp only[zhb,zgR,ur,zbq];exact propext ⟨by rintro⟨x,e,h⟩;exact⟨_,e,_,rfl,x,rfl,h⟩,by simp_all⟩
def znW:FL Pn true zix zgR:=zhc ▸ znZ
@[reducible] def dInt1:List W->Mo W:=λq n Q=>on1 q λx=>match x with
 | .d (.int i)=>Q (.d (.int i)) n
 | .d (.bl b)=>Q (.d (.int (if b then 1 else 0))) n
 | _=>False
@[reducible] def dSortI:List W->Mo W:=λB n Q=>on1 B λx=>onL x λl=>∃ns:List Int,l=ns.map .int/\ns.length<64/\∀q:List Int,q.Perm ns->q.Pairwise (·<=·)->Q (.d (.lst (q.map .int))) n
@[reducible] def dSortT:List W->Mo W:=λB n Q=>on1 B λx=>onL x λl=>∃ (sts:List (List Int)) (m:Nat),l=sts.map stD/\sts.length<64/\1<=m/\(∀st∈sts,st.length=m)/\sts.Nodup/\∀q:List (List Int),q.Perm sts->(q.Pairwise λa b=>HT.lexLt a b=true)->Q (.d (xS q)) n
@[reducible] def dListD:List W->Mo W:=λq n Q=>on1 q λx=>onE x λkvs=>((kvs.map (·.1)).Nodup->Q (.d (.lst ((kvs.map (·.1)).map stD))) n)
end
open PySem PySem.Spec L2
section
variable {fa fb fc f fk fd fv:Ev->Mo W}{t u:Ev->Mo Bool}{fs gs:Ev->Mo (List W)}
@[reducible] def zoD (fa:Ev->Mo W):Ev->Mo (Option Int):=λρ n Q=>fa ρ n λx m=>onI x λi=>Q (some i) m
def xm:zmK fa=zoD fa:=by funext ρ n Q;simp only[zmK,zoD,uX]
@[reducible] def dSlT (fa:Ev->Mo W) (fl q:Ev->Mo (Option Int)):Ev->Mo W:=λρ n Q=>fa ρ n λx B=>fl ρ B λlo F=>q ρ F λhi I=>onT x λl=>Q (.d (.tup (zdc l lo hi))) I
def x4 {fl q:Ev->Mo (Option Int)}:zsS fa fl q=dSlT fa fl q:=by funext ρ n Q;simp only[zsS,dSlT,zbq]
@[reducible] def dSlL (fa:Ev->Mo W) (fl q:Ev->Mo (Option Int)):Ev->Mo W:=λρ n Q=>fa ρ n λx B=>fl ρ B λlo F=>q ρ F λhi I=>onL x λl=>Q (.d (.lst (zdc l lo hi))) I
@[reducible] def dRevT (fa:Ev->Mo W):Ev->Mo W:=λρ n Q=>fa ρ n λx m=>onT x λl=>Q (.d (.tup l.reverse)) m
@[reducible] def dRevL (fa:Ev->Mo W):Ev->Mo W:=λρ n Q=>fa ρ n λx m=>onL x λl=>Q (.d (.lst l.reverse)) m
@[reducible] def zoz (fd fk:Ev->Mo W):Ev->Mo W:=λρ n Q=>fd ρ n λx q=>fk ρ q λy B=>onK x λkvs=>onO (zmu y) λk=>onO (zS kvs k) λd=>Q (.d d) B
def zj0:zmE fd fk=zoz fd fk:=by
 funext ρ n Q;simp only[zmE,zoz,zlh,zax]
 simp_all
@[reducible] def zrS (q:Bool) (fk fd:Ev->Mo W):Ev->Mo W:=λρ n Q=>fk ρ n λy B=>fd ρ B λx F=>onK x λkvs=>onO (zmu y) λk=>Q (.d (.bl (xr q (zS kvs k).isSome))) F
def zmF:zpj q fk fd=zrS q fk fd:=by
 funext ρ n Q;simp only[zpj,zrS,zlh,zax,zn4]
 simp_all
def zj3:zld (zpj q fk fd)=zrr (zrS q fk fd):=by rw[zmF,zv]
@[reducible] def dFn (k:Nat) (F:List W->Mo W) (fs:Ev->Mo (List W)):Ev->Mo W:=λρ n Q=>fs ρ n λq m=>zbp k q (F q m Q)
def zw:mFn k F fs=dFn k F fs:=by funext ρ n Q;simp only[mFn,dFn,zaU]
@[reducible] def dFnB (k:Nat) (fr:Bool) (F:List W->Mo W) (fs:Ev->Mo (List W)):Ev->Mo W:=λρ n Q=>fs ρ n λq m=>zbp k q (F q m λw B=>W.flat fr w=true/\Q w B)
def zmH:zrw k fr F fs=dFnB k fr F fs:=by funext ρ n Q;simp only[zrw,dFnB,zaU]
@[reducible] def eN (i:Nat):W->Ev->(Ev->Prop)->Prop:=λw ρ Q=>onP ρ i w Q
def zP:gN i=eN i:=by funext w ρ Q;exact uu.symm
@[reducible] def eNl:List Dt->Ev->(Ev->Prop)->Prop:=λds ρ Q=>match ds with | []=>Q ρ | _=>False
def za7:gNl=eNl:=by
 funext ds ρ Q
 cases ds with
 | nil=>simp[gNl,eNl]
 | cons _ _=>simp[gNl,eNl]
@[reducible] def eCn (g:W->Ev->(Ev->Prop)->Prop) (u:List Dt->Ev->(Ev->Prop)->Prop):List Dt->Ev->(Ev->Prop)->Prop:=λds ρ Q=>match ds with | d::r=>g (.d d) ρ λq=>u r q Q | []=>False
def yY {g:W->Ev->(Ev->Prop)->Prop}{u:List Dt->Ev->(Ev->Prop)->Prop}:gCn g u=eCn g u:=by
 funext ds ρ Q
 cases ds with
 | nil=>simp[gCn,eCn]
 | cons d r=>exact propext ⟨by rintro⟨d',q,e,h⟩;cases e;exact h,λh=>⟨d,r,rfl,h⟩⟩
@[reducible] def eTp (n:Nat) (u:List Dt->Ev->(Ev->Prop)->Prop):W->Ev->(Ev->Prop)->Prop:=λw ρ Q=>onT w λds=>zbp n ds (u ds ρ Q)
def za8 {n:Nat}{u:List Dt->Ev->(Ev->Prop)->Prop}:gTp n u=eTp n u:=by funext w ρ Q;simp only[gTp,eTp,zbq,zaU]
@[reducible] def dItL (fa:Ev->Mo W):Ev->Mo (List W):=λρ n Q=>fa ρ n λx m=>onL x λl=>Q (l.map W.d) m
@[reducible] def dItT (fa:Ev->Mo W):Ev->Mo (List W):=λρ n Q=>fa ρ n λx m=>onT x λl=>Q (l.map W.d) m
def yi:zsK fa=dItL fa:=by funext ρ n Q;simp only[zsK,dItL,ut]
def zcJ:zsM fa=dItT fa:=by funext ρ n Q;simp only[zsM,dItT,zbq]
@[reducible] def dItR (fs:Ev->Mo (List W)):Ev->Mo (List W):=λρ n Q=>fs ρ n λq m=>on1 q λx=>onI x λj=>(j<=1000000/\-1000000<=j)/\Q (zgn 0 j.toNat) m
def xw:zsL fs=dItR fs:=by funext ρ n Q;simp only[zsL,dItR,ur,uX];congr 1;funext ws m;exact propext ⟨by simp_all,by simp_all⟩
@[reducible] def dItR2 (fs:Ev->Mo (List W)):Ev->Mo (List W):=λρ n Q=>fs ρ n λq m=>on2 q λx y=>onI x λi=>onI y λj=>(j<=1000000/\-1000000<=j/\i<=1000000/\-1000000<=i)/\Q (zgn i (j - i).toNat) m
@[reducible] def dItE (fs:Ev->Mo (List W)):Ev->Mo (List W):=λρ n Q=>fs ρ n λq m=>on1 q λx=>onT x λl=>Q (enW 0 l) m
@[reducible] def dItEL (fs:Ev->Mo (List W)):Ev->Mo (List W):=λρ n Q=>fs ρ n λq m=>on1 q λx=>onL x λl=>Q (enW 0 l) m
def zhN:zsJ fs=dItE fs:=by funext ρ n Q;simp only[zsJ,dItE,ur,zbq];congr 1;funext ws m;exact propext ⟨by simp_all,by simp_all⟩
@[reducible] def dItZ (fs:Ev->Mo (List W)):Ev->Mo (List W):=λρ n Q=>fs ρ n λq m=>on2 q λx y=>onT x λl=>onT y λk=>l.length=k.length/\Q (ziW l k) m
@[reducible] def dItZM (fs:Ev->Mo (List W)):Ev->Mo (List W):=λρ n Q=>fs ρ n λq m=>on2 q λx y=>onL x λl=>onT y λk=>l.length=k.length/\Q (ziW l k) m
@[reducible] def dItZL (fs:Ev->Mo (List W)):Ev->Mo (List W):=λρ n Q=>fs ρ n λq m=>on2 q λx y=>onL x λl=>onL y λk=>Q (ziW l k) m
@[reducible] def dIfS (t:Ev->Mo Bool) (f g:Ms):Ms:=λρ n k=>t ρ n λc m=>onC c (blk f ρ m k) (blk g ρ m k)
def zK {f g:Ms}:zsI t f g=dIfS t f g:=by funext ρ n k;simp only[zsI,dIfS,zbo]
@[reducible] def zr4 (i:Nat):Ms:=λρ n k=>onV ρ i λw=>k.rt w n
def zfD:zmM i=zr4 i:=by funext ρ n k;exact uw.symm
@[reducible] def dSet (i:Nat) (f:Ev->Mo W):Ms:=λρ n k=>f ρ n λw m=>onP ρ i w λq=>k.nx q m
def zt:zmC f (gN i)=dSet i f:=by show zmC f (gN i)=zmC f (eN i);rw[zP]
@[reducible] def dOwn (i:Nat) (f:Ev->Mo W):Ms:=λρ n k=>f ρ n λw m=>onC (W.mut w) (onP ρ i w λρ'=>k.nx ρ' m) False
def xZ:zrx i f=dOwn i f:=by funext ρ n k;simp only[zrx,dOwn,uu (Q:=λρ'=>k.nx ρ' _)];congr 1;funext w m;cases h:W.mut w <;> simp
@[reducible] def dApp (i:Nat) (f:Ev->Mo W):Ms:=λρ n k=>onV ρ i λv=>onL v λl=>f ρ n λw m=>onD w λd=>l.length<lim/\onP ρ i (.d (.lst (l++[d]))) λq=>k.nx q m
def zcI:(onV ρ i λv=>onL v P) = ∃l,ρ[i]?=some (some (.d (.lst l)))/\P l:=by simp only[uw,ut];exact propext ⟨by simp_all,by simp_all⟩
def zbg:zrv i f=dApp i f:=by
 funext ρ n k;simp only[zrv,dApp,zcI,xn,uu (Q:=λq=>k.nx q _)];refine propext ⟨λ⟨⟨l,e⟩,h⟩=>⟨l,e,?_⟩,λ⟨l,e,h⟩=>⟨⟨l,e⟩,?_⟩⟩
 all_goals
  simp_all
@[reducible] def dExt (i:Nat) (f:Ev->Mo W):Ms:=λρ n k=>onV ρ i λv=>onL v λl=>f ρ n λw m=>onL w λB=>l.length+B.length<=lim/\onP ρ i (.d (.lst (l++B))) λq=>k.nx q m
def zmG:zsH i f=dExt i f:=by
 funext ρ n k;simp only[zsH,dExt,zcI];simp only[ut,uu (Q:=λq=>k.nx q _)];refine propext ⟨λ⟨⟨l,e⟩,h⟩=>⟨l,e,?_⟩,λ⟨l,e,h⟩=>⟨⟨l,e⟩,?_⟩⟩
 all_goals
  simp_all
@[reducible] def dIns (i:Nat) (fk f:Ev->Mo W):Ms:=λρ n k=>onV ρ i λv=>onL v λl=>fk ρ n λy m=>f ρ m λw B=>onD w λd=>onI y λj=>(0<=j/\j<=l.length/\l.length<lim)/\onP ρ i (.d (.lst (insD l j.toNat d))) λq=>k.nx q B
@[reducible] def zoE (i:Nat) (fk:Ev->Mo W):Ms:=λρ n k=>onV ρ i λv=>onL v λl=>fk ρ n λy m=>onI y λj=>(0<=j/\j<l.length/\l.length<=lim)/\onP ρ i (.d (.lst (l.eraseIdx j.toNat))) λq=>k.nx q m
def zj2:zmL i fk=zoE i fk:=by
 funext ρ n k;simp only[zmL,zoE,zcI,uX,uu (Q:=λq=>k.nx q _)];refine propext ⟨λ⟨⟨l,e⟩,h⟩=>⟨l,e,?_⟩,λ⟨l,e,h⟩=>⟨⟨l,e⟩,?_⟩⟩
 all_goals
  refine (congrArg (fk ρ n) ?_).mp h;funext y m;refine propext ?_;simp[e,and_assoc]
@[reducible] def zfj (i:Nat):Ms:=λρ n k=>onV ρ i λv=>onL v λl=>onP ρ i (.d (.lst l.reverse)) λq=>k.nx q n
def zeE:zcL i=zfj i:=by funext ρ n k;simp only[zcL,zfj,zcI,uu (Q:=λq=>k.nx q _)]
@[reducible] def dPut (i:Nat) (fk f:Ev->Mo W):Ms:=λρ n k=>onV ρ i λv=>onL v λl=>f ρ n λw m=>fk ρ m λy B=>onD w λd=>onI y λj=>(0<=j/\j<l.length)/\onP ρ i (.d (.lst (l.set j.toNat d))) λq=>k.nx q B
@[reducible] def onSt (w:W) (P:List Int->Prop):Prop:=∃st,w = .d (stD st)/\P st
@[reducible] def dDGetT (fd fk:Ev->Mo W):Ev->Mo W:=λρ n Q=>fd ρ n λx q=>fk ρ q λy B=>onE x λkvs=>∃st,y = .d (stD st)/\onO (zS kvs st) λd=>Q (.d d) B
@[reducible] def dDPutT (i:Nat) (fk f:Ev->Mo W):Ms:=λρ n k=>onV ρ i λv=>onE v λkvs=>f ρ n λw m=>fk ρ m λy B=>onD w λd=>∃st,y = .d (stD st)/\kvs.length<lim/\onP ρ i (.dt (zi3 kvs st d)) λq=>k.nx q B
@[reducible] def zoB (i j:Nat):Ms:=λρ n k=>onV ρ j λw=>onN ρ j λq=>onP q i w λB=>k.nx B n
def zj1:zmI i j=zoB i j:=by funext ρ n k;simp only[zmI,zoB,uw,uu (Q:=λq=>k.nx q _),zhZ (Q:=λB=>k.nx (B.set i (some _)) n)]
@[reducible] def dPar (i j:Nat) (fs:Ev->Mo (List W)):Ms:=λρ n k=>fs ρ n λF m=>on2 F λw u=>onP ρ i w λq=>onP q j u λB=>k.nx B m
@[reducible] def dIsi (B:Dt->Bool) (f:Ev->Mo W):Ev->Mo W:=λρ n Q=>f ρ n λw m=>onD w λd=>Q (.d (.bl (B d))) m
def xb:zlc B f=dIsi B f:=by funext ρ n Q;simp only[zlc,dIsi,xn]
@[reducible] def zfi (fs:Ev->Mo (List W)):Ev->Mo W:=λρ n Q=>fs ρ n λq m=>on1 q λx=>onI x λj=>(0<=j/\j<=1000)/\Q (.d (.lst (zkC j.toNat))) m
@[reducible] def zoF (fs:Ev->Mo (List W)):Ev->Mo W:=λρ n Q=>fs ρ n λq m=>on1 q λx=>onI x λj=>(0<=j/\j<=1000)/\Q (.d (.tup (zkC j.toNat))) m
def zqD {q:List W}{P:Nat->Prop}:(∃j:Nat,q=[.d (.int (j:Int))]/\j<=1000/\P j)=on1 q λx=>onI x λj=>(0<=j/\j<=1000)/\P j.toNat:=by simp only[ur,uX];exact propext ⟨by rintro⟨j,e,h1,h⟩;exact⟨_,e,_,rfl,⟨by lia,by lia⟩,by simpa using h⟩,by rintro⟨x,e,j,B,⟨h1,h2⟩,h⟩;exact⟨j.toNat,by grind,by lia,h⟩⟩
def zeD:zcK fs=zfi fs:=by funext ρ n Q;simp only[zcK,zfi];congr 1;funext ws m;exact zqD (P:=λj=>Q (.d (.lst (zkC j))) m)
@[reducible] def dTru (f:Ev->Mo W):Ev->Mo Bool:=λρ n Q=>f ρ n λw m=>onO (truD w) λb=>Q b m
@[reducible] def dChain (F G:W->W->Mo W) (fa fb fc:Ev->Mo W):Ev->Mo W:=λρ n Q=>fa ρ n λx B=>fb ρ B λy I=>F x y I λz q=>onB z λk=>onC k (fc ρ q λu J=>G y u J Q) (Q (.d (.bl false)) q)
def zgI{α:Type}(xs:List α)(F:α->W)(Z:l=xs.map F)(O:xs.length<=lim)(I:Nat->Ev->Nat->List Dt->Prop)(h0:I 0 L n [])(h:∀i a q J acc,xs[i]?=some a->I i q J acc->∀C:Ev->Nat->List Dt->Prop,(∀ {ρ m l},I (i+1) ρ m l->C ρ m l)->mg (F a) q λB=>ft B J λb Y=>onC b (U B Y λx n3=>onD x λd=>C B n3 (acc++[d])) (C B Y acc))(fin:∀ q J acc,I xs.length q J acc->Q (.d (.lst acc)) J):zel mg ft U L Q l n:=by
 refine zjd xs F Z O I h0 (λi a q J acc ha hI C hC=>?_) fin;have:=h i a q J acc ha hI C hC;simp only[zbo,xn] at this;exact this
def zcu{α:Type}(xs:List α)(F:α->W)(Y:l=xs.map F)(J:Ev->Prop)(P:α->Bool)(E:α->Dt)(L:xs.length<=lim)(j0:J I)(h:∀a∈xs,∀ B,J B->∀C:Ev->Nat->Option Dt->Prop,(∀ {q},P a=true->J q->C q n (some (E a)))->(∀ {q},P a=false->J q->C q n none)->mg (F a) B λq=>ft q n λb U=>onC b (O q U λx Z=>onD x λd=>C q Z (some d)) (C q U none))(fin:Q (.d (.lst ((xs.filter P).map E))) n):zel mg ft O I Q l n:=by
 refine zgL xs F Y J P E L j0 (λa ha B hj C hC=>?_) fin;have:=h a ha B hj C (λ{q} e z=>by simp_all) λ{q} e z=>by have:=hC q z;rwa[if_neg (by rw[e];decide)] at this
 simp only[zbo,xn] at this;exact this
def xy{α:Type}(xs:List α)(F:α->W)(U:l=xs.map F)(J:Ev->Prop)(E:α->Dt)(L:xs.length<=lim)(j0:J I)(h:∀a∈xs,∀ B,J B->∀C:Ev->Nat->Dt->Prop,(∀ {q},J q->C q n (E a))->mg (F a) B λq=>O q n λx Y=>onD x λd=>C q Y d)(fin:Q (.d (.lst (xs.map E))) n):zel mg zsW O I Q l n:=by
 refine zje xs F U J E L j0 (λa Z B hj C hC=>?_) fin;have:=h a Z B hj C λ{q} z=>hC q z;simp only[xn] at this;exact this
end
open PySem PySem.Spec L2
@[reducible] def rep:Nat->(Ev->Prop)->Prop
 | 0,Q=>Q []
 | k+1,Q=>rep k λρ=>Q (none::ρ)
@[reducible] def beg:List W->Nat->(Ev->Prop)->Prop
 | [],r,Q=>rep r Q
 | w::q,r,Q=>beg q r λρ=>Q (some w::ρ)
def ziG:∀ {r:Nat} {Q:Ev->Prop},rep r Q=Q (List.replicate r none)
 | 0,Q=>rfl
 | r+1,Q=>by rw[rep,ziG];rfl
def zgE:∀ {q:List W} {r:Nat} {Q:Ev->Prop},beg q r Q=Q (q.map some++List.replicate r none)
 | [],r,Q=>by rw[beg,ziG];rfl
 | w::q,r,Q=>by rw[beg,zgE];rfl
def zpA {P:Program}{w:World}{K:PySem.W.Frag}{mg:Str->Option Value}{base:Heap}{qual:Str}{st:Stmt}{f:Addr}{fd:FuncData}{N ps:List Str}{k m:Nat}{fr:Bool}{F:PN->List W->Mo W}(M:List Nat)(r:Nat)(J:(∀vs H Q E,spV m fr F vs H Q E->vs.length=ps.length)->(∀ (q:Value) (A:Around) (outer:List Env) (s:Shared) (H:Hp) (vs:List V) (Q:VK) (E:XK),Room k (A.deeper (PyProof.Rows.envOfC qual (zd st) s.heap.objs.size f q))->spV m fr F vs H Q E->
   ∃t,QSs (zaN CX0 P w K mg base N qual (zd st) f q A outer s H E).nox (zU st) t/\t { nx:=λ_ H'=>Q .non H',rt:=Q } (L2.yO N vs) H)->FnOk P w K mg base CX0 (k+1) f fd ps (spV m fr F)) (L:m=ps.length) (O:∀i∈M,m<=i) (U:N.length=m+r)
  (B:∀ (q:Value) (A:Around) (outer:List Env) (s:Shared) (H:Hp) (E:XK) (Pn:PN),Room k (A.deeper (PyProof.Rows.envOfC qual (zd st) s.heap.objs.size f q))->
   ∃fs,JSs (zaN CX0 P w K mg base N qual (zd st) f q A outer s H E).nox Pn [] M fr (zU st) fs/\∀I n R,F Pn I n R->beg I r λρ=>fs ρ n { nx:=λ_ Y=>onC fr False (R (.d .non) Y),rt:=R }):FnOk P w K mg base CX0 (k+1) f fd ps (spV m fr F):=by
 refine zpz M J L O λq A outer s H E Pn Z=>?_;obtain⟨fs,h1,h2⟩:=B q A outer s H E Pn Z;refine⟨fs,h1,λI n R hl hF=>?_⟩;have:=h2 I n R hF;rw[zgE] at this;have e:xp N I=I.map some++List.replicate r none:=by unfold xp;rw[U,hl,Nat.add_sub_cancel_left]
 grind
def Fun.okW(M:List Nat)(r:Nat)(Fu:Fun K x qual st f fd)(S:FnScope N ps (zd st))(J:m=ps.length)(L:∀i∈M,m<=i)(O:N.length=m+r)(q:∀ (B:Value) (A:Around) (outer:List Env) (s:Shared) (H:Hp) (E:XK) (Pn:PN),Room k (A.deeper (PyProof.Rows.envOfC qual (zd st) s.heap.objs.size f B))->
   ∃fs,JSs (zaN CX0 P w K mg base N qual (zd st) f B A outer s H E).nox Pn [] M fr (zU st) fs/\∀I n R,F Pn I n R->beg I r λρ=>fs ρ n { nx:=λ_ U=>onC fr False (R (.d .non) U),rt:=R }):FnOk P w K mg base CX0 (k+1) f fd ps (spV m fr F):=zpA M r (λl b=>Fun.okQ Fu S l b) J L O q
@[reducible] def dItS (i:Nat):Ev->Mo (List W):=λρ n Q=>onV ρ i λx=>onS x λl=>Q (l.map W.d) n
def zqC{fs:Ms}(h:rep r λρ=>fs (a::b::ρ) n k):fs (a::b::List.replicate r none) n k:=by rw[ziG] at h;exact h
def len1 {st:List Int}{x:Dt}(h:st.length<=1000):(st.map Dt.int).length+[x].length<=lim:=by rw[ac];exact ah (by simp;lia:_<=1001) (by decide)
def cat1 {st:List Int}{x:Int}:st.map Dt.int++[Dt.int x]=(st++[x]).map Dt.int:=by simp_all
def scR (mg:W->Ev->(Ev->Prop)->Prop)(ft:Ev->Mo Bool)(O:Ev->Mo W)(J:Ev)(Q:List (List Int)->Nat->Prop):List W->Nat->Prop:=λl U=>∃I:Nat->Ev->Nat->List (List Int)->Prop,I 0 J U []/\
 (∀i w q F acc,l[i]?=some w->I i q F acc->mg w q λB=>ft B F λb L=>if b=true then O B L λx Y=>∃st,x = .d (stD st)/\I (i+1) B Y (acc++[st]) else I (i+1) B L acc)/\
 (∀i q F acc ks,I i q F acc->List.Nodup ks->(∀z∈ks,z∈acc)->ks.length<300)/\
 ∀ q F acc ks,I l.length q F acc->List.Nodup ks->(∀z,z∈ks↔z∈acc)->Q ks F
@[reducible] def zsT (q:Ev->Mo (List W)) (mg:W->Ev->(Ev->Prop)->Prop) (ft:Ev->Mo Bool) (B:Ev->Mo W) (cix:List (Option Nat)):Ev->Mo W:=λρ n Q=>q ρ n (scR mg ft B (zf3 ρ cix) λks F=>∃m,ks.length<64/\1<=m/\(∀st∈ks,st.length=m)/\∀l':List (List Int),l'.Perm ks->(l'.Pairwise λa b=>HT.lexLt a b=true)->Q (.d (xS l')) F)
section
variable {X:Cx}{Pn:PN}{M S:List Nat}{fr fr':Bool}{pos p:Pos}
end
open PySem PySem.Spec L2
@[reducible] def dGetI (fd fk q:Ev->Mo W):Ev->Mo W:=λρ n Q=>fd ρ n λx B=>onK x λkvs=>fk ρ B λy F=>q ρ F λz I=>onO (zmu y) λk=>onI z λi=>Q (.d ((zS kvs k).getD (.int i))) I
section
variable {X:Cx}{Pn:PN}{M:List Nat}{a b c:Expr}{fa fb fc:Ev->Mo W}{apos cpos:Pos}
end
end L3
namespace L2
open PySem PySem.Spec PyProof.Rows
section
variable {X:Cx}{e lo st:Expr}{te tl tk:TE}{pos p2:Pos}
end
end L2
namespace L3
open PySem PySem.Spec L2
@[reducible] def dFromL (fa fl fk:Ev->Mo W):Ev->Mo W:=λρ n Q=>fa ρ n λx q=>onL x λl=>fl ρ q λy B=>onI y λc=>fk ρ B λz F=>onI z λk=>(0<=c/\1<=k)/\∀ys:List Dt,ys.Sublist (l.drop c.toNat)->Q (.d (.lst ys)) F
section
variable {X:Cx}{Pn:PN}{M:List Nat}{e lo st:Expr}{f fl fk:Ev->Mo W}{pos p2:Pos}
end
open PySem PySem.Spec L2
def zsj:HO:=.dK [(Sum.inr "at",.non)]
abbrev gone (H:Hp)(a:Addr):Hp:=L2.upd H a zsj
def WAt.top(h:WAt T G u (.ref c))(e:T' c=T c)(hm:u.mut=true):WAt T' G u (.ref c):=by
 cases u with
 | d x=>
  cases x with
  | lst l=>obtain⟨a2,xs,e2,g1,g2⟩:=h;cases e2;exact⟨c,xs,rfl,by unfold Rd;rw[e];exact g1,g2⟩
  | dct=>obtain⟨a2,xs,e2,g1,g2⟩:=h;cases e2;exact⟨c,xs,rfl,by rw[e];exact g1,g2⟩
  | _=>cases hm
 | pen p=>cases hm
 | dk kvs=>obtain⟨a2,xs,e2,g1,g2,g3⟩:=h;cases e2;exact⟨c,xs,rfl,by rw[e];exact g1,g2,g3⟩
 | dt kvs=>obtain⟨a2,xs,e2,g1,g2⟩:=h;cases e2;exact⟨c,xs,rfl,by rw[e];exact g1,g2⟩
 | dn fz kvs=>obtain⟨a2,xs,e2,g1,g2⟩:=h;cases e2;exact⟨c,xs,rfl,g1.imp λo _ q=>by rw[e];exact q,g2⟩
 | wd d fs kn=>cases hm
 | lf ls=>cases hm
 | ss P w kvs=>obtain⟨a2,xs,e2,g1,g2⟩:=h;cases e2;exact⟨c,xs,rfl,by rw[e];exact g1,g2⟩
 | df kvs=>obtain⟨a2,ob,xs,e2,g1,g2⟩:=h;cases e2;exact⟨c,ob,xs,rfl,by rw[e];exact g1,g2⟩
 | kf kvs=>obtain⟨a2,ob,xs,e2,g1,g2⟩:=h;cases e2;exact⟨c,ob,xs,rfl,by rw[e];exact g1,g2⟩
 | ad a x=>cases hm
 | tz kvs x=>cases hm
 | fl kvs=>obtain⟨a2,ob,xs,e2,g1,g2⟩:=h;cases e2;exact⟨c,ob,xs,rfl,by rw[e];exact g1,g2⟩
section
variable {X:Cx}{Pn:PN}{M S:List Nat}{fr fr':Bool}{pos p:Pos}
@[reducible] def dGiv (i:Nat) (F:List W->Mo W) (f1 f2:Ev->Mo W):Ms:=λρ n k=>f1 ρ n λw1 m1=>f2 ρ m1 λw2 m2=>onV ρ i λw=>F [w1,w2,w] m2 λw' m'=>onC (W.mut w') (onP ρ i w' λρ'=>k.nx ρ' m') False
end
end L3
namespace L2
open PySem PySem.Spec PyProof.Rows PySem.W PySem.SeqAt
section
variable {X:Cx}
end
end L2
namespace L3
open PySem PySem.Spec L2
section
variable {X:Cx}{Pn:PN}{M S:List Nat}{fr fr':Bool}{e o:Expr}{f fo:Ev->Mo W}{pos p:Pos}
@[reducible] def dLenK:List W->Mo W:=λq n Q=>on1 q λx=>onK x λkvs=>Q (.d (.int (kvs.length:Nat))) n
@[reducible] def dListK:List W->Mo W:=λq n Q=>on1 q λx=>onK x λkvs=>∃ns:List Int,kvs.map (·.1)=ns.map Sum.inl/\Q (.d (.lst (ns.map .int))) n
@[reducible] def dIndex (fo f:Ev->Mo W):Ev->Mo W:=λρ n Q=>fo ρ n λx q=>onL x λl=>f ρ q λy B=>onI y λk=>∃ns:List Int,l=ns.map .int/\k∈ns/\Q (.d (.int (ns.idxOf k:Nat))) B
@[reducible] def zr0 (f:Ev->Mo W):Ev->Mo W:=λρ n Q=>f ρ n λx q=>onL x λl=>∃ns:List Int,l=ns.map .int/\ns.Nodup/\ns.length<=1000/\Q (.d (.int (ns.length:Nat))) q
end
end L3
namespace L2
def us_1 {α:Type}{us:List α}(h:us.length=1):∃a,us=[a]:=match us,h with | [a],_=>⟨a,rfl⟩
def us_2 {α:Type}{us:List α}(h:us.length=2):∃a b,us=[a,b]:=match us,h with | [a,b],_=>⟨a,b,rfl⟩
def us_3 {α:Type}{us:List α}(h:us.length=3):∃a b c,us=[a,b,c]:=match us,h with | [a,b,c],_=>⟨a,b,c,rfl⟩
def us_4 {α:Type}{us:List α}(h:us.length=4):∃a b c d,us=[a,b,c,d]:=match us,h with | [a,b,c,d],_=>⟨a,b,c,d,rfl⟩
def us_5 {α:Type}{us:List α}(h:us.length=5):∃a b c d e,us=[a,b,c,d,e]:=match us,h with | [a,b,c,d,e],_=>⟨a,b,c,d,e,rfl⟩
open PySem PySem.Spec PyProof.Rows PySem.W PySem.Calls
end L2
namespace L3
open PySem PySem.Spec L2
section
variable {X:Cx}{Pn:PN}{M S:List Nat}{fr fr':Bool}{e a b c:Expr}{es:List Expr}{f fa fb fc:Ev->Mo W}{pos p:Pos}
end
open PySem PySem.Spec L2
def zey:∀ {bs:List Bool} {xs:List V},IsL G (bs.map .bl) xs->xs=bs.map V.bl
 | [],_,h=>h
 | b::bs,xs,h=>by obtain⟨x,r,rfl,h1,h2⟩:=h;have e:x = .bl b:=h1;rw[e,zey h2];rfl
def zev:∀bs:List Bool,inV (.bl b) (bs.map V.bl)=bs.contains b
 | []=>rfl
 | c::bs=>by have:=zev (b:=b) bs;unfold inV at this ⊢;rw[ao,cm,this,dG];cases b <;> cases c <;> rfl
def zcz:∀bs:List Bool,(bs.map V.bl).all zcy=true
 | []=>rfl
 | _::bs=>by rw[ao,bY,zcz bs];rfl
section
variable {Pn:PN}{K:PySem.W.Frag}
@[reducible] def dInB:W->W->Mo W:=λx y n Q=>onB x λb=>onL y λl=>∃bs:List Bool,l=bs.map .bl/\Q (.d (.bl (bs.contains b))) n
def ztL:F2 Pn false (rIn K false) dInB:=⟨λA H x y wx J n Q R L B q P h k=>by simp only[dInB,zfH,ut] at h;obtain⟨b,rfl,l,rfl,bs,rfl,h⟩:=h;obtain⟨a,xs,rfl,F,I⟩:=xu q;obtain rfl:=zey I;have e:x = .bl b:=B;subst e;exact⟨a,_,rfl,.inl (.inl F),rfl,zcz bs,k _ n _ H h (Val.of (by rw[zev];rfl)) (Go.refl P) λz=>by cases z⟩⟩
end
end L3
namespace L2
open PySem PySem.Spec PyProof.Rows PySem.W PySem.Calls
section
variable {prog:Program}{w:World}{A:Around}{E:Value->Shared->Prop}{s:Shared}
end
section
variable {X:Cx}
end
end L2
namespace L3
open PySem PySem.Spec L2
section
variable {X:Cx}{Pn:PN}{M S:List Nat}{fr fr':Bool}{pos p:Pos}{e:Expr}{f:Ev->Mo W}
@[reducible] def dSAdd (P:Program) (w:World) (i:Nat) (f:Ev->Mo W):Ms:=λρ n k=>onV ρ i λv=>∃ks,v = .ss P w ks/\f ρ n λx m=>∃st:List Int,x = .d (stD st)/\ks.length<300/\
 ∀q:List (List Int),(∀y,y∈q↔y=st\/y∈ks)->q.length<=ks.length+1->q.Nodup->onP ρ i (.ss P w q) λB=>k.nx B m
@[reducible] def dSortS (P:Program) (w:World):List W->Mo W:=λB n Q=>on1 B λx=>∃ (ks:List (List Int)) (m:Nat),x = .ss P w ks/\ks.length<64/\1<=m/\(∀st∈ks,st.length=m)/\∀q:List (List Int),q.Perm ks->(q.Pairwise λa b=>HT.lexLt a b=true)->Q (.d (xS q)) n
end
open PySem PySem.Spec L2
def zfP {α:Type}{p:List α->Prop}(q:p [])(B:∀l x,p l->p (l++[x]))(l:List α):p l:=by
 have h:∀l:List α,p l.reverse:=λl=>by
  induction l with
  | nil=>exact q
  | cons x l F=>rw[cT];exact B _ _ F
 have:=h l.reverse
 grind
def zlG:∀ (cs:List (List Int)),(∀c∈cs,c.Pairwise (· < ·))->Up' (yy cs):=by
 intro cs;refine zfP (p:=λcs=>(∀c∈cs,c.Pairwise (· < ·))->Up' (yy cs)) ?_ ?_ cs
 ·intro _;simp[yy,Up']
 ·intro cs c F h;have I:=h c (by simp);have F:=F λd J=>h d (by simp[J]);rw[z8];have q:=xi cs;generalize yy cs=rows at F q;unfold yX Up';rw[List.pairwise_flatMap];constructor
  ·intro r hr;rw[bD];refine I.imp λ{a b} B=>?_;exact lex_app r B
  ·refine (List.Pairwise.and_mem.mp F).imp λ{a b} ⟨L,O,B⟩=>?_;intro x U y Y;obtain⟨v,_,rfl⟩:=aw.mp U;obtain⟨w,_,rfl⟩:=aw.mp Y;exact lex_pre ((q a L).trans (q b O).symm) B
where
 lex_app:∀ (r:List Int) {a b:Int},a<b->HT.lexLt (r++[a]) (r++[b])=true
  | [],a,b,h=>by
   show (if a=b then HT.lexLt [] [] else decide (a<b))=true
   grind
  | x::r,a,b,h=>by show (if x=x then HT.lexLt (r++[a]) (r++[b]) else decide (x<x))=true;rw[if_pos rfl];exact lex_app r h
 lex_pre:∀ {r t:List Int} {a b:Int},r.length=t.length->HT.lexLt r t=true->HT.lexLt (r++[a]) (t++[b])=true
  | [],[],_,_,_,h=>by rw[yB] at h;cases h
  | [],_::_,_,_,h,_=>by simp at h
  | _::_,[],_,_,h,_=>by simp at h
  | x::r,y::t,a,b,Z,h=>by
   have h:(if x=y then HT.lexLt r t else decide (x<y))=true:=h;show (if x=y then HT.lexLt (r++[a]) (t++[b]) else decide (x<y))=true;by_cases e:x=y
   ·rw[if_pos e] at h ⊢;exact lex_pre (by simpa using Z) h
   ·simp_all
def zgy:∀cs:List (List Int),(∀c∈cs,c≠[])->(yy cs)[0]?=some (cs.map (·.headD 0)):=λcs=>by
 refine zfP (p:=λcs:List (List Int)=>(∀c∈cs,c≠[])->(yy cs)[0]?=some (cs.map (·.headD 0))) (λ_=>rfl) (λcs c q h=>?_) cs;have q:=q λd F=>h d (by simp[F]);have I:=h c (by simp);rw[z8]
 cases hr:yy cs with
 | nil=>rw[hr] at q;simp at q
 | cons r B=>
  rw[hr] at q
  cases c with
  | nil=>exact absurd rfl I
  | cons w J=>
   have e:r=cs.map (·.headD 0):=by simpa using q
   unfold yX
   simp_all
def zi6 (cs:List (List Int))(h:∀c∈cs,c≠[]):1<=(yy cs).length:=by
 have:=zgy cs h
 grind
def zeb (g:List (Int×Int))(b w:Int):List (Int×Int):=g.filter (λq=>decide (q.1<b))++[(b,w)]++g.filter λq=>decide (b<q.1)
def zjw {g:List (Int×Int)}{b w:Int}(B:b∉g.map (·.1)){q:Int×Int}:q∈zeb g b w↔q=(b,w)\/q∈g:=by
 unfold zeb
 grind
def uO {rm:List Int}{g:List (Int×Int)}{b w:Int}(B:Giv rm g)(I:b∉g.map (·.1))(L:0<=b)(h1:b<rm.length)(h2:0<=w)(O:w<zA rm b):Giv rm (zeb g b w):=by
 refine⟨λq F=>?_,?_⟩
 ·rcases (zjw I).mp F with rfl | F
  ·simp_all
  ·exact B.ok q F
 ·unfold zeb;rw[dS,cY];refine⟨B.up.filter _,?_,λa U c J=>?_⟩
  ·rw[List.singleton_append,bQ];exact⟨λc J=>by simp_all,B.up.filter _⟩
  ·grind
def IsP (Pn:PN)(p:Addr):Prop:=∃c ns,Pn=⟨some (p,c,ns),J0⟩
def dc{zA:Int}(q:IsP Pn p)(h:∀r,0<=r->r<zA->Q (.d (.int r)) (n+1))(B:n<=1000000:=by lia)(h1:1<=zA:=by lia)(h2:zA<1073741824:=by lia):zod Pn [.pen p,.d (.int zA)] n Q:=let ⟨c,ns,e⟩:=q;⟨p,c,ns,zA,e,rfl,B,h1,h2,h⟩
def tc(q:IsP Pn p)(h:∀l':List Dt,l'.Perm l->Q (.d (.lst l')) (n+l.length))(B:n+l.length<=1000000:=by lia)(h1:l.length<=100000:=by lia):zog Pn [.pen p,.d (.lst l)] n Q:=let ⟨c,ns,e⟩:=q;⟨p,c,ns,l,e,rfl,B,h1,h⟩
def zgf {m b:Int}:b∈zq m↔0<=b/\b<m:=by
 unfold zq;rw[aw];constructor
 ·rintro⟨k,q,rfl⟩
  grind
 ·rintro⟨B,h1⟩;exact⟨b.toNat,aX.mpr (by lia),by lia⟩
def zsY {α q:Type}{G:Prop}(C:α->q->Prop)(P:α->q->Prop)(h:(∀a b,C a b->P a b)->G)(r:∀a b,C a b->P a b):G:=h r
end L3
namespace L3
open PySem PySem.Spec L2
end L3
namespace L3
open PySem PySem.Spec L2
end L3
namespace L3
open PySem PySem.Spec L2
def lpE (bk:List Wi)(q:Int)(st:List Int):List (Int×Int):=(lpF bk q st).map λr=>(r.getD 0 0,r.getD 1 0)
def za1 {α:Type}(l:List α)(k:Nat):zdc l (some (k:Int)) none=l.drop k:=by
 unfold zdc
 have h1:HT.sIx l.length 0 (some (k:Int))=min k l.length:=by unfold HT.sIx;simp;try lia
 have h2:HT.sIx l.length l.length none=l.length:=rfl;rw[h1,h2,List.take_of_length_le (by simp)]
 simp_all
end L3
namespace L3
open PySem PySem.Spec L2
end L3
namespace L2
open PySem PySem.Spec PyProof.Rows PySem.W PySem.Calls
section
variable {X:Cx}{pins:List (Addr×Obj)}{σ:St}{H:Hp}{s:Shared}{a:Addr}
def Inv.frz {kvs:List (List Int×V)}(I:Inv X pins σ H s)(h:H a=some (dtO kvs)):∃ob,Inv X pins σ (upd H a (.frz ob (dtO kvs))) s:=by obtain⟨z,lo,xs,r,o,es,ep,h1,h2,F,J,L⟩:=(show zD X.prog X.w H s.heap a (.dT (zhC kvs)) from I.hok a _ h);refine⟨o,I.write (x:=a) (e:=a) (h':=s.heap) (t':=s.toks) (by rw[h];trivial) (.inl rfl) (λ_ _ _ e=>e) ⟨o,h1⟩ ⟨h1,z,lo,xs,Paired.imp' (λp q y=>?_) r,o,es,ep,h1,h2,F,J,L⟩⟩;obtain⟨O,B,U⟩:=y;exact⟨O,by rw[zb (λy=>by rw[y,h] at B;cases B)];exact B,U⟩
def tFrz (te:TE):TE:=λσ H Q=>te σ H λx H1=>∃a ks,x = .ref a/\H1 a=some (dtO ks)/\∀ob,Q x (upd H1 a (.frz ob (dtO ks)))
def zqo(h:QE X e te):QE X e (tFrz te):=⟨by
 intro pins s σ H Q I q;refine thn (h.run pins s σ H _ I q) ?_;rintro v L ⟨x,H1,I1,B,a,ks,rfl,F,J⟩;obtain⟨ob,I2⟩:=I1.frz F;exact⟨_,_,I2,B,J ob⟩⟩
end
end L2
namespace L3
open PySem PySem.Spec L2
def zkg{ks:List (List Int×V)}(h:yA Pn A n H)(hp:H p=some (dtO ks)):yA Pn A n (L2.upd H p o):=by
 refine⟨?_,Pn.J.frz h.2 hp (zs2 _) rfl⟩;have h:=h.1;split at h
 ·trivial
 ·refine⟨?_,h.2⟩;obtain⟨h1,_⟩:=h;obtain⟨a,l,q,g2⟩:=h1.ob;exact⟨⟨a,l,by rw[zb λz=>by rw[z,hp] at q;cases q];exact q,g2⟩,let ⟨ob,e⟩:=h1.ls;⟨ob,by rw[zb λz=>by rw[z,hp] at e;cases e];exact e⟩,h1.len⟩
@[reducible] def onZ (w:W) (P:List (List Int×Dt)->Prop):Prop:=match w with | .df i=>P i | _=>False
def zli{P:List (List Int×Dt)->Prop}:onZ w P = ∃i,w = .df i/\P i:=propext ⟨λh=>by cases w <;> first | exact False.elim h | exact⟨_,rfl,h⟩,by simp_all⟩
section
variable {X:Cx}{Pn:PN}{M S:List Nat}{fr fr':Bool}{pos p:Pos}{e a b c:Expr}{f fa fb fc:Ev->Mo W}
@[reducible] def dFrz (f:Ev->Mo W):Ev->Mo W:=λρ n Q=>f ρ n λx m=>onE x λkvs=>Q (.df kvs) m
def zsr (h:JE X Pn M true e f):JE X Pn M false e (dFrz f):=by
 obtain⟨te,q,r⟩:=h.ex;refine⟨_,zqo q,⟨λA σ H ρ n Q R E P hf k=>?_⟩⟩;refine r.run A σ H ρ n _ _ E P hf λw m v H' F hv g U=>?_;rw[zpD] at F;obtain⟨kvs,rfl,F⟩:=F;obtain⟨L,Y,B,_,Z,ks,e2,h1,h2⟩:=U rfl;subst Y;cases e2;have nA:=E.newF B;refine⟨L,ks,rfl,h1,λob=>k _ m _ _ F ⟨L,ob,ks,rfl,zi nA zg,h2.stay λb o I J=>?_⟩ ⟨λb o I J=>?_,?_⟩ λz=>by cases z⟩
 ·obtain⟨O,z2⟩:=zx.mp I;exact zi (λy=>O (.inl y)) (by rw[zb λy=>O (.inr y)];exact z2)
 ·rw[zb λy=>by subst y;exact B o I J];exact g.st b o I J
 ·exact zkg g.pn h1
@[reducible] def dItF (fa:Ev->Mo W):Ev->Mo (List W):=λρ n Q=>fa ρ n λx m=>onZ x λkvs=>(kvs.map (·.1)).Nodup->Q (kvs.map λq=>W.d (stD q.1)) m
@[reducible] def dGetF (fd fk:Ev->Mo W):Ev->Mo W:=λρ n Q=>fd ρ n λx q=>fk ρ q λy B=>onZ x λkvs=>∃st,y = .d (stD st)/\onO (zS kvs st) λd=>Q (.d d) B
def zou{kvs:List (List Int×Dt)}(h:Bor A H (.df kvs) v):∃q ks,v = .ref q/\Rd H q (dtO ks)/\xh (zG A H) kvs ks:=by obtain⟨q,ob,ks,e,h1,h2⟩:=h;exact⟨q,ks,e,.inr ⟨ob,h1⟩,h2⟩
def zaV.z {H:Hp}{a b:Addr}{kvs:List (List Int×V)}{st:List Int}(e:Rd H a (dtO kvs))(q:H b=some (.tup (st.map V.int))):zaV H a (.ref b) (xg kvs st):=
 .inr ⟨_,st.map Sum.inl,b,e,rfl,by rw[zew];exact q,(zjN kvs st).symm⟩
@[reducible] def dGetFD (fd fk q:Ev->Mo W):Ev->Mo W:=λρ n Q=>fd ρ n λx B=>onZ x λkvs=>fk ρ B λy F=>q ρ F λz I=>∃st,y = .d (stD st)/\onD z λi=>Q (.d ((zS kvs st).getD i)) I
@[reducible] def zkW:List W->Mo W:=λB n Q=>on1 B λx=>∃kvs:List (List Int×Dt),x = .d (.lst (kvs.map λq=>Dt.tup [stD q.1,q.2]))/\(kvs.map (·.1)).Nodup/\kvs.length<=lim/\Q (.dt kvs) n
def zhj:∀ {kvs:List (List Int×Dt)} {xs:List V},IsL G (kvs.map λq=>Dt.tup [stD q.1,q.2]) xs->∃ps:List Pr,xs=ps.map (λq=>V.ref q.1)/\(∀q∈ps,G q.1=some (.tup [.ref q.2.1,q.2.2.2])/\G q.2.1=some (.tup (q.2.2.1.map V.int)))/\ps.map (·.2.2.1)=kvs.map (·.1)/\xh G kvs (prK ps)
 | [],_,h=>by cases h;exact⟨[],rfl,λ_ z=>by simp at z,rfl,rfl⟩
 | q::r,xs,⟨x,s,e,⟨p,us,J,hp,kv,s2,L,⟨kb,zs,O,B,U⟩,I,s3,Y,Z,e6⟩,h2⟩=>by
  obtain⟨ps,h1,h3,h4,h5⟩:=zhj h2;subst e J L O Y e6 h1;obtain rfl:=U.of_ints;refine⟨(p,kb,q.1,I)::ps,rfl,λy F=>?_,by simp_all,I,_,rfl,Z,h5⟩;rcases ax.mp F with rfl | F
  ·exact⟨hp,B⟩
  ·exact h3 y F
def znV:FL Pn true zlt zkW:=⟨λA H xs ws n Q R O b Pp h k=>by
 simp only[zkW,ur] at h;obtain⟨x,e,kvs,rfl,B,U,h⟩:=h;subst e;obtain⟨v,rfl,Y⟩:=zaH b;obtain⟨Z,xs,rfl,F,hl⟩:=Y;obtain⟨ps,rfl,h1,h2,J⟩:=zhj hl;have I:ps.length=kvs.length:=by have:=congrArg List.length h2;simpa using this
 refine⟨Z,ps,rfl,⟨F,λq L=>⟨zl _ _ (h1 q L).1,zl _ _ (h1 q L).2⟩,by rw[h2];exact B,by rw[I];exact U⟩,λp H' np g S=>?_⟩;exact k _ n _ H' h ⟨p,_,rfl,zi (O.new np) g,J.stay (zN (zn.same S))⟩ (Go.same Pp S) λ_=>⟨p,rfl,.of np,⟨_,g,rfl⟩,p,_,rfl,g,J.stay (yI (zn.same S) (.of np))⟩⟩
end
open PySem PySem.Spec L2
@[reducible] def lpD (bk:List Wi) (b:Int) (st:List Int):Dt:=.lst ((lpE bk b st).map zF)
@[reducible] def rowD (rm:List Int) (bk:List Wi) (st:List Int):Dt:=.lst ((List.range rm.length).map λb:Nat=>lpD bk (b:Int) st)
def ztP {l:List (List Int)}(h:Up' l):l.Nodup:=h.imp λh e=>by subst e;rw[yB] at h;cases h
def zoo (rm:List Int):(yy (rm.map zq)).Nodup:=ztP (zlG _ λc q=>by obtain⟨m,_,rfl⟩:=aw.mp q;unfold zq;rw[bD];exact List.pairwise_lt_range.imp λh=>by lia)
def zes {rm:List Int}{g:List (Int×Int)}(h:Giv rm g):g.length<=rm.length:=by
 have:=zbi (l:=g.map (·.1)) (l':=zq rm.length) (bD.mpr (h.up.imp λh e=>by lia)) λx B=>by obtain⟨q,F,rfl⟩:=aw.mp B;have:=h.ok q F;exact zgf.mpr ⟨this.1,this.2.1⟩
 rw[ac,yD] at this;lia
def zk5 {rm:List Int}{g:List (Int×Int)}{o v:Int}(B:Giv rm g)(F:∀q∈g,q.1≠o):((g++[(o,v)]).map λq=>[q.1,q.2]).Nodup:=by
 refine bD.mpr (cY.mpr ⟨B.up.imp λh e=>?_,dE _ _,λa I b J e=>?_⟩)
 ·simp_all
 ·grind
section
variable {X:Cx}{Pn:PN}{M S cM:List Nat}{fr fr':Bool}{e:Expr}{es:List Expr}{pos:Pos}{A:Addr->Prop}{acc:Addr}{H1 H H':Hp}{σc σ:St}{ρc ρ:Ev}{n m:Nat}{ds:List Dt}
def inR (mg:W->Ev->(Ev->Prop)->Prop)(ft:Ev->Mo Bool)(L:Ev->Mo W)(B:Ev)(F:List Dt)(K:Ev->Nat->List Dt->Prop):List W->Nat->Prop:=λl O=>∃I:Nat->Ev->Nat->List Dt->Prop,I 0 B O F/\
 (∀i w ρ n ds,l[i]?=some w->I i ρ n ds->mg w ρ λq=>ft q n λb J=>if b=true then L q J λx U=>∃d,x = .d d/\ds.length<=lim/\I (i+1) q U (ds++[d]) else I (i+1) q J ds)/\
 ∀ ρ n ds,I l.length ρ n ds->K ρ n ds
def zov (mg:W->Ev->(Ev->Prop)->Prop)(ft:Ev->Mo Bool)(B:Ev->Mo (List W))(F:W->Ev->(Ev->Prop)->Prop)(J:Ev->Mo Bool)(U:Ev->Mo W)(L:Ev)(Q:W->Nat->Prop):List W->Nat->Prop:=λl Y=>∃I:Nat->Ev->Nat->List Dt->Prop,I 0 L Y []/\
 (∀i w ρ n ds,l[i]?=some w->I i ρ n ds->mg w ρ λq=>ft q n λb O=>if b=true then B q O (inR F J U q ds (I (i+1))) else I (i+1) q O ds)/\
 ∀ ρ n ds,I l.length ρ n ds->Q (.d (.lst ds)) n
@[reducible] def mComp2 (I:Ev->Mo (List W)) (mg:W->Ev->(Ev->Prop)->Prop) (ft:Ev->Mo Bool) (q:Ev->Mo (List W)) (B:W->Ev->(Ev->Prop)->Prop) (F:Ev->Mo Bool) (J:Ev->Mo W) (cix:List (Option Nat)):Ev->Mo W:=λρ n Q=>I ρ n (zov mg ft q B F J (zf3 ρ cix) Q)
end
end L3
namespace L2
open PySem PySem.Spec PyProof.Rows PySem.W PySem.Calls
section
variable {X:Cx}{pins:List (Addr×Obj)}{σ:St}{H:Hp}{s:Shared}{a:Addr}
end
end L2
namespace L3
open PySem PySem.Spec L2
@[reducible] def onY (w:W) (P:List (Key×Dt)->Prop):Prop:=match w with | .kf i=>P i | _=>False
section
variable {X:Cx}{Pn:PN}{M S:List Nat}{fr fr':Bool}{pos p:Pos}{e a b c:Expr}{f fa fb fc:Ev->Mo W}
@[reducible] def dFrzK (f:Ev->Mo W):Ev->Mo W:=λρ n Q=>f ρ n λx m=>onK x λkvs=>Q (.kf kvs) m
@[reducible] def dItK (fa:Ev->Mo W):Ev->Mo (List W):=λρ n Q=>fa ρ n λx m=>onY x λkvs=>∃ns:List Int,kvs.map (·.1)=ns.map Sum.inl/\Q (ns.map λi=>W.d (.int i)) m
@[reducible] def dGetY (fd fk:Ev->Mo W):Ev->Mo W:=λρ n Q=>fd ρ n λx q=>fk ρ q λy B=>onY x λkvs=>onI y λi=>onO (zS kvs (Sum.inl i)) λd=>Q (.d d) B
@[reducible] def dListY:List W->Mo W:=λq n Q=>on1 q λx=>onY x λkvs=>∃ns:List Int,kvs.map (·.1)=ns.map Sum.inl/\Q (.d (.lst (ns.map .int))) n
@[reducible] def dRetT (f:Ev->Mo W) (i:Nat):Ms:=λρ n k=>f ρ n λw m=>onD w λd=>onV ρ i λx=>onL x λl=>k.rt (.d (.tup [d,.lst l])) m
end
end L3
namespace L2
open PySem PySem.Spec PyProof.Rows PySem.SeqAt
section
variable {prog:Program}{w:World}{t:SetTable}{es:Array (Int×Value)}{xs:List (List Key×Addr)}{A:Around}{E:Value->Shared->Prop}{s:Shared}
end
section
variable {X:Cx}
end
end L2
namespace L3
open PySem PySem.Spec L2
section
variable {X:Cx}{Pn:PN}{M S:List Nat}{fr fr':Bool}{pos p:Pos}{e o a b c:Expr}{es:List Expr}{f fo fa fc:Ev->Mo W}
@[reducible] def dAug (F:Int->Int->Int) (i:Nat) (f:Ev->Mo W):Ms:=λρ n k=>onV ρ i λx=>onI x λa=>f ρ n λy m=>onI y λb=>onP ρ i (.d (.int (F a b))) λq=>k.nx q m
@[reducible] def dAugT (F:Int->Int->Int) (i:Nat) (fk f:Ev->Mo W):Ms:=λρ n k=>onV ρ i λx=>onE x λkvs=>fk ρ n λy m=>∃st,y = .d (stD st)/\∃a,zS kvs st=some (.int a)/\f ρ m λw B=>onI w λb=>kvs.length<lim/\onP ρ i (.dt (zi3 kvs st (.int (F a b)))) λq=>k.nx q B
@[reducible] def dSetL (P:Program) (w:World):List W->Mo W:=λq n Q=>on1 q λx=>∃sts:List (List Int),x = .d (.lst (sts.map stD))/\(∀ks:List (List Int),ks.Nodup->(∀z∈ks,z∈sts)->ks.length<300)/\∀ks:List (List Int),ks.Nodup->(∀st,st∈ks↔st∈sts)->Q (.ss P w ks) n
@[reducible] def dInS (P:Program) (w:World):W->W->Mo W:=λx y n Q=>∃ (st:List Int) (ks:List (List Int)),x = .d (stD st)/\y = .ss P w ks/\∀c:Bool,(c=true↔st∈ks)->Q (.d (.bl c)) n
@[reducible] def dItEF (fa:Ev->Mo (List W)):Ev->Mo (List W):=λρ n Q=>fa ρ n λq m=>on1 q λx=>onZ x λkvs=>(kvs.map (·.1)).Nodup->Q (enW 0 ((kvs.map (·.1)).map stD)) m
@[reducible] def zrV (fo f:Ev->Mo W):Ev->Mo W:=λρ n Q=>fo ρ n λx q=>onL x λl=>f ρ q λy B=>onD y λd=>d.eqOk/\(Dt.lst l).eqOk/\d∈l/\∀j:Nat,l[j]?=some d->(∀i,i<j->l[i]?≠some d)->Q (.d (.int j)) B
@[reducible] def snN:List W->(List W->Prop)->Prop
 | [],P=>P [.d .non]
 | a::r,P=>snN r λq=>P (a::q)
@[reducible] def dFnD (k:Nat) (F:List W->Mo W) (fs:Ev->Mo (List W)):Ev->Mo W:=λρ n Q=>fs ρ n λq m=>snN q λus=>zbp k us (F us m Q)
end
end L3
namespace L2
open PySem PySem.Spec PyProof.Rows
section
variable {X:Cx}{pins:List (Addr×Obj)}{σ:St}{H G G':Hp}{s:Shared}{d l:Addr}{ob:Obj}{kvs:List (List Key×V)}
def Inv.frzL(I:Inv X pins σ H s)(h:H l=some (.lst xs)):∃ob,Inv X pins σ (upd H l (.frz ob (.lst xs))) s:=by obtain⟨z,its,n,r,e⟩:=(show zD X.prog X.w H s.heap l (.lst xs) from I.hok l _ h);exact⟨_,I.write (x:=l) (e:=l) (h':=s.heap) (t':=s.toks) (by rw[h];trivial) (.inl rfl) (λ_ _ _ e=>e) ⟨_,e⟩ ⟨e,z,its,n,r,e⟩⟩
variable {e:Expr}{te:TE}
def ztF (te:TE):TE:=λσ H Q=>te σ H λx H1=>∃l xs,x = .ref l/\H1 l=some (.lst xs)/\∀ob,Q x (upd H1 l (.frz ob (.lst xs)))
def zh9 (h:PE X e te):PE X e (ztF te):=λpins s σ H Q I q=>thn (h pins s σ H _ I q) λu F ⟨x,H1,I1,r,l,xs,ex,h1,B⟩=>by obtain⟨ob,I2⟩:=I1.frzL h1;exact⟨x,_,I2,r,B ob⟩
end
end L2
namespace L3
open PySem PySem.Spec L2
def zs3(h:∃h:Heap,h.get? d=some ob):¬ NP (kO d ob):=λn=>by have:=n [(Sum.inr "at",.non)] (by unfold kO pnK;dsimp only;rw[if_pos ⟨d,ob,h,rfl⟩]);cases this
section
variable {K:PySem.W.Frag}{P:Program}{w:World}{C:Addr}{H:Hp}{Q:VK}{E:XK}{D:Ends}
end
end L3
namespace L2
open PySem PySem.Spec PyProof.Rows PySem.SeqAt
section
variable {X:Cx}
end
end L2
namespace L3
open PySem PySem.Spec L2
def Pen.but{ns:List Int}(h:Pen H p c ns n)(q:∀kvs,H d≠some (.dK kvs))(B:∀ob xs,H d≠some (.frz ob (.lst xs)))(s:∀b o,H b=some o->b≠d->H' b=some o):Pen H' p c ns n:=by obtain⟨⟨a,l,h1,h2⟩,F,I⟩:=h;exact⟨⟨a,l,s _ _ h1 (λz=>q _ (z ▸ h1)),h2⟩,(let ⟨ob,e⟩:=F;⟨ob,s _ _ e (λz=>B _ _ (z ▸ e))⟩),I⟩
@[reducible] def W.isD:W->Bool
 | .d _=>true
 | _=>false
section
variable {X:Cx}{Pn:PN}{M:List Nat}{fr:Bool}{e:Expr}{f:Ev->Mo W}
@[reducible] def onFl (w:W) (P:List Dt->Prop):Prop:=match w with | .fl i=>P i | _=>False
@[reducible] def dInF (q:Bool):W->W->Mo W:=λx y n Q=>onD x λd=>onFl y λds=>d.eqOk/\(Dt.lst ds).eqOk/\∀b:Bool,(b=true↔d∈ds)->Q (.d (.bl (xr q b))) n
end
open PySem PySem.Spec L2
section
variable {X:Cx}{Pn:PN}{M:List Nat}{fr:Bool}{s:Stmt}{C fI fA:Addr}{dI dA:FuncData}
end
end L3
namespace L2
open PySem PySem.Spec PyProof.Rows PySem.SeqAt
def okT:Nat->Dt->Bool
 | _,.non=>true
 | _,.int _=>true
 | _,.bl _=>true
 | _,.str x=>PyData.strOk x
 | n+1,.tup l=>l.all (okT n)
 | n+1,.lst l=>l.all (okT n)
 | _,_=>false
abbrev Dt.py (d:Dt):PyData:=PySem.W.kqdP d.toW
section
variable {P:Program}{w:World}{H:Hp}{h:Heap}
end
section
variable {X:Cx}
end
end L2
namespace L3
open PySem PySem.Spec L2
section
variable {X:Cx}{Pn:PN}{M:List Nat}{e:Expr}{f:Ev->Mo W}{pos p:Pos}
@[reducible] def dNeT:W->W->Mo W:=λx y n Q=>onD x λd=>onD y λe=>d=e/\okT 8 d=true/\Q (.d (.bl false)) n
@[reducible] def dNiT:W->W->Mo W:=λx y n Q=>onD x λd=>onL y λds=>okT 8 d=true/\(Dt.lst ds).eqOk/\∀b:Bool,(d∈ds->b=true)->(b=true->∃e∈ds,PyData.eqv e.py d.py=true)->Q (.d (.bl (!b))) n
@[reducible] def zrq (f:Ev->Mo W):Ev->Mo W:=λρ n Q=>f ρ n λx q=>onL x λl=>∃sts:List (List Int),l=sts.map stD/\(∀ks:List (List Int),ks.Nodup->(∀z∈ks,z∈sts)->ks.length<300)/\∀ks:List (List Int),ks.Nodup->(∀st,st∈ks↔st∈sts)->Q (.d (.int (ks.length:Nat))) q
end
end L3
namespace L2
open PySem PySem.Spec PyProof.Rows
section
variable {X:Cx}
end
end L2
namespace L3
open PySem PySem.Spec L2
section
variable {Pn:PN}
@[reducible] def dMaxT:List W->Mo W:=λq n Q=>on1 q λx=>∃ns:List Int,x = .d (stD ns)/\ns≠[]/\∀m,m∈ns->(∀x∈ns,x<=m)->Q (.d (.int m)) n
end
end L3
namespace L2
open PySem PySem.Spec PyProof.Rows
end L2
namespace L3
open PySem PySem.Spec L2
section
variable {X:Cx}{Pn:PN}{M S:List Nat}{fr:Bool}{a:Expr}{pos p:Pos}
end
end L3
namespace L2
open PySem PySem.Spec PyProof.Rows PySem.W PySem.SeqAt
section
variable {X:Cx}
def zk2 {α q:Type}(f:α->q):∀ (l:List α) (j:Nat),(l.eraseIdx j).map f=(l.map f).eraseIdx j
 | [],_=>rfl
 | _::_,0=>rfl
 | a::l,j+1=>by rw[List.eraseIdx_cons_succ,ao,ao,List.eraseIdx_cons_succ,zk2 f l j]
end
end L2
namespace L3
open PySem PySem.Spec L2
section
variable {X:Cx}{Pn:PN}{M S:List Nat}{fr fr':Bool}{e:Expr}{f:Ev->Mo W}{pos:Pos}
@[reducible] def mRem (i:Nat) (fk:Ev->Mo W):Ms:=λρ n k=>onV ρ i λv=>onL v λl=>fk ρ n λy m=>onI y λj=>∃ns:List Int,l=ns.map Dt.int/\j∈ns/\onP ρ i (.d (lsD (ns.erase j))) λq=>k.nx q m
end
open PySem PySem.Spec L2
end L3
namespace L3
open PySem PySem.Spec L2
section
variable {X:Cx}{Pn:PN}{M S:List Nat}{fr fr':Bool}{e:Expr}{f:Ev->Mo W}{pos:Pos}
end
end L3
namespace L2
open PySem PySem.Spec PyProof.Rows PySem.W PySem.Calls
section
variable {X:Cx}{pos:Pos}
end
end L2
namespace L3
open PySem PySem.Spec L2
section
variable {X:Cx}{Pn:PN}{M S:List Nat}{fr fr':Bool}{pos p:Pos}{e a b c:Expr}{f fa fb fc:Ev->Mo W}
@[reducible] def dDisp1 (fk fv:Ev->Mo W):Ev->Mo W:=λρ n Q=>fk ρ n λy m=>fv ρ m λx q=>∃st,y = .d (stD st)/\onD x λd=>Q (.dt [(st,d)]) q
@[reducible] def dNinT (fk fd:Ev->Mo W):Ev->Mo W:=λρ n Q=>fk ρ n λy q=>fd ρ q λx B=>onE x λkvs=>∃st,y = .d (stD st)/\Q (.d (.bl (!(zS kvs st).isSome))) B
@[reducible] def dSortZ:List W->Mo W:=λF n Q=>on1 F λx=>onZ x λkvs=>∃m:Nat,kvs.length<64/\1<=m/\(∀q∈kvs,q.1.length=m)/\∀B:List (List Int),B.Perm (kvs.map (·.1))->(B.Pairwise λa b=>HT.lexLt a b=true)->Q (.d (xS B)) n
@[reducible] def dRetZ (i:Nat) (f:Ev->Mo W):Ms:=λρ n k=>onV ρ i λx=>onE x λkvs=>f ρ n λw m=>onD w λd=>k.rt (.tz kvs d) m
@[reducible] def dIxZ:W->W->Mo W:=λx y n Q=>match x with
 | .tz kvs d=>match y with
  | .d (.int i)=>match i with
   | .ofNat 0=>Q (.df kvs) n
   | .ofNat 1=>Q (.d d) n
   | _=>False
  | _=>False
 | _=>False
@[reducible] def dForP (i:Nat) (F:List W->Mo W) (f1 q:Ev->Mo W) (mg:W->Ev->(Ev->Prop)->Prop) (fs:Ms):Ms:=λρ n k=>f1 ρ n λB I=>onV ρ i λx=>onL x λl=>∃l' d,l=l'++[d]/\q (ρ.set i (some (.d (.lst l')))) I λJ L=>F [B,.d d,J] L λw m=>onL w λr=>zl2 mg fs (ρ.set i (some (.d (.lst l')))) k (r.map W.d) m
end
open PySem PySem.Spec L2
section
variable {X:Cx}{Pn:PN}{M:List Nat}{pos p1 p2 p3 p4:Pos}{a b c:Expr}{fa fb fc:Ev->Mo W}{apos cpos:Pos}
@[reducible] def dGetK (fd fk q:Ev->Mo W):Ev->Mo W:=λρ n Q=>fd ρ n λx B=>onK x λkvs=>fk ρ B λy F=>q ρ F λz I=>onO (zmu y) λk=>onD z λd=>Q (.d ((zS kvs k).getD d)) I
end
open PySem PySem.Spec L2
section
variable {X:Cx}{Pn:PN}{M S:List Nat}{fr:Bool}
end
end L3
namespace L2
open PySem PySem.Spec PyProof.Rows PySem.W PySem.Calls
section
variable {prog:Program}{w:World}{A:Around}{E:Value->Shared->Prop}{s:Shared}
end
section
variable {X:Cx}{pos:Pos}
end
end L2
namespace L3
open PySem PySem.Spec L2
section
variable {X:Cx}{Pn:PN}{M S:List Nat}{fr fr':Bool}{e:Expr}{f:Ev->Mo W}{pos:Pos}
@[reducible] def dSetZ (i j:Nat) (f:Ev->Mo W):Ms:=λρ n k=>f ρ n λw m=>match w with
 | .tz kvs d=>onP ρ i (.df kvs) λq=>onP q j (.d d) λB=>k.nx B m
 | _=>False
end
open PySem PySem.Spec L2
section
variable {Pn:PN}{K:PySem.W.Frag}
@[reducible] def zgS:W->W->Mo W:=λx y n Q=>onB x λb=>onL y λl=>∃bs:List Bool,l=bs.map .bl/\Q (.d (.bl (!bs.contains b))) n
def zkJ:F2 Pn false (rIn K true) zgS:=⟨λA H x y wx J n Q R L B q P h k=>by simp only[zgS,zfH,ut] at h;obtain⟨b,rfl,l,rfl,bs,rfl,h⟩:=h;obtain⟨a,xs,rfl,F,I⟩:=xu q;obtain rfl:=zey I;have e:x = .bl b:=B;subst e;exact⟨a,_,rfl,.inl (.inl F),rfl,zcz bs,k _ n _ H h (Val.of (by rw[zev];rfl)) (Go.refl P) λz=>by cases z⟩⟩
end
end L3
namespace L2
open PySem PySem.Spec PyProof.Rows PySem.W PySem.Calls
end L2
namespace L3
open PySem PySem.Spec L2
section
variable {X:Cx}{Pn:PN}{M S:List Nat}{es:List Expr}{pos:Pos}
@[reducible] def dNinS (P:Program) (w:World):W->W->Mo W:=λx y n Q=>∃ (st:List Int) (ks:List (List Int)),x = .d (stD st)/\y = .ss P w ks/\∀c:Bool,(c=true↔st∈ks)->Q (.d (.bl (!c))) n
@[reducible] def eTpL (n:Nat) (u:List Dt->Ev->(Ev->Prop)->Prop):W->Ev->(Ev->Prop)->Prop:=λw ρ Q=>onL w λds=>zbp n ds (u ds ρ Q)
end
open PySem PySem.Spec L2
section
variable {X:Cx}{Pn:PN}{M M' S:List Nat}{fr:Bool}
@[reducible] def mRel (j:Nat) (fs:Ms):Ms:=λρ n k=>onV ρ j λ_=>fs ρ n { rt:=k.rt,nx:=λ_ _=>False }
end
open PySem L2
@[reducible] def mNo:Ms:=λ_ _ _=>False
def zsv:JS X Pn S M fr st mNo:=⟨λ_ _ _=>False,⟨λ_ _ _ _ _ _ h=>h.elim⟩,⟨λ_ _ _ _ _ _ _ _ _ _ h=>h⟩⟩
end L3
namespace L2
open PySem PySem.Spec PyProof.Rows PySem.W PySem.Calls
section
variable {prog:Program}{w:World}{A:Around}{E:Value->Shared->Prop}{s:Shared}
def zek(ho:s.heap.get? l=some o)(hc:o.cls = .type "tuple")(hd:o.data = .seq vs.toArray n)(hsz:vs.length<=sizeLine)(h:∀h':Heap,(∀b o,s.heap.get? b=some o->h'.get? b=some o)->Q vs { s with heap:=h' }):wpAny (model prog w) A (collect (.ref l)) Q E s:=by
 unfold collect;refine aa (wpAny_runValue (cB entry_proto_collect' ?_));show wpAny _ _ (do again (.builtin "list.__iadd__" ⟨[<- newList [],.ref l],[]⟩)) _ _ s;refine aa (wpAny_newList (ai ⟨Code.quiet_builtin _ (by decide +kernel),cB entry_list_iadd' ?_⟩));show wpAny _ _ (Builtin.List.listExtendWith (.ref s.heap.objs.size) (.ref l) (.ref s.heap.objs.size)) _ _ { s with heap:=s.heap.push (seqObj "list" #[] 0) };unfold Builtin.List.listExtendWith;have ho':(s.heap.push (seqObj "list" #[] 0)).get? l=some o:=ae _ ho;refine aa (cq (T := "tuple") ⟨o,ho',hc⟩ ?_);have ht:(Value.type "tuple" == Value.type "tuple")=true:=by rfl
 rw[if_pos (by rw[ht];simp)];refine aa (listItems_at ho' hd ?_);refine aa (listItems_at (xs:=#[]) (n:=0) (am _ rfl) rfl ?_);rw[if_neg (by simp)];refine aa (listUpdate_at (xs:=#[]) (n:=0) (am _ rfl) rfl ?_ (a6 _) (by show (#[]++vs.toArray).size<=sizeLine+1;simp only[Array.size_append,aR,List.length_nil];omega));refine ai ?_
 show wpAny (model prog w) A (do
   let o <- load s.heap.objs.size
   match o.data with
   | .seq xs _=>pure xs.toList
   | _=>unsupported "internal:collect") Q E { s with heap:=(s.heap.push (seqObj "list" #[] 0)).update s.heap.objs.size (Obj.mapSeq (·++vs.toArray)) }
 refine aa (wpAny_load (get?_update_seq (am _ rfl) _) ?_);show wpAny _ _ (pure ((#[]:Array Value)++vs.toArray).toList) Q E _;rw[show ((#[]:Array Value)++vs.toArray).toList=vs by simp];exact ai (h _ λb o e=>((cF _ s.heap.objs.size _).2 b (aD (ak e))).trans (ae _ e))
end
section
variable {X:Cx}
end
end L2
namespace L3
open PySem PySem.Spec L2
section
variable {X:Cx}{Pn:PN}
@[reducible] def dSortP:List W->Mo W:=λB n Q=>on1 B λx=>onT x λl=>∃ (sts:List (List Int)) (m:Nat),l=sts.map stD/\sts.length<64/\1<=m/\(∀st∈sts,st.length=m)/\sts.Nodup/\∀q:List (List Int),q.Perm sts->(q.Pairwise λa b=>HT.lexLt a b=true)->Q (.d (xS q)) n
end
end L3
namespace L2
open PySem PySem.Spec PyProof.Rows
structure Fly (P:Program)(w:World)(C:Addr)(outer:List Env)(H:Hp)(s:Shared)(e:Addr)(H':Hp)(s':Shared):Prop where
 os:s'.os=s.os
 bare:AllBare s'.gens
 un:Un (frs outer) [] H H' s.heap s'.heap
 hok:HOk P w H' s'.heap
 fly:∃B a0,Heap.FlyingW B outer e (.ref C) a0 s'.heap/\(∀b o,s.heap.get? b=some o->b∉frs outer->∃o',B.get? b=some o')/\∀b u,H' b=some u->∃o',B.get? b=some o'
def CX1 (P:Program)(w:World)(C:Addr):CXT:=λouter H s E e s'=>∃q H',e = .ref q/\Fly P w C outer H s q H' s'/\E (.ref q) none H'
structure FrX (C:Addr)(E:XK)(X:Cx):Prop where
 stk:X.stack=X.env::X.outer
 frm:X.env.frame=some X.env.locals
 ex:X.ex=[]
 xe:X.xe=λe s'=>wpAny (model X.prog X.w) X.A (leaving X.env e) (λ_ s''=>CX1 X.prog X.w C X.outer X.H₀ X.s₀ E e s'') (λe' s''=>CX1 X.prog X.w C X.outer X.H₀ X.s₀ E e' s'') s'
section
variable {X:Cx}{pins:List (Addr×Obj)}{σ:St}{H:Hp}{s:Shared}{C:Addr}{E:XK}
def zD.there(x:zD P w H h a o):∃u,h.get? a=some u:=by
 cases o with
 | lst xs=>obtain⟨_,_,_,_,e⟩:=x;exact⟨_,e⟩
 | tup xs=>obtain⟨_,_,_,_,e,_⟩:=x;exact⟨_,e⟩
 | dK kvs=>obtain⟨_,_,_,_,o,_,_,e,_⟩:=x;exact⟨_,e⟩
 | dT kvs=>obtain⟨_,_,_,_,o,_,_,e,_⟩:=x;exact⟨_,e⟩
 | set S n=>obtain⟨o,_,_,_,e,_⟩:=x;exact⟨_,e⟩
 | ins C dx fs=>obtain⟨_,_,_,e,_⟩:=x;exact⟨_,e⟩
 | own y=>exact x
 | xd fs=>obtain⟨_,⟨_,_,_,e,_⟩,_⟩:=x;exact⟨_,e⟩
 | rng lo hi=>obtain⟨_,_,_,e⟩:=x;exact⟨_,e⟩
 | frz ob u=>exact⟨_,x.1⟩
 | tbl ps=>exact⟨_,show h.get? a=some _ from x⟩
 | met f y=>exact⟨_,show h.get? a=some _ from x⟩
 | ext q=>exact x.2.1
def za4 {B L:Heap}(I:Inv X pins σ H s)(Y:X.ex=[])(O:∀b o,X.s₀.heap.get? b=some o->b∉X.fs->∃o',B.get? b=some o')(U:∀b u,H b=some u->∃o',B.get? b=some o')
  (b1:B.StaysIn s.heap) (b2:B.StaysIn L) (sm:s.heap.UpToSlots L):Un X.fs [] X.H₀ H X.s₀.heap L/\HOk X.prog X.w H L:=by
 have nx:∀b:Addr,b∉X.ex:=λb z=>by rw[Y] at z;cases z
 have F:∀ {b o o'},B.get? b=some o'->s.heap.get? b=some o->L.get? b=some o:=λ{b o o'} e1 e2=>by have:=b1 b o' e1;rw[e2] at this;cases this;exact b2 b o e1
 have fr:∀ {b o},s.heap.get? b=some o->b∈X.fs->∃Z,L.get? b=some { o with slots:=Z }:=λ{b o} e J=>by obtain⟨_,u,hu,hd⟩:=I.funs.mem J;rw[e] at hu;cases hu;exact sm b o e hd
 refine⟨⟨λb o e n J _=>?_,λb o e n J _=>?_,λb o e n _=>I.base.free b o e n (nx b),λb o e _=>?_,I.base.tups,I.base.frzs,I.base.tbls⟩,λa o e=>?_⟩
 ·obtain⟨o',h1⟩:=O b o e J;exact F h1 (I.base.keep b o e n J (nx b))
 ·obtain⟨Z,h1⟩:=I.base.slot b o e n J (nx b);obtain⟨ab,h2⟩:=fr h1 J;exact⟨ab,h2⟩
 ·obtain⟨o',h1⟩:=I.base.there b o e (nx b);by_cases J:b∈X.fs
  ·obtain⟨Z,h2⟩:=fr h1 J;exact⟨_,h2⟩
  ·obtain⟨o2,h2⟩:=O b o e J;exact⟨_,F h2 h1⟩
 ·refine (I.hok a o e).stay (λb u J q=>?_) (λ_ q=>q) λ_ _ q=>q;rcases J with rfl | J
  ·obtain⟨o2,h2⟩:=U b o e;exact F h2 q
  ·obtain⟨o2,h2⟩:=U b _ J;exact F h2 q
def FrX.nolc(F:FrX C E X)(I:Inv X pins σ H s)(e:X.s₀.heap.get? b=some o)(B:b∉X.fs):b∉frs X.stack:=λz=>by
 rw[F.stk] at z;unfold frs at z;rw[bA,F.frm] at z;rcases ax.mp z with q | q
 ·have:=ak e;rw[q] at this;exact absurd (aI this I.ok.above) (bW _)
 ·exact B q
def FrX.pass (F:FrX C E X):zfa (CX1 X.prog X.w C) X E:=by
 rintro pins σ H s e s' I ⟨U,H',rfl,fl,Y⟩;rw[F.xe];have I':Inv X pins σ H' s':=I.call' (ch:=[]) fl.os fl.un fl.hok fl.bare λb z=>by cases z
 obtain⟨B,Z,L,c1,O⟩:=fl.fly;refine wpAny_leaves_onW (base:=B) (by rw[I.ok.frames,F.stk]) F.frm (by rw[<- F.stk];exact L) λab J sm=>?_
 have q:∀b o,X.s₀.heap.get? b=some o->b∉X.fs->∃o',B.get? b=some o':=λb o e hb=>by obtain⟨o',h1⟩:=I.base.there b o e (by rw[F.ex];exact λz=>by cases z);exact c1 b o' h1 (F.nolc I e hb)
 obtain⟨u,k⟩:=za4 I' F.ex q O L.1 J.1 sm;exact⟨U,H',rfl,⟨I'.os,I'.bare,u,k,B,Z,J,q,O⟩,Y⟩
def FrX.raised(F:FrX C E X)(I:Inv X pins σ H s)(L:Heap.MadeExcOf s.heap h' e (.ref C) vs)(Y:E (.ref e) none H):X.xe (.ref e) { s with heap:=h' }:=by
 rw[F.xe];have I':Inv X pins σ H { s with heap:=h' }:=I.kept (t':=s.toks) L.keeps;have st:=I.stack;rw[F.stk] at st
 have O:∀env∈X.env::X.outer,∀a,env.frame=some a->a∈frs X.stack:=λenv Z a ha=>by rw[F.stk];exact cL.mpr ⟨env,Z,ha⟩
 refine wpAny_leaves_madeW (base:=PySem.W.hideAll s.heap (frs X.stack)) (h:=s.heap) (by rw[I.ok.frames,F.stk]) F.frm (λb o q=>eP _ q) (PySem.W.funFrames_hide st O) L λab t U _ _ sm=>?_
 have B:∀b o,X.s₀.heap.get? b=some o->b∉X.fs->∃o',(PySem.W.hideAll s.heap (frs X.stack)).get? b=some o':=λb o q hb=>by obtain⟨o',h1⟩:=I.base.there b o q (by rw[F.ex];exact λz=>by cases z);exact⟨o',eC _ h1 (F.nolc I q hb)⟩
 have J:∀b u,H b=some u->∃o',(PySem.W.hideAll s.heap (frs X.stack)).get? b=some o':=λb u q=>by obtain⟨o',h1⟩:=(I.hok b u q).there;exact⟨o',eC _ h1 λz=>by rw[I.stkFree b z] at q;cases q⟩
 obtain⟨u,k⟩:=za4 I' F.ex B J (λb o q=>L.keeps b o (eP _ q)) U.1 sm;exact⟨e,H,rfl,⟨I'.os,I'.bare,u,k,_,_,U,B,J⟩,Y⟩
end
def zhf {P:Program}{w:World}{K:PySem.W.Frag}{mg:Str->Option Value}{base:Heap}{N:List Str}{qual:Str}{scope:Scope}{f:Addr}{q:Value}{A:Around}{outer:List Env}{s:Shared}{H:Hp}{E:XK}{C:Addr} :
  FrX C E (zaN (CX1 P w C) P w K mg base N qual scope f q A outer s H E):=⟨rfl,rfl,rfl,rfl⟩
abbrev VE:List Value:=[.type "ValueError",.type "Exception",.type "BaseException",.type "object"]
structure ExcC (K:PySem.W.Frag)(mg:Str->Option Value)(x:Str)(C:Addr):Prop where
 bound:mg x=some (.ref C)
 exc:PySem.W.excIn K C VE "ValueError.__new__" = true
def ExcC.own{K:PySem.W.Frag}{mg:Str->Option Value}{x:Str}{C:Addr}(c:ExcC K mg x C)(X:K.In h):OwnCls x C VE "ValueError.__new__" mg h:=by
 have q:=c.exc;refine⟨c.bound,?_⟩;unfold PySem.W.excIn at q;split at q
 case h_2=>cases q
 case h_1 dd cd sl ho=>
  split at q
  case h_2=>cases q
  case h_1 C' bm k0 k1 k2 k3 n k5 hm hs=>
   simp only[aH,beq_iff_eq,Bool.not_eq_true'] at q;obtain⟨⟨⟨⟨⟨J,L⟩,F⟩,O⟩,B⟩,I⟩:=q;subst J L
   cases cd with
   | mk nm bs U ns Y Z sn sub ab col ad=>
    dsimp only at hm F B I;subst hm F
    cases sl with
    | mk l=>
     dsimp only at hs;subst hs;exact⟨bm,ns,nm,Y,bs,Z,sn,sub,ab,col,dd,k0,k1,k2,k3,k5,_,X _ _ ho,.of_isNs (PySem.W.isNs_of_in X B),PySem.W.nsMap_none_of_in X B I,PySem.W.tail_of_in X O⟩
section
variable {X:Cx}{C:Addr}{E:XK}{x m:Str}{np cpos pos p1:Pos}
def zkk {j}(F:FrX C E X)(U:X.A.handled=none)(c:ExcC X.K X.mg x C)(Y:Gl X x)(L:(x==("__debug__" : Str))=false:=by decide) :
  PS X (.Raise (some (.Call (.Name x np) [.Constant (.str m) j p1] [] cpos)) none pos) (λ_ _ H=>∀e,E (.ref e) none H):=by
 intro pins s σ H D I h;obtain⟨tl,N,nm,q,bs,hdct,sn,sub,ab,col,dd,k0,k1,k2,k3,k5,mN,Z,hN,O,T⟩:=(c.own I.ok.mod.kin).obj;have kp:∀ {B:Shared},Inv X pins σ H B->B.heap.get? C=some _/\B.heap.Ns N mN/\OwnTail B.heap VE tl:=λJ=>⟨J.bk _ _ Z,hN.keeps J.bk,T.keeps J.bk⟩
 refine wpAny_Raise_call_subT (C:=C) (nm:=nm) (q:=q) (N:=N) (bs:=bs) (bm:=tl) (hdct:=hdct) (sn:=sn) (sub:=sub) (ab:=ab) (col:=col) (dd:=dd) (k0:=k0) (k1:=k1) (k2:=k2) (k3:=k3) (k5:=k5)
  PySem.F.excBase_ValueError (mN:=mN) (T.hasType PySem.F.excBase_ValueError.hasBase) U rfl O (zcG I Y c.bound ⟨rfl,?_⟩ L)
 show wpAny _ _ (evalArgs (.ref C) true (backTo cpos [(false,eval (.Constant (.str m) j p1) X.env)]) []) _ _ _;refine @Calls.evalArgs_plain _ _ _ _ _ _ [] _ (eQ (Calls.Constant_str (k:=j) (pos:=p1) (dQ ?_)));have J:Inv X pins σ H { s with toks:=s.toks+1 }:=I.tok _;exact⟨rfl,by show 1<=sizeLine;decide,(kp J).1,(kp J).2.1,(kp J).2.2,λh' e hx=>F.raised J hx (h e)⟩
end
structure ExcI (K:PySem.W.Frag)(C:Addr):Prop where
 exc:PySem.W.excIn K C VE "ValueError.__new__" = true
 ga:PySem.W.findIn K (.ref C) "__getattribute__" = some (some (.builtin "BaseException.__getattribute__"))
 gt:PySem.W.findIn K (.ref C) "__getattr__" = some none
 cl:PySem.W.findIn K (.ref C) "__class__" = some (some (.builtin "object.__class__"))
section
variable {prog:Program}{w:World}{A:Around}{E:Value->Shared->Prop}{K:PySem.W.Frag}{C a:Addr}{o:Obj}{hp:Heap}{gs:Array GenState}{dr:Drawn}{tk:Nat}{oS:OsState}
def zlQ(c:ExcI K C)(X:K.In hp)(I:hp.get? a=some o)(J:o.cls = .ref C)(Y:R (.ok (.ret (.ref C))) ⟨hp,gs,dr,tk,oS⟩) :
  codeAny (model prog w) A (.call (.builtin "getset_descriptor.__get__") ⟨[.builtin "object.__class__",.ref a,.ref C],[]⟩) R ⟨hp,gs,dr,tk,oS⟩:=by
 obtain⟨tl,N,nm,q,bs,hdct,sn,sub,ab,col,dd,k0,k1,k2,k3,k5,mN,L,Z,O,T⟩:=(ExcC.own (mg:=λ_=>some (.ref C)) (x := "x") ⟨rfl,c.exc⟩ X).obj;have U:(⟨hp,gs,dr,tk,oS⟩:Shared).TypeIs (.builtin "object.__class__") "getset_descriptor" := cR
 have B:(Value.ref C::tl).contains (.type (".".intercalate ("object.__class__".cutAt '.').dropLast))=true:=by rw[show (".".intercalate ("object.__class__".cutAt '.').dropLast) = "object" by decide +kernel,dG,T.hasType (b:=true) (by decide +kernel)];rfl
 refine codeAny_call_builtin PySem.F.slot_gs_get.plain PySem.F.entry_gs_get (PySem.F.slot_gs_get.check _ _ _ _ _ _ _ _ U (PySem.F.args_gs_get _ _ _) ?_)
 repeat (any_goals (first | assumption | (with_reducible refine cb I ?_;rw[J]) | (with_reducible refine eM L ?_;rw[B]) | wp_step))
 refine⟨Code.quiet_builtin _ (by decide +kernel),cB PySem.F.entry_object_class ?_⟩
 repeat (any_goals (first | assumption | (with_reducible refine cb I ?_;rw[J]) | wp_step))
def zg8(c:ExcI K C)(X:K.In hp)(q:hp.get? a=some o)(B:o.cls = .ref C)(I:Q (.done (.ret (.ref C))) ⟨hp,gs,dr,tk,oS⟩) :
  wpAny (model prog w) A (Builtin.«object.__getattribute__» ⟨[.ref a,.str "__class__" u],[]⟩) Q E ⟨hp,gs,dr,tk,oS⟩:=by
 have J:(⟨hp,gs,dr,tk,oS⟩:Shared).TypeIs (.builtin "object.__class__") "getset_descriptor" := cR;have O:=cR;have U:=PySem.F.slot_gs_get.lookup;have Y:=PySem.F.slot_gs_set.lookup;have L:=et (M:=model prog w) X c.cl
 repeat (any_goals (first | assumption | (with_reducible refine cb q ?_;rw[B]) | (with_reducible refine en L ?_) | wp_step))
 refine zlQ c X q B ?_
 repeat (any_goals (first | assumption | wp_step))
def zg7(c:ExcI K C)(X:K.In hp)(B:hp.get? a=some o)(I:o.cls = .ref C)(J:Q () ⟨hp,gs,dr,tk,oS⟩) :
  wpAny M A (checkBuiltinCall "BaseException.__getattribute__" ⟨[.ref a,v],[]⟩) Q E ⟨hp,gs,dr,tk,oS⟩:=by
 obtain⟨tl,N,nm,q,bs,hdct,sn,sub,ab,col,dd,k0,k1,k2,k3,k5,mN,L,hN,O,T⟩:=(ExcC.own (mg:=λ_=>some (.ref C)) (x := "x") ⟨rfl,c.exc⟩ X).obj;have U:builtinKind "BaseException.__getattribute__" = some .slot:=by decide +kernel
 have Y:splitId "BaseException.__getattribute__" = some ("BaseException","__getattribute__"):=by decide +kernel
 have Z:(Value.ref C::tl).contains (.type "BaseException")=true:=by rw[dG,T.hasType (b:=true) (by decide +kernel)];rfl
 have e4:=PySem.F.args_bexc_ga (.ref a) v;simp only[checkBuiltinCall,U,Y];refine aa ?_;unfold isInstance
 repeat (first | (with_reducible refine cb B ?_;rw[I]) | (with_reducible refine eM L ?_;rw[Z]) | wp_step)
 exact J
def zjl(c:ExcI K C)(X:K.In hp)(q:hp.get? a=some o)(B:o.cls = .ref C)(I:R (.ok (.ret (.ref C))) ⟨hp,gs,dr,tk,oS⟩) :
  codeAny (model prog w) A (.call (.builtin "BaseException.__getattribute__") ⟨[.ref a,.str "__class__" u],[]⟩) R ⟨hp,gs,dr,tk,oS⟩:=
 codeAny_call_builtin PySem.F.attrBase_ValueError.ga.plain PySem.F.entry_bexc_ga (zg7 c X q B (zg8 c X q B I))
def zoO(c:ExcI K C)(X:K.In hp)(q:hp.get? a=some o)(B:o.cls = .ref C)(I:Q (.ref C) ⟨hp,gs,dr,tk,oS⟩):wpAny (model prog w) A (getAttrBy (.ref a) (.str "__class__" u) false) Q E ⟨hp,gs,dr,tk,oS⟩:=by
 have J:=PySem.F.attrBase_ValueError.ga.bind (.ref a);have g2:(Value.builtin "BaseException.__getattribute__" == Value.builtin "object.__getattribute__")=false:=by decide +kernel
 have L:(onTheHeap (Value.ref C)&&Value.builtin "BaseException.__getattribute__" == Value.builtin "object.__getattribute__")=false:=by rw[g2];rfl
 have L1:=et (M:=model prog w) X c.ga;have L2:=et (M:=model prog w) X c.gt
 repeat (any_goals (first | assumption | (with_reducible refine cb q ?_;rw[B]) | (with_reducible refine en L1 ?_) | (with_reducible refine en L2 ?_) | wp_step))
 refine zjl c X q B ?_
 repeat (any_goals (first | assumption | wp_step))
def zjk(c:ExcI K C)(X:K.In s.heap)(q:s.heap.get? a=some o)(B:o.cls = .ref C)(F:Q (some (.ref C)) { s with toks:=s.toks+1 }):wpAny (model prog w) A (getAttr? (.ref a) "__class__") Q E s:=by
 obtain⟨hp,gs,dr,tk,oS⟩:=s;unfold getAttr? getAttrBy?
 repeat (any_goals (first | assumption | with_reducible apply zoO c X q B | wp_step))
def EAt (a C:Addr)(h:Heap):Prop:=∃o,h.get? a=some o/\o.cls = .ref C
def zg9 (c:ExcI K C):PySem.W.KitX K (.ref a) (.ref C) (EAt a C) where
 ty:=λM h X ⟨o,h1,h2⟩=>λA Q E s k q=>by unfold typeOf;exact aa (wpAny_loadPart (k _ _ h1) (by rw[h2];exact ai q))
 it:=λM h X _=>λA Q E s k q=>by obtain⟨tl,N,nm,I,bs,hdct,sn,sub,ab,col,dd,k0,k1,k2,k3,k5,mN,B,_⟩:=(ExcC.own (mg:=λ_=>some (.ref C)) (x := "x") ⟨rfl,c.exc⟩ X).obj;unfold isType loadHead;exact aa (wpAny_loadPart (k _ _ B) (ai q))
 ne:=λh L dd its n O X F=>by obtain⟨tl,N,nm,I,bs,hdct,sn,sub,ab,col,dd,k0,k1,k2,k3,k5,mN,B,_⟩:=(ExcC.own (mg:=λ_=>some (.ref C)) (x := "x") ⟨rfl,c.exc⟩ X).obj;refine Bool.eq_false_iff.mpr λq=>?_;rw[Value.ref.inj (beq_iff_eq.mp q),F] at B;exact absurd (congrArg Obj.cls (bh B)) (by unfold excClassObj;intro z;injection z with z;revert z;decide)
 ca:=λX ⟨o,h1,h2⟩ J=>zjk c X h1 h2 J
end
section
variable {X:Cx}{pins:List (Addr×Obj)}{σ:St}{H:Hp}{s:Shared}
def Inv.other(I:Inv X pins σ H s)(hn:n∉X.N):∃m,s.heap.Ns X.env.locals m/\∀ (h':Heap) (v:Option Value) (t':Nat),h'.Ns X.env.locals (λx=>if x=n then v else m x)->Heap.SameBut X.env.locals s.heap h'->Inv X pins σ H { s with heap:=h',toks:=t' }:=by
 obtain⟨m,hN,hl⟩:=I.loc;have L:=I.cne;refine⟨m,hN,λh' v t' Y B=>?_⟩;have F:∀ {b o},X.s₀.heap.get? b=some o->b≠X.env.locals:=λe=>aD (aI (ak e) I.ok.above);refine⟨I.ok,I.os,I.bare,⟨λb o e n Z O=>(B.2 b (F e)).trans (I.base.keep b o e n Z O),λb o e n Z O=>?_,I.base.free,λb o e O=>?_,I.base.tups,I.base.frzs,I.base.tbls⟩,⟨_,Y,λj y v' J e2 e3=>?_⟩,λy c e=>?_,I.free,I.freeC,λp hp=>?_,λb ob e=>?_,I.len⟩
 ·obtain⟨sl,J⟩:=I.base.slot b o e n Z O;exact⟨sl,(B.2 b (F e)).trans J⟩
 ·obtain⟨o',J⟩:=I.base.there b o e O;exact⟨o',(B.2 b (F e)).trans J⟩
 ·obtain⟨u',r',q⟩:=hl j y v' J e2 e3;refine⟨u',r',?_⟩;rcases q with ⟨k,e⟩ | ⟨k,c,e,z⟩
  ·refine .inl ⟨k,?_⟩;have:y≠n:=λz=>hn (z ▸ aC J);simp[this,e]
  ·exact .inr ⟨k,c,e,z.sameBut B (L y c e)⟩
 ·obtain⟨w',z⟩:=I.cell y c e;exact⟨w',z.sameBut B (L y c e)⟩
 ·obtain⟨e,n,ne,nf,d⟩:=I.pin p hp;exact⟨(B.2 p.1 ne).trans e,n,ne,nf,d⟩
 ·refine (I.hok b ob e).stay (λc w' U q=>(B.2 c ?_).trans q) (λ_ q=>q) λ_ _ q=>q;rintro rfl;have:=I.free;rcases U with rfl | U
  ·rw[this] at e;cases e
  ·rw[this] at U;cases U
def Inv.track(I:Inv X pins σ H s)(O:H e=none)(U:X.s₀.heap.get? e=none)(Y:e≠X.env.locals)(Z:∀x c,X.env.cells.lookup x=some c->c≠e)(hp:∀p∈X.pn++pins,p.1≠e)(J:zD X.prog X.w (upd H e o) s.heap e o) :
  Inv X pins σ (upd H e o) s:=by
 have B:∀ {b u},H b=some u->b≠e:=λq z=>by rw[z,O] at q;cases q
 refine⟨I.ok,I.os,I.bare,⟨I.base.keep,I.base.slot,λb u q n hx=>?_,I.base.there,λb xs q=>?_,λb u v q=>?_,λb ps q=>?_⟩,I.loc,I.cell,by rw[zb Y.symm];exact I.free,λx c q=>by rw[zb (Z x c q)];exact I.freeC x c q,λp q=>?_,λb u q=>?_,I.len⟩
 ·rw[zb λz=>by rw[z,U] at q;cases q];exact I.base.free b u q n hx
 ·have:=I.base.tups b xs q;rw[zb (B this)];exact this
 ·have:=I.base.frzs b u v q;rw[zb (B this)];exact this
 ·obtain⟨F,z⟩:=I.base.tbls b ps q;exact⟨F,by rw[zb (B z)];exact z⟩
 ·obtain⟨e1,n,nl,nf,d⟩:=I.pin p q;exact⟨e1,by rw[zb (hp p q)];exact n,nl,nf,d⟩
 ·by_cases L:b=e
  ·subst L;rw[zg] at q;cases q;exact J
  ·rw[zb L] at q;exact (I.hok b u q).stay (λc v _ z=>z) (λc z=>by rw[zb (B z)];exact z) λc xs z=>by rw[zb (B z)];exact z
end
def zfp (e C:Addr):HO:=.ext (EAt e C)
def EAt.ok {P:Program}{w:World}{H:Hp}{h:Heap}{e C:Addr}(x:EAt e C h):zD P w H h e (zfp e C):=
 ⟨x,let ⟨o,h1,_⟩:=x;⟨o,h1⟩,λ_ _ ⟨o,h1,h2⟩ k=>⟨o,k o h1,h2⟩⟩
def zoc (P:Program)(w:World)(K:PySem.W.Frag)(mg:Str->Option Value)(base:Heap)(C:Addr)(k:Nat)(l:Addr)(fr0:List Addr)(q:Shared)(H:Hp)(QH:Hp->Prop):Prop:=
 ∀ (A:Around) (outer:List Env) (s:Shared),Room k A->Env0 P w K mg base A outer s H->(∀b∈frs outer,b∈fr0\/q.heap.objs.size<=b)->(∀b o,q.heap.get? b=some o->H b=none->b∉frs outer->s.heap.get? b=some o)->
  codeAny (model P w) A (.call (.ref l) ⟨[],[]⟩) (λr s'=>∃e H',r = .error (.ref e)/\Fly P w C outer H s e H' s'/\QH H') s
section
variable {X:Cx}{pins:List (Addr×Obj)}{σ:St}{H H':Hp}{s s':Shared}{C e:Addr}
def Fly.here (ab:X.stack=X.env::X.outer)(ad:X.env.frame=some X.env.locals)(J:X.ex=[])(I:Inv X pins σ H s)(f:Fly X.prog X.w C X.stack H s e H' s') :
  Inv X pins σ H' s'/\H' e=none/\X.s₀.heap.get? e=none/\(∀p∈X.pn++pins,p.1≠e)/\(∀b∈frs X.stack,b≠e)/\∀x c,X.env.cells.lookup x=some c->c≠e:=by
 have I':Inv X pins σ H' s':=I.call' (ch:=[]) f.os f.un f.hok f.bare λb z=>by cases z
 obtain⟨B,a0,fw,Y,c2⟩:=f.fly;obtain⟨_,L,_,oe,vs,_,_,_,Z,_,hd,_⟩:=id fw;have F:∀ {o},B.get? e≠some o:=λz=>by rw[L] at z;cases z
 have O:e∉frs X.stack:=λz=>by obtain⟨_,o,ho,U⟩:=I'.stack.mem z;rw[Z] at ho;cases ho;exact U _ hd
 refine⟨I',?_,?_,λp hp z=>?_,λb hb z=>O (z ▸ hb),λx c hc z=>?_⟩
 ·cases q:H' e with
  | none=>rfl
  | some u=>obtain⟨o',h⟩:=c2 e u q;exact absurd h F
 ·cases q:X.s₀.heap.get? e with
  | none=>rfl
  | some u=>
   obtain⟨o',h1⟩:=I.base.there e u q (by rw[J];exact λz=>by cases z);obtain⟨o2,h2⟩:=Y e o' h1 O;exact absurd h2 F
 ·obtain⟨h1,_⟩:=I.pin p hp;rw[z] at h1;obtain⟨o2,h2⟩:=Y e _ h1 O;exact absurd h2 F
 ·obtain⟨v,o,h1,h2⟩:=I'.cell x c hc;rw[z,Z] at h1;cases h1;rw[hd] at h2;cases h2
end
section
variable {M:Model}{A:Around}{E:Value->Shared->Prop}{K:PySem.W.Frag}{C D e:Addr}{oe:Obj}{hp:Heap}{gs:Array GenState}{dr:Drawn}{tk:Nat}{oS:OsState}
def zha(c:ExcI K C)(d:ExcI K D)(X:K.In hp)(sub:PySem.W.subIn K (.ref C) (.ref D)=some true)(F:hp.get? e=some oe)(I:oe.cls = .ref C)(J:Q true ⟨hp,gs,dr,tk,oS⟩) :
  wpAny M A (excMatches (.ref e) (.ref D)) Q E ⟨hp,gs,dr,tk,oS⟩:=by
 obtain⟨tl,N,nm,q,bs,hdct,sn,Y,ab,col,dd,k0,k1,k2,k3,k5,mN,B,Z,O,T⟩:=(ExcC.own (mg:=λ_=>some (.ref D)) (x := "x") ⟨rfl,d.exc⟩ X).obj;have U:(Value.ref D::tl).contains (.type "BaseException")=true:=by rw[dG,T.hasType (b:=true) (by decide +kernel)];rfl
 have L:=PySem.W.looks_subIn (M:=M) X sub;have f:=tc_notTuple;unfold excMatches
 repeat (first | (with_reducible refine cb F ?_;rw[I]) | with_reducible refine cb B ?_ | (with_reducible refine eM B ?_;rw[U]) | with_reducible refine en L ?_ | wp_step)
 exact J
end
section
variable {X:Cx}{C W l:Addr}{a c n wx:Str}{ia ic k:Nat}{ap cp ep wp p1 p2 p3 hp pos:Pos}{QH:Hp->Prop}
def zqe(F:X.stack=X.env::X.outer)(L:X.env.frame=some X.env.locals)(U:X.ex=[])(hr:Room k X.A)(bt:X.N[ia]?=some a)(bx:Vis X.env.scope a)(b0:X.N[ic]?=some c)(b1:Loc X.env.scope c)(nd:X.N.Nodup)(b3:X.fn c=true\/X.env.scope.names.lookup c=some .local)(hn:n∉X.N)(al:X.env.kindOf n=some .local)(ci:ExcI X.K C)(wi:ExcI X.K W)(hW:X.mg wx=some (.ref W))(hg:Gl X wx)(sub:PySem.W.subIn X.K (.ref C) (.ref W)=some true)(hl:X.s₀.heap.get? l=some ol)(b4:X.H₀ l=none)(b5:l∉frs X.stack)(b6:ol.data = .func fl)(a1:∀b∈frs X.stack,b∈fr0\/X.s₀.heap.objs.size<=b)(hA:zoc X.prog X.w X.K X.mg X.base C k l fr0 X.s₀ X.H₀ QH)(b7:(a==("__debug__" : Str))=false:=by decide)(b8:(a==("__classdict__" : Str))=false:=by decide)(ca:(wx==("__debug__" : Str))=false:=by decide)(cd:(n==("__debug__" : Str))=false:=by decide)(ch:swapsWith (.Name n p2) (some (.Name c p1)) p3.line X.env=pure false:=by rfl) :
  PS X (.Try [.Expr (.Call (.Name a ap) [] [] cp) ep] [.ExceptHandler (some (.Name wx wp)) (some n) [.Assign [.Name c p1] (.Name n p2) p3] hp] [] [] pos)
   (λD σ H=>H=X.H₀/\σ[ia]?=some (some (.ref l))/\∀e H',QH H'->H' e=none->D.nx (σ.set ic (some (.ref e))) (upd H' e (zfp e C))):=by
 intro pins s σ H D I h;obtain⟨eH,ha,hD⟩:=h;subst eH
 have Z:∀ {s1:Shared},Inv X pins σ X.H₀ s1->∀b o,X.s₀.heap.get? b=some o->X.H₀ b=none->b∉frs X.stack->s1.heap.get? b=some o:=λJ b o q n hb=>
  J.base.keep b o q n (λz=>hb (by rw[F];unfold frs;rw[bA,L];exact av _ z)) (by rw[U];exact λz=>by cases z)
 refine wpAny_Try_except (eg (wpAny_Expr_any (cN (aU (zlk (X:=X.nox) bt bx b7 b8 pins s σ X.H₀ (λv H1=>v = .ref l/\H1=X.H₀) (I.wish _) ⟨_,ha,rfl,rfl⟩) ?_ λ_ _ z=>False.elim z)) I.quiet rfl));rintro v s1 ⟨x,H1,I1,r1,rfl,rfl⟩;cases r1;have I1:=I1.unwish;refine callWith_meth0 b6 (Z I1 l ol hl b4 b5) (wpAny_call (dW (hA X.A X.stack s1 hr I1.env0 a1 (Z I1)) λr Y hq=>?_));obtain⟨e,H',rfl,a2,hQ⟩:=hq;obtain⟨I2,a3,cn,co,c0,c3⟩:=a2.here F L U I1;obtain⟨B,a0,fw,c1,c2⟩:=a2.fly;have c4:X.A.frames=some (X.env::X.outer):=by rw[I1.ok.frames,F]
 have da:Heap.FlyingW B (X.env::X.outer) e (.ref C) a0 Y.heap:=by rw[<- F];exact fw
 have ab:∀ {O:Heap} {t:Nat},B.StaysIn O->Y.heap.UpToSlots O->Inv X pins σ H' { Y with heap:=O,toks:=t }:=λ{O t} b2 sm=>by
  have a4:∀b o,X.s₀.heap.get? b=some o->b∉X.fs->∃o',B.get? b=some o':=λb o q hb=>by
   obtain⟨o',h1⟩:=I1.base.there b o q (by rw[U];exact λz=>by cases z);refine c1 b o' h1 λz=>?_;rw[F] at z;unfold frs at z;rw[bA,L] at z;rcases ax.mp z with y | y
   ·have:=ak q;rw[y] at this;exact absurd (aI this I1.ok.above) (bW _)
   ·exact hb y
  have a5:∀ {b o o1},s1.heap.get? b=some o1->b∉frs X.stack->Y.heap.get? b=some o->O.get? b=some o:=λ{b o o1} q1 hb q2=>by obtain⟨o',h1⟩:=c1 b o1 q1 hb;have:=fw.1 b o' h1;rw[q2] at this;cases this;exact b2 b o h1
  obtain⟨u,k⟩:=za4 I2 U a4 c2 fw.1 b2 sm;obtain⟨m,hN,db⟩:=I2.loc
  have ad:∀ {c v},Y.heap.IsCell c v->O.IsCell c v:=λ{c v} ⟨o,h1,h2⟩=>by
   obtain⟨sl,h3⟩:=sm c o h1 λvs z=>by rw[h2] at z;cases z
   exact⟨_,h3,h2⟩
  refine⟨I2.ok,I2.os,I2.bare,by rw[U];exact u,⟨m,sm.ns hN,λi x v e1 e2 e3=>?_⟩,λx c q=>?_,I2.free,I2.freeC,λp hp=>?_,k,I2.len⟩
  ·obtain⟨u',r',q⟩:=db i x v e1 e2 e3;refine⟨u',r',?_⟩;rcases q with q | ⟨k,c,q,z⟩
   ·exact .inl q
   ·exact .inr ⟨k,c,q,ad z⟩
  ·obtain⟨v,z⟩:=I2.cell x c q;exact⟨v,ad z⟩
  ·obtain⟨q1,q2,q3,q4,q5⟩:=I2.pin p hp;obtain⟨g1,_⟩:=I1.pin p hp;refine⟨a5 g1 (λz=>?_) q1,q2,q3,q4,q5⟩;rw[F] at z;unfold frs at z;rw[bA,L] at z;rcases ax.mp z with y | y
   ·exact q3 y
   ·exact q4 y
 refine wpAny_looks_onW c4 L da λh4 an dd=>wpAny_landsW an λh5 as df=>?_;have sm:=dd.trans df;have I5:Inv X pins σ H' { Y with heap:=h5 }:=ab (t:=Y.toks) as.1 sm;obtain⟨oe,he,dk⟩:=as.there;refine wpAny_handleBy_cons (codeAny_handlers_test (cW I5.ok.kind hg (Calls.loadGlobal_global (by rw[I5.ok.glob];exact I5.mod.glob.keeps I5.bk) hW ?_) ca)) (by intro q;cases q);refine zha ci wi I5.kIn sub he dk ?_;refine codeAny_handlers_suite_as (lands_againW as λh6 a7 dl=>?_);have I6:Inv X pins σ H' { Y with heap:=h6 }:=ab (t:=Y.toks) a7.1 (sm.trans dl);obtain⟨m,hN,dm⟩:=I6.other hn;have ag:(X.env.scope.kind==.class || (X.env.scope.kind==.module&&X.env.locals != X.env.globals))=false:=by rw[I6.ok.kind];rfl
 refine wpAny_storeName_local al hN (λh7 bb bd=>?_) ag;have bl:X.env.locals≠e:=c0 _ (by rw[F];unfold frs;rw[bA,L];exact aL);have I7:=dm h7 (some (.ref e)) (Y.toks+1) bb bd;obtain⟨o6,g6,k6⟩:=a7.there;have I8:=I7.track (o:=zfp e C) a3 cn bl.symm c3 co (EAt.ok ⟨o6,(bd.2 e bl.symm).trans g6,k6⟩);refine eg (wpAny_Assign_Name (wpAny_Name (wpAny_loadName_local I8.ok.kind al bb (show (if n=n then some (Value.ref e) else m n)=some (.ref e) from if_pos rfl) ?_) cd) ch);refine zc3 I8 nd b0 b1 (v:=.ref e) rfl (λs9 I9=>eD ?_) b3;obtain⟨m9,dn,bm⟩:=I9.other hn;refine wpAny_nameGoes_keeps al dn ag λdp dt bo bs=>?_;exact⟨_,_,bm dp dt _ bo bs,hD e H' hQ a3⟩
end
def ze9 (B:Obj)(q:Str):Prop:=∃vs F,B.data = .fields vs/\vs[1]?=some (.str q F)
def zdk (q:Obj):HO:=.frz q (.own 0)
def zf7 (P:Program)(w:World)(K:PySem.W.Frag)(mg:Str->Option Value)(base:Heap)(N:List Str)(qual:Str)(scope:Scope)(l:Addr)(cv:Value)(cl:List (Str×Addr))(A:Around)(outer:List Env)(s:Shared)(H:Hp)(C:Addr)(E:XK):Cx where
 prog:=P
 w:=w
 K:=K
 mg:=mg
 base:=base
 A:=A.deeper (PySem.W.envX qual scope s.heap.objs.size l cv cl)
 N:=N
 s₀:=s
 H₀:=H
 env:=PySem.W.envX qual scope s.heap.objs.size l cv cl
 outer:=outer
 stack:=PySem.W.envX qual scope s.heap.objs.size l cv cl::outer
 ex:=[]
 fn:=λ_=>false
 calm:=true
 pn:=[]
 xe:=λe s'=>wpAny (model P w) (A.deeper (PySem.W.envX qual scope s.heap.objs.size l cv cl)) (leaving (PySem.W.envX qual scope s.heap.objs.size l cv cl) e) (λ_ q=>CX1 P w C outer H s E e q) (λB q=>CX1 P w C outer H s E B q) s'
section
variable {P:Program}{w:World}{K:PySem.W.Frag}{mg:Str->Option Value}{base:Heap}{N:List Str}{qual:Str}{scope:Scope}{l:Addr}{cv:Value}{cl:List (Str×Addr)}{A:Around}{outer:List Env}{s:Shared}{H:Hp}{C:Addr}{E:XK}
def zl5:FrX C E (zf7 P w K mg base N qual scope l cv cl A outer s H C E):=⟨rfl,rfl,rfl,rfl⟩
def zme{σ:St}{h1:Heap}(B:Env0 P w K mg base A outer s H)(hd:A.handled=none)(hk:scope.kind = .function)(O:∀x y c,cl.lookup x=some c->cl.lookup y=some c->x=y)(U:∀x,(scope.names.lookup x=some .cell\/scope.names.lookup x=some .free)->∃c,cl.lookup x=some c)(J:∀x c,cl.lookup x=some c->(∃v,s.heap.IsCell c v)/\H c=none)(L:∀ (i:Nat) (x:Str) (v:V),N[i]?=some x->σ[i]?=some (some v)->Vis scope x->scope.names.lookup x=some .free/\∃u c,zX v u/\cl.lookup x=some c/\s.heap.IsCell c (some u))(Y:σ.length=N.length)(hN:h1.Ns s.heap.objs.size (λx=>([]:List (Str×Value)).reverse.lookup x))(hs:Heap.SameBut s.heap.objs.size (s.heap.push o1) h1):Inv (zf7 P w K mg base N qual scope l cv cl A outer s H C E) [] σ H { s with heap:=h1,toks:=t1 }:=by
 have kp:∀b o,s.heap.get? b=some o->h1.get? b=some o:=λb o q=>(hs.2 b (aD (ak q))).trans (ae _ q);have F:∀ {c v},s.heap.IsCell c v->h1.IsCell c v:=λ⟨o,Z,g2⟩=>⟨o,kp _ _ Z,g2⟩;have I:∀b:Addr,b∉(zf7 P w K mg base N qual scope l cv cl A outer s H C E).ex:=λb z=>absurd (show b∈([]:List Addr) from z) (by simp)
 refine⟨⟨B.mod,hk,rfl,rfl,af _,O,U,λ_ _ z=>(by cases z),λ_=>hd,Around.frames_deeper B.frames,.inr ⟨rfl,rfl⟩,λb z=>absurd z (I b),B.bs,B.bsz,λb _ _=>I b,λb z=>absurd z (I b),B.funs,B.frf⟩,
  rfl,B.bare,Un.kept kp,⟨_,hN,λi x v q1 q2 q3=>?_⟩,λx c q=>?_,B.hok.fresh (af _),λx c q=>(J x c q).2,λp hp=>absurd (show p∈([]:List (Addr×Obj)) from hp) (by simp),B.hok.kept kp,Y⟩
 ·obtain⟨Z,u,c,r,g2,g3⟩:=L i x v q1 q2 q3;exact⟨u,r,.inr ⟨.inr Z,c,g2,F g3⟩⟩
 ·obtain⟨v,z⟩:=(J x c q).1;exact⟨v,F z⟩
def zi7(hp:bindArgs (PySem.W.kla_fn name qual params body scope cl pm (.ref J) O) ⟨[],[]⟩=pure [])(hk:scope.kind = .function)(ad:scope.isCoroutine=false)(U:scope.isGenerator=false)(ag:∀x∈scope.names,x.2≠.cell)(hl:B.heap.get? l=some (PySem.W.kla_obj name qual params body scope cl pm J O))(al:H l=none)(an:l∉fr0)(as:H J=some (zdk oc))(a0:ze9 oc qual)(a1:∀x y c,cl.lookup x=some c->cl.lookup y=some c->x=y)(a2:∀x,(scope.names.lookup x=some .cell\/scope.names.lookup x=some .free)->∃c,cl.lookup x=some c)(Y:∀x c,cl.lookup x=some c->(∃v,B.heap.IsCell c v)/\H c=none/\c∉fr0)(Z:∀ (i:Nat) (x:Str) (v:V),N[i]?=some x->σ[i]?=some (some v)->Vis scope x->scope.names.lookup x=some .free/\∃u c,zX v u/\cl.lookup x=some c/\B.heap.IsCell c (some u))(a3:σ.length=N.length)(L:∀ (A:Around) (outer:List Env) (s:Shared),Room k (A.deeper (PySem.W.envX qual scope s.heap.objs.size l (.ref J) cl))->∃t:TE,PE (zf7 P w K mg base N qual scope l (.ref J) cl A outer s H C (λ_ _ H'=>QH H')) body t/\t σ H λ_ _=>False) :
  zoc P w K mg base C (k+1) l fr0 B H QH:=by
 intro A outer s hr e0 a4 kp;have nf:∀ {b o},B.heap.get? b=some o->b∉fr0->b∉frs outer:=λq n z=>(a4 _ z).elim n λy=>absurd (ak q) (eB.mpr y);have F:∀ {c v},H c=none->c∉fr0->B.heap.IsCell c v->s.heap.IsCell c v:=λn f ⟨o,g1,g2⟩=>⟨o,kp _ _ g1 n (nf g1 f),g2⟩
 have ab:s.heap.CodeRec (.ref J) qual:=by obtain⟨vs,tq,g2,g3⟩:=a0;exact⟨J,oc,vs,tq,rfl,(e0.hok J _ as).1,g2,g3⟩
 refine PySem.W.kla_callFunE hr.depth (kp _ _ hl al (nf hl an)) rfl ad U rfl ab ?_;rw[hp];refine ai (wpAny_newFunctionEnv ag (λx hx=>absurd hx (by simp)) (λh1 hN hs=>⟨?_,?_⟩) hk)
 ·have:=e0.mod.nolimit.keeps λb o e=>(e0.bs b o e).1;exact this.fresh _ hs
 have I:=zme (E:=λ_ _ H'=>QH H') (C:=C) (qual:=qual) (l:=l) (cv:=.ref J) (N:=N) (σ:=σ) (t1:=s.toks+0) e0 hr.hd hk a1 a2 (λx c q=>let ⟨⟨v,z⟩,n,f⟩:=Y x c q;⟨⟨v,F n f z⟩,n⟩) (λi x v q1 q2 q3=>by obtain⟨g1,u,c,r,g2,g3⟩:=Z i x v q1 q2 q3;obtain⟨_,n,f⟩:=Y x c g2;exact⟨g1,u,c,r,g2,F n f g3⟩) a3 hN hs
 obtain⟨t,hb,ht⟩:=L A outer s (hr.deeper _);refine PySem.W.kla_codeExpr (aU (hb [] _ σ H _ I ht) (λv s' z=>?_) λe s' z=>?_)
 ·obtain⟨_,_,_,_,q⟩:=z;exact q.elim
 ·refine aU z (λ_ a5 y=>?_) λe' a5 y=>?_
  ·obtain⟨ea,H',rfl,f,q⟩:=y;exact⟨ea,H',rfl,f,q⟩
  ·obtain⟨ea,H',rfl,f,q⟩:=y;exact⟨ea,H',rfl,f,q⟩
end
def zgx (P:Addr)(q:Str)(H:Hp):Prop:=∃ps:Array Value,H P=some (kO P (PySem.W.tabObj ps))/\TriplesOk ps.toList/\∀pos cv,codeAmong pos ps.toList=some cv->∃B F,cv = .ref B/\H B=some (zdk F)/\ze9 F q
structure LamT (K:PySem.W.Frag)(mg:Str->Option Value)(c P:Addr):Prop where
 hd:∀h,K.In h->PySem.W.CodeHd h c P
 gp:mainGlobals≠P
def zb6 {pos pos':Pos}{c:Value}:∀ {l:List Value},TriplesOk l->∀ {cv},codeAmong pos' (l++[rawInt pos.line,rawInt pos.col,c])=some cv->codeAmong pos' l=some cv\/cv=c
 | [],_,cv,h=>by
  right;simp only[List.nil_append,rawInt,codeAmong] at h;split at h
  ·exact (bh h).symm
  ·cases h
 | .int a t::.int b u::d::r,B,cv,h=>by
  simp only[bw,codeAmong] at h ⊢;split at h
  ·rename_i q;rw[if_pos q];exact .inl h
  ·rename_i q;rw[if_neg q];exact zb6 (l:=r) B h
section
variable {X:Cx}{pins:List (Addr×Obj)}{σ:St}{H:Hp}{s:Shared}{E:Value->Shared->Prop}{params:Arguments}{body:Expr}{scope:Scope}{pos:Pos}{c P:Addr}{cl:List (Str×Addr)}
def zjU(I:Inv X pins σ H s)(ab:defaultsOf params X.env=([],[]))(ad:closureFor scope X.env=pure cl)(O:X.env.code = .ref c)(T:LamT X.K X.mg c P)(hB:X.base.BuiltinsAt X.mg P)(as:zgx P (X.env.qual ++ "<lambda>") H)(hQ:∀l B U J H1 s',Inv X pins σ H1 s'->s'.heap.get? l=some (PySem.W.kla_obj "<lambda>" (X.env.qual ++ "<lambda>") params body scope cl ((X.mg "__name__").getD .none) B J)->H1 l=none->s.heap.objs.size<=l->H1 B=some (zdk U)->ze9 U (X.env.qual ++ "<lambda>")->
   zgx P (X.env.qual ++ "<lambda>") H1->(∀b o,b≠P->H b=some o->H1 b=some o)->(∀b,H b=none->b<s.heap.objs.size->H1 b=none)->(∀b o,s.heap.get? b=some o->H b=none->s'.heap.get? b=some o)->Q (.ref l) s') :
  wpAny (model X.prog X.w) X.A (eval (.Lambda params body scope pos) X.env) Q E s:=by
 obtain⟨ps,hP,tr,L⟩:=as;obtain⟨gP,⟨oP,_⟩,_⟩:=I.hok P _ hP;have gP:s.heap.get? P=some (PySem.W.tabObj ps):=gP;have hg:s.heap.Ns mainGlobals X.mg:=I.mod.glob.keeps I.bk;have C:=T.hd _ I.kIn;have bt:=hB.keeps I.bk;refine PySem.W.kla_eval ab ?_
 cases hf:codeAmong pos ps.toList with
 | some cv=>
  obtain⟨B,U,rfl,a0,a1⟩:=L pos cv hf;refine PySem.W.kla_makeFunctionHit (mg:=X.mg) ad I.ok.glob hg O C gP tr hf bt λJ h' tk kp sz=>?_;have I1:Inv X pins σ H { s with heap:=h'.push { cls:=.type "function",data:=.func (PySem.W.kla_fn "<lambda>" (X.env.qual ++ "<lambda>") params body scope cl ((X.mg "__name__").getD .none) (.ref B) J) },toks:=tk }:=I.kept λb o q=>ae _ (kp b o q);exact hQ h'.objs.size B U J H _ I1 (am _ rfl) (I.hok.fresh sz) sz a0 a1 ⟨ps,hP,tr,L⟩ (λ_ _ _ q=>q) (λ_ q _=>q) λb o q _=>ae _ (kp b o q)
 | none=>
  refine PySem.W.kla_makeFunction (mg:=X.mg) ad I.ok.glob hg O C gP tr hf T.gp bt λB J h' tk hx F ag al Y=>?_;obtain⟨c2,U,vs,tq,ec,g1,g2,g3⟩:=al;cases ec;have Z:P<s.heap.objs.size:=ak gP;have an:B≠P:=λz=>by rw[z] at F;exact absurd Z (eB.mpr F)
  have hsz:s.heap.objs.size<=h'.objs.size:=ah F (cC ag);have kp:∀b o,b≠P->s.heap.get? b=some o->(h'.push (PySem.W.kla_obj "<lambda>" (X.env.qual ++ "<lambda>") params body scope cl ((X.mg "__name__").getD .none) B J)).get? b=some o:=λb o hb q=>ae _ (hx b o hb q)
  have I2:Inv X pins σ (upd H P (kO P (PySem.W.tabObj (ps++#[rawInt pos.line,rawInt pos.col,.ref B])))) { s with heap:=h'.push (PySem.W.kla_obj "<lambda>" (X.env.qual ++ "<lambda>") params body scope cl ((X.mg "__name__").getD .none) B J),toks:=tk }:=
   I.write (x:=P) (e:=P) (by rw[hP];trivial) (.inl rfl) kp ⟨_,ae _ Y⟩ ⟨ae _ Y,⟨_,ae _ Y⟩,λh1 h2 q k=>k _ q⟩
  have nw:∀ {b:Addr},s.heap.objs.size<=b->H b=none:=λq=>I.hok.fresh q;have a2:upd H P (kO P (PySem.W.tabObj (ps++#[rawInt pos.line,rawInt pos.col,.ref B]))) B=none:=by rw[zb an];exact nw F
  have lt:∀ {b o},s.heap.get? b=some o->b≠B:=λq z=>by rw[z] at q;exact absurd (ak q) (eB.mpr F)
  have I3:=I2.track (e:=B) (o:=zdk U) a2 (Heap.get?_none_of_le (ah I.sz F)) (λz=>by have:=I.lt;rw[<- z] at this;exact absurd this (eB.mpr F)) (λx c q=>by obtain⟨v,o,h1,_⟩:=I.cell x c q;exact lt h1) (λp hp=>lt (I.pin p hp).1)
   ⟨ae _ g1,⟨U,ae _ g1⟩⟩
  have a3:h'.objs.size≠B:=cP ag;have a4:h'.objs.size≠P:=λz=>by rw[<- z] at Z;exact absurd Z (eB.mpr hsz)
  have up:∀b o,b≠P->H b=some o->upd (upd H P (kO P (PySem.W.tabObj (ps++#[rawInt pos.line,rawInt pos.col,.ref B])))) B (zdk U) b=some o:=λb o hb q=>by rw[zb (λz=>by rw[z,nw F] at q;cases q),zb hb];exact q
  refine hQ h'.objs.size B U J _ _ I3 (am _ rfl) (by rw[zb a3,zb a4];exact nw hsz) hsz zg ⟨vs,tq,g2,g3⟩ ⟨_,by rw[zb an.symm];exact zg,?_,λpos' cv q=>?_⟩ up (λb q hb=>by rw[zb (aD (aI hb F)),zb (λz=>by rw[z,hP] at q;cases q)];exact q) λb o q n=>kp b o (λz=>by rw[z,hP] at n;cases n) q
  ·rw[Array.toList_append];exact TriplesOk_snoc _ _ _ _ tr
  ·rw[Array.toList_append] at q;rcases zb6 tr q with q | q
   ·obtain⟨c3,a5,e3,h3,h4⟩:=L pos' cv q;exact⟨c3,a5,e3,up c3 _ (λz=>by rw[z,hP] at h3;cases h3) h3,h4⟩
   ·exact⟨B,U,q,zg,⟨vs,tq,g2,g3⟩⟩
end
section
variable {X:Cx}
def zfh:CallQ X (.builtin "isinstance") (λxs H Q=>∃e C d D b,xs=[.ref e,d]/\(∀u,zX d u->u=D)/\H e=some (zfp e C)/\ExcI X.K C/\PySem.W.kitOne X.K (.ref C) D=some b/\Q (.bl b) H):=⟨by
 intro pins s σ H xs us Q I r h;obtain⟨e,C,d,D,b,rfl,B,F,J,L,q⟩:=h;obtain⟨u,c,rfl,O,U⟩:=ziY r;cases O;cases B c U;exact bq (zg9 J) I.kIn (I.hok e _ F).1 L (λz=>nomatch z) λtk=>⟨.bl b,H,I.tok tk,rfl,q⟩⟩
def ziE:∀ {cs:List Addr} {us:List Value},zY (cs.map V.ref) us->us=cs.map Value.ref
 | [],_,.nil=>rfl
 | c::cs,_,.cons q B=>by cases q;rw[ziE B];rfl
def zgP:CallQ X (.builtin "isinstance") (λxs H Q=>∃ (e C p:Addr) (cs:List Addr) (b:Bool),xs=[.ref e,.ref p]/\H p=some (.tup (cs.map V.ref))/\H e=some (zfp e C)/\ExcI X.K C/\PySem.W.kitAny X.K (.ref C) (cs.map Value.ref)=some b/\Q (.bl b) H):=⟨by
 intro pins s σ H xs us Q I r h;obtain⟨e,C,p,cs,b,rfl,hp,B,F,J,q⟩:=h;obtain⟨u,c,rfl,L,O⟩:=ziY r;cases L;cases O;obtain⟨its,U,p1,_⟩:=I.tuple (.of hp);cases ziE U;obtain⟨⟨cls,dd,data,sl⟩,Y,Z,n,hd⟩:=id p1;cases Z;cases hd;exact PySem.W.kia_tup (zg9 F) I.kIn (I.hok e _ B).1 Y J (λz=>nomatch z) λtk=>⟨.bl b,H,I.tok tk,rfl,q⟩⟩
end
def zoU{CX:CXT}{P:Program}{w:World}{K:PySem.W.Frag}{mg:Str->Option Value}{base:Heap}{f:Addr}{name qual:Str}{params:Arguments}{body:List Stmt}{scope:Scope}{dV kV Y pm B ct oc:Value}{an od:Option Addr}{N ps:List Str}{A:Around}{outer:List Env}{s:Shared}{H:Hp}{args:Args}{vs:List V}{Q:VK}{E:XK}(lk:K.lookup f=some ⟨oc,od,.func (PySem.W.fnOf name qual params body scope dV kV Y pm an B ct),ab⟩)(ad:PySem.W.codeIn K B qual=true)(S:FnScope N ps scope)(hl:vs.length=ps.length)(hr:Room (k+1) A)(Z:Env0 P w K mg base A outer s H)(hb:BindsTo s (PySem.W.fnOf name qual params body scope dV kV Y pm an B ct) args (ps.zip us))(r:zY vs us)(L:Room k (A.deeper (envOfC qual scope s.heap.objs.size f B))->∃t,PSs (zaN CX P w K mg base N qual scope f B A outer s H E) body t/\t { nx:=λ_ H'=>Q .non H',rt:=Q } (yO N vs) H) :
  codeAny (model P w) A (.call (.ref f) args) (CR CX outer P w H s Q E) s:=by
 have KX:K.In s.heap:=Z.mod.kin.keeps λb o e=>(Z.bs b o e).1;have lim:s.heap.NoLimit:=Z.mod.nolimit.keeps λb o e=>(Z.bs b o e).1
 have O:∀y∈ps.zip us,scope.names.lookup y.1=some .local\/(scope.names.lookup y.1=some .cell/\((cellsFrom (s.heap.objs.size+1) scope.names []).lookup y.1).isSome=true):=by
  rintro⟨n,v⟩ hy;rcases S.par n (eE hy).1 with q | q
  ·exact .inl q
  ·exact .inr ⟨q,dL _ _ _ (.inl q)⟩
 refine codeAny_call_function hr.depth (KX _ _ lk) rfl S.co S.gen rfl (PySem.W.codeRec_of KX ad) (hb _ _ _ _ ?_);refine wpAny_newFunctionEnv_cells S.kind O λenv he s1 x=>?_;subst he;refine⟨lim.keeps x.toInCall.keep,codeAny_func ?_⟩;obtain⟨t,ht,hq⟩:=L (hr.deeper _);have I:Inv (zaN CX P w K mg base N qual scope f B A outer s H E) [] (yO N vs) H s1:=zdp S hr.hd Z hl r x;refine aU (ht [] s1 (yO N vs) H _ I hq) (λfl s' U=>?_) λe s' U=>U
 have fin:∀ {F:St} {H':Hp} {v:V} {u:Value},Inv (zaN CX P w K mg base N qual scope f B A outer s H E) [] F H' s'->zX v u->Q v H'->CE outer P w H s Q u s':=
  λ{F H' v u} J rv q=>⟨v,H',J.os,J.bare,J.base,J.hok,rv,q⟩
 cases fl with
 | ret u=>
  obtain⟨v,F,H',J,rv,q⟩:=U;exact fin J rv q
 | next=>
  obtain⟨F,H',J,q⟩:=U;exact fin (v:=V.non) (u:=Value.none) J rfl q
 | brk=>
  obtain⟨_,_,_,q⟩:=U;exact False.elim q
 | cont=>
  obtain⟨_,_,_,q⟩:=U;exact False.elim q
structure Errs (K:PySem.W.Frag)(mg:Str->Option Value)(cx wx:Str)(C W:Addr)(cs:List Addr):Prop where
 ci:ExcI K C
 wi:ExcI K W
 mc:mg cx=some (.ref C)
 mw:mg wx=some (.ref W)
 sub:PySem.W.subIn K (.ref C) (.ref W)=some true
 own:PySem.W.kitOne K (.ref C) (.ref C)=some true
 ve:PySem.W.kitOne K (.ref C) (.type "ValueError")=some true
 no:PySem.W.kitAny K (.ref C) (cs.map Value.ref)=some false
section
variable {X:Cx}{C W l:Addr}{cs:List Addr}{a c n cx wx:Str}{k k1 k2 k3:Nat}{es:List Expr}{ts:TA}{QH:Hp->Prop}
 {p1 p2 p3 ap cp ep wp q1 q2 q3 hp tp i1 i2 i3 i4 i5 i6 i7 i8 i9 j1 j2 j3 j4 j5 j6 j7 r1 r2 r3 r4 tq:Pos}
def zdU(L:X.stack=X.env::X.outer)(O:X.env.frame=some X.env.locals)(U:X.ex=[])(hr:Room k X.A)(Y:X.N=[a,c])(Z:a≠c)(ab:X.env.scope.names.lookup a=some .local)(q:X.env.scope.names.lookup c=some .local)(hn:n∉X.N)(ad:X.env.kindOf n=some .local)(B:Errs X.K X.mg cx wx C W cs)(gc:Gl X cx)(gw:Gl X wx)(gv:Gl X "ValueError")(gi:Gl X "isinstance")(mv:X.mg "ValueError" = none)(mi:X.mg "isinstance" = none)(hT:QA X es ts)(ag:∀ σ H Q,Q (cs.map V.ref) H->ts σ H Q)(al:cs.length<=100){ol:Obj}(hl:X.s₀.heap.get? l=some ol)(an:X.H₀ l=none)(as:l∉frs X.stack)(a0:ol.data = .func fl){fr0:List Addr}(I:∀b∈frs X.stack,b∈fr0\/X.s₀.heap.objs.size<=b)(hA:zoc X.prog X.w X.K X.mg X.base C k l fr0 X.s₀ X.H₀ QH){D:Ends}(hD:∀e p H',QH H'->H' e=none->e≠p->H' p=none->D.rt (.bl true) (upd (upd H' e (zfp e C)) p (.tup (cs.map V.ref)))){σ:St}(a1:σ=[some (.ref l),none])(a2:(a==("__debug__" : Str))=false:=by decide)(a3:(a==("__classdict__" : Str))=false:=by decide)(a4:(c==("__debug__" : Str))=false:=by decide)(a5:(c==("__classdict__" : Str))=false:=by decide)(a7:(wx==("__debug__" : Str))=false:=by decide)(bb:(cx==("__debug__" : Str))=false:=by decide)(bd:(n==("__debug__" : Str))=false:=by decide) :
  ∃t,PSs X [.Assign [.Name c p1] (.Constant .none k1 p2) p3,
   .Try [.Expr (.Call (.Name a ap) [] [] cp) ep] [.ExceptHandler (some (.Name wx wp)) (some n) [.Assign [.Name c q1] (.Name n q2) q3] hp] [] [] tq,
   .If (.BoolOp .Or [.UnaryOp .Not (.Call (.Name "isinstance" i1) [.Name c i2,.Name cx i3] [] i4) i5,.UnaryOp .Not (.Call (.Name "isinstance" i6) [.Name c i7,.Name "ValueError" i8] [] i9) j1] j2) [.Return (some (.Constant (.bool false) k2 j3)) j4] [] j5,
   .Return (some (.UnaryOp .Not (.Call (.Name "isinstance" j6) [.Name c j7,.Tuple es k3 r1] [] r2) r3)) r4] t/\t D σ X.H₀:=by
 have hi:X.N[0]?=some a:=by rw[Y];rfl
 have hj:X.N[1]?=some c:=by rw[Y];rfl
 have nd:X.N.Nodup:=by rw[Y];simp[Z]
 have vc:∀ {p:Pos},QE X (.Name c p) (ze6 1):=qv 1 hj (.inl q) a4 a5;have gC:QE X (.Name cx i3) (tC (.ref C)):=zcZ (v:=.ref C) gc ⟨_,rfl,B.mc⟩ bb;have gV:QE X (.Name "ValueError" i8) (tC (.ty "ValueError")):=zcY (v:=.ty "ValueError") gv mv (by decide +kernel) rfl;have c1:QE X (.Call (.Name "isinstance" i1) [.Name c i2,.Name cx i3] [] i4) _:=yq zfh gi mi bE (zz vc (zz gC yn));have c2:QE X (.Call (.Name "isinstance" i6) [.Name c i7,.Name "ValueError" i8] [] i9) _:=yq zfh gi mi bE (zz vc (zz gV yn));have c3:QE X (.Call (.Name "isinstance" j6) [.Name c j7,.Tuple es k3 r1] [] r2) _:=yq zgP gi mi bE (zz vc (zz (zlo hT) yn));have s1:QS X (.Assign [.Name c p1] (.Constant .none k1 p2) p3) _:=xo (i:=1) nd hj (.inl q) zqq (hf:=.inr q);have s2:QS X (.Try [.Expr (.Call (.Name a ap) [] [] cp) ep] [.ExceptHandler (some (.Name wx wp)) (some n) [.Assign [.Name c q1] (.Name n q2) q3] hp] [] [] tq) _:=⟨zqe (ia:=0) (ic:=1) L O U hr hi (.inl ab) hj (.inl q) nd (.inr q) hn ad B.ci B.wi B.mw gw B.sub hl an as a0 I hA a2 a3 a7 bd⟩;refine⟨_,(zy s1 (zy s2 (zy (zeV (zqv (zit (ziu c1)) (zls (zit (ziu c2)))).pt (yj (xP zqn)) zam) (yj (xP (zqr c3)))))).run,?_⟩;subst a1;change X.H₀=X.H₀/\_/\_;refine⟨rfl,rfl,λe H' hQ he=>?_⟩;have e1:([some (V.ref l),none].set 1 (some V.non)).set 1 (some (V.ref e))=[some (V.ref l),some (V.ref e)]:=rfl;rw[e1];have J:upd H' e (zfp e C) e=some (zfp e C):=zg;refine⟨.ref e,rfl,e,C,.ref C,.ref C,true,rfl,λu z=>z,J,B.ci,B.own,true,rfl,?_⟩;refine⟨.ref e,rfl,e,C,.ty "ValueError",.type "ValueError",true,rfl,λu z=>z,J,B.ci,B.ve,true,rfl,?_⟩;refine⟨.ref e,rfl,ag _ _ _ ⟨by rw[ac];exact ah al (by decide),λp hp=>?_⟩⟩;have F:e≠p:=λz=>by rw[<- z,J] at hp;cases hp
 have bk:H' p=none:=by rw[zb F.symm] at hp;exact hp
 exact⟨e,C,p,cs,false,rfl,zg,by rw[zb F];exact J,B.ci,B.no,false,rfl,hD e p H' hQ he F bk⟩
end
def zi5 (P:Program)(w:World)(K:PySem.W.Frag)(mg:Str->Option Value)(base:Heap)(C:Addr)(cs:List Addr)(k:Nat)(f:Addr):Prop:=
 ∀ (A:Around) (outer:List Env) (s:Shared) (H:Hp) (l:Addr) (q:Obj) (fl:FuncData) (QH:Hp->Prop) (Q:VK),Room (k+1) A->Env0 P w K mg base A outer s H->s.heap.get? l=some q->q.data = .func fl->H l=none->l∉frs outer->
  zoc P w K mg base C k l (frs outer) s H QH->(∀e p H',QH H'->H' e=none->e≠p->H' p=none->Q (.bl true) (upd (upd H' e (zfp e C)) p (.tup (cs.map V.ref))))->
  codeAny (model P w) A (.call (.ref f) ⟨[.ref l],[]⟩) (CR CX0 outer P w H s Q E0) s
def nms (xs:List (Str×Pos)):List Expr:=xs.map λx=>.Name x.1 x.2
def zfJ:∀ {xs:List (Str×Pos)} {cs:List Addr},xs.map (λx=>X.mg x.1)=cs.map (λc=>some (Value.ref c))->(∀x∈xs,Gl X x.1/\(x.1==("__debug__" : Str))=false)->QA X (nms xs) (λσ H Q=>Q (cs.map V.ref) H)
 | [],[],_,_=>⟨λ_ _ _ _ H Q I h=>dQ ⟨[],H,I,.nil,h⟩⟩
 | (x,p)::xs,c::cs,h,g=>by rw[ao,ao,eJ] at h;obtain⟨h1,h2⟩:=g (x,p) aL;exact⟨(zz (zcZ (v:=.ref c) h1 ⟨_,rfl,h.1⟩ h2) (zfJ (cs:=cs) h.2 λy q=>g y (av _ q))).run⟩
section
variable {P:Program}{w:World}{K:PySem.W.Frag}{mg:Str->Option Value}{base:Heap}{C W f:Addr}{cs:List Addr}{x a c n cx wx:Str}{st:Stmt}{fd:FuncData}{k k1 k2 k3:Nat}{xs:List (Str×Pos)}
 {p1 p2 p3 ap cp ep wp q1 q2 q3 hp tp i1 i2 i3 i4 i5 i6 i7 i8 i9 j1 j2 j3 j4 j5 j6 j7 r1 r2 r3 r4 tq:Pos}
def zkz (F:Fun K x x st f fd)(b:zec K fd [a] [])(S:FnScope [a,c] [a] (zd st))(q:a≠c)(B:(zd st).names.lookup a=some .local)(I:(zd st).names.lookup c=some .local)
  (hn:n∉[a,c]) (J:(zd st).names.lookup n=some .local) (er:Errs K mg cx wx C W cs) (g:∀y∈[cx,wx,"ValueError","isinstance"],(zd st).names.lookup y=some .globalImplicit) (mv:mg "ValueError" = none) (mi:mg "isinstance" = none)
  (hx:xs.map (λx=>mg x.1)=cs.map (λc=>some (Value.ref c))) (gx:∀x∈xs,(zd st).names.lookup x.1=some .globalImplicit/\(x.1==("__debug__" : Str))=false) (L:cs.length<=100)
  (O:zU st=[.Assign [.Name c p1] (.Constant .none k1 p2) p3,
   .Try [.Expr (.Call (.Name a ap) [] [] cp) ep] [.ExceptHandler (some (.Name wx wp)) (some n) [.Assign [.Name c q1] (.Name n q2) q3] hp] [] [] tq,
   .If (.BoolOp .Or [.UnaryOp .Not (.Call (.Name "isinstance" i1) [.Name c i2,.Name cx i3] [] i4) i5,.UnaryOp .Not (.Call (.Name "isinstance" i6) [.Name c i7,.Name "ValueError" i8] [] i9) j1] j2) [.Return (some (.Constant (.bool false) k2 j3)) j4] [] j5,
   .Return (some (.UnaryOp .Not (.Call (.Name "isinstance" j6) [.Name c j7,.Tuple (nms xs) k3 r1] [] r2) r3)) r4])
  (U:(a==("__debug__" : Str))=false:=by decide) (Y:(a==("__classdict__" : Str))=false:=by decide) (Z:(c==("__debug__" : Str))=false:=by decide) (ab:(c==("__classdict__" : Str))=false:=by decide) (ad:(wx==("__debug__" : Str))=false:=by decide) (ag:(cx==("__debug__" : Str))=false:=by decide) (al:(n==("__debug__" : Str))=false:=by decide) :
  zi5 P w K mg base C cs k f:=by
 intro A outer s H l ol fl QH Q hr e0 hl as a0 a1 hA hQ;obtain⟨oc,od,kV,a5,pm,an,a2,ct,a7,rfl,lk,a3⟩:=F.ex;have KX:K.In s.heap:=e0.mod.kin.keeps λb o e=>(e0.bs b o e).1;refine zoU (vs:=[.ref l]) (us:=[.ref l]) (E:=E0) (N:=[a,c]) lk a3 S rfl hr e0 (b s [.ref l] KX rfl) (.cons rfl .nil) λa4=>?_;rw[O];refine zdU (X:=zaN CX0 P w K mg base [a,c] x (zd st) f a2 A outer s H E0) (fr0:=frs outer) rfl rfl rfl a4 rfl q B I hn J er (g _ (by simp)) (g _ (by simp)) (g _ (by simp)) (g _ (by simp)) mv mi (zfJ hx gx) (λ_ _ _ z=>z) L hl a0 ?_ as ?_ hA (λe p H' z1 z2 z3 z4=>hQ e p H' z1 z2 z3 z4) rfl U Y Z ab ad ag al
 ·intro z;rcases ax.mp (show l∈s.heap.objs.size::frs outer from z) with z | z
  ·exact absurd (ak hl) (by rw[z];exact bW _)
  ·exact a1 z
 ·intro b z;rcases ax.mp (show b∈s.heap.objs.size::frs outer from z) with z | z
  ·exact .inr (Nat.le_of_eq z.symm)
  ·exact .inl z
end
def zoh (P:Addr)(q:Str)(H H1:Hp):Prop:=zgx P q H1/\(∀b o,b≠P->H b=some o->H1 b=some o)/\∀ps,H1 P=some (kO P (PySem.W.tabObj ps))->∃h:Heap,h.get? P=some (PySem.W.tabObj ps)
section
variable {X:Cx}{C P cc f:Addr}{cs:List Addr}{x:Str}{k:Nat}{p pos lpos:Pos}{params:Arguments}{body:Expr}{scope:Scope}{N:List Str}{cix:List (Option Nat)}
def zgl (bo:X.stack=X.env::X.outer)(a1:∀y,X.fn y=true)(R:zi5 X.prog X.w X.K X.mg X.base C cs (k+1) f)(hr:Room (k+2) X.A)(hg:Gl X x)(hm:X.mg x=some (.ref f))(hk:PySem.W.keepIn X.K (.ref f)=true)
  (c:CompOk X scope N cix) (a2:scope.isCoroutine=false) (Y:scope.isGenerator=false) (T:LamT X.K X.mg cc P) (hB:X.base.BuiltinsAt X.mg P) (L:X.env.code = .ref cc) (Z:defaultsOf params X.env=([],[]))
  (hp:∀cl pm U ab,bindArgs (PySem.W.kla_fn "<lambda>" (X.env.qual ++ "<lambda>") params body scope cl pm (.ref U) ab) ⟨[],[]⟩=pure [])
  (a3:(x==("__debug__" : Str))=false:=by decide) :
  PE X (.Call (.Name x p) [.Lambda params body scope lpos] [] pos) (λσ H Q=>zgx P (X.env.qual ++ "<lambda>") H/\∀H1,zoh P (X.env.qual ++ "<lambda>") H H1->∃QH:Hp->Prop,(∀ (l U:Addr) (cl:List (Str×Addr)) (A:Around) (outer:List Env) (s:Shared),Room k (A.deeper (PySem.W.envX (X.env.qual ++ "<lambda>") scope s.heap.objs.size l (.ref U) cl))->
    ∃t:TE,PE (zf7 X.prog X.w X.K X.mg X.base N (X.env.qual ++ "<lambda>") scope l (.ref U) cl A outer s H1 C (λ_ _ H'=>QH H')) body t/\t (zbV σ cix) H1 λ_ _=>False)/\
   ∀e p H',QH H'->H' e=none->e≠p->H' p=none->Q (.bl true) (upd (upd H' e (zfp e C)) p (.tup (cs.map V.ref)))):=by
 intro pins s σ H Q I h;obtain⟨a4,h⟩:=h;refine cN (zcG I hg hm ?_ a3);refine PySem.W.callWith_K (h₀:=X.base) I.ok.mod.kin hk ?_ rfl rfl;show wpAny _ _ (spliced ((false,eval (.Lambda params body scope lpos) X.env)::backTo pos (starEach [] X.env))) _ _ s;have ad:=c.cells I.ok
 have B:∀x a,(zfe X.env scope.names []).lookup x=some a->X.env.cells.lookup x=some a:=λx a e=>by
  rcases uM ad e with z | z
  ·exact z
  ·simp at z
 refine eQ (zjU I Z (zb9 ad) L T hB a4 λl U oc ab H1 s' I1 hl F a5 a7 bb ag O bd kp=>?_);obtain⟨QH,ht,hQ⟩:=h H1 ⟨ag,O,λps e=>⟨s'.heap,(I1.hok P _ e).1⟩⟩;refine dQ ⟨I1.kIn,?_⟩
 have al:l∉frs X.stack:=λz=>by obtain⟨_,o,ho,_⟩:=I.stack.mem z;exact absurd (ak ho) (eB.mpr a5)
 have bk:∀y a,X.env.cells.lookup y=some a->a∉frs X.stack:=λy a e z=>by
  rcases ax.mp (I1.stkSub a z) with q | q
  ·exact I1.cne y a e q
  ·obtain⟨_,o,ho,_⟩:=I1.ok.funs.mem q;exact absurd (ak ho) (eB.mpr (I1.ok.cab y a (a1 y) e))
 have an:zoc X.prog X.w X.K X.mg X.base C (k+1) l (frs X.stack) s' H1 QH:=by
  refine zi7 (N:=N) (σ:=zbV σ cix) (QH:=QH) (hp _ _ _ _) c.kind a2 Y c.cell hl F al a7 bb (λy z a e1 e2=>I1.ok.inj y z a (B y a e1) (B z a e2)) (λy hy=>?_) (λy a e=>⟨I1.cell y a (B y a e),I1.freeC y a (B y a e),bk y a (B y a e)⟩) (λj y v h1 h2 h3=>?_) ?_ (λA outer s2 bm=>ht l U _ A outer s2 bm)
  ·rcases hy with hy | hy
   ·exact absurd rfl (c.cell _ (ce hy))
   ·exact uc hy
  ·unfold zbV at h2;rw[aB] at h2
   cases e:cix[j]? with
   | none=>rw[e] at h2;cases h2
   | some o=>
    rw[e] at h2
    cases o with
    | none=>cases h2
    | some i=>
     have J:(σ[i]?).join=some v:=bh h2
     have as:σ[i]?=some (some v):=by
      cases q:σ[i]? with
      | none=>rw[q] at J;cases J
      | some z=>rw[q] at J;have:z=some v:=J;rw[this]
     obtain⟨q1,q2,q3⟩:=c.cap h1 e;obtain⟨m0,bs,F⟩:=I1.loc;obtain⟨u,ru,hu⟩:=F i y v q1 as (q3.elim (λz=>.inr (.inl z)) λz=>.inr (.inr z));refine⟨q2,u,?_⟩;rcases hu with ⟨z,_⟩ | ⟨_,a,ha,hcell⟩
     ·have z':X.env.scope.names.lookup y=some .local:=z
      simp_all
     ·obtain⟨a',a0⟩:=uc (env:=X.env) (cs:=[]) q2;have:a'=a:=by have:=(B y a' a0).symm.trans ha;exact bh this
      subst this;exact⟨a',ru,a0,hcell⟩
  ·unfold zbV;rw[ac,c.len]
 refine wpAny_call (dW (R X.A X.stack s' H1 l _ _ QH Q hr I1.env0 hl rfl F al an hQ) λr s2 hq=>?_)
 cases r with
 | error e=>exact False.elim hq
 | ok fl=>
  cases fl with
  | ret u=>exact I1.after hq
  | next=>exact False.elim hq
  | brk=>exact False.elim hq
  | cont=>exact False.elim hq
end
end L2
namespace L3
open PySem PySem.Spec L2
def spX (k:Nat)(F:List W->Prop):Sp:=λvs H _ E=>∃Pn A q n,Al A H/\zbQ A H q vs/\q.length=k/\yA Pn A n H/\F q/\∀v H',Go Pn A H n H'->E v none H'
structure JX (X:Cx)(E:XK)(Pn:PN)(M:List Nat)(sts:List Stmt)(f:Ev->Nat->Prop):Prop where
 ex:∃t,QSs X sts t/\∀A σ H ρ n D,EnvR A M σ H ρ->yA Pn A n H->f ρ n->(∀v H',Go Pn A H n H'->E v none H')->t D σ H
section
variable {X:Cx}{E:XK}{Pn:PN}{M:List Nat}{C:Addr}{e c:Expr}{es:List Expr}{b ye:List Stmt}{p pos p1 p2 np cpos:Pos}{x m:Str}{j:Nat}
def zsw(F:FrX C E X)(I:X.A.handled=none)(J:ExcC X.K X.mg x C)(L:JT X Pn M c f)(O:Gl X x:=by rfl)(B:(x==("__debug__" : Str))=false:=by decide) :
  JX X E Pn M (.If c [.Raise (some (.Call (.Name x np) [.Constant (.str m) j p1] [] cpos)) none pos] b p2::ye) (λρ n=>f ρ n λb m=>b=true/\m=n):=by
 obtain⟨tc,q,r⟩:=L.ex;refine⟨_,zy (zeV q (yj ⟨zkk F I J O B⟩) ⟨zbu⟩) ⟨zbu⟩,λA σ H ρ n D E P hf k=>r.run A σ H ρ n _ _ E P hf ?_⟩;rintro b m H' ⟨rfl,rfl⟩ g;exact iteT (λe=>k _ _ g)
def zhy(F:FrX C E X)(D:Dfn X.K X.mg x st ps fA fd)(G:FnOk X.prog X.w X.K X.mg X.base (CX1 X.prog X.w C) j fA fd ps (spX k Fp))(L:Room kk X.A)(O:JA X Pn M (e::es) fs)(B:j<=kk:=by decide)(U:Gl X x:=by rfl)(I:(x==("__debug__" : Str))=false:=by decide)(Y:starEach (e::es) X.env=(false,eval e X.env)::starEach es X.env:=by rfl)(J:(backTo pos (starEach es X.env)).any (·.1)=false:=by rfl)(Z:swapsWith (.Call (.Name x p) (e::es) [] pos) none p2.line X.env=pure false:=by rfl) :
  JX X E Pn M (.Expr (.Call (.Name x p) (e::es) [] pos) p2::ye) (λρ n=>fs ρ n λq m=>m=n/\q.length=k/\Fp q):=by
 obtain⟨ta,qa,ra⟩:=O.ex;refine⟨_,zy ⟨zig (zeP G (L.mono B) U D.m D.F.kp D.b .nil F.pass qa.run I Y J) Z⟩ ⟨zbu⟩,λA σ H ρ n D E P hf k=>?_⟩;refine ra.run A σ H ρ n _ _ E P hf ?_;rintro q m vs H1 ⟨rfl,hk,hF⟩ b g;rw[bc];exact⟨Pn,A,q,m,(E.stay g.st).al,b,hk,g.pn,hF,λv H' g2=>k v H' (g.trans g2)⟩
end
def okX(Fu:Fun K x qual st f fd)(S:FnScope N ps (zd st))(Z:m=ps.length)(I:∀ (B:Value) (A:Around) (outer:List Env) (s:Shared) (H:Hp) (E:XK) (Pn:PN),Room k (A.deeper (PyProof.Rows.envOfC qual (zd st) s.heap.objs.size f B))->
   ∃fs,JX (zaN (CX1 P w C) P w K mg base N qual (zd st) f B A outer s H E) E Pn [] (zU st) fs/\∀J n,J.length=m->F J->fs (xp N J) n):FnOk P w K mg base (CX1 P w C) (k+1) f fd ps (spX m F):=by
 obtain⟨oc,od,kV,ab,pm,an,B,ct,ad,rfl,lk,L⟩:=Fu.ex;refine zl1 lk L S (λvs H Q E h=>?_) (λA outer s H vs Q E hr h=>?_)
 ·obtain⟨Pn,A,J,n,_,O,U,_⟩:=h;rw[O.len,U,Z]
 ·obtain⟨Pn,A3,J,n,al,O,U,hp,hF,q⟩:=h;obtain⟨fs,⟨t,qs,rs⟩,Y⟩:=I B A outer s H E Pn hr;exact⟨t,qs.run,rs A3 (L2.yO N vs) H (xp N J) n _ (za2 al O (λi hi=>by cases hi)) hp (Y J n U hF) q⟩
def zhW(h:∃h:Heap,h.get? P=some ob):¬ NP (kO P ob):=λn=>by have:=n [(Sum.inr "at",.non)] (by unfold kO pnK;dsimp only;rw[if_pos ⟨P,ob,h,rfl⟩]);cases this
def zf1 (P:Addr)(q:Str)(A:Addr->Prop)(H:Hp):Prop:=¬ A P/\∃ps:Array Value,H P=some (kO P (PySem.W.tabObj ps))/\(∃h:Heap,h.get? P=some (PySem.W.tabObj ps))/\TriplesOk ps.toList/\
 ∀pos cv,codeAmong pos ps.toList=some cv->∃B F,cv = .ref B/\H B=some (zdk F)/\ze9 F q/\¬ A B
def zeI:¬ Mt (zdk q):=λz=>by cases z
def zf1.ch(h:zf1 P q A H)(h1:¬ A P->(∃ob,H P=some (kO P ob)/\∃h:Heap,h.get? P=some ob)->¬ A' P/\H' P=H P)(h2:∀c B,¬ A c->H c=some (zdk B)->¬ A' c/\H' c=H c):zf1 P q A' H':=by obtain⟨n,ps,F,g2,L,O⟩:=h;obtain⟨U,e⟩:=h1 n ⟨_,F,g2⟩;refine⟨U,ps,by rw[e];exact F,g2,L,λpos cv z=>?_⟩;obtain⟨I,B,Y,J,Z,z4⟩:=O pos cv z;obtain⟨y1,y2⟩:=h2 I B z4 J;exact⟨I,B,Y,by rw[y2];exact J,Z,y1⟩
def zfR (P:Addr)(q:Str):Jv where
 K:=zf1 P q
 same:=λh s=>h.ch (λn ⟨ob,e,_⟩=>⟨n,by rw[s _ _ e,e]⟩) λc I n e=>⟨n,by rw[s _ _ e,e]⟩
 grow:=λh g=>h.ch (λn ⟨ob,e,w⟩=>⟨λz=>(g _ z).elim n λ⟨o,B,F,_⟩=>by rw[e] at B;cases B;exact zhW w F,rfl⟩) λc I n e=>⟨λz=>(g _ z).elim n λ⟨o,B,_,F⟩=>by rw[e] at B;cases B;exact zeI F,rfl⟩
 upd:=λh a=>h.ch (λn _=>⟨n,zb λz=>n (z ▸ a)⟩) λc I n e=>⟨n,zb λz=>n (z ▸ a)⟩
 frz:=λh B F J=>h.ch (λn ⟨ob,e,w⟩=>⟨n,zb λz=>by subst z;rw[e] at B;cases B;exact zhW w F⟩) λc I n e=>⟨n,zb λz=>by subst z;rw[e] at B;cases B;exact zeI J⟩
def zf1.tab(h:zf1 P q A H):zgx P q H:=by obtain⟨n,ps,B,g2,F,I⟩:=h;exact⟨ps,B,F,λpos cv z=>let ⟨c',oc,z1,z2,z3,_⟩:=I pos cv z;⟨c',oc,z1,z2,z3⟩⟩
def zf1.grown(h:zf1 P q A H)(J:Al A H)(g:zoh P q H H1):zf1 P q A H1/\zn H H1:=by
 obtain⟨n,L,k1,k2,_⟩:=h;obtain⟨⟨ps,F,O,U⟩,kp,Y⟩:=g;refine⟨⟨n,ps,F,Y ps F,O,λpos cv z=>?_⟩,λb o e np=>kp b o (λz=>?_) e⟩
 ·obtain⟨B,Z,z1,I,z3⟩:=U pos cv z;refine⟨B,Z,z1,I,z3,λy=>?_⟩;obtain⟨o,e1,_,e3⟩:=J B y;have:=kp B o (λz=>n (z ▸ y)) e1;rw[I] at this;cases this;exact zeI e3
 ·subst z;rw[k1] at e;cases e;exact zhW k2 np
section
variable {X:Cx}{Pn:PN}{M:List Nat}{C P cc f:Addr}{cs:List Addr}{x y:Str}{k kk m:Nat}{p pos lpos p1 p2:Pos}{params:Arguments}{e:Expr}{es:List Expr}{scope:Scope}{N:List Str}{cix:List (Option Nat)}
 {st:Stmt} {ps:List Str} {fA:Addr} {fd:FuncData} {Fp:List W->Prop} {fs:Ev->Mo (List W)} {j:Nat}
def mRef (Pn:PN)(P:Addr)(q:Str)(m:Nat)(Fp:List W->Prop)(cix:List (Option Nat))(fs:Ev->Mo (List W)):Ev->Mo W:=λρ n Q=>Pn.J=zfR P q/\(fs (zf3 ρ cix) n λB F=>F=n/\B.length=m/\Fp B)/\Q (.d (.bl true)) n
def zdu (U:X.stack=X.env::X.outer)(Y:∀y,X.fn y=true)(R:zi5 X.prog X.w X.K X.mg X.base C cs (k+1) f)(hr:Room kk X.A)(Z:k+2<=kk)(hm:X.mg x=some (.ref f))(hk:PySem.W.keepIn X.K (.ref f)=true)
  (c:CompOk X scope N cix) (ab:(cix.filterMap id).Nodup) (ad:scope.isCoroutine=false) (I:scope.isGenerator=false) (T:LamT X.K X.mg cc P) (hB:X.base.BuiltinsAt X.mg P) (q:X.env.code = .ref cc) (J:defaultsOf params X.env=([],[]))
  (hp:∀cl pm B ag,bindArgs (PySem.W.kla_fn "<lambda>" (X.env.qual ++ "<lambda>") params (.Call (.Name y p1) (e::es) [] p2) scope cl pm (.ref B) ag) ⟨[],[]⟩=pure [])
  (D:Dfn X.K X.mg y st ps fA fd) (G:FnOk X.prog X.w X.K X.mg X.base (CX1 X.prog X.w C) j fA fd ps (spX m Fp)) (an:j<=k) (as:scope.names.lookup y=some .globalImplicit)
  (ha:∀ (l B:Addr) (cl:List (Str×Addr)) (QH:Hp->Prop) (A:Around) (outer:List Env) (s:Shared) (H:Hp),Room k (A.deeper (PySem.W.envX (X.env.qual ++ "<lambda>") scope s.heap.objs.size l (.ref B) cl))->
   JA (zf7 X.prog X.w X.K X.mg X.base N (X.env.qual ++ "<lambda>") scope l (.ref B) cl A outer s H C (λ_ _ H'=>QH H')) Pn (zaI M cix) (e::es) fs)
  (hg:Gl X x:=by rfl) (a0:(x==("__debug__" : Str))=false:=by decide) (a1:(y==("__debug__" : Str))=false:=by decide)
  (he:∀env,starEach (e::es) env=(false,eval e env)::starEach es env:=by intro _;rfl) (a2:∀env,(backTo p2 (starEach es env)).any (·.1)=false:=by intro _;rfl) :
  JE X Pn M false (.Call (.Name x p) [.Lambda params (.Call (.Name y p1) (e::es) [] p2) scope lpos] [] pos) (mRef Pn P (X.env.qual ++ "<lambda>") m Fp cix fs):=by
 refine⟨_,⟨zgl (k:=k) (cs:=cs) (N:=N) (cix:=cix) (P:=P) U Y R (hr.mono Z) hg hm hk c ad I T hB q J hp a0⟩,⟨λA σ H ρ n Q R E Pp hf kq=>?_⟩⟩;obtain⟨hJ,hf,hR⟩:=hf;have tj:zf1 P (X.env.qual ++ "<lambda>") A H:=by have:=Pp.2;rw[hJ] at this;exact this
 refine⟨tj.tab,λH1 g=>?_⟩;obtain⟨a3,L⟩:=tj.grown E.al g;have E1:=E.stay L
 have P1:yA Pn A n H1:=by
  refine⟨?_,by rw[hJ];exact a3⟩;have:=Pp.1;split at this
  ·trivial
  ·obtain⟨_,a5,k1,_⟩:=tj;obtain⟨⟨⟨a,l,h1,h2,h3,h4⟩,⟨ob,h5⟩,h6⟩,h7⟩:=this;exact⟨⟨⟨a,l,g.2.1 _ _ (λz=>by rw[z,k1] at h1;cases h1) h1,h2,h3,h4⟩,⟨ob,g.2.1 _ _ (λz=>by rw[z,k1] at h5;cases h5) h5⟩,h6⟩,h7⟩
 refine⟨λH'=>Go Pn A H1 n H',λl B cl A' outer s O=>?_,λe p H' g2 z1 z2 z3=>?_⟩
 ·obtain⟨ta,qa,ra⟩:=(ha l B cl (λH'=>Go Pn A H1 n H') A' outer s H1 O).ex;refine⟨_,zeP (E:=λ_ _ H'=>Go Pn A H1 n H') G (O.mono an) as D.m D.F.kp D.b .nil zl5.pass qa.run a1 (he _) (a2 _),?_⟩;refine ra.run A _ H1 _ n _ _ (E1.cap ab) P1 hf ?_;rintro ws m' vs H2 ⟨rfl,a4,hF⟩ b g3;rw[bc];exact⟨Pn,A,ws,m',((E1.stay g3.st)).al,b,a4,g3.pn,hF,λv H' g4=>g3.trans g4⟩
 ·have s1:yz H' (upd H' e (zfp e C)):=yz.upd z1;have s2:yz (upd H' e (zfp e C)) (upd (upd H' e (zfp e C)) p (.tup (cs.map V.ref))):=yz.upd (by rw[zb z2.symm];exact z3);have g5:Go Pn A H1 n (upd (upd H' e (zfp e C)) p (.tup (cs.map V.ref))):=(g2.trans (Go.same g2.pn s1)).trans (Go.same ((Go.same g2.pn s1).pn) s2);exact kq _ n _ _ hR (Val.of rfl) ⟨L.trans g5.st,g5.pn⟩ λz=>by cases z
end
end L3
namespace L2
open PySem PySem.Spec PyProof.Rows
def zi4 (T:Addr)(H:Hp):Prop:=(∀b,b≠T->H b=none\/∃o xs,H b=some (.frz o (.lst xs)))/\H T=some (kO T (PySem.W.tabObj #[]))/\∃h:Heap,h.get? T=some (PySem.W.tabObj #[])
def zhE{P:Program}{w:World}{K:PySem.W.Frag}{mg mb:Str->Option Value}{CX:CXT}{fa a T:Addr}{fd:FuncData}{sp:Sp}{B:Shared}{vs:List Value}{ns:List Int}(KX:K.In B.heap)(hT:B.heap.get? T=some (PySem.W.tabObj #[]))(a1:K.lookup T=none)(a2:isCodeTable B.heap T)(ad:B.heap.Ns mainGlobals mg)(I:B.heap.Ns builtinsNs mb)(a3:∀x:Str,x ≠ "__name__" -> mb x=bootBuiltins x)(ag:B.heap.NoLimit)(hg:B.gens = #[])(ha:B.heap.get? a=some { cls:=.type "list",data:=.seq vs.toArray })(hi:IntsAre vs ns)(hl:ns.length<=sizeLine)(hr:Room k callerA)(a4:B.heap.BuiltinsAt mg T)(F:∀base:Heap,K.In base->base.Ns mainGlobals mg->base.BuiltinsAt mg T->FnOk P w K mg base CX k fa fd [x] sp)(ab:∀ (s:Shared) (u:Value),BindsTo s fd ⟨[u],[]⟩ [(x,u)])(a5:∀H:Hp,zi4 T H->SqL K H a (ns.map V.int)->sp [.ref a] H (λv H'=>v = .bl true/\∃ps,H' T=some (kO T (PySem.W.tabObj ps))) λ_ _ _=>False)(a7:∀H e s',CX [] H B (λ_ _ _=>False) e s'->False) :
  codeAny (model P w) callerA (.call (.ref fa) ⟨[.ref a],[]⟩) (λr s'=>r = .ok (.ret (.bool true))/\OldK B.heap s'.heap/\s'.os=B.os/\AllBare s'.gens) B:=by
 have rv:=zd8 hi;have bk:=hi.length;have al:a≠T:=λz=>by rw[z,hT] at ha;cases ha
 have U:∀H:Hp,zi4 T H->SqL K H a (ns.map V.int)->HOk P w H B.heap->(∀b,H b≠none->b=a\/b=T)->(H a≠none->K.lookup a=none)->
   codeAny (model P w) callerA (.call (.ref fa) ⟨[.ref a],[]⟩) (λr s'=>r = .ok (.ret (.bool true))/\OldK B.heap s'.heap/\s'.os=B.os/\AllBare s'.gens) B:=by
  intro H hO hS an hA hK;have J:∀ {b:Addr} {o:Obj},B.heap.get? b=some o->H b=none->(zi2 B.heap H).get? b=some o:=λe n=>zjv e n
  have bb:∀ {b:Addr} {o:Obj} {es:Array DictEntry} {ep:Nat},B.heap.get? b=some o->o.data = .dict es ep->H b=none:=λ{b o es ep} e d=>by
   cases q:H b with
   | none=>rfl
   | some u=>
    rcases hA b (by rw[q];simp) with z | z
    ·rw[z,ha] at e;cases e;cases d
    ·rw[z,hT] at e;cases e;cases d
  have O:∀ {b:Addr} {m:Str->Option Value},B.heap.Ns b m->(zi2 B.heap H).Ns b m:=λ{b m} ⟨o,es,ep,e,d,r⟩=>⟨o,es,ep,J e (bb e d),d,r⟩
  have as:K.In (zi2 B.heap H):=λb o e=>J (KX b o e) (by
   cases q:H b with
   | none=>rfl
   | some u=>
    rcases hA b (by rw[q];simp) with z | z
    ·have:=hK (by rw[<- z,q];simp);rw[z,this] at e;cases e
    ·rw[z,a1] at e;cases e)
  have hM:Mod K mg (zi2 B.heap H):=⟨as,O ad,⟨mb,O I,a3⟩,let ⟨mc,h1,h2⟩:=ag;⟨mc,O h1,h2⟩⟩;have e0:Env0 P w K mg (zi2 B.heap H) callerA [] B H:=⟨rfl,hM,λb o e=>zmS e,Nat.le_of_eq (zhg _ _),trivial,λb I=>absurd (show b∈([]:List Addr) from I) (by simp),an,.of_eq hg⟩
  have hB:(zi2 B.heap H).BuiltinsAt mg T:=by
   obtain⟨bm,o,b1,b2,b3,b4,b5,b6,b7,b8⟩:=a4;refine⟨bm,o,b1,b2,b3,b4,J b5 ?_,b6,b7,b8⟩
   cases q:H bm with
   | none=>rfl
   | some u=>
    rcases hA bm (by rw[q];simp) with z | z
    ·rw[z,ha] at b5;cases b5;cases b8
    ·exact absurd z b4
  refine dW ((F _ as (O ad) hB).run callerA [] B H ⟨[.ref a],[]⟩ [.ref a] [.ref a] _ _ hr e0 (ab B (.ref a)) (.cons rfl .nil) (a5 H hO hS)) λr s' h=>?_
  cases r with
  | error e=>exact (a7 H e s' h).elim
  | ok fl=>
   cases fl with
   | next=>exact False.elim h
   | brk=>exact False.elim h
   | cont=>exact False.elim h
   | ret u=>
    obtain⟨v,H',os,a0,un,Y,r',q⟩:=h;obtain⟨q',ps,bd⟩:v = .bl true/\∃ps,H' T=some (kO T (PySem.W.tabObj ps)):=q;subst q';obtain rfl:u=Value.bool true:=r';have gT:s'.heap.get? T=some (PySem.W.tabObj ps):=(Y T _ bd).1
    have Z:∀b o,b≠T->B.heap.get? b=some o->s'.heap.get? b=some o:=λb o I e=>by
     cases q:H b with
     | none=>exact un.keep b o e q (by intro z;exact absurd (show b∈([]:List Addr) from z) (by simp)) (by simp)
     | some u=>
      rcases hO.1 b I with z | ⟨ob,xs,z⟩
      ·rw[z] at q;cases q
      ·have z2:=un.frzs b ob _ z;obtain⟨e1,_⟩:=an b _ z;obtain⟨e2,_⟩:=Y b _ z2
       grind
    refine⟨rfl,⟨λb o e=>?_,λb o e=>?_⟩,os,a0⟩
    ·by_cases I:b=T
     ·subst I;rw[hT] at e;cases e;exact .inr (.inl ⟨a2,rfl,#[],ps,rfl,by rw[gT,Array.empty_append]⟩)
     ·exact .inl (Z b o I e)
    ·by_cases I:b=T
     ·exact⟨_,by rw[I];exact gT⟩
     ·exact⟨_,Z b o I e⟩
 have okT:∀H:Hp,zD P w H B.heap T (kO T (PySem.W.tabObj #[])):=λH=>⟨hT,⟨_,hT⟩,λh1 h2 p k=>k _ p⟩
 cases hk:K.lookup a with
 | some o=>
  have e:=KX a o hk;rw[ha] at e;cases e;refine U (λb=>if b=T then some (kO T (PySem.W.tabObj #[])) else none) ⟨λb I=>.inl (if_neg I),if_pos rfl,_,hT⟩ (.inr ⟨_,vs.toArray,_,hk,rfl,rfl,rfl,by simp_all,by simpa using rv⟩) (λb u z=>?_) (λb z=>?_) λz=>absurd (if_neg al) z
  ·by_cases I:b=T
   ·have z':=(if_pos I).symm.trans z;cases z';subst I;exact okT _
   ·simp_all
  ·by_cases I:b=T
   ·exact .inr I
   ·exact absurd (if_neg I) z
 | none=>
  refine U (λb=>if b=a then some (.frz { cls:=.type "list",data:=.seq vs.toArray } (.lst (ns.map V.int))) else if b=T then some (kO T (PySem.W.tabObj #[])) else none) ⟨λb I=>?_,?_,_,hT⟩ (.inl (.inr ⟨{ cls:=.type "list",data:=.seq vs.toArray },if_pos rfl⟩)) (λb u z=>?_) (λb z=>?_) λ_=>hk
  ·by_cases L:b=a
   ·exact .inr ⟨_,_,if_pos L⟩
   ·exact .inl (by show (if b=a then _ else _)=none;rw[if_neg L,if_neg I])
  ·show (if T=a then _ else _)=some _;rw[if_neg al.symm,if_pos rfl]
  ·by_cases I:b=a
   ·have z':=(if_pos I).symm.trans z;cases z';subst I;exact⟨ha,by simp_all,vs,_,rv,ha⟩
   ·have z':(if b=T then some (kO T (PySem.W.tabObj #[])) else none)=some u:=(if_neg I).symm.trans z;by_cases L:b=T
    ·rw[if_pos L] at z';cases z';subst L;exact okT _
    ·rw[if_neg L] at z';cases z'
  ·by_cases I:b=a
   ·exact .inl I
   ·by_cases L:b=T
    ·exact .inr L
    ·exact absurd (show (if b=a then _ else _)=none by rw[if_neg I,if_neg L]) z
def zkN{l:PySem.W.OpenLaw}{q:Program}{J:List Str}{XP:(Str->Option Value)->Heap->Prop}{YP:World->Heap->Prop}{d:DefRec}{K:Params->PySem.W.Frag}{CX:World->CXT}{sp:World->Sp}{T:Addr}(hn:l.most=some n)(Z:n<=sizeLine)(ab:d.params.defaults=[])(hr:Room k callerA)(hY:∀ (w:World) (h:Heap),YP w h->(K w.params).In h/\h.get? T=some (PySem.W.tabObj #[]))(ad:∀w:World,(K w.params).lookup T=none)(F:∀ (w:World) (mg:Str->Option Value) (fa:Addr) (h:Heap),(K w.params).In h->h.Ns mainGlobals mg->mg d.name=some (.ref fa)->
   ∃fd:FuncData,(∀ (s:Shared) (u:Value),BindsTo s fd ⟨[u],[]⟩ [(x,u)])/\(∀h:Heap,(K w.params).In h->∃c,PySem.W.CodeHd h c T)/\
    ∀base:Heap,(K w.params).In base->base.Ns mainGlobals mg->base.BuiltinsAt mg T->FnOk l.prog w (K w.params) mg base (CX w) k fa fd [x] (sp w))(ag:∀ (w:World) (H:Hp) (a:Addr) (ns:List Int),ns.length<=n->zi4 T H->SqL (K w.params) H a (ns.map V.int)->sp w [.ref a] H (λv H'=>v = .bl true/\∃ps,H' T=some (kO T (PySem.W.tabObj ps))) λ_ _ _=>False)(al:∀ (w:World) (H:Hp) (s:Shared) (e:Value) (s':Shared),CX w [] H s (λ_ _ _=>False) e s'->False) :
  PySem.W.WalkO q J XP YP l.row.toRowW d [] (λf vs=>PySem.call f vs):=by
 refine Att.attach_call hn ab λw a0 B mg mb fa o pm cd a1 a vs ns G Y ho hd a2 an O L I hg=>?_;obtain⟨KX,hT⟩:=hY w _ Y;obtain⟨fd,hb,hC,hF⟩:=F w mg fa _ KX G.T.g an;obtain⟨c,hC⟩:=hC _ KX
 have as:B.heap.BuiltinsAt mg T:=by
  obtain⟨bm,ob,b1,b2,U,b4,b5,b6⟩:=G.T.bmain;refine⟨bm,ob,b1,b2,λz=>?_,λz=>?_,U,b4,b5,b6⟩
  ·obtain⟨o,es,ep,e,hd,_⟩:=G.T.g;rw[<- z,U] at e;cases e;rw[b6] at hd;cases hd
  ·rw[z,hT] at U;cases U;cases b4
 exact zhE KX hT (ad w) (hC.tab hT).isCodeTable G.T.g G.T.b G.T.builtins G.T.nolimit hg O L (ah I Z) hr as hF hb (λH hO hS=>ag w H a ns I hO hS) λH e s'=>al w H B e s'
def zd1 (K:PySem.W.Frag)(T:Addr):Sp:=λvs H Q _=>∃ (a:Addr) (ns:List Int),vs=[.ref a]/\SqL K H a (ns.map V.int)/\ns.length<=63/\zi4 T H/\∀H',(∃ps,H' T=some (kO T (PySem.W.tabObj ps)))->Q (.bl true) H'
end L2
namespace L3
open PySem PySem.Spec L2
def zpx {P:Program}{w:World}{K:PySem.W.Frag}{mg:Str->Option Value}{base:Heap}{x qual:Str}{st:Stmt}{f T:Addr}{fd:FuncData}{N ps:List Str}{k r:Nat}{S:List Nat}{lq:Str}(M:List Nat)(Fu:Fun K x qual st f fd)(Sc:FnScope N ps (zd st))(ab:ps.length=1)(hN:N.length=r+2)(hM:∀i∈M,2<=i)
  (L:∀ (B:Value) (A:Around) (outer:List Env) (s:Shared) (H:Hp) (E:XK) (Pn:PN),Room k (A.deeper (PyProof.Rows.envOfC qual (zd st) s.heap.objs.size f B))->fd.code=B->
   ∃J ye fs,zU st=J::ye/\QS (zaN CX0 P w K mg base N qual (zd st) f B A outer s H E).nox J (zgu (zd4 (zkF K) [] E0 (zd5 (ze6 0) zoa)) (zaK 1))/\
    JSs (zaN CX0 P w K mg base N qual (zd st) f B A outer s H E).nox Pn S M false ye fs/\∀p c ns,Pn=⟨some (p,c,ns),zfR T lq⟩->fs (none::some (.pen p)::List.replicate r none) 0 { nx:=λ_ _=>False,rt:=λw _=>w = .d (.bl true) }):FnOk P w K mg base CX0 (k+1) f fd ps (zd1 K T):=by
 obtain⟨oc,od,kV,al,pm,an,B,ct,as,rfl,lk,ad⟩:=Fu.ex;refine zl1 lk ad Sc (λvs H Q E h=>?_) (λA outer s H vs Q E hr h=>?_)
 ·obtain⟨a,ns,rfl,_⟩:=h;exact ab.symm
 ·obtain⟨a,ns,rfl,hS,hl,hO,q⟩:=h
  suffices hh:∃t,QSs (zaN CX0 P w K mg base N qual (zd st) f B A outer s H E).nox (zU st) t/\t { nx:=λ_ H'=>Q .non H',rt:=Q } (L2.yO N [.ref a]) H by obtain⟨t,h1,h2⟩:=hh;exact⟨t,h1.run.nox,h2⟩
  have O:=λ(Pn:PN)=>L B A outer s H E Pn hr rfl
  have Y:L2.yO N [.ref a]=some (.ref a)::none::List.replicate r none:=by unfold L2.yO;rw[hN];rfl
  have hd:∃J ye,zU st=J::ye:=let ⟨J,ye,_,e,_⟩:=O ⟨none,zfR T lq⟩;⟨J,ye,e⟩;obtain⟨J,ye,e0⟩:=hd;rw[e0]
  have Z:∀Pn,∃fs,JSs (zaN CX0 P w K mg base N qual (zd st) f B A outer s H E).nox Pn S M false ye fs/\∀p c ns,Pn=⟨some (p,c,ns),zfR T lq⟩->fs (none::some (.pen p)::List.replicate r none) 0 { nx:=λ_ _=>False,rt:=λw _=>w = .d (.bl true) }:=λPn=>by obtain⟨ag,U,fs,e,_,h1,h2⟩:=O Pn;rw[e0] at e;cases e;exact⟨fs,h1,h2⟩
  have q1:QS (zaN CX0 P w K mg base N qual (zd st) f B A outer s H E).nox J (zgu (zd4 (zkF K) [] E0 (zd5 (ze6 0) zoa)) (zaK 1)):=by
   obtain⟨ag,U,fs,e,h0,_⟩:=O ⟨none,zfR T lq⟩
   simp_all
  refine⟨_,zy q1 (u:=λD σ H=>∃Pn,(Z Pn).choose_spec.1.ex.choose D σ H) ⟨λpins s' σ H D I ⟨Pn,z⟩=>(Z Pn).choose_spec.1.ex.choose_spec.1.run pins s' σ H D I z⟩,?_⟩;refine⟨.ref a,by rw[Y];rfl,a,ns,rfl,hS,hl,λp c H1 P1 S1=>⟨⟨some (p,c,ns),zfR T lq⟩,?_⟩⟩;have hs:=(Z ⟨some (p,c,ns),zfR T lq⟩).choose_spec.2 p c ns rfl;have e1:(L2.yO N [.ref a]).set 1 (some (.ref p))=some (.ref a)::some (.ref p)::List.replicate r none:=by rw[Y];rfl
  rw[e1]
  have F:∀i (u:W),(none::some (.pen p)::List.replicate r none:Ev)[i]?=some (some u)->i=1/\u = .pen p:=λi u e=>by
   match i,e with
   | 0,e=>simp at e
   | 1,e=>exact⟨rfl,by simpa using e.symm⟩
   | i+2,e=>
    simp only[cH] at e;obtain⟨_,q⟩:=aj.mp e
    simp_all
  have tj:zf1 T lq (λ_=>False) H1:=⟨λz=>z,#[],S1 _ _ hO.2.1,hO.2.2,trivial,λpos cv z=>by cases z⟩;refine (Z ⟨some (p,c,ns),zfR T lq⟩).choose_spec.1.ex.choose_spec.2.run { A0:=λ_=>False,H0:=λ_=>none,G0:=λ_=>none,σ0:=some (.ref a)::some (.ref p)::List.replicate r none } (λ_=>False) _ H1 _ 0 _ _ ⟨⟨?_,?_,?_,λ_ z=>z.elim⟩,⟨λ_ z=>z,λ_ z=>z.elim,(λb o (z:(none:Option HO)=some o)=>nomatch z),λ_ z=>z.elim,λ_ z=>z.elim,λ_ z=>z.elim⟩,⟨⟨P1,λz=>z,λz=>z⟩,tj⟩,(λb o (z:(none:Option HO)=some o)=>nomatch z),⟨λi hi=>rfl,λ_=>⟨λb xs (z:(none:Option HO)=some (.lst xs))=>(nomatch z),λb xs (z:(none:Option HO)=some (.lst xs))=>(nomatch z)⟩⟩,?_⟩ ⟨?_,?_,?_,λ_ z=>z,?_⟩ hs
  ·simp
  ·intro i u e;obtain⟨rfl,rfl⟩:=F i u e;exact⟨.ref p,rfl,λ_=>rfl,λz=>absurd (hM 1 z) (by lia)⟩
  ·intro i j u u' b hi hj a0 e1;obtain⟨rfl,rfl⟩:=F i u e1;exact absurd (hM 1 hi) (by lia)
  ·intro i u b hi e;obtain⟨rfl,rfl⟩:=F i u e;exact absurd (hM 1 hi) (by lia)
  ·intro _ _ _ _ _ _ z;exact z.elim
  ·intro _ _ _ _ _ _ z;exact z.elim
  ·intro _ _ _ _ _ _ z;exact z.elim
  ·intro w n' v H' hv st pn _ r;have r':w = .d (.bl true):=r;subst r';have:v = .bl true:=hv;subst this;obtain⟨_,ps,h1,_⟩:=pn.2;exact q H' ⟨ps,h1⟩
end L3
namespace L2
open PySem PySem.Spec PyProof.Rows
def zly:Sp:=λvs H Q _=>∃ (p c:Addr) (ns:List Int) (n:Nat) (zA:Int),vs=[.ref p,.int zA]/\Pen H p c ns n/\n<=1000000/\1<=zA/\zA<1073741824/\
 ∀ (r:Int) (H':Hp),0<=r->r<zA->Pen H' p c ns (n+1)->(∀b o,b≠p->H b=some o->H' b=some o)->Q (.int r) H'
def zei:∀b u,b≠p->H b=some u->upd H p o b=some u:=λb u q e=>by rw[zb q];exact e
section
variable {X:Cx}
def zja (Y:X.calm=true):zbS X (.builtin "any") (λxs H Q=>∃ (p:Addr) (bs:List Bool),xs=[.ref p]/\Rd H p (.lst (bs.map V.bl))/\Q (.bl (bs.any id)) H):=by
 intro pins s σ H xs us Q I r h;obtain⟨p,bs,rfl,hp,q⟩:=h;obtain⟨u,rfl,Z⟩:=zbP r;cases Z;obtain⟨its,O,pl,hz⟩:=I.list (.inl hp);have B:=O.length;rw[ac] at B
 have W:Walks X.prog X.w X.A.in1 s.heap.objs.size [s.heap.objs.size,p] [s.heap.objs.size] its.toArray.size (λi v=>its.toArray[i]?=some v) (λi h=>h.IsListIter s.heap.objs.size p i/\h.IsList p its.toArray):=by refine Walks.list (A:=X.A.in1) (I.ok.hd Y) s.heap.objs.size p ?_ its.toArray;obtain⟨o,_,ho,_⟩:=pl;exact aD (ak ho)
 refine call_any_walk (cS pl.isList ⟨s.heap.objs.size,_,_,_,_,_,λi=>bs.getD i false,rfl,W,⟨?_,?_⟩,?_,?_⟩)
 ·exact⟨_,am _ rfl,rfl,rfl⟩
 ·exact pl.isList.at λo e=>ae _ e
 ·intro i v s' Q' E' hP J;have L:its[i]?=some v:=by simpa using hP
  have hi:i<bs.length:=by grind
  have hb:(bs.map V.bl)[i]?=some (V.bl bs[i]):=by simp[hi]
  obtain⟨u',F,rb⟩:=O.get hb;rw[L] at F;cases F;cases rb;have:bs.getD i false=bs[i]:=by simp[hi]
  dsimp only at J;rw[this] at J;exact b9 J
 ·intro h' tk hk
  have e:(List.range its.toArray.size).any (λi=>bs.getD i false)=bs.any id:=by rw[aR,<- B];exact ziA
  rw[e];exact⟨.bl _,H,I.kept (t':=tk) λb o U=>hk b o (by simp;exact aD (ak U)) (ae _ U),rfl,q⟩
def zox (q:X.calm=true):CallQ X (.builtin "any") (λxs H Q=>∃ (p:Addr) (bs:List Bool),xs=[.ref p]/\Rd H p (.lst (bs.map V.bl))/\Q (.bl (bs.any id)) H):=⟨zja q⟩
end
end L2
namespace L3
open PySem L2
def PenJ (J:Jv):Prop:=∀A H H' p c a l,J.K A H->H p=some (.dK (zab c a l))->(∀b o,b≠p->H b=some o->H' b=some o)->J.K A H'
def zkf:PenJ (zfR P q):=λA H H' p c a l h hp k=>zf1.ch h (λn ⟨ob,e,_⟩=>⟨n,by rw[k _ _ (λz=>by rw[z,hp] at e;cases e) e,e]⟩) λc B n e=>⟨n,by rw[k _ _ (λz=>by rw[z,hp] at e;cases e) e,e]⟩
def IsQ (Pn:PN)(p:Addr):Prop:=(∃c ns,Pn.pn=some (p,c,ns))/\PenJ Pn.J
def zgw:FV:=λPn q n R=>∃p zA,IsQ Pn p/\q=[.pen p,.d (.int zA)]/\n<=1000000/\1<=zA/\zA<1073741824/\∀r,0<=r->r<zA->R (.d (.int r)) (n+1)
def zhH:zro 2 false zgw zly:=by
 rintro vs H Q E ⟨Pn,A,ws,n,R,al,L,hl,hp,⟨p,zA,⟨⟨c,ns,B⟩,O⟩,rfl,h1,h2,U,Y⟩,q⟩;obtain⟨v,y,rfl,Z,b2⟩:=zt3 L;have e1:v = .ref p:=Z;have e2:y = .int zA:=b2;subst e1 e2;obtain⟨F,I⟩:=hp;rw[B] at F;obtain⟨P1,nc,np⟩:=F;obtain⟨a,l,J,_⟩:=P1.ob;refine⟨p,c,ns,n,zA,rfl,P1,h1,h2,U,λr H' r0 r1 P' S'=>q _ (n+1) _ H' (Y r r0 r1) (Val.of rfl) ⟨λb o e n'=>S' b o (λz=>?_) e,⟨?_,O _ _ _ _ _ _ _ I J S'⟩⟩ λz=>by cases z⟩
 ·subst z;rw[J] at e;cases e;have:=n' _ rfl;rw[zm9] at this;cases this
 ·rw[B];exact⟨P',nc,np⟩
def tk{zA:Int}(q:IsQ Pn p)(h:∀r,0<=r->r<zA->Q (.d (.int r)) (n+1))(B:n<=1000000:=by lia)(h1:1<=zA:=by lia)(h2:zA<1073741824:=by lia):zgw Pn [.pen p,.d (.int zA)] n Q:=⟨p,zA,q,rfl,B,h1,h2,h⟩
def zr9:List W->Mo W:=λq n Q=>∃bs:List Bool,q=[.d (.lst (bs.map .bl))]/\Q (.d (.bl (bs.any id))) n
@[reducible] def zrR:List W->Mo W:=λq n Q=>on1 q λx=>onL x λl=>∃bs:List Bool,l=bs.map .bl/\Q (.d (.bl (bs.any id))) n
def zlS:zr9=zrR:=by funext ws n Q;simp only[zr9,zrR,ur,ut];exact propext ⟨by rintro⟨x,e,h⟩;exact⟨_,e,_,rfl,x,rfl,h⟩,by simp_all⟩
def ztS:FL Pn false (λxs H Q=>∃ (p:Addr) (bs:List Bool),xs=[.ref p]/\Rd H p (.lst (bs.map V.bl))/\Q (.bl (bs.any id)) H) zr9:=⟨by
 rintro A H xs J n Q R L b P ⟨bs,q,h⟩ k;subst q;obtain⟨v,rfl,B⟩:=zaH b;obtain⟨a,ys,rfl,F,I⟩:=xu B;obtain rfl:=zex I;exact⟨a,bs,rfl,F,k _ n _ H h (Val.of rfl) (Go.refl P) λz=>by cases z⟩⟩
def ztK:FL Pn false (λxs H Q=>∃ (p:Addr) (bs:List Bool),xs=[.ref p]/\Rd H p (.lst (bs.map V.bl))/\Q (.bl (bs.any id)) H) zrR:=zlS ▸ ztS
end L3
namespace L2
open PySem PySem.Spec PyProof.Rows
def zq7 {X:Cx}{pins:List (Addr×Obj)}{σ:St}{H:Hp}{s:Shared}{x:V}{u t:Value}(I:Inv X pins σ H s)(B:zX x u)(ty:TyOf X.K H x t)(J:∃T,t = .type T):∃Hh,PySem.W.KitX X.K u t Hh/\Hh s.heap/\u≠.builtin "__main__.__loader__#opaque" := by
 cases ty with
 | non=>cases (show u=Value.none from B);exact⟨_,PySem.W.kitx_none,True.intro,λz=>nomatch z⟩
 | bl y=>cases (show u=Value.bool y from B);exact⟨_,PySem.W.kitx_bool,True.intro,λz=>nomatch z⟩
 | int i=>obtain⟨t,q⟩:=(show ∃t,u=Value.int i t from B);cases q;exact⟨_,PySem.W.kitx_int,True.intro,λz=>nomatch z⟩
 | str y=>obtain⟨t,q⟩:=(show ∃t,u=Value.str y t from B);cases q;exact⟨_,PySem.W.kitx_str,True.intro,λz=>nomatch z⟩
 | flt y=>obtain⟨t,q⟩:=(show ∃t,u=Value.float y t from B);cases q;exact⟨_,PySem.W.kitx_float,True.intro,λz=>nomatch z⟩
 | @lst a xs F=>
  cases (show u=Value.ref a from B);obtain⟨_,_,n,_,h1⟩:=(show zD X.prog X.w H s.heap a (.lst xs) from I.hok a _ F);exact⟨_,dO,⟨_,h1,rfl⟩,λz=>nomatch z⟩
 | @frz a ob xs F=>
  cases (show u=Value.ref a from B);obtain⟨_,_,_,n,_,h1⟩:=(show zD X.prog X.w H s.heap a (.frz ob (.lst xs)) from I.hok a _ F);exact⟨_,dO,⟨_,h1,rfl⟩,λz=>nomatch z⟩
 | @tup a xs F=>
  cases (show u=Value.ref a from B);obtain⟨_,_,_,p⟩:=(show zD X.prog X.w H s.heap a (.tup xs) from I.hok a _ F);obtain⟨o,h1,h2,_⟩:=p;exact⟨_,PySem.W.kitx_tuple,⟨o,h1,h2⟩,λz=>nomatch z⟩
 | @dK a kvs F=>
  cases (show u=Value.ref a from B);obtain⟨_,_,vs,_,p⟩:=(show zD X.prog X.w H s.heap a (.dK kvs) from I.hok a _ F);obtain⟨o,es,ep,h1,h2,_⟩:=p;exact⟨_,dP,⟨o,h1,h2.1⟩,λz=>nomatch z⟩
 | @dT a kvs F=>
  cases (show u=Value.ref a from B);obtain⟨_,_,xs,_,o,es,ep,h1,h2,_⟩:=(show zD X.prog X.w H s.heap a (.dT kvs) from I.hok a _ F);exact⟨_,dP,⟨o,h1,h2.1⟩,λz=>nomatch z⟩
 | @ins a C dx fs F cl O U L Y=>obtain⟨T,z⟩:=J;cases z
def zlL:CallQ X (.builtin "isinstance") (λxs H Q=>∃x p T1 T2 T b,xs=[x,.ref p]/\H p=some (.tup [.ty T1,.ty T2])/\TyOf X.K H x (.type T)/\PySem.W.kitAny X.K (.type T) [.type T1,.type T2]=some b/\Q (.bl b) H):=⟨by
 intro pins s σ H xs us Q I r h;obtain⟨x,p,T1,T2,T,b,rfl,hp,ty,B,q⟩:=h;obtain⟨u,c,rfl,F,J⟩:=ziY r;cases J;obtain⟨its,L,p1,_⟩:=I.tuple (.of hp);obtain⟨c1,c2,rfl,O,U⟩:=ziY L;cases O;cases U;obtain⟨⟨cls,dd,data,sl⟩,Y,Z,n,hd⟩:=id p1;cases Z;cases hd;obtain⟨Hh,kx,hh,ne⟩:=zq7 I F ty ⟨T,rfl⟩;exact PySem.W.kia_tup kx I.kIn hh Y B ne λtk=>⟨.bl b,H,I.tok tk,rfl,q⟩⟩
end L2
namespace L3
open PySem PySem.Spec L2
section
variable {X:Cx}{Pn:PN}{M:List Nat}{e:Expr}{f:Ev->Mo W}{pos p p1 p2 p3:Pos}
@[reducible] def zk7:Dt->Bool
 | .tup _=>true
 | .lst _=>true
 | _=>false
def zjR (K:PySem.W.Frag)(d:Dt):PySem.W.kitAny K (.type d.ty) [.type "tuple",.type "list"]=some (zk7 d):=by cases d <;> rfl
def zdt {k:Nat}(h:JB X Pn M e f)(Y:X.mg "isinstance" = none)(F:X.mg "tuple" = none)(I:X.mg "list" = none)(Z:Gl X "isinstance" := by rfl)(J:Gl X "tuple" := by rfl)(L:Gl X "list" := by rfl)
  (B:starEach (e::[.Tuple [.Name "tuple" p1,.Name "list" p2] k p3]) X.env=(false,eval e X.env)::starEach [.Tuple [.Name "tuple" p1,.Name "list" p2] k p3] X.env:=by rfl) (O:(backTo pos (starEach [.Tuple [.Name "tuple" p1,.Name "list" p2] k p3] X.env)).any (·.1)=false:=by rfl) :
  JE X Pn M false (.Call (.Name "isinstance" p) [e,.Tuple [.Name "tuple" p1,.Name "list" p2] k p3] [] pos) (zlc zk7 f):=by
 obtain⟨te,q,r⟩:=h.ex;refine⟨_,yq zlL Z Y bE (zz q (zz (zlo (zz (zcY (v:=.ty "tuple") J F bJ rfl) (zz (zcY (v:=.ty "list") L I cK rfl) yn))) yn) B) (by decide) (by decide) B O,⟨λA σ H ρ n Q R E P hf k=>?_⟩⟩;refine r.run A σ H ρ n _ _ E P hf ?_;rintro w m v H' ⟨d,e,rr⟩ bb g;subst e;refine⟨by show 2<=sizeLine;decide,λa ha=>?_⟩;have U:yz H' (upd H' a (.tup [.ty "tuple",.ty "list"])):=yz.upd ha;exact⟨v,a,"tuple","list",_,_,rfl,zg,(bb.is.stay (zn.same U)).ty,zjR _ d,k _ m _ _ rr (Val.of rfl) (g.trans (Go.same g.pn U)) λz=>by cases z⟩
end
section
variable {X:Cx}{Pn:PN}{M:List Nat}{ow:Bool}{tg it a b:Expr}{f1 f2:Ev->Mo (List W)}{p pos:Pos}
def zsu (h1:JI X Pn M ow tg it f1)(h2:JI X Pn M ow tg it f2):JI X Pn M ow tg it (λρ n Q=>f1 ρ n Q\/f2 ρ n Q):=by obtain⟨q,B,F⟩:=h1.ex;obtain⟨J,L,O⟩:=h2.ex;exact⟨λσ H Q=>q σ H Q\/J σ H Q,⟨λpins s σ H Q I h=>h.elim (B.run pins s σ H Q I) (L.run pins s σ H Q I)⟩,⟨λA σ H ρ n Q R E P hf k=>hf.elim (λz=>.inl (F.run A σ H ρ n Q R E P z k)) λz=>.inr (O.run A σ H ρ n Q R E P z k)⟩⟩
def zmo {q:List Expr}{x1}{tpos:Pos}{fs:Ev->Mo (List W)}(F:Gl X "zip")(I:X.mg "zip" = none)(J:JA X Pn M [a,b] fs)(L:starEach [a,b] X.env=[(false,eval a X.env),(false,eval b X.env)]:=by rfl)(B:starEach [b] X.env=[(false,eval b X.env)]:=by rfl) :
  JI X Pn M false (.Tuple q x1 tpos) (.Call (.Name "zip" p) [a,b] [] pos) (λρ n Q=>mItZ fs ρ n Q\/zpl fs ρ n Q):=zsu (zo7 F I J L B) (zmn F I J L B)
end
def zrj{P:Program}{w:World}{K:PySem.W.Frag}{mg:Str->Option Value}{base:Heap}{CX:CXT}{f:Addr}{fd:FuncData}{ps:List Str}{F:FV}(h:∀Pn q n R,¬ F Pn q n R):FnOk P w K mg base CX k f fd ps (spV m fr F):=
 ⟨λ_ _ _ _ ⟨_,_,_,_,_,_,_,_,_,z,_⟩=>absurd z (h _ _ _ _),λ_ _ _ _ _ _ _ _ _ _ _ _ _ ⟨_,_,_,_,_,_,_,_,_,z,_⟩=>absurd z (h _ _ _ _)⟩
end L3
namespace L2
open PySem PySem.Spec PyProof.Rows PySem.W PySem.Calls
def zbN(r:Paired PrN ks xs)(k:Dt):(zbR ks k).isSome=(atKey xs k).isSome:=by have:=(zfT r k).isSome_eq;rwa[bC] at this
def zkA(r:Paired PrN ks xs)(k:Dt)(I:zX v u):Paired PrN (ks.map λq=>if q.1=k then (q.1,q.2.1,v) else q) (xs.map (putAt k u)):=by
 induction r with
 | nil=>exact .nil
 | @cons p q ps L h _ J=>
  obtain⟨B,F,h⟩:=h;refine .cons ?_ J;show PrN (if p.1=k then (p.1,p.2.1,v) else p) _;unfold putAt;rw[B];split
  ·exact⟨rfl,F,I⟩
  ·exact⟨B,F,h⟩
def ziF(r:Paired PrN ks xs)(h:PrN p q):Paired PrN (ks++[p]) (xs++[q]):=by
 induction r with
 | nil=>exact .cons h .nil
 | cons h _ B=>exact .cons h B
def zdV(r:Paired PrN ks xs):xs.map (λq=>Value.ref q.2.1)=ks.map (λq=>Value.ref q.2.1)/\xs.map (·.1)=ks.map (·.1):=by
 induction r with
 | nil=>exact⟨rfl,rfl⟩
 | cons a _ B=>obtain⟨F,I,_⟩:=a;exact⟨by rw[ao,ao,B.1,I],by rw[ao,ao,B.2,F]⟩
def zkp(r:Paired PrN ks xs)(k:Dt)(b:Addr)(q:zX v u):Paired PrN (zeR ks k b v) (storedH xs k b u):=by
 unfold zeR storedH;rw[zbN r k];split
 ·exact zkA r k q
 ·exact ziF r ⟨rfl,rfl,q⟩
def zkn (ks:List (Dt×Addr×V))(k:Dt)(b:Addr)(v:V):(zeR ks k b v).length<=ks.length+1:=by
 unfold zeR;split
 ·rw[ac];exact Nat.le_succ _
 ·rw[aM];exact af _
def zdT(h:yH H ks)(h1:k.hk=true)(h2:k.eqOk)(I:Is H k (.ref b)):yH H (zeR ks k b v):=by
 intro q B;unfold zeR at B;split at B
 ·obtain⟨J,F,rfl⟩:=aw.mp B;have:=h J F;split
  all_goals exact this
 ·rcases aK.mp B with z | z
  ·exact h q z
  ·rw[aE.mp z];exact⟨h1,h2,I⟩
section
variable {X:Cx}{pins:List (Addr×Obj)}{σ:St}{H:Hp}{s:Shared}{a b:Addr}{ks:List (Dt×Addr×V)}{k:Dt}{A:Around}{E:Value->Shared->Prop}
def zbT (H:Hp)(k:Dt)(b:Addr):Prop:=k.hk=true/\k.eqOk/\Is H k (.ref b)
def zrp (H:Hp)(a:Addr)(ks:List (Dt×Addr×V)):Prop:=Rd H a (ddO a ks)/\yH H ks
def zfF (q:A.units+64<cLine):(zji X.prog X.w).room A.in1:=by show A.units+1+9<cLine;lia
def n_in(B:A.units+64<cLine)(I:Inv X pins σ H s)(g:zrp H a ks)(q:zbT H k b)(h:∀s',Inv X pins σ H s'->Q (.bool (zbR ks k).isSome) s') :
  wpAny (model X.prog X.w) A (compareOp .In (.ref b) (.ref a)) Q E s:=by
 obtain⟨lo,z,xs,r,dd⟩:=zoI I g.1 g.2;refine wpAny_in_heap (zfF B) (xH I q.1 q.2.1 q.2.2) lo dd ?_;rw[<- zbN r];exact h _ (I.tok _)
def zdJ(L:A.units+64<cLine)(I:Inv X pins σ H s)(e:H a=some (ddO a ks))(g:yH H ks)(B:zbT H k b)(l:ks.length<sizeLine)(O:zX v u)(h:∀s',Inv X pins σ (upd H a (ddO a (zeR ks k b v))) s'->Q () s') :
  wpAny (model X.prog X.w) A (setItem (.ref a) (.ref b) u) Q E s:=by
 obtain⟨lo,z,xs,r,dd⟩:=zoI I (.inl e) g;have U:xs.length<=sizeLine:=by rw[<- ez r];exact z
 refine wpAny_setItem_heap (hsz:=U) (zfF L) (xH I B.1 B.2.1 B.2.2) dd λh' F Y=>h _ ?_;obtain⟨q,es,ep,J,h2,Z,h4,_,h5⟩:=F;exact zaf I (by rw[e];exact True.intro) Y ⟨q,J⟩ (zfk ⟨ah (zkn ks k b v) l,lo,_,zkp r k b O,q,es,ep,J,h2,Z,h4,h5⟩)
end
section
variable {X:Cx}
def rInN (q:Bool):R2:=λx y H Q=>∃ (a b:Addr) (k:Dt) (ks:List (Dt×Addr×V)),x = .ref b/\y = .ref a/\zrp H a ks/\zbT H k b/\Q (.bl (if q then !(zbR ks k).isSome else (zbR ks k).isSome)) H
def zpO (B:X.A.units+64<cLine):OpQ X (compareOp .In) (rInN false):=⟨by
 rintro pins s σ H x y v u Q I F J ⟨a,b,k,ks,rfl,rfl,g,L,q⟩;cases F;cases J;exact n_in B I g L λs' I'=>⟨.bl _,H,I',rfl,q⟩⟩
variable {o i value:Expr}{pos pos':Pos}{td ty tv:TE}
def zty (td ty tv:TE):TS:=λD σ H=>tv σ H λv H1=>td σ H1 λx H2=>ty σ H2 λy H3=>∃a b k ks,x = .ref a/\y = .ref b/\H3 a=some (ddO a ks)/\yH H3 ks/\zbT H3 k b/\ks.length<sizeLine/\D.nx σ (upd H3 a (ddO a (zeR ks k b v)))
def znE (q:X.A.units+64<cLine)(B:QE X o td)(hi:QE X i ty)(F:QE X value tv)(J:swapsWith value (some (.Subscript o i pos')) pos.line X.env=pure false) :
  QS X (.Assign [.Subscript o i pos'] value pos) (zty td ty tv):=⟨by
 intro pins s σ H D I h;refine dM (thn (F.run pins s σ H _ I h) λr L ⟨v,H1,I1,O,U⟩=>thn (B.run pins L σ H1 _ I1 U) λu Y ⟨x,H2,I2,Z,q2⟩=>thn (hi.run pins Y σ H2 _ I2 q2) λiv s3 ⟨y,H3,I3,ry,a,b,k,ks,ex,ey,e,g,gk,l,q3⟩=>?_) J;subst ex ey;obtain rfl:u=Value.ref a:=Z;obtain rfl:iv=Value.ref b:=ry;exact zdJ q I3 e g gk l O λs4 I4=>⟨σ,_,I4,q3⟩⟩
def zgW(h:Heap)(q:sysModules<h.objs.size):zD P w H (h.push { cls:=.type "dict",data:=.dict #[] }) h.objs.size (ddO h.objs.size []):=
 zfk ⟨a6 _,c8.mpr (Ne.symm (aD q)),[],.nil,_,#[],0,am _ rfl,⟨rfl,rfl,rfl⟩,rfl,rfl,List.nodup_nil⟩
def ztH:TE:=λ_ H Q=>∀p,H p=none->Q (.ref p) (upd H p (ddO p []))
def zim:QE X (.Dict [] [] pos) (ztH):=⟨λpins s σ H Q I h=>
 wpAny_Dict_empty ⟨.ref s.heap.objs.size,_,I.laid (a:=s.heap.objs.size) (o:=ddO s.heap.objs.size []) (t':=s.toks) (λ_ _ q=>ae _ q) (af _) (zgW s.heap I.big),rfl,h _ (I.hok.fresh (af _))⟩⟩
end
section
variable {X:Cx}{pins:List (Addr×Obj)}{σ:St}{H:Hp}{s:Shared}{a:Addr}{ks:List (Dt×Addr×V)}
def Inv.frzN (I:Inv X pins σ H s)(h:H a=some (ddO a ks)):∃ob,Inv X pins σ (upd H a (.frz ob (ddO a ks))) s:=by have k:=(show zD X.prog X.w H s.heap a (ddO a ks) from I.hok a _ h);obtain⟨⟨z,lo,xs,r,o,es,ep,h1,q⟩,_⟩:=id k;exact⟨o,I.write (x:=a) (e:=a) (h':=s.heap) (t':=s.toks) (by rw[h];trivial) (.inl rfl) (λ_ _ _ e=>e) ⟨o,h1⟩ ⟨h1,zfk ⟨z,lo,xs,r,o,es,ep,h1,q⟩⟩⟩
def zmR (I:Inv X pins σ H s)(h:zrp H a ks) :
  (a==sysModules)=false/\∃ (es:Array DictEntry) (ep:Nat) (ob:Obj),s.heap.get? a=some ob/\ob.ExactDict/\ob.data = .dict es ep/\es.toList.map (·.key)=ks.map (λq=>Value.ref q.2.1)/\(ks.map (·.1)).Nodup/\ks.length<=sizeLine:=by
 obtain⟨⟨z,lo,xs,r,o,es,ep,h1,h2,F,J,L⟩,_⟩:=(show zD X.prog X.w H s.heap a (ddO a ks) from h.1.ok I.hok);have B:=zdV r;refine⟨lo,es,ep,o,h1,h2,F,?_,by rw[<- B.2];exact L,z⟩;rw[J,au,<- B.1];rfl
end
def Itn (d:Addr)(ob:Obj)(u:HO)(ys:List Addr):It:=
 ⟨λi H=>H d=some (.frz ob u)/\i<ys.length,λi H x H'=>H'=H/\∃q,ys[i]?=some q/\x = .ref q,λi H=>H d=some (.frz ob u)/\i=ys.length⟩
def znT {P:Program}{w:World}{K:PySem.W.Frag}{tg:Expr}{ob:Obj}{u:HO}{ys:List Addr}{es:Array DictEntry}{ep:Nat}(d it:Addr)(hx:ob.ExactDict)(hd:ob.data = .dict es ep)(F:es.toList.map (·.key)=ys.map Value.ref) :
  Turn P w K tg (Itn d ob u ys) [it] it (λi h=>h.IsKeyIter it d i es.size ep) where
 mem:=by simp
 obj:=λi h st b q=>by
  have e:b=it:=by simpa using q
  subst e;obtain⟨o,e,c,d⟩:=st
  simp_all
 keep:=λi h h' ⟨o,e,r⟩ k=>⟨o,k it (by simp) o e,r⟩
 item:=by
  rintro X J L O hc i pins s σ H E I hf st ⟨U,hi⟩;subst J L O;obtain⟨Y,f1,f2,Z,f4,f5⟩:=hf it (by simp);have hm:zcq s.heap d es ep:=⟨ob,(I.hok d _ U).1,hx,hd⟩;have hl:es.toList.length=ys.length:=by have:=congrArg List.length F;rwa[ac,ac] at this
  have e1:es[i]?=some es.toList[i]:=by rw[zrL,ar]
  have e2:es.toList[i].key=Value.ref ys[i]:=by
   have:(es.toList.map (·.key))[i]?=(ys.map Value.ref)[i]?:=by rw[F]
   rw[aB,aB,ar (by lia),ar hi] at this
   simp_all
  refine zgh st hm e1 λh' B sb=>?_;have I1:Inv X pins σ H { s with heap:=h' }:=I.turned (t':=s.toks) (λb o q e=>(sb.2 b q).trans e) Y f1 Z f4 f5;obtain⟨o,e,c,d⟩:=id B;exact⟨_,rfl,zju (s:={ s with heap:=h' }) e c d (by decide) ⟨.ref ys[i],H,I1,e2,⟨rfl,_,ar hi,rfl⟩,B,λb q=>(hf b q).1⟩⟩
 done:=by
  rintro X J L O hc i pins s σ H E I hf st ⟨U,hi⟩;subst J L O;obtain⟨Y,f1,f2,Z,f4,f5⟩:=hf it (by simp);have hm:zcq s.heap d es ep:=⟨ob,(I.hok d _ U).1,hx,hd⟩;have hl:es.size=ys.length:=by have:=congrArg List.length F;rwa[ac,ac,c9] at this
  subst hi;rw[<- hl] at st;exact zhT (I.ok.hd hc) st hm λh' eb=>⟨rfl,I.turned (t':=s.toks) (λb o q e=>eb b o q e) Y f1 Z f4 f5⟩
 self:=λ_ _ _ _ _ st h=>wpAny_pyIter_keyiter st h
def zoX (te:TE):TI:=λσ H R=>te σ H λx H1=>∃a ob ks,x = .ref a/\H1 a=some (.frz ob (ddO a ks))/\yH H1 ks/\((ks.map (·.1)).Nodup->R (Itn a ob (ddO a ks) (ks.map (·.2.1))) H1)
def zku(h:QE X e te):QI X tg e (zoX te):=⟨by
 intro pins s σ H R I q;refine thn (h.run pins s σ H _ I q) ?_;rintro v B ⟨x,H1,I1,U,a,ob,ks,rfl,F,Y,Z⟩;cases U;obtain⟨lo,es,ep,o,J,L,O,e1,nd,_⟩:=zmR I1 ⟨.inr ⟨ob,F⟩,Y⟩;have e:o=ob:=by have:=(I1.hok a _ F).1;rw[J] at this;exact bh this
 subst e;refine zhn lo ⟨o,J,L,O⟩ ?_;refine⟨B.heap.objs.size,[B.heap.objs.size],_,_,H1,rfl,I1.kept (t':=B.toks) λb o e=>ae _ e,znT (ys:=ks.map (·.2.1)) a _ L O (by rw[au];exact e1),⟨_,am _ rfl,rfl,rfl⟩,λb hb=>?_,Z nd⟩;have e:b=B.heap.objs.size:=by simpa using hb
 subst e;exact I1.fpOk (af _) (I1.hok.fresh (af _))⟩
end L2
namespace L3
open PySem PySem.Spec L2
@[reducible] def onM (w:W) (P:List (Dt×Dt)->Prop):Prop:=match w with | .dn _ i=>P i | _=>False
def zpE:onM w P = ∃b i,w = .dn b i/\P i:=propext ⟨λh=>by cases w <;> first | exact False.elim h | exact⟨_,_,rfl,h⟩,by rintro⟨b,i,rfl,h⟩;exact h⟩
@[reducible] def zn9 (w:W) (P:List (Dt×Dt)->Prop):Prop:=match w with | .dn false i=>P i | _=>False
def zeN:zn9 w P = ∃i,w = .dn false i/\P i:=propext ⟨λh=>by
 cases w with
 | dn b i=>cases b <;> first | exact False.elim h | exact⟨_,rfl,h⟩
 | _=>exact False.elim h,by rintro⟨i,rfl,h⟩;exact h⟩
@[reducible] def onMz (w:W) (P:List (Dt×Dt)->Prop):Prop:=match w with | .dn true i=>P i | _=>False
def zmU:onMz w P = ∃i,w = .dn true i/\P i:=propext ⟨λh=>by
 cases w with
 | dn b i=>cases b <;> first | exact False.elim h | exact⟨_,rfl,h⟩
 | _=>exact False.elim h,by rintro⟨i,rfl,h⟩;exact h⟩
def ziX (ks:List (Dt×Addr×V))(k:Dt):zbR ks k=xg (kvN ks) k:=by unfold zbR xg kvN;rw[List.find?_map,Option.map_map];rfl
def zih (ks:List (Dt×Addr×V))(k:Dt)(b:Addr)(v:V):kvN (zeR ks k b v)=xI (kvN ks) k v:=by
 have e:(zbR ks k).isSome=(kvN ks).any λkv=>decide (kv.1=k):=by
  unfold zbR kvN;rw[bC,dY]
  induction ks with
  | nil=>rfl
  | cons q r B=>
   rw[bf,cm];show _=(decide (q.1=k) || _)
   cases decide (q.1=k) with
   | true=>rfl
   | false=>rw[Bool.false_or];exact B
 unfold zeR xI;rw[<- e];split
 ·unfold kvN;rw[au,au];refine eL λq _=>?_;show ((if q.1=k then (q.1,q.2.1,v) else q).1,(if q.1=k then (q.1,q.2.1,v) else q).2.2)=if q.1=k then (q.1,v) else (q.1,q.2.2);split <;> rfl
 ·unfold kvN;rw[aA];rfl
def zr7(h:Bor A H (.dn b kvs) v):∃a ks,v = .ref a/\zrp H a ks/\xh (zG A H) kvs (kvN ks):=by obtain⟨a,ks,e,h1,h2,q⟩:=h;exact⟨a,ks,e,⟨h1.rd,h2.stay (zn.same zl)⟩,q⟩
def zdA(h1:k.hk=true)(h2:k.eqOk)(h:Bor A H (.d k) v)(q:k.isTup=true):∃b,v = .ref b/\zbT H k b/\Is (zG A H) k (.ref b):=by
 cases k with
 | tup l=>
  have h':Is (zG A H) (.tup l) v:=h;obtain⟨b,xs,rfl,B,g2⟩:=id h';exact⟨b,rfl,⟨h1,h2,Bor.is h⟩,h'⟩
 | _=>cases q
def zhK(h:xh G kvs (kvN ks))(k:Dt):(zbR ks k).isSome=(zS kvs k).isSome:=by
 rw[ziX]
 cases e:zS kvs k with
 | none=>rw[(h.look (k:=k)).1 e];rfl
 | some d=>obtain⟨v,h1,h2⟩:=(h.look (k:=k)).2 d e;rw[h1];rfl
def _root_.L2.Dt.ky (k:Dt):Prop:=k.hk=true/\k.eqOk/\k.isTup=true
section
variable {X:Cx}{Pn:PN}{M S:List Nat}{fr fr':Bool}{pos p:Pos}{e a b c:Expr}{f fa fb fc:Ev->Mo W}
@[reducible] def dInN (q:Bool):W->W->Mo W:=λx y n Q=>onD x λk=>onM y λkvs=>k.ky/\Q (.d (.bl (xr q (zS kvs k).isSome))) n
def ztM:F2 Pn false (rInN q) (dInN q):=⟨by
 rintro A H x y wx L n Q R O F B P h k;simp only[dInN,xn,zpE] at h;obtain⟨d,rfl,U,kvs,rfl,⟨k1,k2,k3⟩,h⟩:=h;obtain⟨a,ks,rfl,g,I⟩:=zr7 B;obtain⟨b,rfl,J,_⟩:=zdA k1 k2 F k3;refine⟨a,b,d,ks,rfl,rfl,g,J,k _ n _ H h (Val.of ?_) (Go.refl P) λz=>by cases z⟩;rw[zhK I,zn4];rfl⟩
@[reducible] def dNGet (fd fk:Ev->Mo W):Ev->Mo W:=λρ n Q=>fd ρ n λx q=>fk ρ q λy B=>onM x λkvs=>onD y λk=>k.ky/\onO (zS kvs k) λd=>Q (.d d) B
def zo6:JE X Pn M true (.Dict [] [] pos) (mC (.dn false [])):=⟨_,zim,⟨λA σ H ρ n Q R E P hf k=>λp np=>by have S:=yz.upd (o:=ddO p []) np;have B:∀ {T:Hp},T p=some (ddO p [])->zgs false T p []:=λh=>h;exact k _ n _ _ hf ⟨p,[],rfl,B (zi (E.new np) zg),(λq z=>by cases z),rfl⟩ (Go.same P S) λ_=>⟨p,rfl,.of np,⟨_,zg,rfl⟩,p,[],rfl,B zg,(λq z=>by cases z),rfl⟩⟩⟩
@[reducible] def zoC (i:Nat) (fk f:Ev->Mo W):Ms:=λρ n k=>onV ρ i λv=>zn9 v λ_=>f ρ n λw m=>fk ρ m λy F=>onD w λd=>onD y λB=>onV ρ i λI=>zn9 I λkvs=>B.ky/\kvs.length<lim/\onP ρ i (.dn false (zi3 kvs B d)) λq=>k.nx q F
def zmq (i:Nat){x:Str}{np sp:Pos}(hu:X.A.units+64<cLine)(hk:JB X Pn M c fc)(he:JE X Pn M fr' e f)(hi:i∈M:=by decide)(hN:X.N[i]?=some x:=by rfl)(hv:Vis X.env.scope x:=by walk_at "v")(hd:(x==("__debug__" : Str))=false:=by decide)
  (Y:(x==("__classdict__" : Str))=false:=by decide) (hs:swapsWith e (some (.Subscript (.Name x np) c p)) sp.line X.env=pure false:=by rfl) :
  JS X Pn S M fr (.Assign [.Subscript (.Name x np) c p] e sp) (zoC i fc f):=by
 obtain⟨te,q,r⟩:=he.ex;obtain⟨tk,qk,rk⟩:=hk.ex;refine⟨_,znE hu (qv i hN hv hd Y) qk q hs,⟨ ?_⟩⟩;rintro B A σ H ρ n k D a kk hf;unfold zoC at hf;rw[uw] at hf;obtain⟨w0,e0,hf⟩:=hf;rw[zeN] at hf;obtain⟨l0,rfl,hf⟩:=hf;obtain⟨v0,Z,_,o3⟩:=a.env.val i _ e0;obtain⟨J,rfl,hA,ag,_⟩:=o3 hi;refine r.run A σ H ρ n _ _ a.env a.pn hf λw m v H1 r1 ab g1 _=>⟨.ref J,Z,?_⟩;have a1:=a.step g1;refine rk.run A σ H1 ρ m _ _ a1.env a1.pn r1 λy m2 v2 H2 F b2 g2=>?_;rw[xn] at F;obtain⟨d,rfl,F⟩:=F;rw[xn] at F;obtain⟨kd,rfl,F⟩:=F;rw[uw] at F;obtain⟨w3,e,F⟩:=F;rw[zeN] at F;obtain⟨kvs,rfl,⟨k1,k2,k3⟩,hz,F⟩:=F;rw[uu] at F;have a2:=a1.step g2;obtain⟨v3,s3,_,o4⟩:=a2.env.val i _ e;rw[Z] at s3;cases s3;obtain⟨al,e4,_,hb,_⟩:=o4 hi;cases e4;obtain⟨a5,ks,e5,I,L,O⟩:=hb;cases e5;have I:H2 J=some (ddO J ks):=I;obtain⟨bd,rfl,gk,bk⟩:=zdA k1 k2 b2 k3;have U:ks.length=kvs.length:=by have:=O.len;rw[show (kvN ks).length=ks.length from ac ..] at this;exact this
 refine⟨J,bd,kd,ks,rfl,rfl,I,L.stay (zn.same zl),gk,zfB (by rw[U];exact cC hz),kk.nx A σ _ _ m2 (a2.wrX (w':=.dn false (zi3 kvs kd d)) hi e Z ⟨J,_,rfl,zg,zdT L k1 k2 bk,?_⟩ rfl zhV rfl) F⟩;rw[zih];exact O.put (ab.stay g2.st).is
def zic{A:Addr->Prop}{H:Hp}{p:Addr}(h:yA Pn A n H)(hp:H p=some (ddO p ks)):yA Pn A n (L2.upd H p o):=by
 refine⟨?_,Pn.J.frz h.2 hp zhV rfl⟩;have h:=h.1;split at h
 ·trivial
 ·refine⟨?_,h.2⟩;obtain⟨h1,_⟩:=h;obtain⟨a,l,q,g2⟩:=h1.ob;exact⟨⟨a,l,by rw[zb λz=>by rw[z,hp] at q;cases q];exact q,g2⟩,let ⟨ob,e⟩:=h1.ls;⟨ob,by rw[zb λz=>by rw[z,hp] at e;cases e];exact e⟩,h1.len⟩
@[reducible] def dFrzN (f:Ev->Mo W):Ev->Mo W:=λρ n Q=>f ρ n λx m=>zn9 x λkvs=>Q (.dn true kvs) m
def zoJ{G G':Hp}{a:Addr}{ob:Obj}{kvs:List (Dt×Dt)}(h:G' a=some (.frz ob (ddO a ks)))(s:zn G G')(h2:yH G ks)(q:xh G kvs (kvN ks)):WAt G' G' (.dn true kvs) (.ref a):=
 ⟨a,ks,rfl,(if_pos rfl).mpr ⟨ob,h⟩,h2.stay s,q.stay s⟩
def At3.frzN(h:At3 Pn B S M A σ H ρ n)(h1:∀q∈M',q∈M/\q≠j)(h2:∀q∈M,q∈M'\/q=j)(hj:j∈M)(e:ρ[j]?=some (some (.dn false kvs))) :
  ∃F ks,σ[j]?=some (some (.ref F))/\H F=some (ddO F ks)/\∀ob,At3 Pn B S M' (λb=>A b/\b≠F) σ (L2.upd H F (.frz ob (ddO F ks))) (ρ.set j (some (.dn true kvs))) n:=by
 obtain⟨v,s,_,s3⟩:=h.env.val j _ e;obtain⟨F,rfl,hA,⟨a0,ks,e2,J,ag,an⟩,_⟩:=s3 hj;cases e2;have J:H F=some (ddO F ks):=J;refine⟨F,ks,s,J,λob=>?_⟩;have Z:j<ρ.length:=(aj.mp e).1
 have I:yz (zG A H) (zG (λb=>A b/\b≠F) (L2.upd H F (.frz ob (ddO F ks)))):=λb o eb=>by obtain⟨z1,z2⟩:=zx.mp eb;exact zi (λy=>z1 y.1) (by rw[zb λy=>z1 (by rw[y];exact hA)];exact z2)
 have L:¬ B.A0 F:=λz=>by
  rcases h.mine j _ F hj e s with q | q
  ·obtain⟨o,o1,o2,_⟩:=h.frm.al F z;exact q o o1 o2
  ·exact h.frm.cn F q z
 have O:∀q∈M',q≠j:=λq U=>(h1 q U).2;refine⟨⟨by rw[bi];exact h.env.len,λq u eq=>?_,λq k u u' b U hk Y e1 e2=>?_,λb z=>?_⟩,⟨λb z=>⟨h.frm.sub b z,λq=>L (q ▸ z)⟩,λb z=>h.frm.new b z.1,λb o eb nn nc=>?_,h.frm.al,h.frm.cn,λb z=>?_⟩,(zic h.pn J).less λb z=>z.1,h.prot.trans (zn.same I),h.fix,λk u b hk ek=>?_⟩
 ·by_cases U:q=j
  ·subst U;rw[aP Z] at eq;cases eq;exact⟨.ref F,s,λ_=>zoJ (zi (λz=>z.2 rfl) zg) (zn.same I) ag an,λz=>absurd rfl (O q z)⟩
  ·rw[aq (Ne.symm U)] at eq;obtain⟨v,t1,t2,t3⟩:=h.env.val q u eq;refine⟨v,t1,λz=>WAt.up (zn.same I) (zn.same I) (t2 λy=>(h2 q y).elim z U),λz=>?_⟩;obtain⟨b,rfl,hb,as,hm⟩:=t3 (h1 q z).1
   have ab:b≠F:=λq'=>by subst q';exact h.env.dis j q _ u b hj (h1 q z).1 (Ne.symm U) e eq s t1
   exact⟨b,rfl,⟨hb,ab⟩,WAt.up (zn.refl _) (zn.same I) (WAt.top as (by rw[zb ab]) hm),hm⟩
 ·rw[aq (Ne.symm (O q U))] at e1;rw[aq (Ne.symm (O k hk))] at e2;exact h.env.dis q k u u' b (h1 q U).1 (h1 k hk).1 Y e1 e2
 ·obtain⟨o,o1,o2⟩:=h.env.al b z.1;exact⟨o,by rw[zb z.2];exact o1,o2⟩
 ·have Y:b≠F:=λq=>by
   subst q;rcases h.mine j _ b hj e s with z | z
   ·exact z o eb nn
   ·exact nc z
  rw[zb Y];exact h.frm.st b o eb nn nc
 ·by_cases hb:b=F
  ·subst hb;exact⟨_,zg,λ_ z=>by cases z⟩
  ·rw[zb hb];exact h.frm.cs b z
 ·rw[aq (Ne.symm (O k hk))] at ek;exact h.mine k u b (h1 k hk).1 ek
@[reducible] def mFrzO (j:Nat) (fs:Ms):Ms:=λρ n k=>onV ρ j λw=>zn9 w λkvs=>onP ρ j (.dn true kvs) λq=>fs q n { rt:=k.rt,nx:=λ_ _=>False }
def ztG (j:Nat)(ts:TS):TS:=λD σ H=>∃a ks,σ[j]?=some (some (.ref a))/\H a=some (ddO a ks)/\∀ob,ts D σ (L2.upd H a (.frz ob (ddO a ks)))
def zo3 {A:Addr->Prop}{H:Hp}{B:Addr}{ob:Obj}{ks:List (Dt×Addr×V)}{kvs:List (Dt×Dt)}(h:zG A H B=some (.frz ob (ddO B ks)))(J:yH (zG A H) ks)(F:kvs.map (·.1)=ks.map (·.1)):ItV false A H (Itn B ob (ddO B ks) (ks.map (·.2.1))) (kvs.map λq=>W.d q.1) where
 one:=λi w A2 H2 e s _ _=>by
  have I:(ks.map λq=>W.d q.1)[i]?=some w:=by rw[<- e];have:=congrArg (List.map W.d) F;rw[au,au] at this;exact congrArg (·[i]?) this.symm
  rw[aB] at I;obtain⟨q,h1,rfl⟩:=ay.mp I;refine⟨⟨zl _ _ (s _ _ h λk z=>by cases z),by rw[ac];exact (aj.mp h1).1⟩,?_⟩;rintro y H3 ⟨rfl,L,h2,rfl⟩;rw[aB,h1] at h2;cases h2;exact⟨λ_ _ z=>z,Val.of ((J q (aC h1)).2.2.stay s)⟩
 stop:=λA2 H2 s _=>by have:=congrArg List.length F;rw[ac,ac] at this;exact⟨zl _ _ (s _ _ h λk z=>by cases z),by rw[ac,ac];exact this⟩
def xh.keys' {κ:Type}{G:Hp}:∀ {kvs:List (κ×Dt)} {ks:List (κ×V)},xh G kvs ks->ks.map (·.1)=kvs.map (·.1)
 | [],_,h=>by cases h;rfl
 | q::r,ks,⟨v,s,e,h1,h2⟩=>by subst e;rw[ao,ao,xh.keys' h2]
def zjT (ks:List (Dt×Addr×V)):(kvN ks).map (·.1)=ks.map (·.1):=by unfold kvN;rw[au];rfl
@[reducible] def dItN (fa:Ev->Mo W):Ev->Mo (List W):=λρ n Q=>fa ρ n λx m=>onMz x λkvs=>(kvs.map (·.1)).Nodup->Q (kvs.map λq=>W.d q.1) m
def zst(h:JE X Pn M fr e f):JI X Pn M false tg e (dItN f):=by
 obtain⟨te,q,r⟩:=h.ex;refine⟨_,zku q,⟨λA σ H ρ n Q R E P hf k=>?_⟩⟩;refine r.run A σ H ρ n _ _ E P hf λw m v H1 F L g _=>?_;rw[zmU] at F;obtain⟨kvs,rfl,F⟩:=F;obtain⟨I,ks,rfl,h1,h2,O⟩:=L;obtain⟨ob,B⟩:∃ob,zG A H1 I=some (.frz ob (ddO I ks)):=by simpa [zgs] using h1
 have J:kvs.map (·.1)=ks.map (·.1):=by rw[<- O.keys',zjT]
 exact⟨I,ob,ks,rfl,zl _ _ B,h2.stay (zn.same zl),λU=>k _ m _ H1 (F (by rw[J];exact U)) (zo3 B h2 J) g⟩
end
end L3
namespace L2
open PySem PySem.Spec PyProof.Rows PySem.W PySem.Calls
mutual
def enD:Dt->List Int
 | .int n=>[n]
 | .tup l=>zaa l
 | _=>[]
def zaa:List Dt->List Int
 | []=>[0]
 | d::l=>1::(enD d++zaa l)
end
mutual
def Dt.cmp:Dt->Dt->Bool
 | .int _,.int _=>true
 | .tup l,.tup m=>Dt.cmps l m
 | _,_=>false
def Dt.cmps:List Dt->List Dt->Bool
 | a::l,b::m=>Dt.cmp a b&&Dt.cmps l m
 | _,_=>true
end
mutual
def zfA:∀ {x y:Dt} (r s:List Int),Dt.cmp x y=true->HT.lexLt (enD x++r) (enD y++s)=if x=y then HT.lexLt r s else HT.lexLt (enD x) (enD y)
 | .int n,.int m,r,s,_=>by
  simp only[enD,bw,List.nil_append,HT.lexLt_cons,Dt.int.injEq,HT.lexLt_nil_nil];split
  ·rfl
  ·rfl
 | .tup l,.tup m,r,s,h=>by have:=zhF r s (show Dt.cmps l m=true from h);simp only[enD,Dt.tup.injEq];exact this
 | .int _,.tup _,_,_,h=>by cases h
 | .tup _,.int _,_,_,h=>by cases h
 | .non,_,_,_,h=>by cases h
 | .bl _,_,_,_,h=>by cases h
 | .str _,_,_,_,h=>by cases h
 | .lst _,_,_,_,h=>by cases h
 | .dct,_,_,_,h=>by cases h
 | .int _,.non,_,_,h=>by cases h
 | .int _,.bl _,_,_,h=>by cases h
 | .int _,.str _,_,_,h=>by cases h
 | .int _,.lst _,_,_,h=>by cases h
 | .int _,.dct,_,_,h=>by cases h
 | .tup _,.non,_,_,h=>by cases h
 | .tup _,.bl _,_,_,h=>by cases h
 | .tup _,.str _,_,_,h=>by cases h
 | .tup _,.lst _,_,_,h=>by cases h
 | .tup _,.dct,_,_,h=>by cases h
def zhF:∀ {l m:List Dt} (r s:List Int),Dt.cmps l m=true->HT.lexLt (zaa l++r) (zaa m++s)=if l=m then HT.lexLt r s else HT.lexLt (zaa l) (zaa m)
 | [],[],r,s,_=>by rw[if_pos rfl];rfl
 | [],_::_,r,s,_=>by rw[if_neg (by simp)];rfl
 | _::_,[],r,s,_=>by rw[if_neg (by simp)];rfl
 | a::l,b::m,r,s,h=>by
  simp only[Dt.cmps,aH] at h;have e1:=zfA (zaa l++r) (zaa m++s) h.1;have e2:=zfA (zaa l) (zaa m) h.1;have e3:=zhF r s h.2;show HT.lexLt (1::(enD a++zaa l)++r) (1::(enD b++zaa m)++s)=_;rw[bw,bw,HT.lexLt_cons,if_pos rfl,dS,dS,e1];show _=if a::l=b::m then HT.lexLt r s else HT.lexLt (1::(enD a++zaa l)) (1::(enD b++zaa m));rw[HT.lexLt_cons,if_pos rfl,e2];by_cases hab:a=b
  ·subst hab;rw[if_pos rfl,if_pos rfl,e3];by_cases hlm:l=m
   ·rw[if_pos hlm,if_pos (by rw[hlm])]
   ·rw[if_neg hlm,if_neg (λz=>hlm (List.cons.inj z).2)]
  ·rw[if_neg hab,if_neg hab,if_neg (λz=>hab (List.cons.inj z).1)]
end
def zfz(h:Dt.cmp a b=true):HT.lexLt (zaa (a::l)) (zaa (b::m))=if a=b then HT.lexLt (zaa l) (zaa m) else HT.lexLt (enD a) (enD b):=by show HT.lexLt (1::(enD a++zaa l)) (1::(enD b++zaa m))=_;rw[HT.lexLt_cons,if_pos rfl,zfA _ _ h]
section
variable {P:Program}{w:World}
def zfo{A:Around}{E:Value->Shared->Prop}{s:Shared}{x y:Dt}{u v:Value}{Q:Bool->Shared->Prop}(B:x.eqOk)(F:y.eqOk)(J:Reads s.heap u (PySem.W.kqdP x.toW) as)(L:Reads s.heap v (PySem.W.kqdP y.toW) bs)(U:A.units+9<cLine)(q:Q (decide (x=y)) s):wpAny (model P w) A (eqBool u v) Q E s:=by have I:=cA 8 _ B;have O:=cA 8 _ F;refine SeqAt.eqBoolOverData _ _ _ _ _ _ _ _ _ _ _ _ J L I.1 O.1 ?_ (by rw[zk1 B F];exact q);have:min (PySem.W.kqdP x.toW).depth (PySem.W.kqdP y.toW).depth<=8:=ah (Nat.min_le_left _ _) I.2;lia
def zfy(h:PySem.W.kqdOk n d=true):∀k,n<=k->PySem.W.kqdOk k d=true:=by
 have q:∀ (n:Nat) (d:PySem.W.Dat),PySem.W.kqdOk n d=true->PySem.W.kqdOk (n+1) d=true:=by
  intro n
  induction n with
  | zero=>intro d h;cases d <;> simp_all [PySem.W.kqdOk]
  | succ n B=>intro d h;cases d <;> simp_all [PySem.W.kqdOk]
 intro k F
 induction k with
 | zero=>
  obtain rfl:n=0:=by lia
  exact h
 | succ k B=>
  by_cases e:n=k+1
  ·subst e;exact h
  ·exact q _ _ (B (by lia))
def zmA:∀ (n:Nat) {x y:Dt} {A:Around} {s:Shared} {u v:Value} {as bs:List Addr} {Q:Value->Shared->Prop},n<=8->x.hk=true->y.hk=true->Dt.cmp x y=true->PySem.W.kqdOk n x.toW=true->PySem.W.kqdOk n y.toW=true->
  Reads s.heap u (PySem.W.kqdP x.toW) as->Reads s.heap v (PySem.W.kqdP y.toW) bs->A.units+n+20<cLine->Q (.bool (HT.lexLt (enD x) (enD y))) s->wpAny (model P w) A (compareOp .Lt u v) Q E s:=by
 intro n
 induction n generalizing E with
 | zero=>
  intro x y A s u v as bs Q hn hx hy hc ox oy rx ry hu q
  cases x with
  | int i=>
   cases y with
   | int j=>
    cases rx;cases ry;refine PyProof.Rows.lt_int ?_
    have e:HT.lexLt (enD (.int i)) (enD (.int j))=decide (i<j):=by
     show (if i=j then HT.lexLt [] [] else decide (i<j))=decide (i<j);by_cases h:i=j
     ·rw[if_pos h,h];simp[HT.lexLt]
     ·rw[if_neg h]
    rw[<- e];exact q
   | _=>cases hc
  | tup l=>simp[Dt.toW,PySem.W.kqdOk] at ox
  | _=>cases hx
 | succ n ih=>
  intro x y A s u v as bs Q hn hx hy hc ox oy rx ry hu q
  cases x with
  | int i=>
   cases y with
   | int j=>
    cases rx;cases ry;refine PyProof.Rows.lt_int ?_
    have e:HT.lexLt (enD (.int i)) (enD (.int j))=decide (i<j):=by
     show (if i=j then HT.lexLt [] [] else decide (i<j))=decide (i<j);by_cases h:i=j
     ·rw[if_pos h,h];simp[HT.lexLt]
     ·rw[if_neg h]
    rw[<- e];exact q
   | _=>cases hc
  | tup l=>
   cases y with
   | tup m=>
    have hi:=xA ox;have hj:=xA oy;have an:=yP.mp (show Dt.hks l=true from hx);have a0:=yP.mp (show Dt.hks m=true from hy)
    cases rx with
    | @tuple a o xs k1 xd as g al hd hl=>
    cases ry with
    | @tuple b o2 ys k2 yd bs g2 ab a1 a2=>
    refine PySem.W.cmp_ofLt ?_;refine wpAny_richCompare_same_room (op:=.Lt) ⟨o,g,al⟩ ⟨o2,g2,ab⟩ F.slot_tuple_lt (aY F.slot_tuple_lt ⟨o,g,al⟩ F.entry_tuple_lt ?_ (F.args_tuple_lt_2 _ _)) (by lia);show wpAny _ _ (isInstance (.ref b) (.type "tuple") >>= _) _ _ s;refine aa (cJ ⟨o2,g2,ab⟩ isSubtype_tuple_tuple ?_);simp only[fB,bR,if_false];refine aa (eT g hd ?_);refine aa (eT g2 a1 ?_);refine aa ?_
    refine fF _
     (λye r s'=>r.1=none/\s'=s/\∃l' L O U ad ag,ye=List.zip O U/\(∀d∈l',d∈l)/\(∀d∈L,d∈m)/\Dt.cmps l' L=true/\ReadsAll s.heap O (PySem.W.kqdPs (Dt.toWs l')) ad/\ReadsAll s.heap U (PySem.W.kqdPs (Dt.toWs L)) ag/\HT.lexLt (zaa l') (zaa L)=HT.lexLt (zaa l) (zaa m)/\O.length+ys.size=U.length+xs.size)
     _ ?_ ?_ _ _ ⟨rfl,rfl,l,m,xs.toList,ys.toList,_,_,rfl,λ_ z=>z,λ_ z=>z,hc,hl,a2,rfl,by simp;lia⟩
    ·rintro⟨p,q'⟩ ye r s' ⟨hr,rfl,l',L,O,U,ad,ag,hz,hL,hM,Y,Z,J,B,I⟩
     cases l' with
     | nil=>
      simp only[Dt.toWs,PySem.W.kqdPs] at Z;cases Z;simp at hz
     | cons d l'=>
     cases L with
     | nil=>
      simp only[Dt.toWs,PySem.W.kqdPs] at J;cases J;simp at hz
     | cons d2 L=>
     simp only[Dt.toWs,PySem.W.kqdPs] at Z J
     cases Z with
     | cons r1 Z=>
     cases J with
     | cons r2 J=>
     simp only[List.zip_cons_cons,eJ,Prod.mk.injEq] at hz;obtain⟨⟨rfl,rfl⟩,rfl⟩:=hz;simp only[Dt.cmps,aH] at Y;have o1:=hi d (hL d (by simp));have o2:=hj d2 (hM d2 (by simp));refine aa (zfo (zfy o1 8 (by lia)) (zfy o2 8 (by lia)) r1 r2 (by show A.units+1+9<cLine;lia) ?_);rw[zfz Y.1] at B;by_cases hd:d=d2
     ·rw[aF hd];rw[if_pos hd] at B;simp only[fB,bR,if_false];exact ai ⟨rfl,rfl,l',L,_,_,_,_,rfl,λz hz=>hL z (av _ hz),λz hz=>hM z (av _ hz),Y.2,Z,J,B,by simp only[aN] at I;lia⟩
     ·rw[aQ hd];rw[if_neg hd] at B;simp only[Bool.not_false,if_true];refine aa (di ?_);refine aa (show wpAny _ _ (compareOp .Lt p q') _ _ _ from ih (by lia) (an d (hL d (by simp))) (a0 d2 (hM d2 (by simp))) Y.1 o1 o2 r1 r2 (by show A.units+1+n+20<cLine;lia) ?_);refine aa (ai (ai ?_));show wpAny _ _ (pure _) _ _ _;refine ai ⟨_,rfl,(λe=>nomatch e),?_⟩;rw[B];exact q
    ·rintro⟨r1,r2⟩ s' ⟨hr,rfl,l',L,O,U,ad,ag,hz,hL,hM,Y,Z,J,B,I⟩;simp only at hr;subst hr;show wpAny _ _ (ret (Builtin.Tuple.tupleCompareSizes CmpOp.Lt xs.size ys.size)) _ _ _;refine ai ⟨_,rfl,(λe=>nomatch e),?_⟩
     have e:HT.lexLt (zaa l) (zaa m)=decide (xs.size<ys.size):=by
      rw[<- B]
      cases l' with
      | nil=>
       simp only[Dt.toWs,PySem.W.kqdPs] at Z;cases Z
       cases L with
       | nil=>
        simp only[Dt.toWs,PySem.W.kqdPs] at J;cases J;exact (aQ (by simp at I;lia)).symm
       | cons d2 L=>
        simp only[Dt.toWs,PySem.W.kqdPs] at J;cases J;exact (aF (by simp at I;lia)).symm
      | cons d l'=>
       simp only[Dt.toWs,PySem.W.kqdPs] at Z;cases Z
       cases L with
       | nil=>
        simp only[Dt.toWs,PySem.W.kqdPs] at J;cases J;exact (aQ (by simp at I;lia)).symm
       | cons d2 L=>
        simp only[Dt.toWs,PySem.W.kqdPs] at J;cases J;simp at hz
     show Q (.bool (decide (xs.size<ys.size))) _;rw[<- e];exact q
   | _=>cases hc
  | _=>cases hx
def lexI:∀s:List Int,HT.lexLt s s=false:=yB
def zaj:∀ {a b c:List Int},HT.lexLt a b=true->HT.lexLt b c=true->HT.lexLt a c=true
 | [],[],_,h,_=>by cases h
 | [],_::_,[],_,h=>by cases h
 | [],_::_,_::_,_,_=>rfl
 | _::_,[],_,h,_=>by cases h
 | _::_,_::_,[],_,h=>by cases h
 | x::a,y::b,z::c,q,B=>by
  rw[HT.lexLt_cons] at q B ⊢;by_cases F:x=y
  ·by_cases I:y=z
   ·rw[if_pos F] at q;rw[if_pos I] at B;rw[if_pos (F.trans I)];exact zaj q B
   ·grind
  ·grind
def zai:∀ {a b:List Int},a=b\/HT.lexLt a b=true\/HT.lexLt b a=true
 | [],[]=>.inl rfl
 | [],_::_=>.inr (.inl rfl)
 | _::_,[]=>.inr (.inr rfl)
 | x::a,y::b=>by
  rw[HT.lexLt_cons,HT.lexLt_cons];by_cases e:x=y
  ·subst e;rw[if_pos rfl,if_pos rfl];rcases zai (a:=a) (b:=b) with h1 | h1 | h1
   all_goals simp_all
  ·rw[if_neg e,if_neg (Ne.symm e)];rcases Int.lt_or_gt_of_ne e with h1 | h1
   all_goals simp_all
def zah{sts:List (List Int)}(hi:i<sts.length)(B:j<sts.length):decide (zau sts i<zau sts j)=HT.lexLt (sts.getD i []) (sts.getD j []):=by
 have I:sts.getD i []∈sts:=by rw[br,ar hi];exact aZ hi
 have J:sts.getD j []∈sts:=by rw[br,ar B];exact aZ B
 have F:∀ {a b:List Int},a∈sts->b∈sts->HT.lexLt a b=true->(sts.countP λc=>HT.lexLt c a)<(sts.countP λc=>HT.lexLt c b):=λ{a b} L O q=>
  zfg (λx U hp=>zaj hp q) ⟨a,L,yB a,q⟩
 unfold zau;generalize sts.getD i []=a at I;generalize sts.getD j []=b at J;rcases zai (a:=a) (b:=b) with h | h | h
 ·subst h;rw[yB]
  simp_all
 all_goals grind
def zjV (e:List Int):HT.lexLt e (e++[0])=true:=by
 induction e with
 | nil=>rfl
 | cons x e q=>rw[bw,HT.lexLt_cons,if_pos rfl];exact q
def zoM(h:Dt.cmp x y=true)(e:enD x=enD y):x=y:=by
 by_cases q:x=y
 ·exact q
 ·have:=zfA [] [0] h;rw[if_neg q,e,bc,zjV,yB] at this;cases this
structure RowsOk (ft:Bool)(sts:List Dt):Prop where
 key:∀x∈sts,x.hk=true/\x.eqOk/\x.isTup=true
 cmp:∀x∈sts,∀y∈sts,Dt.cmp x y=true
 first:2<=sts.length->∀x∈sts,∃d l,x = .tup (d::l)/\d.isTup=ft
 nd:sts.Nodup
def zfw {A:Around}{s:Shared}{b:Bool}{Q:Bool->Shared->Prop}(hu:A.units+40<cLine):∀ {l m:List Dt} {xs ys:List Value} {as bs:List Addr} (i:Nat),(∀d∈l,d.hk=true/\PySem.W.kqdOk 7 d.toW=true)->(∀d∈m,d.hk=true/\PySem.W.kqdOk 7 d.toW=true)->Dt.cmps l m=true->
  ReadsAll s.heap xs (PySem.W.kqdPs (Dt.toWs l)) as->ReadsAll s.heap ys (PySem.W.kqdPs (Dt.toWs m)) bs->(b=true->i=0->∀d l',l=d::l'->d.isTup=false)->Q (HT.lexLt (zaa l) (zaa m)) s->W.KatLex P w A b (decide (xs.length<ys.length)) Q (xs.zip ys) i s
 | [],[],_,_,_,_,i,_,_,_,B,F,_,q=>by simp only[Dt.toWs,PySem.W.kqdPs] at B F;cases B;cases F;exact W.kat_nil q
 | [],_::_,_,_,_,_,i,_,_,_,B,F,_,q=>by simp only[Dt.toWs,PySem.W.kqdPs] at B F;cases B;cases F;exact W.kat_nil q
 | _::_,[],_,_,_,_,i,_,_,_,B,F,_,q=>by simp only[Dt.toWs,PySem.W.kqdPs] at B F;cases B;cases F;exact W.kat_nil q
 | a::l,c::m,_,_,_,_,i,Y,Z,I,B,F,hb,q=>by
  simp only[Dt.toWs,PySem.W.kqdPs] at B F
  cases B with
  | @cons u us _ _ _ _ L B=>
  cases F with
  | @cons v vs _ _ _ _ O F=>
  rw[List.zip_cons_cons];simp only[Dt.cmps,aH] at I;obtain⟨k1,o1⟩:=Y a (by simp);obtain⟨k2,o2⟩:=Z c (by simp);rw[zfz I.1] at q;refine W.kat_cons (zfo (zfy o1 8 (by lia)) (zfy o2 8 (by lia)) L O (by lia) ?_);by_cases e:a=c
  ·rw[aF e];rw[if_pos e] at q;have:=zfw hu (i+1) (λd U=>Y d (av _ U)) (λd U=>Z d (av _ U)) I.2 B F (b:=b) (λ_ z=>absurd z (by lia)) q;rw[show decide ((u::us).length<(v::vs).length)=decide (us.length<vs.length) from by simp];exact W.kat_yes this
  ·rw[aQ e];rw[if_neg e] at q;refine W.kat_no ?_;have lt:=λ(Q':Value->Shared->Prop) (E:Value->Shared->Prop) (hq:Q' (.bool (HT.lexLt (enD a) (enD c))) s)=>zmA (P:=P) (w:=w) (E:=E) 7 (by lia) k1 k2 I.1 o1 o2 L O (A:=A) (by lia) hq
   cases hbi:(b&&i==0) with
   | false=>exact W.kat_one _ _ (lt _ _ q)
   | true=>
    rw[aH,beq_iff_eq] at hbi;have:=hb hbi.1 hbi.2 a l rfl
    cases a with
    | int n=>
     cases c with
     | int J=>
      cases L;cases O;refine oneLt_int ?_
      have e2:HT.lexLt (enD (.int n)) (enD (.int J))=decide (n<J):=by show (if n=J then HT.lexLt [] [] else decide (n<J))=decide (n<J);rw[if_neg λz=>e (by rw[z])]
      rw[<- e2];exact q
     | _=>cases I.1
    | tup _=>cases this
    | _=>cases I.1
def zkT (h:Heap)(v:Value)(x:Dt):Prop:=∃a,v = .ref a/\zoi h x a
def zkT.keep(r:zkT h v x)(B:h.Ns L m0)(F:h.get? D=some (seqObj "list" vs n))(kp:∀b o,b≠L->b≠D->h.get? b=some o->h'.get? b=some o):zkT h' v x:=by
 obtain⟨a,e,k1,k2,as,r⟩:=r;refine⟨a,e,k1,k2,as,xJ (λb o us O g I J=>kp b o (λz=>?_) (λz=>?_) g) k1 r⟩
 ·subst z;obtain⟨o',es,ep,g',q,_⟩:=B;rw[g] at g';cases g';rw[J] at q;cases q
 ·subst z;rw[F] at g;cases g;exact absurd (Value.type.inj I) (by decide)
def zdx:∀ {vs:List Value} {sts:List Dt},Paired (zkT h) vs sts->(∀x∈sts,∃d l,x = .tup (d::l)/\d.isTup=ft)->∃fs,W.KatTups h vs fs/\fs.length=sts.length/\∀f∈fs,(ft=false->∃a t,f=Value.int a t)/\(ft=true->∃a o,f=Value.ref a/\h.get? a=some o/\o.cls = .type "tuple")
 | _,_,.nil,_=>⟨[],trivial,rfl,λ_ h=>by simp at h⟩
 | _,_,.cons (b:=x) r O,h1=>by
  obtain⟨a,rfl,k1,k2,as,r⟩:=r;obtain⟨fs,f1,f2,U⟩:=zdx O λz Y=>h1 z (av _ Y);obtain⟨d,l,rfl,q⟩:=h1 x aL
  cases r with
  | @tuple a o B m xs as g Z F J=>
  obtain⟨vl⟩:=B;simp only[Dt.toWs,PySem.W.kqdPs] at J
  cases J with
  | @cons u us _ _ _ _ L r2=>
  refine⟨u::fs,⟨⟨a,o,_,m,rfl,g,Z,F,rfl⟩,f1⟩,by simp_all,λf hf=>?_⟩;rcases ax.mp hf with rfl | hf
  ·have hk:d.hk=true:=yP.mp (show Dt.hks (d::l)=true from k1) d (by simp)
   cases d with
   | int i=>cases L;exact⟨λ_=>⟨_,_,rfl⟩,λz=>by rw[z] at q;cases q⟩
   | tup l'=>cases L with
    | @tuple a' o' _ _ _ _ g' I _ _=>exact⟨λz=>(by rw[z] at q;cases q),λ_=>⟨a',o',rfl,g',I⟩⟩
   | _=>cases hk
  ·exact U f hf
def zhL {A:Around}{E:Value->Shared->Prop}{s:Shared}{L D:Addr}{m0:Str->Option Value}{vs:List Value}{n:Nat}{ft:Bool}{sts:List Dt}{Q:Value->Shared->Prop}(hu:A.units+60<cLine)(Y:s.heap.Ns L m0)(a4:D≠L)(ho:s.heap.get? D=some (seqObj "list" vs.toArray n))
  (hv:Paired (zkT s.heap) vs sts) (bs:sts.length<64) (hr:RowsOk ft sts)
  (h:∀h' c p,List.Perm p (List.range sts.length)->((p.map λi=>sts.getD i .non).Pairwise λa b=>HT.lexLt (enD a) (enD b)=true)->(∀b o,b≠L->b≠D->s.heap.get? b=some o->h'.get? b=some o)->h'.Ns L m0->
   h'.get? D=some (seqObj "list" (p.map λi=>vs.getD i .none).toArray c)->Q .none { s with heap:=h' }) :
  wpAny (model P w) A (call (.builtin "list.sort") [.ref D]) Q E s:=by
 have a5:=zcf hv;by_cases h2:2<=sts.length
 ·have B:∀p∈(zch s.heap L).filter (λq=>decide (q.1≠D)),s.heap.get? p.1=some p.2/\p.1≠L/\p.1≠D:=λp hp=>by
   have h1:=az.mp hp;have h2:=zak.mp (show (p.1,p.2)∈zch s.heap L from h1.1)
   simp_all
  have Z:∀b,(⟨#[],{}⟩:Heap).get? b=none:=λb=>by
   cases e:(⟨#[],{}⟩:Heap).get? b with
   | none=>rfl
   | some o'=>
    have:=ak e;simp at this
  refine W.kat_lsort (h₀:=(⟨#[],{}⟩:Heap)) (L:=L) (m:=m0) (D:=D) (its:=vs.toArray) (n:=n) (news:=(D,seqObj "list" vs.toArray n)::(zch s.heap L).filter (λq=>decide (q.1≠D))) (g:=λo=>(D,o)::(zch s.heap L).filter (λq=>decide (q.1≠D))) ⟨Y,λb o e=>?_,a6 _⟩ (λp hp=>?_) (W.UpdF.head λq hq=>(B q hq).2.2) (vs:=vs) rfl (by lia) (by lia) λe1 h' F N=>?_
  ·simp_all
  ·rcases ax.mp hp with rfl | hp
   ·simp_all
   ·exact⟨(B p hp).1,(B p hp).2.1,Z _⟩
  ·have kp:∀b o,b≠L->b≠D->s.heap.get? b=some o->h'.get? b=some o:=λb o hb hD e=>(N (b,o) (av _ (az.mpr ⟨zak.mpr ⟨hb,e⟩,aF hD⟩))).1;have ab:Paired (zkT h') vs sts:=Paired.mapP hv λv st r=>r.keep Y ho kp;obtain⟨fs,k1,k2,k3⟩:=zdx ab (hr.first h2);refine W.kat_kind (T:=if ft then .type "tuple" else .type "int") (s:={ s with heap:=h' }) k1 (by lia) (λf hf=>?_) (by cases ft <;> decide) ?_
   ·obtain⟨t1,t2⟩:=k3 f hf;intro A' Q' E' s' I hq
    cases ft with
    | false=>
     obtain⟨a,t,rfl⟩:=t1 rfl;exact cq (typeIs_int s' a t) hq
    | true=>
     obtain⟨a,o,rfl,g,hc⟩:=t2 rfl;exact cq (T := "tuple") ⟨o,I _ _ g,hc⟩ hq
   ·have hu:zb5 sts.length (zau (sts.map enD)):=λi j hi J e=>by
     have e1:=zah (sts:=sts.map enD) (i:=i) (j:=j) (by rwa[ac]) (by rwa[ac]);have e2:=zah (sts:=sts.map enD) (i:=j) (j:=i) (by rwa[ac]) (by rwa[ac]);rw[e,aQ (Int.lt_irrefl _)] at e1;rw[e,aQ (Int.lt_irrefl _)] at e2;have gi:(sts.map enD).getD i []=enD sts[i]:=by simp[hi]
     have gj:(sts.map enD).getD j []=enD sts[j]:=by simp[J]
     rw[gi,gj] at e1 e2;rcases zai (a:=enD sts[i]) (b:=enD sts[j]) with h | h | h
     ·exact (ef hr.nd).mp (zoM (hr.cmp _ (aZ hi) _ (aZ J)) h)
     all_goals grind
    obtain⟨p,ag,ad⟩:=zkE hu h2;rw[show vs.length=sts.length by lia]
    have al:∀i j,i<sts.length->j<sts.length->zea (zau (sts.map enD)) i j=HT.lexLt (enD (sts.getD i .non)) (enD (sts.getD j .non)):=λi j hi J=>by have:=zah (sts:=sts.map enD) (i:=i) (j:=j) (by rwa[ac]) (by rwa[ac]);rw[show zea (zau (sts.map enD)) i j=decide (zau (sts.map enD) i<zau (sts.map enD) j) from rfl,this];simp[hi,J]
    refine ag.wp (S:=λs'=>s'={ s with heap:=h' }) (λi j C s' hi J I hC=>?_) (λs' I=>?_) _ rfl
    ·subst I;obtain⟨a1,b1,c1,o1,bt,r1⟩:=zal ab .none .non hi;obtain⟨a2,b2,c2,o2,bx,r2⟩:=zal ab .none .non J;have mi:sts.getD i .non∈sts:=by simp[hi]
     have mj:sts.getD j .non∈sts:=by simp[J]
     have U:=hC { s with heap:=h' } rfl;rw[al i j hi J] at U;have O:=hr.cmp _ mi _ mj;obtain⟨d1,l1,e1,f1⟩:=hr.first h2 _ mi;obtain⟨d2,l2,e2,f2⟩:=hr.first h2 _ mj;show wpAny _ _ (keyLt' _ (vs.getD i .none) (vs.getD j .none)) C _ _;rw[b1,b2];rw[e1] at c1 o1 r1 O U;rw[e2] at c2 o2 r2 O U
     cases r1 with
     | @tuple _ b0 an n1 _ _ g1 b3 a7 bb=>
     cases r2 with
     | @tuple _ b4 as n2 _ _ g2 b5 bd bk=>
     refine W.kat_lt (s:={ s with heap:=h' }) g1 a7 g2 bd ?_;have i1:=xA o1;have i2:=xA o2;have j1:=yP.mp (show Dt.hks (d1::l1)=true from c1);have j2:=yP.mp (show Dt.hks (d2::l2)=true from c2);have:=zfw (P:=P) (w:=w) (A:=A.in1) (s:={ s with heap:=h' }) (Q:=C) (b:=((if ft then Value.type "tuple" else .type "int") != Value.type "tuple")) (by show A.units+1+40<cLine;lia) 0 (λd hd=>⟨j1 d hd,i1 d hd⟩) (λd hd=>⟨j2 d hd,i2 d hd⟩) (show Dt.cmps (d1::l1) (d2::l2)=true from O) bb bk (λhb _ d l' e=>?_) U
     ·rw[show decide (an.size<as.size)=decide (an.toList.length<as.toList.length) from by simp];exact this
     ·cases e;rw[f1]
      cases ft with
      | false=>rfl
      | true=>exact absurd hb (by decide)
    ·subst I
     have a0:p.toList.Perm (List.range sts.length):=by have:=ad.perm.toList;simpa using this
     have a3:∀i∈p.toList,i<sts.length:=λi hi=>aX.mp ((a0.mem_iff).mp hi);refine W.KasFin.intro F N (W.UpdF.head λq' bl=>(B q' bl).2.2) λbm c F'' N''=>?_;refine h bm c p.toList a0 ?_ (λb o hb hD e=>(N'' (b,o) (av _ (az.mpr ⟨zak.mpr ⟨hb,e⟩,aF hD⟩))).1) F''.ns (N'' (D,_) aL).1;have b6:p.size=sts.length:=x8 ad.perm;rw[List.pairwise_iff_getElem];intro i j hi J bo;rw[ac,c9] at hi J;have hk:=ad.lt_of bo (by lia);rw[List.getElem_map,List.getElem_map,Array.getElem_toList,Array.getElem_toList];have e1:p.getD i 0=p[i]:=by simp[hi]
     have e2:p.getD j 0=p[j]:=by simp[J]
     unfold key at hk;rw[e1,e2] at hk;rw[<- al _ _ (a3 _ (by simp)) (a3 _ (by simp))];exact aF hk
 ·refine aY slot_list_sort ⟨_,ho,rfl⟩ entry_list_sort ?_ (args_list_sort _);refine zbJ ho (by lia) λh' c kp hD=>⟨_,rfl,?_⟩;refine h h' c (List.range sts.length) (List.Perm.refl _) ?_ (λb o _ hb e=>kp b o hb e) ?_ ?_
  ·match sts,h2 with
   | [],_=>exact .nil
   | [_],_=>exact dE _ _
   | _::_::_,h2=>exact absurd (by simp) h2
  ·obtain⟨o,es,ep,g,k⟩:=Y;exact⟨o,es,ep,kp _ _ (Ne.symm a4) g,k⟩
  ·rw[<- a5,zcg];exact hD
end
section
variable {X:Cx}
def zlu:List V->Hp->VK->Prop:=λxs H Q=>∃ (l:Addr) (vs:List V) (sts:List Dt) (ft:Bool),xs=[.ref l]/\(Rd H l (.lst vs)\/H l=some (.tup vs))/\IsL H sts vs/\sts.length<64/\RowsOk ft sts/\
 ∀ (ys:List V) (q:List Dt),IsL H q ys->q.Perm sts->(q.Pairwise λa b=>HT.lexLt (enD a) (enD b)=true)->New H (.lst ys) Q
def zdr(h:IsL H sts vs):∀ {p:List Nat},(∀i∈p,i<sts.length)->IsL H (p.map λi=>sts.getD i .non) (p.map λi=>vs.getD i .non)
 | [],_=>rfl
 | i::p,hp=>by
  have hi:=hp i aL;obtain⟨x,h1,h2⟩:=h.getD (i:=i) (d:=sts[i]) (ar hi);refine⟨vs.getD i .non,_,rfl,?_,zdr h λj q=>hp j (av _ q)⟩;show Is H (sts.getD i .non) (vs.getD i .non);have B:sts.getD i .non=sts[i]:=by simp[hi]
  have F:vs.getD i .non=x:=by simp[h1]
  rw[B,F];exact h2
def zcw (hu:X.A.units+64<cLine):CallQ X (.builtin "sorted") zlu:=⟨by
 intro pins s σ H xs us Q I r h;obtain⟨l,vs,sts,ft,rfl,hl,hsts,h64,hr,q⟩:=h;obtain⟨u,rfl,ru⟩:=zbP r;cases ru;have hvl:=hsts.length;obtain⟨m0,hns,_⟩:=id I.loc
 have rows0:∀ {sts:List Dt} {vs:List V} {is:List Value},(∀x∈sts,x.hk=true/\x.eqOk/\x.isTup=true)->IsL H sts vs->zY vs is->Paired (zkT s.heap) is sts:=by
  intro sts
  induction sts with
  | nil=>intro vs is _ h1 h2;cases h1;cases h2;exact .nil
  | cons st sts ih=>
   intro vs is hk h1 h2;obtain⟨v,vs',rfl,hv,hr⟩:=h1;obtain⟨k1,k2,k3⟩:=hk st (by simp)
   cases h2 with
   | cons r1 r2=>
    refine .cons ?_ (ih (λx hx=>hk x (av _ hx)) hr r2)
    cases st with
    | tup ll=>
     obtain⟨a,xs,rfl,ha,hx⟩:=id hv;cases r1;exact⟨a,rfl,xH I k1 k2 hv⟩
    | _=>cases k3
 refine call_function_entry kind_sorted plain_sorted entry_sorted (args_sorted1 _) ?_;unfold Builtin.«sorted»;refine aa (m:=checkCount "sorted" 1 1 _) (ai ?_)
 have go:∀ (its:List Value) (h1:Heap),zY vs its->its.length<=sizeLine->(∀b o,s.heap.get? b=some o->h1.get? b=some o)->wpAny (model X.prog X.w) X.A.in1 (do
   let l <- newList its
   let _ <- holding [l] (call (.builtin "list.sort") [l])
   ret l) (λfin s'=>∃v,fin=PySem.Fin.done (Flow.ret v)/\EP X pins σ Q v s') X.xe { s with heap:=h1 }:=by
  intro its h1 rv hz hk
  have none0:∀b,(⟨#[],{}⟩:Heap).get? b=none:=λb=>by
   cases e:(⟨#[],{}⟩:Heap).get? b with
   | none=>rfl
   | some o'=>
    have:=ak e;simp at this
  have hil:=rv.length;refine aa (wpAny_newList ?_ hz);have F:Fr (⟨#[],{}⟩:Heap) X.env.locals s.heap m0:=⟨hns,λb o e=>(by simp_all),a6 _⟩;have F1:=(F.keeps hk).push { cls:=.type "list",data:=.seq its.toArray }
  have hDn:s.heap.get? h1.objs.size=none:=by
   cases e:s.heap.get? h1.objs.size with
   | none=>rfl
   | some o=>exact absurd (ak (hk _ _ e)) (bW _)
  have hHD:H h1.objs.size=none:=by
   cases e:H h1.objs.size with
   | none=>rfl
   | some o=>
    obtain⟨o',ho'⟩:=zhX (I.hok _ o e)
    grind
  have hLs:∃o,s.heap.get? X.env.locals=some o:=by obtain⟨o,_,_,h1,_⟩:=hns;exact⟨o,h1⟩
  have hDL:h1.objs.size≠X.env.locals:=λz=>by obtain⟨o,e⟩:=hLs;rw[z,e] at hDn;cases hDn
  have kp:∀b o,s.heap.get? b=some o->(h1.push { cls:=.type "list",data:=.seq its.toArray }).get? b=some o:=λb o e=>ae _ (hk b o e);have rows:Paired (zkT (h1.push { cls:=.type "list",data:=.seq its.toArray })) its sts:=Paired.mapP (rows0 hr.key hsts rv) λv x ⟨a,e,k1,k2,as,r⟩=>⟨a,e,k1,k2,as,xJ (λb o us n' g _ _=>kp b o g) k1 r⟩;refine aa (bX (aU (zhL (L:=X.env.locals) (D:=h1.objs.size) (m0:=m0) (vs:=its) (n:=0) (ft:=ft) (sts:=sts) (s:={ s with heap:=h1.push { cls:=.type "list",data:=.seq its.toArray } }) (Q:=λ_ s'=>EP X pins σ Q (.ref h1.objs.size) s') (by show X.A.units+1+60<cLine;lia) F1.ns hDL (am _ rfl) rows h64 hr λh'' c p hp hup kp2 ns2 hD2=>?_) (λ_ s' x=>ai ⟨_,rfl,x⟩) λ_ _ e=>e));have hpi:∀i∈p,i<sts.length:=λi hi=>aX.mp ((hp.mem_iff).mp hi);have hplen:p.length=sts.length:=by rw[hp.length_eq,aJ]
  have I':=zmf I hns (ys:=p.map λi=>vs.getD i .non) (λb o hb e=>kp2 b o hb (by grind) (kp b o e)) ns2 hDn hHD hD2 (zd9 rv p λi hi=>by have:=hpi i hi;lia) (by rw[ac,hplen,cE];lia) s.toks;refine⟨.ref h1.objs.size,_,I',rfl,(q _ (p.map λi=>sts.getD i .non) (zdr hsts hpi) ?_ hup).at hHD⟩;have:=hp.map λi=>sts.getD i .non;rwa[zcg] at this
 rcases hl with hl | hl
 ·obtain⟨its,rv,pl,hz⟩:=I.list (.inl hl);have hil:=rv.length;refine aa (collect_list pl.isList (go its _ rv (by lia) λb o q=>?_) (by rw[cE];lia));have hlt:b<s.heap.objs.size:=ak q;rw[eK _ _ _ _ (aD hlt),Heap.get?_push_ne _ _ _ (aD hlt)];exact q
 ·obtain⟨its,rv,⟨o,ho,hc,n,hd⟩,hz⟩:=I.tuple (.of hl);have hil:=rv.length;exact aa (zek ho hc hd (by lia) λh1 hk=>go its h1 rv (by lia) hk)⟩
end
mutual
def zhh:∀ {d:Dt},d.hk=true->d.noL=true
 | .int _,_=>rfl
 | .tup l,h=>by simpa [Dt.noL] using zcA (show Dt.hks l=true from h)
 | .non,h=>by cases h
 | .bl _,h=>by cases h
 | .str _,h=>by cases h
 | .lst _,h=>by cases h
 | .dct,h=>by cases h
def zcA:∀ {l:List Dt},Dt.hks l=true->Dt.noLs l=true
 | [],_=>rfl
 | d::l,h=>by simp only[Dt.hks,aH] at h;simp only[Dt.noLs,aH];exact⟨zhh h.1,zcA h.2⟩
end
def NDo (ob:Obj)(d:Addr)(ks:List (Dt×Addr×V)):Prop:=ks.length<=sizeLine/\(d==sysModules)=false/\∃xs:List (Dt×Addr×Value),Paired PrN ks xs/\∃es ep,ob.ExactDict/\ob.data = .dict es ep/\es.toList=xs.map (λx=>⟨uN x.1,.ref x.2.1,x.2.2⟩)/\(xs.map (·.1)).Nodup
def zn7 (H:Hp)(d:Addr)(ks:List (Dt×Addr×V)):Prop:=(∃ob,H d=some (kO d ob)/\NDo ob d ks)/\yH H ks
section
variable {X:Cx}{pins:List (Addr×Obj)}{σ:St}{H:Hp}{s:Shared}{a b d:Addr}{ob:Obj}{ks:List (Dt×Addr×V)}{k:Dt}{A:Around}{E:Value->Shared->Prop}
def zmO (I:Inv X pins σ H s)(g:zn7 H a ks):(a==sysModules)=false/\ks.length<=sizeLine/\∃xs,Paired PrN ks xs/\s.heap.DictOfH (zji X.prog X.w) a xs:=by obtain⟨⟨ob,h,z,lo,xs,r,es,ep,h1,h2,q,B⟩,F⟩:=g;have J:s.heap.get? a=some ob:=(show zD X.prog X.w H s.heap a (kO a ob) from I.hok a _ h).1;refine⟨lo,z,xs,r,ob,es,ep,J,h1,h2,q,λx L=>?_,B⟩;obtain⟨p,hp,O,U,_⟩:=zfN r L;obtain⟨k1,k2,k3⟩:=F p hp;rw[<- O,<- U];exact xH I k1 k2 k3
def Inv.thawN (I:Inv X pins σ H s)(h:H d=some (kO d ob))(D:NDo ob d ks):Inv X pins σ (upd H d (ddO d ks)) s:=by obtain⟨z,lo,xs,r,es,ep,h2,q,B,F⟩:=D;have h1:s.heap.get? d=some ob:=(show zD X.prog X.w H s.heap d (kO d ob) from I.hok d _ h).1;exact I.write (x:=d) (e:=d) (h':=s.heap) (t':=s.toks) (by rw[h];trivial) (.inl rfl) (λ_ _ _ e=>e) ⟨ob,h1⟩ (zfk ⟨z,lo,xs,r,ob,es,ep,h1,h2,q,B,F⟩)
def Inv.keepN (I:Inv X pins σ H s)(h:H d=some (ddO d ks)):∃ob,NDo ob d ks/\s.heap.get? d=some ob/\Inv X pins σ (upd H d (kO d ob)) s:=by obtain⟨⟨z,lo,xs,r,o,es,ep,h1,h2,q,B,F⟩,_⟩:=(show zD X.prog X.w H s.heap d (ddO d ks) from I.hok d _ h);exact⟨o,⟨z,lo,xs,r,es,ep,h2,q,B,F⟩,h1,I.write (x:=d) (e:=d) (h':=s.heap) (t':=s.toks) (by rw[h];trivial) (.inl rfl) (λ_ _ _ e=>e) ⟨o,h1⟩ ⟨h1,⟨o,h1⟩,λh1 h2 p k=>k o p⟩⟩
def zhP(J:A.units+64<cLine)(I:Inv X pins σ H s)(g:zn7 H a ks)(q:zbT H k b)(e:zbR ks k=some v)(h:∀w' s',Inv X pins σ H s'->zX v w'->Q w' s') :
  wpAny (model X.prog X.w) A (getItem (.ref a) (.ref b)) Q E s:=by
 obtain⟨lo,z,xs,r,dd⟩:=zmO I g;obtain⟨w',L,B⟩:=zfZ.some_of (v:=v) (o:=(atKey xs k).map (·.2)) (by rw[<- e];exact zfT r k);obtain⟨p,hp,F⟩:=ay.mp L;refine wpAny_getItem_heap (zfF J) (xH I q.1 q.2.1 q.2.2) dd hp ?_;rw[F];exact h w' _ (I.tok _) B
def zmN(B:A.units+64<cLine)(I:Inv X pins σ H s)(g:zn7 H a ks)(q:zbT H k b)(h:∀s',Inv X pins σ H s'->Q (.bool (!(zbR ks k).isSome)) s') :
  wpAny (model X.prog X.w) A (compareOp .NotIn (.ref b) (.ref a)) Q E s:=by
 obtain⟨lo,z,xs,r,dd⟩:=zmO I g;refine wpAny_notIn_heap (zfF B) (xH I q.1 q.2.1 q.2.2) lo dd ?_;rw[<- zbN r];exact h _ (I.tok _)
def zmP (I:Inv X pins σ H s)(g:zn7 H a ks):s.TypeIs (.ref a) "dict" := by obtain⟨lo,z,xs,r,dd⟩:=zmO I g;exact dd.typeIs
def zts:R2:=λx y H Q=>∃ (a b:Addr) (k:Dt) (ks:List (Dt×Addr×V)),x = .ref b/\y = .ref a/\zn7 H a ks/\zbT H k b/\Q (.bl (!(zbR ks k).isSome)) H
def zm0 (B:X.A.units+64<cLine):OpQ X (compareOp .NotIn) zts:=⟨by
 rintro pins s σ H x y v u Q I F J ⟨a,b,k,ks,rfl,rfl,g,L,q⟩;cases F;cases J;exact zmN B I g L λs' I'=>⟨.bl _,H,I',rfl,q⟩⟩
variable {o i value:Expr}{pos pos':Pos}{td ty tv:TE}
def zqY (td ty:TE):TE:=λσ H Q=>td σ H λx H1=>ty σ H1 λy H2=>∃a b k ks v,x = .ref a/\y = .ref b/\zn7 H2 a ks/\zbT H2 k b/\zbR ks k=some v/\Q v H2
def znv (B:X.A.units+64<cLine)(J:QE X o td)(hi:QE X i ty)(L:zn8 i):QE X (.Subscript o i pos) (zqY td ty):=⟨by
 intro pins s σ H Q I h;refine ziM PySem.F.slot_dict_getitem.lookup L (thn (J.run pins s σ H _ I h) λu O ⟨x,H1,I1,U,Y⟩=>thn (hi.run pins O σ H1 _ I1 Y)  ?_);rintro Z s2 ⟨y,H2,I2,ry,a,b,k,ks,v,ex,ey,g,gk,e,q2⟩;subst ex ey;obtain rfl:u=Value.ref a:=U;obtain rfl:Z=Value.ref b:=ry;exact⟨zmP I2 g,zhP B I2 g gk e λw' s3 I3 q=>⟨v,H2,I3,q,q2⟩⟩⟩
def ztx (td ty tv:TE):TS:=λD σ H=>tv σ H λv H1=>td σ H1 λx H2=>ty σ H2 λy H3=>∃a b k ks ob,x = .ref a/\y = .ref b/\H3 a=some (kO a ob)/\(∃h:Heap,h.get? a=some ob)/\NDo ob a ks/\yH H3 ks/\zbT H3 k b/\ks.length<sizeLine/\
 ∀q,NDo q a (zeR ks k b v)->(∃h:Heap,h.get? a=some q)->D.nx σ (upd H3 a (kO a q))
def ze4{H:Hp}{d:Addr}{o:HO}(h:H d=some (kO d ob))(w:∃h:Heap,h.get? d=some ob):zn H (upd H d o):=λb u e n=>by
 by_cases q:b=d
 ·subst q;rw[h] at e;cases e;have:=n [(Sum.inr "at",.non)] (by unfold kO pnK;dsimp only;rw[if_pos ⟨b,ob,w,rfl⟩]);cases this
 ·rw[zb q];exact e
def znD (F:X.A.units+64<cLine)(J:QE X o td)(hi:QE X i ty)(L:QE X value tv)(O:swapsWith value (some (.Subscript o i pos')) pos.line X.env=pure false) :
  QS X (.Assign [.Subscript o i pos'] value pos) (ztx td ty tv):=⟨by
 intro pins s σ H D I h;refine dM (thn (L.run pins s σ H _ I h) λr U ⟨v,H1,I1,Y,Z⟩=>thn (J.run pins U σ H1 _ I1 Z) λu s2 ⟨x,H2,I2,rx,q2⟩=>thn (hi.run pins s2 σ H2 _ I2 q2) λiv s3 ⟨y,H3,I3,ry,a,b,k,ks,ob,ex,ey,e,w,D1,g,q,l,q3⟩=>?_) O;subst ex ey;obtain rfl:u=Value.ref a:=rx;obtain rfl:iv=Value.ref b:=ry;have S:=ze4 (o:=ddO a ks) e w;refine zdJ F (I3.thawN e D1) zg (g.stay S) ⟨q.1,q.2.1,q.2.2.stay S⟩ l Y λs4 I4=>?_;obtain⟨B,D',hg,I5⟩:=I4.keepN zg;rw[ze8,ze8] at I5;exact⟨σ,_,I5,q3 B D' ⟨_,hg⟩⟩⟩
end
end L2
namespace L3
open PySem PySem.Spec L2
def zj6 {α:Type}{l m:List α}(h:l.Nodup)(s:∀x∈l,x∈m):l.length<=m.length:=by classical exact zbi h s
def MeE (Q:Dt->List Dt->Prop)(G:Hp)(q:Dt×Addr×V):Prop:=∃B o xs l,q.2.2 = .ref B/\G B=some (.frz o (.lst xs))/\IsL G l xs/\Dt.noLs l=true/\Q q.1 l
def MeG (d:Addr)(Q:Dt->List Dt->Prop)(G:Hp):Prop:=∃ob ks,G d=some (kO d ob)/\(∃h:Heap,h.get? d=some ob)/\NDo ob d ks/\yH G ks/\∀q∈ks,MeE Q G q
def Sk (G G':Hp):Prop:=∀b o,G b=some o->(imm o=true\/∃ob,o=kO b ob/\∃h:Heap,h.get? b=some ob)->G' b=some o
def Sk.t(h:Sk G G'):zcr G G':=λb xs e=>h b _ e (.inl rfl)
def MeE.st(h:MeE Q G q)(t:zcr G G')(f:∀b o xs,G b=some (.frz o (.lst xs))->G' b=some (.frz o (.lst xs))):MeE Q G' q:=by obtain⟨F,o,xs,l,h1,h2,I,B,J⟩:=h;exact⟨F,o,xs,l,h1,f _ _ _ h2,I.stayT t B,B,J⟩
def yH.stT(h:yH G ks)(s:zcr G G'):yH G' ks:=λq B=>let ⟨h1,h2,h3⟩:=h q B;⟨h1,h2,h3.stayT s (zhh h1)⟩
def MeG.sk(h:MeG d Q G)(s:Sk G G'):MeG d Q G':=by obtain⟨ob,ks,h1,h2,B,F,I⟩:=h;exact⟨ob,ks,s _ _ h1 (.inr ⟨ob,rfl,h2⟩),h2,B,yH.stT F s.t,λq J=>(I q J).st s.t λb o xs e=>s b _ e (.inl rfl)⟩
def zpt{b:Addr}{o o':HO}(e:o=kO b ob)(h:∃h:Heap,h.get? b=some ob)(n:NP o):False:=by subst e;exact zs3 h n
def zsZ (d:Addr)(Q:Dt->List Dt->Prop):Jv where
 K:=λA H=>MeG d Q (zG A H)
 same:=λh s=>h.sk λb o e _=>xz s b o e
 grow:=λ{A A' H} h g=>h.sk λb o e n=>by
  obtain⟨F,B⟩:=zx.mp e;refine zi (λz=>?_) B;rcases g b z with q | ⟨o',q1,q2,q3⟩
  ·exact F q
  ·rw[B] at q1;cases q1;rcases n with n | ⟨ob,n1,n2⟩
   ·rw[show imm o=false from q3] at n;cases n
   ·exact zpt (o':=o) n1 n2 q2
 upd:=λ{A H p o} h hp=>by rw[yf hp];exact h
 frz:=λ{A H p o o'} h hp np I=>h.sk λb u e n=>by
  obtain⟨F,B⟩:=zx.mp e
  have J:b≠p:=λz=>by
   subst z;rw[hp] at B;cases B;rcases n with n | ⟨ob,n1,n2⟩
   ·rw[show imm o=false from I] at n;cases n
   ·exact zpt (o':=o) n1 n2 np
  exact zi F (by rw[zb J];exact B)
def andJ (J J':Jv):Jv where
 K:=λA H=>J.K A H/\J'.K A H
 same:=λh s=>⟨J.same h.1 s,J'.same h.2 s⟩
 grow:=λh g=>⟨J.grow h.1 g,J'.grow h.2 g⟩
 upd:=λh a=>⟨J.upd h.1 a,J'.upd h.2 a⟩
 frz:=λh a b c=>⟨J.frz h.1 a b c,J'.frz h.2 a b c⟩
structure IsMemo (J:Jv)(d:Addr)(Q:Dt->List Dt->Prop):Prop where
 get:∀A H,J.K A H->MeG d Q (zG A H)
 ch:∀A H H',J.K A H->(∀b o,H b=some o->b≠d->H' b=some o)->MeG d Q (zG A H')->J.K A H'
def NoMo (J:Jv):Prop:=∀A H H' d ob ks,J.K A H->¬ A d->H d=some (kO d ob)->(∃h:Heap,h.get? d=some ob)->NDo ob d ks->(∀b o,H b=some o->b≠d->H' b=some o)->J.K A H'
@[reducible] def PN.mo (Pn:PN) (d:Addr) (Q:Dt->List Dt->Prop):PN:=⟨Pn.pn,andJ (zsZ d Q) Pn.J⟩
def zgc {Pn:PN}{d:Addr}{Q:Dt->List Dt->Prop}(h:NoMo Pn.J):IsMemo (Pn.mo d Q).J d Q where
 get:=λA H h=>h.1
 ch:=λA H H' ⟨h1,h2⟩ s m=>by obtain⟨ob,ks,q,B,F,_⟩:=h1;obtain⟨I,L⟩:=zx.mp q;exact⟨m,h A H H' d ob ks h2 I L B F s⟩
def zpa(h:kO d ob=kO d q)(w:∃h:Heap,h.get? d=some ob):ob=q:=by obtain⟨B,e⟩:=w;have:=congrFun (HO.ext.inj h) B;rw[e] at this;exact bh (this.mp rfl)
def zj7:NoMo (zfR P q):=λA H H' d ob ks h U F J D s=>by
 have B:P≠d:=λz=>by subst z;obtain⟨_,ps,I,_⟩:=h;rw[F] at I;have:=zpa (bh I) J;subst this;obtain⟨_,_,_,_,es,ep,_,L,_⟩:=D;cases L
 refine zf1.ch h (λn ⟨O,e,_⟩=>⟨n,by rw[s _ _ e B,e]⟩) λc Y n e=>⟨n,?_⟩;have:c≠d:=λz=>by rw[z,F] at e;cases e
 rw[s _ _ e this,e]
def IsQ.mo(h:IsQ Pn p):IsQ (Pn.mo d Q) p:=by
 refine⟨h.1,λA H H' p c a l B hp k=>⟨MeG.sk B.1 λb o e n=>?_,h.2 A H H' p c a l B.2 hp k⟩⟩;obtain⟨F,q⟩:=zx.mp e;refine zi F (k b o (λz=>?_) q);subst z;rw[hp] at q;cases q;rcases n with n | ⟨ob,n,_⟩
 ·cases n
 ·cases n
def zl9(h:yA Pn A n H)(F:IsMemo Pn.J d Q)(B:H d=some (kO d ob))(w:∃h:Heap,h.get? d=some ob)(m:MeG d Q (zG A (L2.upd H d (kO d q)))):Go Pn A H n (L2.upd H d (kO d q)):=by
 refine⟨ze4 B w,?_,F.ch A H _ h.2 (λb o e n=>by rw[zb n];exact e) m⟩;have hp:=h.1;split at hp
 ·trivial
 ·exact⟨Pen.but hp.1 (λ_ z=>by rw[B] at z;cases z) (λ_ _ z=>by rw[B] at z;cases z) (λb o e n=>by rw[zb n];exact e),hp.2⟩
structure JP (X:Cx)(e:Expr)(f:Ev->W->Prop):Prop where
 ex:∃te,QE X e te/\∀M A σ H ρ w Q,EnvR A M σ H ρ->f ρ w->(∀v,Bor A H w v->Q v H)->te σ H Q
section
variable {X:Cx}{Pn:PN}{M M' S:List Nat}{fr fr':Bool}{pos p p1 p2 p3 p4 p5 p6:Pos}{e a b c:Expr}{f fa fb fc:Ev->Mo W}{fk fm:Ev->W->Prop}{st:Stmt}{sts:List Stmt}{fs gs:Ms}{x:Str}{i:Nat}
@[reducible] def pVar (i:Nat):Ev->W->Prop:=λρ w=>ρ[i]?=some (some w)
def zhs(i:Nat)(B:X.N[i]?=some x:=by rfl)(F:Vis X.env.scope x:=by walk_at "v")(I:(x==("__debug__" : Str))=false:=by decide)(q:(x==("__classdict__" : Str))=false:=by decide):JP X (.Name x p) (pVar i):=⟨_,qv i B F I q,λM A σ H ρ w Q E h k=>by
 obtain⟨v,h1,h2,J⟩:=E.val i w h;refine⟨v,h1,k v ?_⟩;by_cases hi:i∈M
 ·obtain⟨a,_,_,h,_⟩:=J hi;exact h
 ·exact (h2 hi).bor⟩
def zc8 {κ:Type}[DecidableEq κ]{k:κ}:∀ {a b:List (κ×V)},xg a k=none->xg (a++b) k=xg b k
 | [],b,_=>rfl
 | q::a,b,h=>by
  by_cases e:q.1=k
  ·rw[zI e] at h;cases h
  ·rw[zC e] at h;rw[bw,zC e,zc8 h]
def zd6 {κ:Type}[DecidableEq κ]{k:κ}{v:V}:∀ {a b:List (κ×V)},xg a k=some v->xg (a++b) k=some v
 | [],b,h=>by cases h
 | q::a,b,h=>by
  by_cases e:q.1=k
  ·rw[zI e] at h;rw[bw,zI e];exact h
  ·rw[zC e] at h;rw[bw,zC e,zd6 h]
@[reducible] def zte (i:Nat):Ev->W->Prop:=λρ w=>∃d fs q,ρ[i]?=some (some (.wd d fs q))/\w = .pen d/\zS fs (Sum.inr "wide" : Key)=none
def zeA (i:Nat){x:Str}{j:Nat}(F:X.A.units+1<cLine)(I:X.N[i]?=some x:=by rfl)(J:Vis X.env.scope x:=by walk_at "v")(L:(x==("__debug__" : Str))=false:=by decide)
  (q:(x==("__classdict__" : Str))=false:=by decide):JP X (.Subscript (.Name x p) (.Constant (.str "wide") j p2) pos) (zte i):=⟨_,yR F (qv i I J L q) z6 (λ_ _=>rfl),λM A σ H ρ w Q E ⟨d,fs,O,h,e,l⟩ k=>by
 subst e;obtain⟨v,h1,h2,U⟩:=E.val i _ h
 have Y:Bor A H (.wd d fs O) v:=by
  by_cases hi:i∈M
  ·obtain⟨a,_,_,h,_⟩:=U hi;exact h
  ·exact (h2 hi).bor
 obtain⟨a,ks,rfl,B,_,Z,kd,ob,ab,rfl,g1,_⟩:=Y;have:=zaV.k (k:=(Sum.inr "wide" : Key)) B;rw[zc8 (g1.look.1 l)] at this;exact⟨_,h1,a,.ref d,rfl,this,k _ rfl⟩⟩
structure RPu (Pn:PN)(S M:List Nat)(fk fm:Ev->W->Prop)(ts:TS)(fs:Ms):Prop where
 run:∀B A σ H ρ n k D d Q kd (l0:List Dt),At3 Pn B S M A σ H ρ n->(∀a,¬ B.ca a)->IsMemo Pn.J d Q->kd.ky->(∀k' l,Q k' l->k'∈l0)->l0.length<=lim->(∀ ρ' m,k.nx ρ' m->fk ρ' (.d kd)/\fm ρ' (.pen d))->(∀w m,k.rt w m->∃l,w = .fl l/\Dt.noLs l=true/\Q kd l)->
  (∀M' A' σ' H' ρ' m l,At3 Pn B S M' A' σ' H' ρ' m->k.nx ρ' m->k.rt (.fl l) m->(∃ob ks va o xs,H' d=some (kO d ob)/\NDo ob d ks/\yH H' ks/\zbR ks kd=some (.ref va)/\zG A' H' va=some (.frz o (.lst xs))/\IsL (zG A' H') l xs)->D.nx σ' H')->fs ρ n k->ts D σ H
structure JPu (X:Cx)(Pn:PN)(S M:List Nat)(fk fm:Ev->W->Prop)(sts:List Stmt)(fs:Ms):Prop where
 ex:∃ts,QSs X sts ts/\RPu Pn S M fk fm ts fs
@[reducible] def zsR (f g:Ms):Ms:=λρ n k=>f ρ n { nx:=λq B=>blk g q B k,rt:=λ_ _=>False }
def uP (h1:JS X Pn S M false st fs)(h2:JPu X Pn S M fk fm sts gs):JPu X Pn S M fk fm (st::sts) (zsR fs gs):=by obtain⟨t,q,r⟩:=h1.ex;obtain⟨u,L,O⟩:=h2.ex;exact⟨_,zy q L,⟨λB A σ H ρ n k D d Q U Y a fc Z hk hl hz kn kr ke hf=>r.run B A σ H ρ n { nx:=λF I=>blk gs F I k,rt:=λ_ _=>False } _ a ⟨λA' J H' F I a' z=>O.run B A' J H' F I k D d Q U Y a' fc Z hk hl hz kn kr ke z.go,λ_ _ _ _ _ _ z=>False.elim z,λ_ _ _ _ _ _ z=>False.elim z,fc,λ_ _ _ _ _ _ _ _ z=>False.elim z⟩ hf⟩⟩
@[reducible] def zpm (j:Nat) (fs:Ms):Ms:=λρ n k=>onV ρ j λw=>zn9 w λkvs=>onP ρ j (.dn true kvs) λq=>fs q n k
def zjI (M':List Nat)(j:Nat)(h:JPu X Pn S M' fk fm sts fs)(h1:∀q∈M',q∈M/\q≠j:=by decide)(h2:∀q∈M,q∈M'\/q=j:=by decide)(J:j∈M:=by decide):JPu X Pn S M fk fm sts (zpm j fs):=by
 obtain⟨ts,q,r⟩:=h.ex;refine⟨ztG j ts,⟨λpins s σ H D I ⟨a,ks,_,L,O⟩=>?_⟩,⟨λB A σ H ρ n k D d Q U Y a fc Z hk hl hz kn kr ke hf=>?_⟩⟩
 ·obtain⟨ob,I2⟩:=I.frzN L;exact q.run pins s σ _ D I2 (O ob)
 unfold zpm at hf;rw[uw] at hf;obtain⟨w,e,hf⟩:=hf;rw[zeN] at hf;obtain⟨kvs,rfl,hf⟩:=hf;rw[uu] at hf;obtain⟨ad,ks,s,F,a'⟩:=a.frzN h1 h2 J e;exact⟨ad,ks,s,F,λob=>r.run B _ σ _ _ n k D d Q U Y (a' ob) fc Z hk hl hz kn kr ke hf⟩
@[reducible] def zsQ (f:Ev->Mo W):Ms:=λρ n k=>f ρ n λw m=>k.rt w m/\k.nx ρ m
def zkL{ks:List (Dt×Addr×V)}{k:Dt}{b:Addr}:zbR (zeR ks k b v) k=some v:=by rw[ziX,zih,zkM,if_pos rfl]
def zkK(h:zbR ks k=some v):∃q∈ks,q.1=k/\q.2.2=v:=by unfold zbR at h;obtain⟨q,h1,h2⟩:=ay.mp h;have:=List.find?_some h1;exact⟨q,List.mem_of_find?_eq_some h1,aS this,h2⟩
def zpu(h:NDo ob d ks):(ks.map (·.1)).Nodup:=by obtain⟨_,_,xs,r,_,_,_,_,_,q⟩:=h;rw[<- (zdV r).2];exact q
def zko{ks:List (Dt×Addr×V)}{k:Dt}{b:Addr}{q:Dt×Addr×V}(h:q∈zeR ks k b v):q∈ks\/q.1=k/\q.2.2=v:=by
 unfold zeR at h;split at h
 ·obtain⟨F,B,rfl⟩:=aw.mp h;split
  ·rename_i e;exact .inr ⟨e,rfl⟩
  ·exact .inl B
 ·rcases aK.mp h with z | z
  ·exact .inl z
  ·rw[aE.mp z];exact .inr ⟨rfl,rfl⟩
def zjH (hu:X.A.units+64<cLine)(hk:JP X a fk)(hm:JP X b fm)(he:JE X Pn M fr' e f)(hs:swapsWith e (some (.Subscript b a p1)) pos.line X.env=pure false:=by rfl):JPu X Pn S M fk fm [.Assign [.Subscript b a p1] e pos] (zsQ f):=by
 obtain⟨te,q,r⟩:=he.ex;obtain⟨tk,qk,rk⟩:=hk.ex;obtain⟨tm,qm,rm⟩:=hm.ex;refine⟨_,yj (znD hu qm qk q hs),⟨λB A σ H ρ n k D d Q kd l0 a fc hM I hl hz kn kr ke hf=>?_⟩⟩;refine r.run A σ H ρ n _ _ a.env a.pn hf λw m v H1 ⟨r1,r2⟩ hv g _=>?_;have U:=a.step g;obtain⟨l,rfl,nl,hQ⟩:=kr w m r1;obtain⟨f1,f2⟩:=kn ρ m r2;refine rm M A σ H1 ρ _ _ U.env f2 λv2 ad=>?_;obtain rfl:v2 = .ref d:=ad;refine rk M A σ H1 ρ _ _ U.env f1 λv3 ag=>?_;obtain⟨bd,rfl,gk,al⟩:=zdA I.1 I.2.1 ag I.2.2;obtain⟨ob,ks,z1,z2,z3,z4,z5⟩:=hM.get A H1 U.pn.2;obtain⟨nA,O⟩:=zx.mp z1
 have Y:ks.length<=l0.length:=by rw[<- ac (f:=(·.1)) (as:=ks)];refine zj6 (zpu z3) λx hx=>?_;obtain⟨q,Z,rfl⟩:=aw.mp hx;obtain⟨_,_,_,l',_,_,_,_,an⟩:=z5 q Z;exact hl _ _ an
 obtain⟨va,o,xs,rfl,a0,ab⟩:=hv;refine⟨d,bd,kd,ks,ob,rfl,rfl,O,z2,z3,yH.stay z4 (zn.same zl),gk,zfB (ah Y hz),λF D' w'=>?_⟩;have S1:zn H1 (L2.upd H1 d (kO d F)):=ze4 O z2;have sT:zcr (zG A H1) (zG A (L2.upd H1 d (kO d F))):=λb ys e=>zN S1 b _ e (λ_ z=>by cases z);have a2:zG A (L2.upd H1 d (kO d F)) d=some (kO d F):=zi nA zg;have J:zG A (L2.upd H1 d (kO d F)) va=some (.frz o (.lst xs)):=zN S1 _ _ a0 (λ_ z=>by cases z);have L:yH (zG A (L2.upd H1 d (kO d F))) (zeR ks kd bd (.ref va)):=zdT (yH.stT z4 sT) I.1 I.2.1 (al.stayT sT (zhh I.1))
 have G:MeG d Q (zG A (L2.upd H1 d (kO d F))):=⟨F,_,a2,w',D',L,λq Z=>by
  rcases zko Z with Z | ⟨e1,e2⟩
  ·exact (z5 q Z).st sT λb o xs e=>zN S1 _ _ e (λ_ z=>by cases z)
  ·exact⟨va,o,xs,l,e2,J,ab.stayT sT nl,nl,by rw[e1];exact hQ⟩⟩
 exact ke M A σ _ ρ m l (U.step (zl9 U.pn hM O z2 G)) r2 r1 ⟨F,_,va,o,xs,zg,D',L.stay (zn.same zl),zkL,J,ab.stayT sT nl⟩
@[reducible] def zsO (Pn:PN) (fk fm:Ev->W->Prop) (fb:Ms):Ms:=λρ n k=>∃ (d:Addr) (Q:Dt->List Dt->Prop) (q:Dt) (F:List Dt),IsMemo Pn.J d Q/\q.ky/\(∀I l,Q I l->I∈F)/\F.length<=lim/\fk ρ (.d q)/\fm ρ (.pen d)/\
 blk fb ρ n { nx:=λB _=>fk B (.d q)/\fm B (.pen d),rt:=λw m=>∃l,w = .fl l/\m=n/\Dt.noLs l=true/\Q q l }/\∀l,Q q l->k.rt (.d (.lst l)) n
def zjJ(hu:X.A.units+64<cLine)(hk:JP X k1 fk)(hm:JP X m1 fm)(al:JP X k2 fk)(an:JP X m2 fm)(hb:JPu X Pn S M fk fm body fs)(as:behindInMarks .NotIn m1=false:=by first | exact uU _ (by decide) (by decide) | rfl)(hs:zn8 k2:=by exact λ_ _=>rfl) :
  JSs X Pn S M false [.If (.Compare k1 [.NotIn] [m1] p1) body [] p2,.Return (some (.Subscript m2 k2 p3)) p4] (zsO Pn fk fm fs):=by
 obtain⟨tk,qk,rk⟩:=hk.ex;obtain⟨tm,qm,rm⟩:=hm.ex;obtain⟨a0,a1,a2⟩:=al.ex;obtain⟨a3,a4,a5⟩:=an.ex;obtain⟨tb,qb,rb⟩:=hb.ex;refine⟨_,zy (zeV (zan (zm0 hu) qk qm as) qb zam) (yj (xP (znv hu a4 a1 hs))),⟨λB A σ H ρ n k D a kk hf=>?_⟩⟩;obtain⟨d,Q,L,l0,hM,I,hl,hz,f1,f2,a7,hr⟩:=hf
 have fin:∀ (M':List Nat) A' J H' F l,At3 Pn B S M' A' J H' F n->fk F (.d L)->fm F (.pen d)->Q L l->(∃ob ks O o xs,H' d=some (kO d ob)/\NDo ob d ks/\yH H' ks/\zbR ks L=some (.ref O)/\zG A' H' O=some (.frz o (.lst xs))/\IsL (zG A' H') l xs)->zq3 (zqY a3 a0) D J H':=by rintro M' A' J H' F l U bb bk hQ ⟨ob,ks,O,o,xs,Y,Z,y3,y4,y5,y6⟩;refine a5 M' A' J H' F _ _ U.env bk λv2 ab=>?_;obtain rfl:v2 = .ref d:=ab;refine a2 M' A' J H' F _ _ U.env bb λv3 bl=>?_;obtain⟨bd,rfl,gk,_⟩:=zdA I.1 I.2.1 bl I.2.2;refine⟨d,bd,L,ks,.ref O,rfl,rfl,⟨⟨ob,Y,Z⟩,y3⟩,gk,y4,kk.rt (.d (.lst l)) n (.ref O) H' ?_ U.frm.st (U.pn.less U.frm.sub) (λz=>by cases z) (hr l hQ)⟩;have hv:Val A' H' (.d (.lst l)) (.ref O):=⟨O,xs,rfl,.inr ⟨o,y5⟩,y6⟩;exact WAt.up (zn.same (yk U.frm.sub)) (zn.same (yk U.frm.sub)) hv
 refine rk M A σ H ρ _ _ a.env f1 λv1 bm=>?_;obtain⟨bd,rfl,gk,_⟩:=zdA I.1 I.2.1 bm I.2.2;refine rm M A σ H ρ _ _ a.env f2 λv2 ab=>?_;obtain rfl:v2 = .ref d:=ab;obtain⟨ob,ks,z1,z2,z3,z4,z5⟩:=hM.get A H a.pn.2;have ad:=zl _ _ z1;have ag:=yH.stay z4 (zn.same zl);refine⟨d,bd,L,ks,rfl,rfl,⟨⟨ob,ad,z3⟩,ag⟩,gk,_,rfl,?_⟩
 cases e:zbR ks L with
 | none=>
  refine iteT ?_;refine rb.run B A σ H ρ n { nx:=λF _=>fk F (.d L)/\fm F (.pen d),rt:=λw m=>∃l,w = .fl l/\m=n/\Dt.noLs l=true/\Q L l } _ d Q L l0 a kk.fc hM I hl hz (λ_ _ z=>z) (λw m ⟨l,Y,_,Z,y3⟩=>⟨l,Y,Z,y3⟩) (λM' A' J H' F m l U Y Z y3=>?_) a7.go;obtain⟨l',y4,rfl,y5,y6⟩:=Z;cases y4;exact fin M' A' J H' F l U Y.1 Y.2 y6 y3
 | some v=>
  refine iteF ?_;obtain⟨q,hq,e1,e2⟩:=zkK e;obtain⟨O,o,xs,l,Y,Z,y3,y4,y5⟩:=z5 q hq;rw[e2] at Y;subst Y;exact fin M A σ H ρ l a f1 f2 (by rw[<- e1];exact y5) ⟨ob,ks,O,o,xs,ad,z3,ag,e,Z,y3⟩
@[reducible] def dFlz (f:Ev->Mo W):Ev->Mo W:=λρ n Q=>f ρ n λx m=>onL x λl=>Q (.fl l) m
def zib{A:Addr->Prop}{H:Hp}{p:Addr}(h:yA Pn A n H)(hp:H p=some (.lst xs)):yA Pn A n (L2.upd H p o):=by
 refine⟨?_,Pn.J.frz h.2 hp NP.lst rfl⟩;have h:=h.1;split at h
 ·trivial
 ·exact⟨Pen.but h.1 (λ_ z=>by rw[hp] at z;cases z) (λ_ _ z=>by rw[hp] at z;cases z) (λb o e n=>by rw[zb n];exact e),h.2⟩
def zso (h:JE X Pn M true e f):JE X Pn M false e (dFlz f):=by
 obtain⟨te,q,r⟩:=h.ex;refine⟨_,⟨zh9 q.run⟩,⟨λA σ H ρ n Q R E P hf k=>?_⟩⟩;refine r.run A σ H ρ n _ _ E P hf λw m v H' F hv g Y=>?_;rw[ut] at F;obtain⟨l,rfl,F⟩:=F;obtain⟨J,Z,B,⟨o,ho,L⟩,ab,xs,e2,h1,h2⟩:=Y rfl;subst Z;cases e2
 have h1:H' J=some (.lst xs):=by
  rcases h1 with h1 | ⟨o',h1⟩
  ·exact h1
  ·rw[ho] at h1;cases h1;cases L
 have nA:=E.newF B;refine⟨J,xs,rfl,h1,λob=>k _ m _ _ F ⟨J,ob,xs,rfl,zi nA zg,h2.stay λb o I O=>?_⟩ ⟨λb o I O=>?_,zib g.pn h1⟩ λz=>by cases z⟩
 ·obtain⟨U,z2⟩:=zx.mp I;exact zi (λy=>U (.inl y)) (by rw[zb λy=>U (.inr y)];exact z2)
 ·rw[zb λy=>by subst y;exact B o I O];exact g.st b o I O
end
open PySem PySem.Spec L2
abbrev Fs:=List (Key×Dt)
abbrev Kn:=List (List Int×Dt)
abbrev FW:=PN->List W->Nat->(Fs->Kn->Nat->Prop)->Prop
def zrI (H:Hp)(A:Addr->Prop)(H':Hp)(a d:Addr)(fs:Fs)(q:Kn):Prop:=Fr H a/\Fr H d/\a≠d/\(∃ks,H' a=some (.dK ks)/\zok (zG (λb=>A b\/b=d) H') d fs q ks)/\H' d=some (ddO d [])
def zrE (k:Nat)(F:FW):Sp:=λvs H Q _=>∃Pn A q n R,Al A H/\zbQ A H q vs/\q.length=k/\yA Pn A n H/\F Pn q n R/\∀fs B m a d H',R fs B m->zrI H A H' a d fs B->Go Pn A H m H'->Q (.ref a) H'
structure RSW (Pn:PN)(M:List Nat)(ts:TS)(fs:Ev->Nat->(Fs->Kn->Nat->Prop)->Prop):Prop where
 run:∀B A σ H ρ n R D,At3 Pn B [] M A σ H ρ n->(∀a,¬ B.ca a)->(∀f kn m a d H',R f kn m->zrI B.H0 B.A0 H' a d f kn->StX B.ca B.H0 H'->yA Pn B.A0 m H'->D.rt (.ref a) H')->fs ρ n R->ts D σ H
structure JSW (X:Cx)(Pn:PN)(M:List Nat)(sts:List Stmt)(fs:Ev->Nat->(Fs->Kn->Nat->Prop)->Prop):Prop where
 ex:∃ts,QSs X sts ts/\RSW Pn M ts fs
section
variable {X:Cx}{Pn:PN}{M M' S:List Nat}{fr fr':Bool}{pos p:Pos}{p0 p1 p2 p3 p4 p5 p6 p7:Pos}{j0 j1 j2 j3 j4 j5 j6:Nat}{e a b c:Expr}{es:List Expr}{f fa fb fc:Ev->Mo W}{st:Stmt}{sts:List Stmt}{fs:Ms}{gs:Ev->Nat->(Fs->Kn->Nat->Prop)->Prop}{x:Str}{i:Nat}
@[reducible] def zsV (f:Ms) (g:Ev->Nat->(Fs->Kn->Nat->Prop)->Prop):Ev->Nat->(Fs->Kn->Nat->Prop)->Prop:=λρ n R=>f ρ n { nx:=λq B=>g q B R,rt:=λ_ _=>False }
def zfv (h1:JS X Pn [] M true st fs)(h2:JSW X Pn M sts gs):JSW X Pn M (st::sts) (zsV fs gs):=by obtain⟨t,q,r⟩:=h1.ex;obtain⟨u,L,O⟩:=h2.ex;exact⟨_,zy q L,⟨λB A σ H ρ n R D a fc k hf=>r.run B A σ H ρ n { nx:=λF I=>gs F I R,rt:=λ_ _=>False } _ a ⟨λA' J H' F I U z=>O.run B A' J H' F I R D U fc k z,λ_ _ _ _ _ _ z=>False.elim z,λ_ _ _ _ _ _ z=>False.elim z,fc,λ_ _ _ _ _ _ _ _ z=>False.elim z⟩ hf⟩⟩
@[reducible] def zpr (q B F I J L:Nat):Ev->Nat->(Fs->Kn->Nat->Prop)->Prop:=λρ n R=>onV ρ q λO=>onD O λU=>onV ρ B λY=>onD Y λZ=>onV ρ F λw2=>onD w2 λd2=>onV ρ I λw3=>onD w3 λd3=>onV ρ J λw4=>onD w4 λd4=>onV ρ L λw5=>onZ w5 λkn=>
 R [(Sum.inr "room",U),(Sum.inr "some",Z),(Sum.inr "box",d2),(Sum.inr "worse",d3),(Sum.inr "there",d4)] kn n
def zfE:∀ (B kvs:List (Key×V)),((kvs++B).map (·.1)).Nodup->um kvs B=kvs++B
 | [],kvs,_=>(bc kvs).symm
 | q::r,kvs,h=>by
  have e:(kvs.any λkv=>decide (kv.1=q.1))=false:=eY.mpr λx F z=>by rw[aA] at h;exact (dU.mp h).2.2 x.1 (dg F) q.1 (by simp) (aS z)
  show um (xI kvs q.1 q.2) r=_;rw[show xI kvs q.1 q.2=kvs++[q] by unfold xI;rw[if_neg (by rw[e];decide)],zfE r (kvs++[q]) (by simpa using h)];simp
def zcp(E:EnvR A [] σ H ρ)(h:ρ[i]?=some (some w)):∃v,σ[i]?=some (some v)/\Val A H w v:=by obtain⟨v,h1,h2,_⟩:=E.val i w h;exact⟨v,h1,h2 (by simp)⟩
def zms(i0 i1 i2 i3 i4 i5:Nat)(q0:QE X e0 (ze6 i0))(q1:QE X e1 (ze6 i1))(q2:QE X e2 (ze6 i2))(q3:QE X e3 (ze6 i3))(q4:QE X e4 (ze6 i4))(q5:QE X e5 (ze6 i5)) :
  JSW X Pn [] [.Return (some (.Dict [some (.Constant (.str "room") j0 p0),some (.Constant (.str "some") j1 p1),some (.Constant (.str "box") j2 p2),some (.Constant (.str "worse") j3 p3),some (.Constant (.str "there") j4 p4),some (.Constant (.str "known") j5 p5),some (.Constant (.str "wide") j6 p6)] [e0,e1,e2,e3,e4,e5,.Dict [] [] p7] p)) pos] (zpr i0 i1 i2 i3 i4 i5):=by
 refine⟨_,yj (xP (zij (yG z6 q0 (yG z6 q1 (yG z6 q2 (yG z6 q3 (yG z6 q4 (yG z6 q5 (yG z6 zim zir))))))) rfl rfl (by simp) (by show 7<=15;decide))),⟨λB A σ H ρ n R D q fc k hf=>?_⟩⟩;simp only[zpr,uw,xn,zli] at hf;obtain⟨_,h0,d0,rfl,_,h1,d1,rfl,_,h2,d2,rfl,_,h3,d3,rfl,_,h4,d4,rfl,_,h5,kn,rfl,hf⟩:=hf;obtain⟨L,s0,b0⟩:=zcp q.env h0;obtain⟨O,s1,b1⟩:=zcp q.env h1;obtain⟨U,s2,b2⟩:=zcp q.env h2;obtain⟨Y,s3,b3⟩:=zcp q.env h3;obtain⟨Z,s4,b4⟩:=zcp q.env h4;obtain⟨v5,s5,b5⟩:=zcp q.env h5;obtain⟨kd,ag,ab,rfl,al,an⟩:=b5;refine λa ha=>⟨L,s0,O,s1,U,s2,Y,s3,Z,s4,.ref kd,s5,λd hd=>?_⟩;have I:d≠a:=λz=>by subst z;rw[zg] at hd;cases hd
 have J:H d=none:=by rw[zb I] at hd;exact hd
 refine⟨by rw[zb I.symm,zg],[(Sum.inr "room",L),(Sum.inr "some",O),(Sum.inr "box",U),(Sum.inr "worse",Y),(Sum.inr "there",Z),(Sum.inr "known",.ref kd),(Sum.inr "wide",.ref d)],rfl,by show 7<=15;decide,?_⟩;have em:um [] ([((Sum.inr "room" : Key),L),(Sum.inr "some",O),(Sum.inr "box",U),(Sum.inr "worse",Y),(Sum.inr "there",Z),(Sum.inr "known",V.ref kd),(Sum.inr "wide",V.ref d)]:List (Key×V))=[((Sum.inr "room" : Key),L),(Sum.inr "some",O),(Sum.inr "box",U),(Sum.inr "worse",Y),(Sum.inr "there",Z),(Sum.inr "known",V.ref kd),(Sum.inr "wide",V.ref d)]:=zfE _ [] (by simp only[ao,cD,List.nil_append];decide);rw[em];generalize ad:([(Sum.inr "room",L),(Sum.inr "some",O),(Sum.inr "box",U),(Sum.inr "worse",Y),(Sum.inr "there",Z),(Sum.inr "known",V.ref kd),(Sum.inr "wide",V.ref d)]:List (Key×V))=ks
 have S:yz H (L2.upd (L2.upd (L2.upd H a (.dK [])) d (ddO d [])) a (.dK ks)):=λb o e=>by rw[zb (zc e ha),zb (zc e J),zb (zc e ha)];exact e
 have a1:=q.step (Go.same q.pn S)
 have F:yz (zG A H) (zG (λb=>B.A0 b\/b=d) (L2.upd (L2.upd (L2.upd H a (.dK [])) d (ddO d [])) a (.dK ks))):=λb o e=>by obtain⟨z1,z2⟩:=zx.mp e;exact zi (λz=>z.elim (λz=>z1 (q.frm.sub b z)) λz=>by rw[z,J] at z2;cases z2) (S b o z2)
 refine k _ kn n a d _ hf ⟨q.frm.back (.of ha) (q.env.new ha),q.frm.back (.of J) (q.env.new J),I.symm,⟨ks,zg,?_⟩,by rw[zb I,zg]⟩ a1.frm.st (a1.pn.less a1.frm.sub);have up:∀ {x:Dt} {v:V},Val A H (.d x) v->Is (zG (λb=>B.A0 b\/b=d) (L2.upd (L2.upd (L2.upd H a (.dK [])) d (ddO d [])) a (.dK ks))) x v:=λh=>(Val.is h).stay (zn.same F);refine⟨by subst ad;rfl,[(Sum.inr "room",L),(Sum.inr "some",O),(Sum.inr "box",U),(Sum.inr "worse",Y),(Sum.inr "there",Z)],kd,ag,ab,by subst ad;rfl,⟨_,_,rfl,up b0,_,_,rfl,up b1,_,_,rfl,up b2,_,_,rfl,up b3,_,_,rfl,up b4,rfl⟩,F _ _ al,an.stay (zn.same F)⟩
def zlA (te:TE):TE:=λσ H Q=>te σ H λx H1=>∃d,H1 d=some (ddO d [])/\∀ob,NDo ob d []->(∃h:Heap,h.get? d=some ob)->Q x (L2.upd H1 d (kO d ob))
def zks(h:QE X e te):QE X e (zlA te):=⟨λpins s σ H Q I q=>thn (h.run pins s σ H _ I q) λu F ⟨x,H1,I1,r,d,h1,B⟩=>by obtain⟨ob,D,g,I2⟩:=I1.keepN h1;exact⟨x,_,I2,r,B ob D ⟨_,g⟩⟩⟩
def zs0:NP (ddO d []):=zhV
def zhS{A:Addr->Prop}{σ:St}{H H':Hp}{a d:Addr}{f:Fs}{L:Kn}(E:EnvR A M σ H ρ)(w:zrI H A H' a d f L)(g:Go Pn A H m H') :
  H' d=some (ddO d [])/\∀ob,NDo ob d []->(∃h:Heap,h.get? d=some ob)->zn H (L2.upd H' d (kO d ob))/\yA (Pn.mo d Q) A m (L2.upd H' d (kO d ob))/\Val A (L2.upd H' d (kO d ob)) (.wd d f L) (.ref a):=by
 obtain⟨fa,fd,I,⟨ks,h1,h2⟩,B⟩:=w;refine⟨B,λob D U=>?_⟩;have Y:¬ A d:=E.newF fd;have Z:¬ A a:=E.newF fa;have F:∀b o,H' b=some o->b≠d->L2.upd H' d (kO d ob) b=some o:=λb o e n=>by rw[zb n];exact e
 refine⟨λb o e np=>F b o (g.st b o e np) λz=>fd o (z ▸ e) np,⟨?_,⟨ob,[],zi Y zg,U,D,λq z=>by simp at z,λq z=>by simp at z⟩,Pn.J.frz g.pn.2 B zs0 rfl⟩,a,ks,rfl,zi Z (F _ _ h1 I),h2.stay (zn.same λb o e=>?_)⟩
 ·have hp:=g.pn.1;show match Pn.pn with | none=>True | some (p,c,ns)=>Pen _ p c ns m/\¬ A c/\¬ A p
  generalize Pn.pn=o at hp ⊢;rcases o with _ | ⟨p,c,ns⟩
  ·trivial
  ·exact⟨Pen.but hp.1 (λ_ z=>by rw[B] at z;cases z) (λ_ _ z=>by rw[B] at z;cases z) F,hp.2⟩
 ·obtain⟨O,z2⟩:=zx.mp e;exact zi (λz=>O (.inl z)) (F b o z2 λz=>O (.inr z))
structure RAW (Pn:PN)(M:List Nat)(ta:TA)(fs:Ev->Nat->(List W->PN->Nat->Prop)->Prop):Prop where
 run:∀A σ H ρ n Q R,EnvR A M σ H ρ->yA Pn A n H->fs ρ n R->(∀ws Pm m vs H',R ws Pm m->zbQ A H' ws vs->yA Pm A m H'->zn H H'->(∀A' m' H'',yA Pm A' m' H''->yA Pn A' m' H'')->Q vs H')->ta σ H Q
structure JAW (X:Cx)(Pn:PN)(M:List Nat)(es:List Expr)(fs:Ev->Nat->(List W->PN->Nat->Prop)->Prop):Prop where
 ex:∃ta,QA X es ta/\RAW Pn M ta fs
@[reducible] def zpp (f:Ev->Mo W) (g:Ev->Nat->(List W->PN->Nat->Prop)->Prop):Ev->Nat->(List W->PN->Nat->Prop)->Prop:=λρ n R=>f ρ n λw m=>g ρ m λq Pm B=>R (w::q) Pm B
def zjF(I:JE X Pn M fr e f)(h:JAW X Pn M es g)(J:starEach (e::es) X.env=(false,eval e X.env)::starEach es X.env:=by rfl):JAW X Pn M (e::es) (zpp f g):=by obtain⟨te,q,r⟩:=I.ex;obtain⟨ta,L,O⟩:=h.ex;refine⟨_,zz q L J,⟨λA σ H ρ n Q R E P hf k=>?_⟩⟩;refine r.run A σ H ρ n _ _ E P hf λw m v H1 h1 U B _=>?_;refine O.run A σ H1 ρ m _ _ (E.stay B.st) B.pn h1 λws Pm Y vs H2 h2 F hp st Z=>?_;exact k _ Pm Y _ H2 h2 ⟨v,vs,rfl,U.stay st,F⟩ hp (B.st.trans st) Z
def zna(h:yA (Pn.mo d Q) A n H):yA Pn A n H:=⟨h.1,h.2.2⟩
@[reducible] def zpq (k:Nat) (F:FW) (Pn:PN) (fs:Ev->Mo (List W)) (gs:Addr->(Dt->List Dt->Prop)->Ev->Mo (List W)):Ev->Nat->(List W->PN->Nat->Prop)->Prop:=λρ n R=>fs ρ n λB m=>B.length=k/\F Pn B m λf I J=>∃Q,∀d,gs d Q ρ J λq L=>R (.wd d f I::q) (Pn.mo d Q) L
def zjG{st:Stmt}{ps:List Str}{fA:Addr}{fd:FuncData}{F:FW}{fs:Ev->Mo (List W)}{gs:Addr->(Dt->List Dt->Prop)->Ev->Mo (List W)}{ye:List Expr}(D:Dfn X.K X.mg x st ps fA fd)(G:FnOk X.prog X.w X.K X.mg X.base CX0 j fA fd ps (zrE k F))(hr:Room kk X.A)(ha:JA X Pn M (e::es) fs)(q:∀d Q,JA X (Pn.mo d Q) M ye (gs d Q))(B:j<=kk:=by decide)(hg:Gl X x:=by rfl)(J:(x==("__debug__" : Str))=false:=by decide)(he:starEach (e::es) X.env=(false,eval e X.env)::starEach es X.env:=by rfl)(L:(backTo pos (starEach es X.env)).any (·.1)=false:=by rfl)(hs:starEach (.Call (.Name x p) (e::es) [] pos::ye) X.env=(false,eval (.Call (.Name x p) (e::es) [] pos) X.env)::starEach ye X.env:=by rfl) :
  JAW X Pn M (.Call (.Name x p) (e::es) [] pos::ye) (zpq k F Pn fs gs):=by
 obtain⟨ta,qa,ra⟩:=ha.ex;refine⟨zd5 (zlA (zd4 (zrE k F) [] E0 ta)) (λσ H Q=>∃d Q',(q d Q').ex.choose σ H Q),zz (zks (zik D G hr qa B hg J he L)) ⟨λpos pins s σ H Q I ⟨d,Q',z⟩=>(q d Q').ex.choose_spec.1.run pos pins s σ H Q I z⟩ hs,⟨λA σ H ρ n Q R E P hf kk=>?_⟩⟩;refine ra.run A σ H ρ n _ _ E P hf λws m vs H1 ⟨hk,hF⟩ O g=>?_;have E1:=E.stay g.st;rw[bc];refine⟨Pn,A,ws,m,_,E1.al,O,hk,g.pn,hF,λf kn m2 a d H2 ⟨Q',hR⟩ w g2=>?_⟩;obtain⟨y1,y2⟩:=zhS (Q:=Q') E1 w g2;refine⟨d,y1,λob D' hh=>?_⟩;obtain⟨z1,z2,z3⟩:=y2 ob D' hh;refine⟨d,Q',(q d Q').ex.choose_spec.2.run A σ _ ρ m2 _ _ (E1.stay z1) z2 (hR d) λab m3 U H3 Y Z g3=>?_⟩;exact kk _ _ m3 _ H3 Y ⟨_,U,rfl,z3.stay g3.st,Z⟩ g3.pn ((g.st.trans z1).trans g3.st) λ_ _ _ z=>zna z
@[reducible] def mFnW (k:Nat) (F:PN->List W->Mo W) (fs:Ev->Nat->(List W->PN->Nat->Prop)->Prop):Ev->Mo W:=λρ n R=>fs ρ n λq Pm m=>q.length=k/\F Pm q m R
def zsq {st:Stmt}{ps:List Str}{fA:Addr}{fd:FuncData}{k:Nat}{F:PN->List W->Mo W}{j kk:Nat}{fs:Ev->Nat->(List W->PN->Nat->Prop)->Prop}(D:Dfn X.K X.mg x st ps fA fd)(G:FnOk X.prog X.w X.K X.mg X.base CX0 j fA fd ps (spV k fr F))(O:Room kk X.A)
  (U:JAW X Pn M (e::es) fs) (q:j<=kk:=by decide) (Y:Gl X x:=by rfl) (B:(x==("__debug__" : Str))=false:=by decide) (Z:starEach (e::es) X.env=(false,eval e X.env)::starEach es X.env:=by rfl) (I:(backTo pos (starEach es X.env)).any (·.1)=false:=by rfl) :
  JE X Pn M fr (.Call (.Name x p) (e::es) [] pos) (mFnW k F fs):=by
 obtain⟨ta,qa,ra⟩:=U.ex;refine⟨_,zik D G O qa q Y B Z I,⟨λA σ H ρ n Q R E P hf kk=>?_⟩⟩;refine ra.run A σ H ρ n _ _ E P hf λws Pm m vs H1 ⟨hk,hF⟩ J hp st dn=>?_;rw[bc];exact⟨Pm,A,ws,m,R,(E.stay st).al,J,hk,hp,hF,λw m' v H' h1 h2 L h4=>kk w m' v H' h1 h2 ⟨st.trans L.st,dn _ _ _ L.pn⟩ λz=>(h4 z).back st⟩
@[reducible] def mWorld (k i:Nat) (F:FW) (Pn:PN) (fs:Ev->Mo (List W)) (gs:Addr->(Dt->List Dt->Prop)->Ms):Ms:=λρ n K=>fs ρ n λB m=>B.length=k/\F Pn B m λf I J=>∃Q,∀d,onP ρ i (.wd d f I) λq=>blk (gs d Q) q J { rt:=K.rt,nx:=λ_ _=>False }
@[reducible] def zs4 (w:W) (P:Fs->Kn->Prop):Prop:=match w with | .wd _ f q=>P f q | _=>False
def zh1:zs4 w P = ∃d f q,w = .wd d f q/\P f q:=propext ⟨λh=>by cases w <;> first | exact False.elim h | exact⟨_,_,_,rfl,h⟩,by rintro⟨d,f,q,rfl,h⟩;exact h⟩
@[reducible] def zr6 (fb:Ev->Mo W) (k:Key):Ev->Mo W:=λρ n Q=>fb ρ n λx m=>zs4 x λf _=>onO (zS f k) λd=>Q (.d d) m
def zas(F:X.A.units+1<cLine)(I:JB X Pn M a fa):JE X Pn M false (.Subscript a (.Constant (.str y) j p) pos) (zr6 fa (Sum.inr y)):=by obtain⟨ta,J,L⟩:=I.ex;refine⟨_,yR F J z6 (λ_ _=>rfl),⟨λA σ H ρ n Q R E P hf k=>?_⟩⟩;refine L.run A σ H ρ n _ _ E P hf λw m v H1 q O g=>?_;rw[zh1] at q;obtain⟨d,f,kn,rfl,q⟩:=q;rw[zax] at q;obtain⟨x,ex,q⟩:=q;obtain⟨U,ks,rfl,B,_,Y,kd,ob,Z,rfl,g1,_⟩:=O;obtain⟨v,h1,h2⟩:=(g1.look (k:=(Sum.inr y:Key))).2 x ex;have:=zaV.k (k:=(Sum.inr y:Key)) B;rw[zd6 h1] at this;exact⟨U,v,rfl,this,k _ m _ H1 q (Val.of h2) g λz=>by cases z⟩
@[reducible] def dWKn (fb:Ev->Mo W):Ev->Mo W:=λρ n Q=>fb ρ n λx m=>zs4 x λf q=>zS f (Sum.inr "known" : Key)=none/\Q (.df q) m
def zss(J:X.A.units+1<cLine)(L:JB X Pn M a fa):JE X Pn M false (.Subscript a (.Constant (.str "known") j p) pos) (dWKn fa):=by obtain⟨ta,O,U⟩:=L.ex;refine⟨_,yR J O z6 (λ_ _=>rfl),⟨λA σ H ρ n Q R E P hf k=>?_⟩⟩;refine U.run A σ H ρ n _ _ E P hf λw m v H1 q Y g=>?_;rw[zh1] at q;obtain⟨d,f,kn,rfl,l,q⟩:=q;obtain⟨Z,ks,rfl,B,_,ab,I,ob,F,rfl,g1,g2,g3⟩:=Y;have:=zaV.k (k:=(Sum.inr "known" : Key)) B;rw[zc8 (g1.look.1 l)] at this;exact⟨Z,.ref I,rfl,this,k _ m _ H1 q ⟨I,ob,F,rfl,g2,g3⟩ g λz=>by cases z⟩
@[reducible] def dInZ (q:Bool) (fk fd:Ev->Mo W):Ev->Mo W:=λρ n Q=>fk ρ n λy B=>fd ρ B λx F=>onZ x λkvs=>∃st,y = .d (stD st)/\Q (.d (.bl (xr q (zS kvs st).isSome))) F
def zmt (L:X.A.units+1<cLine)(O:JB X Pn M a fa)(U:JB X Pn M b fb)(h1:behindInMarks .NotIn b=false:=by first | exact uU _ (by decide) (by decide) | rfl):JT X Pn M (.Compare a [.NotIn] [b] pos) (zrr (dInZ true fa fb)):=by
 obtain⟨ta,Y,Z⟩:=O.ex;obtain⟨tb,qb,rb⟩:=U.ex;refine⟨_,zlq (zii L Y qb) h1,zv ▸ zqK (RE.rb (fr:=false) ⟨λA σ H ρ n Q R E P hf k=>?_⟩)⟩;refine Z.run A σ H ρ n _ _ E P hf λw1 m1 v1 H1 r1 b1 q=>?_;refine rb.run A σ H1 ρ m1 _ _ (E.stay q.st) q.pn r1 λw2 m2 v2 H2 I b2 g2=>?_;rw[zli] at I;obtain⟨kvs,rfl,st,rfl,r⟩:=I;obtain⟨ad,ks,rfl,B,J⟩:=zou b2;obtain⟨bd,xs,rfl,F,hx⟩:=xF (b1.stay g2.st);obtain rfl:=hx.of_ints;refine⟨ad,xg ks st,rfl,zaV.z B F,k _ m2 _ H2 r (Val.of ?_) (q.trans g2) λz=>by cases z⟩
 cases e:zS kvs st with
 | none=>rw[(J.look (k:=st)).1 e];rfl
 | some d=>obtain⟨v,h1,h2⟩:=(J.look (k:=st)).2 d e;rw[h1];rfl
def At3.relN(h:At3 Pn B S M A σ H ρ n)(h1:∀q∈M',q∈M/\q≠j)(h2:∀q∈M,q∈M'\/q=j):At3 Pn B S M' A σ H (ρ.set j none) n:=by
 have g:∀q w,(ρ.set j none)[q]?=some (some w)->q≠j/\ρ[q]?=some (some w):=λq w e=>by
  have F:q≠j:=λz=>by subst z;rw[List.getElem?_set] at e;simp only[if_true] at e;split at e <;> cases e
  exact⟨F,by rw[aq (Ne.symm F)] at e;exact e⟩
 refine⟨⟨by rw[bi];exact h.env.len,λq u L=>?_,λq k u O b F I J U Y=>?_,h.env.al⟩,h.frm,h.pn,h.prot,h.fix,λk u b I e=>h.mine k u b (h1 k I).1 (g _ _ e).2⟩
 ·obtain⟨F,e⟩:=g _ _ L;obtain⟨v,t1,Z,t3⟩:=h.env.val q u e;exact⟨v,t1,λz=>Z λy=>(h2 q y).elim z F,λz=>t3 (h1 q z).1⟩
 ·exact h.env.dis q k u O b (h1 q F).1 (h1 k I).1 J (g _ _ U).2 (g _ _ Y).2
@[reducible] def zpn (j:Nat) (fs:Ms):Ms:=λρ n k=>onN ρ j λq=>fs q n { rt:=k.rt,nx:=λ_ _=>False }
def zjK{st:List Stmt}(M':List Nat)(j:Nat)(h:JSs X Pn S M' fr st fs)(h1:∀q∈M',q∈M/\q≠j:=by decide)(h2:∀q∈M,q∈M'\/q=j:=by decide):JSs X Pn S M fr st (zpn j fs):=by obtain⟨ts,q,r⟩:=h.ex;refine⟨ts,q,⟨λB A σ H ρ n k D a kk hf=>?_⟩⟩;unfold zpn at hf;rw[zhZ] at hf;exact r.run B A σ H _ n { rt:=k.rt,nx:=λ_ _=>False } D (a.relN h1 h2) ⟨λ_ _ _ _ _ _ z=>False.elim z,λ_ _ _ _ _ _ z=>False.elim z,λ_ _ _ _ _ _ z=>False.elim z,kk.fc,kk.rt⟩ hf
def ltD (a b:Dt):Prop:=HT.lexLt (enD a) (enD b)=true
def zhM {a:Dt}:¬ ltD a a:=λh=>by unfold ltD at h;rw[lexI] at h;cases h
def zlb {a b c:Dt}(h:ltD a b)(h':ltD b c):ltD a c:=zaj h h'
def zcX {α:Type}{r:α->α->Prop}(q:∀x,¬ r x x)(B:∀x y z,r x y->r y z->r x z):∀ {l l':List α},l.Perm l'->l.Pairwise r->l'.Pairwise r->l=l'
 | [],l',p,_,_=>p.nil_eq
 | a::l,[],p,_,_=>by cases p.eq_nil
 | a::l,b::l',p,h,h'=>by
  have e:a=b:=by
   rcases ax.mp (p.mem_iff.mp (aL (a:=a) (l:=l))) with z | z
   ·exact z
   ·rcases ax.mp (p.mem_iff.mpr (aL (a:=b) (l:=l'))) with y | y
    ·exact y.symm
    ·exact (q a (B _ _ _ ((bQ.mp h).1 b y) ((bQ.mp h').1 a z))).elim
  subst e;rw[zcX q B (p.cons_inv) (bQ.mp h).2 (bQ.mp h').2]
@[reducible] def zkX:List W->Mo W:=λB n Q=>on1 B λx=>onS x λsts=>sts.length<64/\(∃ft,RowsOk ft sts)/\∀q:List Dt,q.Perm sts->q.Pairwise ltD->Q (.d (.lst q)) n
def ze7:FL Pn true zlu zkX:=⟨λA H xs ws n Q R L b P h k=>by
 simp only[zkX,ur,zh0] at h;obtain⟨x,rfl,sts,Y,F,⟨ft,O⟩,h⟩:=h;obtain⟨v,rfl,U⟩:=zaH b
 have I:∃a ys,v = .ref a/\(Rd H a (.lst ys)\/H a=some (.tup ys))/\IsL (zG A H) sts ys:=by
  rcases Y with rfl | rfl
  ·obtain⟨a,ys,e,h1,h2⟩:=U;exact⟨a,ys,e,.inl h1,h2⟩
  ·obtain⟨a,ys,e,h1,h2⟩:=xF U;exact⟨a,ys,e,.inr h1,h2⟩
 obtain⟨a,ys,rfl,Z,I⟩:=I;refine⟨a,ys,sts,ft,rfl,Z,I.stay (zn.same zl),F,O,λJ q hy hp hs p H' np g S=>?_⟩;have nl:Dt.noLs q=true:=zcA (yP.mpr λd hd=>(O.key d (hp.mem_iff.mp hd)).1);have B:IsL (zG A H) q J:=uD L.noT nl hy;exact k _ n _ H' (h q hp hs) (zbO B (zn.same S) (L.new np) g) (Go.same P S) λz=>za5 B S np g⟩
end
def zmT(r:Nat)(Fu:Fun K x qual st f fd)(S:FnScope N ps (zd st))(hm:m=ps.length)(hN:N.length=m+r)(J:∀ (B:Value) (A:Around) (outer:List Env) (s:Shared) (H:Hp) (E:XK) (Pn:PN),Room k (A.deeper (PyProof.Rows.envOfC qual (zd st) s.heap.objs.size f B))->
   ∃fs,JSW (zaN CX0 P w K mg base N qual (zd st) f B A outer s H E).nox Pn [] (zU st) fs/\∀I n R,F Pn I n R->beg I r λρ=>fs ρ n R):FnOk P w K mg base CX0 (k+1) f fd ps (zrE m F):=by
 refine Fun.okQ Fu S (λvs H Q E h=>?_) (λB A outer s H vs Q E hr h=>?_)
 ·obtain⟨Pn,A,I,n,R,_,L,O,_⟩:=h;rw[L.len,O,hm]
 ·obtain⟨Pn,A3,I,n,R,Z,L,O,hp,hF,q⟩:=h;obtain⟨fs,⟨t,qs,rs⟩,U⟩:=J B A outer s H E Pn hr;have Y:=U I n R hF;rw[zgE] at Y;have e:xp N I=I.map some++List.replicate r none:=by unfold xp;rw[hN,O,Nat.add_sub_cancel_left]
  rw[<- e] at Y;refine⟨t,qs,rs.run { A0:=A3,H0:=H,G0:=zG A3 H,σ0:=L2.yO N vs } A3 (L2.yO N vs) H (xp N I) n R _ ⟨za2 Z L (λi hi=>by simp_all),⟨λ_ z=>z,λ_ z=>.inl z,.of (zn.refl _),Z,λ_ z=>z.elim,λ_ z=>z.elim⟩,hp,zn.refl _,⟨λi hi=>rfl,λz=>by cases z⟩,λi w a hi e=>by simp_all⟩ (λ_ z=>z) (λf kn m a d H' h1 h2 h3 h4=>?_) Y⟩;exact q f kn m a d H' h1 h2 ⟨h3.stay,h4⟩
open PySem L2
def zdQ {a c:Int×Int}(h:zF a=zF c):a=c:=by obtain⟨q,B⟩:=a;obtain⟨F,I⟩:=c;simp only[zF,Dt.tup.injEq,eJ,Dt.int.injEq,and_true] at h;rw[h.1,h.2]
def zaO {a c:List (Int×Int)}(h:yp a=yp c):a=c:=(eV λ_ _ z=>zdQ z).mp (Dt.tup.inj h)
def za9 (g:List (Int×Int)):(yp g).ky:=⟨yP.mpr λd B=>by obtain⟨q,_,rfl⟩:=aw.mp B;rfl,zca.1,rfl⟩
def zjc (p q:Int×Int):Dt.cmp (zF p) (zF q)=true:=rfl
def zdj:∀g h:List (Int×Int),Dt.cmps (g.map zF) (h.map zF)=true
 | [],_=>rfl
 | _::_,[]=>rfl
 | p::g,q::h=>by rw[ao,ao,Dt.cmps,zjc,zdj g h];rfl
def ziI {l:List (List (Int×Int))}(nd:l.Nodup)(h:2<=l.length->∀g∈l,g≠[]):RowsOk true (l.map yp) where
 key:=λx hx=>by obtain⟨g,_,rfl⟩:=aw.mp hx;exact za9 g
 cmp:=λx hx y hy=>by obtain⟨g,_,rfl⟩:=aw.mp hx;obtain⟨k,_,rfl⟩:=aw.mp hy;exact zdj g k
 first:=λh2 x hx=>by
  obtain⟨g,hg,rfl⟩:=aw.mp hx;rw[ac] at h2
  cases g with
  | nil=>exact (h h2 _ hg rfl).elim
  | cons q r=>exact⟨zF q,r.map zF,rfl,rfl⟩
 nd:=by rw[List.nodup_iff_pairwise_ne] at *;exact bD.mpr (nd.imp λhne z=>hne (zaO z))
def zgo {l:List (Int×Int)}(nd:l.Nodup):RowsOk false (l.map zF) where
 key:=λx hx=>by obtain⟨g,_,rfl⟩:=aw.mp hx;exact⟨rfl,rfl,rfl⟩
 cmp:=λx hx y hy=>by obtain⟨g,_,rfl⟩:=aw.mp hx;obtain⟨k,_,rfl⟩:=aw.mp hy;rfl
 first:=λh2 x hx=>by obtain⟨g,hg,rfl⟩:=aw.mp hx;exact⟨_,_,rfl,rfl⟩
 nd:=by rw[List.nodup_iff_pairwise_ne] at *;exact bD.mpr (nd.imp λhne z=>hne (zdQ z))
end L3
namespace L2
open PySem PySem.Spec PyProof.Rows PySem.W PySem.Calls
section
variable {X:Cx}{e:Expr}{te:TE}{p p2 kp pos:Pos}
end
end L2
namespace L3
open PySem PySem.Spec L2
section
variable {X:Cx}{Pn:PN}{M:List Nat}{fr fr':Bool}{e a b:Expr}{f fa:Ev->Mo W}{p p2 kp pos:Pos}
@[reducible] def onLf (w:W) (P:List (List Dt)->Prop):Prop:=match w with | .lf i=>P i | _=>False
@[reducible] def dMinL (fs:Ev->Mo (List W)):Ev->Mo W:=λρ n Q=>fs ρ n λB m=>on1 B λx=>onLf x λq=>0<q.length/\∀ (i:Nat) (l:List Dt),q[i]?=some l->(∀ (j:Nat) (l':List Dt),q[j]?=some l'->l.length<=l'.length/\(j<i->l.length<l'.length))->Q (.fl l) m
end
end L3
local macro_rules | `(tactic| left)=>`(tactic| ((try (with_reducible conv=>whnf));repeat (with_reducible refine L3.zos ?_;try (with_reducible conv=>whnf)));try dsimp only)
local macro_rules | `(tactic| walk_at "ct")=>`(tactic| (with_reducible refine L3.zpC ?_ ?_;(first | decide | assumption | rfl));left)
local macro_rules | `(tactic| walk_at "cf")=>`(tactic| (with_reducible refine L3.zka ?_ ?_;(first | decide | assumption | rfl));left)
namespace Law
open PySem L2 L3
abbrev la:List Str:=["_law_pen_here","_law_room_here","_law_box","_law_given_here"]
abbrev lb:List Str:=["_law_room_here","_law_some_here","_law_box","_law_worse"]
abbrev lc:List Str:=["_law_pen_here","_law_room_here","_law_box","_law_worse"]
abbrev ld:List Str:=["_law_pen_here","_law_room_here","_law_box","_law_few"]
abbrev lg:List Str:=["_law_pen_here","_law_world_here","_law_some_here"]
abbrev lh:List Str:=["room","some","box","worse","ground"]
abbrev li:List Str:=["_law_script"]
abbrev lj:List Str:=["room","some","box","worse","given"]
abbrev lm:List Str:=["_law_k","_law_pen_here","_law_room_here","_law_box","_law_few"]
abbrev ln:List Str:=["_law_found","_law_due"]
abbrev lp:List Str:=["_law_one","_law_given_here"]
abbrev lr:List Str:=["_law_pen_here","_law_many"]
abbrev lu:List Str:=["_law_few","_law_pen_here","_law_room_here","_law_box"]
abbrev lv:List Str:=["_law_world_here","_law_given_here"]
abbrev lw:List Str:=["_law_box","_law_worth","_law_one"]
abbrev lx:List Str:=["_law_pen_here","_law_world_here"]
abbrev ly:List Str:=["room"]
abbrev lz:List Str:=["_law_pen_here","_law_room_here"]
abbrev lA:List Str:=["_law_world_here","_law_ground"]
abbrev lB:List Str:=["_law_pen_here","_law_most"]
abbrev lC:List Str:=["_law_given_here","_law_at","_law_ground"]
abbrev lD:List Str:=["_law_k","_law_lying","_law_given_here"]
abbrev lE:List Str:=["_law_ground","_law_box"]
abbrev lF:List Str:=["_law_one","_law_other"]
abbrev lG:List Str:=["given","room","some","box","worse"]
abbrev lH:List Str:=["row","worth","worths"]
abbrev lI:List Str:=["box","worths","fixed"]
abbrev lJ:List Str:=["_law_one","_law_worse","_law_box"]
abbrev lK:List Str:=["_law_at","_law_ground","_law_box"]
abbrev lL:List Str:=["_law_given_here","_law_one"]
abbrev lM:List Str:=["_law_great_here","_law_one"]
abbrev lN:List Str:=["_law_many","_law_pen_here"]
abbrev lO:List Str:=["standing","box"]
abbrev lP:List Str:=["_law_room_here"]
abbrev lQ:List Str:=["_law_pen_here"]
abbrev lR:List Str:=["room","given"]
abbrev lS:List Str:=["choices"]
def top (i:Nat):Stmt:=PySem.Challenge.pw_allelse_k47_givens_that_lie.main.body.getD i (.Pass ⟨0,0,0,0⟩)
abbrev zcj:Stmt:=top 26
abbrev zbF:Stmt:=top 27
abbrev zaF:Stmt:=top 14
abbrev zcl:Stmt:=top 15
abbrev x9:Stmt:=top 16
abbrev ux:Stmt:=top 40
abbrev zck:Stmt:=top 17
abbrev zdW:Stmt:=top 19
abbrev zdX:Stmt:=top 21
abbrev u5:Stmt:=top 22
abbrev uy:Stmt:=top 24
abbrev u6:Stmt:=top 23
abbrev zaB:Stmt:=top 29
abbrev zbC:Stmt:=top 28
abbrev zbz:Stmt:=top 32
abbrev zaA:Stmt:=top 33
abbrev zbB:Stmt:=top 34
abbrev zci:Stmt:=top 30
abbrev zaC:Stmt:=top 31
abbrev zbA:Stmt:=top 35
abbrev xD:Stmt:=top 36
abbrev zbG:Stmt:=top 37
abbrev zaE:Stmt:=top 38
abbrev zbD:Stmt:=top 39
abbrev zbE:Stmt:=top 41
abbrev u4:Stmt:=top 42
abbrev zaD:Stmt:=top 43
abbrev ze0:Stmt:=top 44
def ze1:FnScope li li (zd zcj):=by walk_at "f"
def yc:FnScope ["_law_pen_here","_law_many","_law_found","_law_at","_law_cell","_law_mixed"] lr (zd zbF):=by walk_at "f"
def yV:FnScope ["room","many","worths"] ly (zd zaF):=by walk_at "f"
def ze2:FnScope ly ly (zd zcl):=by walk_at "f"
def xQ:FnScope ly ly (zd x9):=by walk_at "f"
def zbH:FnScope ["_law_asked","_law_caught"] ["_law_asked"] (zd ux):=by walk_at "f"
def xM:FnScope ["choices","rows","worths"] lS (zd zck):=by walk_at "f"
def zcm:FnScope ["room","given","fixed"] lR (zd zdW):=by walk_at "f"
def zao:FnScope ["room","some","box","worse","given","within"] lj (zd zdX):=by walk_at "f"
def yo:FnScope ["standing","box","givens","at","worth"] lO (zd u5):=by walk_at "f"
def zbI:FnScope ["given"] ["given"] (zd uy):=by walk_at "f"
def xx:FnScope ["room","some","box","worse","ground","lying"] lh (zd u6):=by walk_at "f"
def u7:FnScope ["_law_pen_here","_law_some_here"] lQ (zd zaB):=by walk_at "f"
def yb:FnScope ["_law_pen_here","_law_most","_law_room_here","_law_size","_law_k","_law_many"] lB (zd zbC):=by walk_at "f"
def ua:FnScope ["_law_pen_here","_law_room_here","_law_box","_law_better"] lz (zd zbz):=by walk_at "f"
def xK:FnScope ["_law_pen_here","_law_room_here","_law_box","_law_few","_law_given_here","_law_at"] ld (zd zaA):=by walk_at "f"
def yM:FnScope ["_law_pen_here","_law_room_here","_law_box","_law_given_here","_law_at","_law_way","_law_where","_law_worth"] la (zd zbB):=by walk_at "f"
def yE:FnScope ["_law_room_here","_law_found","_law_many","_law_longer","_law_one"] lP (zd zci):=by walk_at "f"
def zc1:FnScope lp lp (zd zaC):=by walk_at "f"
def zaG:FnScope ["_law_world_here","_law_given_here","_law_one"] lv (zd zbA):=by walk_at "f"
def z7:FnScope ["_law_ground","_law_box","_law_found","_law_at"] lE (zd xD):=by walk_at "f"
def yN:FnScope ["_law_world_here","_law_ground","_law_lying","_law_given_here","_law_found"] lA (zd zbG):=by walk_at "f"
def xL:FnScope ["_law_room_here","_law_some_here","_law_box","_law_worse","_law_known","_law_there"] lb (zd zaE):=by walk_at "f"
def zdY:FnScope ln ln (zd zbD):=by walk_at "f"
def yw:FnScope ["_law_pen_here","_law_room_here","_law_box","_law_worse","_law_many","_law_few","_law_givens_here","_law_found","_law_one"] lc (zd zbE):=by walk_at "f"
def zM:FnScope ["_law_pen_here","_law_world_here","_law_some_here","_law_room_here","_law_box","_law_found","_law_ground","_law_given_here","_law_wide_here"] lg (zd u4):=by walk_at "f"
def zu:FnScope ["_law_pen_here","_law_world_here","_law_room_here","_law_some_here","_law_box","_law_worse","_law_few","_law_ground","_law_handed","_law_turn","_law_found","_law_given_here"] lx (zd zaD):=by walk_at "f"
def uz:FnScope ["_law_script","_law_pen_here","_law_turn","_law_room_here","_law_box","_law_better","_law_worse","_law_some_here","_law_great_here","_law_one"] li (zd ze0):=by walk_at "f"
set_option genInjectivity false in
structure Ad where
 f0:Addr
 d0:FuncData
 f1:Addr
 d1:FuncData
 f2:Addr
 d2:FuncData
 f3:Addr
 d3:FuncData
 f4:Addr
 d4:FuncData
 f5:Addr
 d5:FuncData
 f6:Addr
 d6:FuncData
 f7:Addr
 d7:FuncData
 f8:Addr
 d8:FuncData
 f9:Addr
 d9:FuncData
 f10:Addr
 d10:FuncData
 f11:Addr
 d11:FuncData
 f12:Addr
 d12:FuncData
 f13:Addr
 d13:FuncData
 f14:Addr
 d14:FuncData
 f15:Addr
 d15:FuncData
 f16:Addr
 d16:FuncData
 f17:Addr
 d17:FuncData
 f18:Addr
 d18:FuncData
 f19:Addr
 d19:FuncData
 f20:Addr
 d20:FuncData
 f21:Addr
 d21:FuncData
 f22:Addr
 d22:FuncData
 f23:Addr
 d23:FuncData
 f24:Addr
 d24:FuncData
 f25:Addr
 d25:FuncData
 f26:Addr
 d26:FuncData
 f27:Addr
 d27:FuncData
 C_TooMany:Addr
 C_WishError:Addr
 C_HasRing:Addr
 C_IsBetter:Addr
 C_NotSettled:Addr
 C_NotKept:Addr
 C_NoWish:Addr
 C_NoBook:Addr
 C_NoText:Addr
 C_Full:Addr
 C_NoStanding:Addr
 cc:Addr
 PT:Addr
structure Txt (K:PySem.W.Frag)(mg:Str->Option Value)(t:Ad):Prop where
 q0:Dfn K mg "_law_pen" zcj li t.f0 t.d0
 q1:Dfn K mg "_law_take" zbF lr t.f1 t.d1
 q2:Dfn K mg "multiplied" zaF ly t.f2 t.d2
 q3:Dfn K mg "is_small" zcl ly t.f3 t.d3
 q4:Dfn K mg "must_be_small" x9 ly t.f4 t.d4
 q5:Dfn K mg "_law_refused" ux ["_law_asked"] t.f5 t.d5
 q6:Dfn K mg "combined" zck lS t.f6 t.d6
 q7:Dfn K mg "keeping" zdW lR t.f7 t.d7
 q8:Dfn K mg "lies_in" zdX lj t.f8 t.d8
 q9:Dfn K mg "givens_kept" u5 lO t.f9 t.d9
 q10:Dfn K mg "one_left_out" uy ["given"] t.f10 t.d10
 q11:Dfn K mg "wide_givens" u6 lh t.f11 t.d11
 q12:Dfn K mg "_law_great" zaB lQ t.f12 t.d12
 q13:Dfn K mg "_law_room" zbC lB t.f13 t.d13
 q14:Dfn K mg "_law_kind" zbz lz t.f14 t.d14
 q15:Dfn K mg "_law_given" zaA ld t.f15 t.d15
 q16:Dfn K mg "_law_near" zbB la t.f16 t.d16
 q17:Dfn K mg "_law_all" zci lP t.f17 t.d17
 q18:Dfn K mg "_law_keeps" zaC lp t.f18 t.d18
 q19:Dfn K mg "_law_lies" zbA lv t.f19 t.d19
 q20:Dfn K mg "_law_all_givens" xD lE t.f20 t.d20
 q21:Dfn K mg "_law_wide" zbG lA t.f21 t.d21
 q22:Dfn K mg "_law_world" zaE lb t.f22 t.d22
 q23:Dfn K mg "_law_same" zbD ln t.f23 t.d23
 q24:Dfn K mg "_law_some" zbE lc t.f24 t.d24
 q25:Dfn K mg "_law_givens" u4 lg t.f25 t.d25
 q26:Dfn K mg "_law_right" zaD lx t.f26 t.d26
 q27:Dfn K mg "law" ze0 li t.f27 t.d27
 b_ValueError:mg "ValueError" = none
 b_dict:mg "dict" = none
 b_all:mg "all" = none
 b_enumerate:mg "enumerate" = none
 b_sorted:mg "sorted" = none
 b_range:mg "range" = none
 b_tuple:mg "tuple" = none
 b_isinstance:mg "isinstance" = none
 b_len:mg "len" = none
 b_list:mg "list" = none
 b_bool:mg "bool" = none
 b_abs:mg "abs" = none
 b_str:mg "str" = none
 b_any:mg "any" = none
 b_zip:mg "zip" = none
 m_TooMany:mg "TooMany" = some (.ref t.C_TooMany)
 m_WishError:mg "WishError" = some (.ref t.C_WishError)
 m_HasRing:mg "HasRing" = some (.ref t.C_HasRing)
 m_IsBetter:mg "IsBetter" = some (.ref t.C_IsBetter)
 m_NotSettled:mg "NotSettled" = some (.ref t.C_NotSettled)
 m_NotKept:mg "NotKept" = some (.ref t.C_NotKept)
 m_NoWish:mg "NoWish" = some (.ref t.C_NoWish)
 m_NoBook:mg "NoBook" = some (.ref t.C_NoBook)
 m_NoText:mg "NoText" = some (.ref t.C_NoText)
 m_Full:mg "Full" = some (.ref t.C_Full)
 m_NoStanding:mg "NoStanding" = some (.ref t.C_NoStanding)
 er:Errs K mg "TooMany" "WishError" t.C_TooMany t.C_WishError [t.C_HasRing,t.C_IsBetter,t.C_NotSettled,t.C_NotKept,t.C_NoWish,t.C_NoBook,t.C_NoText,t.C_Full,t.C_NoStanding]
 X_TooMany:ExcC K mg "TooMany" t.C_TooMany
 lam:LamT K mg t.cc t.PT
 lamc:t.d27.code = .ref t.cc
 c_MOST_OF_SMALL:∃u,zX (.int 64) u/\mg "MOST_OF_SMALL" = some u
section
variable {P:Program}{w:World}{K:PySem.W.Frag}{mg:Str->Option Value}{base:Heap}{t:Ad}
def zeJ (T:Txt K mg t):FnOk P w K mg base CX0 1 t.f0 t.d0 li (zkF K):=by
 refine T.q0.F.okQ ze1 (λvs H Q E h=>?_) (λU A outer s H vs Q E Z h=>?_)
 ·obtain⟨a,ns,rfl,_⟩:=h;rfl
 ·obtain⟨a,ns,rfl,Y,O,k⟩:=h;refine⟨_,(yj (xP (zij (yG z6 ⟨zh9 (zfK znO (qv 0) zio (ziq yg)).run⟩ (yG z6 yg (yG z6 yg zir))) rfl rfl (by simp) (by decide)))),?_⟩;intro p hp;refine⟨_,rfl,_,rfl,a,_,rfl,(yz.upd hp).seq Y,λc J=>⟨c,_,rfl,zg,λob=>?_⟩⟩;have q:p≠c:=λe=>by subst e;rw[zg] at J;cases J
  have B:H c=none:=by rw[zb (Ne.symm q)] at J;exact J
  refine⟨by rw[zb q,zb q,zg],zab c 0 0,rfl,(by show 3<=15;decide),?_⟩;rw[zp4]
  have I:zgt (ns.map V.int) none (some 63)=ns.map V.int:=by
   unfold zgt;rw[HT.sIx_none]
   have L:HT.sIx (ns.map V.int).length (ns.map V.int).length (some 63)=(ns.map V.int).length:=by have:=HT.sIx_nat (ns.map V.int).length (ns.map V.int).length 63;rw[ac] at this ⊢;rw[Nat.min_eq_right O] at this;exact this
   rw[L,List.drop_zero,Nat.sub_zero,aT]
  refine k p c _ ⟨⟨0,0,zg,by lia,by lia,by lia⟩,?_,O⟩ ?_
  ·refine⟨ob,?_⟩;rw[zb (Ne.symm q),zg];exact congrArg (λz=>some (HO.frz ob (HO.lst z))) I
  ·intro b o e;rw[zb (zc e hp),zb (zc e B),zb (zc e B),zb (zc e hp)];exact e
def zdL (T:Txt K mg t):FnOk P w K mg base CX0 1 t.f1 t.d1 lr zly:=by
 refine T.q1.F.okQ yc (λvs H Q E h=>?_) (λa1 A outer s H vs Q E hr h=>?_)
 ·obtain⟨p,c,ns,n,zA,rfl,_⟩:=h;rfl
 ·obtain⟨p,c,ns,n,zA,rfl,hP,hn,h1,h2,k⟩:=h;have L:=uh hr;obtain⟨⟨a,l,hp,Y,al,Z⟩,⟨ob,hc⟩,O⟩:=id hP;have U:c≠p:=zpv hc hp (by intro z;cases z)
  refine⟨_,(zy (zeV (zan zmZ (yR L (qv 0) z6 (λ_ _=>rfl)) yg (zT _)) (zy (xo (i:=2) yc.nd rfl (Or.inl rfl) (yL uZ (yR L (qv 0) z6 (λ_ _=>rfl)) (qv 1)))
   (zy (zeU L (qv 0) z6 (yL zeO (yR L (qv 0) z6 (λ_ _=>rfl)) (qv 1)) rfl)
   (yj (xP (qv 2))))) zam)
   (zy (xo (i:=3) yc.nd rfl (Or.inl rfl) (yR L (qv 0) z6 (λ_ _=>rfl)))
   (zy (zeU L (qv 0) z6 (yL yK (qv 3) yg) rfl)
   (zy (xo (i:=4) yc.nd rfl (Or.inl rfl) (yL yK (yL zbs yg (qv 3)) yg))
   (zy (zeV (zan zmZ (yq xj (by rfl) T.b_len bn (zz (yR L (qv 0) z6 (λ_ _=>rfl)) yn)) yg (zT _)) (yj (xo (i:=4) yc.nd rfl (Or.inl rfl) (zqp uJ (yR L (qv 0) z6 (λ_ _=>rfl)) (yL uZ (qv 3) (yq xj (by rfl) T.b_len bn (zz (yR L (qv 0) z6 (λ_ _=>rfl)) yn))) (λ_ _=>rfl)))) zam)
   (zy (zeV (QW.pt (zlr (zan ztc (qv 3) (yq xj (by rfl) T.b_len bn (zz (yR L (qv 0) z6 (λ_ _=>rfl)) yn)) (zT _)) (ziv (zan ztb (yq zgN (by rfl) T.b_abs dZ (zz (qv 4) yn)) (yL zh6 yg yg) (zT _))))) (zy (zeU L (qv 0) z6 (yL zeO (yq zgN (by rfl) T.b_abs dZ (zz (qv 4) yn)) (qv 1)) rfl)
   (yj (xP (yL uZ (yq zgN (by rfl) T.b_abs dZ (zz (qv 4) yn)) (qv 1))))) zam)
   (zy (xo (i:=5) yc.nd rfl (Or.inl rfl) (yL uZ (yL zh6 (yL yK (yL yK (yL uZ (qv 4) yg) (yL zbs yg (qv 3))) yg) yg) yg))
   (zy (xo (i:=5) yc.nd rfl (Or.inl rfl) (yL uZ (yL zh6 (yL yK (yL yK (qv 5) (yL zbs (yL zbs yg (qv 3)) (qv 3))) yg) yg) yg))
   (yj (xP (yL uZ (yL zeO (qv 5) yg) (qv 1)))))))))))),?_⟩
  refine⟨_,rfl,p,_,rfl,zia hp,_,_,rfl,rfl,_,rfl,zrs (λhl=>?_) (λhl=>?_)⟩
  ·have a2:0<l:=aS hl;refine⟨_,rfl,p,_,rfl,zia hp,_,rfl,_,_,rfl,rfl,(by show (0:Int)<zA;lia),?_⟩;refine⟨_,rfl,p,_,rfl,zia hp,_,rfl,_,_,rfl,rfl,⟨by show (0:Int)<zA;lia,h2⟩,_,rfl,p,_,rfl,zll hp _,?_⟩;refine⟨_,rfl,k _ _ (cg _ (by lia)) (bH _ (by lia)) ⟨⟨a,_,zg,Y,by lia,Int.ediv_nonneg Z (by lia)⟩,⟨ob,by rw[zb U];exact hc⟩,O⟩ zei⟩
  ·refine⟨_,rfl,p,_,rfl,zp3 hp,?_⟩;refine⟨_,rfl,_,_,rfl,rfl,_,rfl,p,_,rfl,zp7 hp _,?_⟩;have I:upd H p (.dK (zab c (a+1) l)) p=some (.dK (zab c (a+1) l)):=zg;have J:upd H p (.dK (zab c (a+1) l)) c=some (.frz ob (.lst (ns.map V.int))):=by rw[zb U];exact hc
   generalize an:upd H p (.dK (zab c (a+1) l))=H1 at I J ⊢;have ab:∀b o,b≠p->H b=some o->H1 b=some o:=an ▸ zei;refine⟨_,rfl,_,_,rfl,rfl,.inl ⟨by lia,by lia⟩,_,_,rfl,rfl,?_⟩;refine' meet (α:=Int) _ (λye=>?_) ?_;rotate_left
   ·
    refine⟨_,rfl,p,_,rfl,zfI I,_,_,rfl,.inl ⟨_,.inl (.inr ⟨ob,J⟩),rfl⟩,_,_,rfl,rfl,_,rfl,zrs (λhz=>?_) (λhz=>?_)⟩;have ad:0<((ns.map V.int).length:Int):=aS hz;obtain⟨B,ag⟩:=zor ns a ad;refine⟨_,rfl,p,_,rfl,zfI I,_,rfl,_,rfl,p,_,rfl,zfI I,_,_,rfl,.inl ⟨_,.inl (.inr ⟨ob,J⟩),rfl⟩,_,_,rfl,rfl,ad,c,_,_,_,rfl,rfl,.inl (.inr ⟨ob,J⟩),ag,?_⟩;exact ye B;exact ye (101 * a+7)
   ·intro B;have a3:∀ {q:Addr},H1 q=none->p≠q:=λhq=>zc I hq;refine' zsX _ (λye=>?_) ?_;rotate_left
    ·refine⟨_,rfl,_,rfl,p,_,rfl,zfI I,_,_,rfl,.inl ⟨_,.inl (.inr ⟨ob,J⟩),rfl⟩,_,_,rfl,rfl,_,rfl,zrs (λh3=>?_) (λh3=>?_)⟩;rotate_left
     ·refine iteF ?_;exact ye
     refine⟨_,rfl,_,rfl,_,_,rfl,rfl,⟨by decide,by decide,by decide⟩,_,_,rfl,rfl,_,rfl,zrs (λh4=>?_) (λh4=>?_)⟩;rotate_left
     ·exact ye
     have ha:0<=(if B<0 then -B else B):=by split <;> lia
     refine⟨_,rfl,_,rfl,_,rfl,_,_,rfl,rfl,⟨by show (0:Int)<zA;lia,h2⟩,_,rfl,p,_,rfl,zll I _,?_⟩;refine⟨_,rfl,_,rfl,_,rfl,_,_,rfl,rfl,(by show (0:Int)<zA;lia),k _ _ (cg _ (by lia)) (bH _ (by lia)) ⟨⟨a+1,_,zg,by lia,by lia,Int.ediv_nonneg ha (by lia)⟩,⟨ob,by rw[zb U];exact J⟩,O⟩ (λb o z e=>zei b o z (ab b o z e))⟩
    ·obtain⟨as,a0⟩:=zkG Y al hn;have a4:=cg B (show (2147483629:Int)≠0 by decide);have a5:=bH B (show (0:Int)<2147483629 by decide);refine⟨_,rfl,_,_,rfl,rfl,(by show (0:Int)<2147483629;decide),_,rfl,_,_,rfl,rfl,.inl ⟨by decide,by decide⟩,_,_,rfl,rfl,_,_,rfl,rfl,_,_,rfl,rfl,⟨by decide,by decide,?_⟩,_,_,rfl,rfl,(by show (0:Int)<2147483647;decide),?_⟩
     ·show (B % 2147483629+30011 * a+977).natAbs<2 ^ 64;lia
     ·generalize a7:((B % 2147483629+30011 * a+977) ^ (3:Int).toNat:Int)=w1;have w0:=cg w1 (show (2147483647:Int)≠0 by decide);have w2:=bH w1 (show (0:Int)<2147483647 by decide);refine⟨_,rfl,_,rfl,_,_,rfl,rfl,.inl ⟨by decide,by decide⟩,_,rfl,_,_,rfl,rfl,.inr ⟨by lia,by lia⟩,_,_,rfl,rfl,_,_,rfl,rfl,_,_,rfl,rfl,⟨by decide,by decide,?_⟩,_,_,rfl,rfl,(by show (0:Int)<2147483587;decide),?_⟩
      ·show (w1 % 2147483647+69621 * a * a+13).natAbs<2 ^ 64;have e1:69621 * a * a=69621 * (a * a):=Int.mul_assoc _ _ _;have e2:60013 * a * a=60013 * (a * a):=Int.mul_assoc _ _ _;rw[e2] at as a0;rw[e1];lia
      ·refine⟨_,rfl,_,_,rfl,rfl,⟨by decide,by decide⟩,_,rfl,_,_,rfl,rfl,(by show (0:Int)<zA;lia),?_⟩;exact k _ _ (cg _ (by lia)) (bH _ (by lia)) ⟨⟨a+1,l,I,by lia,by lia,Z⟩,⟨ob,J⟩,O⟩ ab
def zR (T:Txt K mg t):FnOk P w K mg base CX0 1 t.f1 t.d1 lr (spV 2 false zgw):=FnOk.lift (FnOk.mono (zdL T) (by decide)) zhH
def zcM (T:Txt K mg t):FnOk P w K mg base CX0 1 t.f2 t.d2 ly zlx:=by
 refine T.q2.F.okQ yV (λvs H Q E h=>?_) (λI A outer s H vs Q E L h=>?_)
 ·obtain⟨a,ns,rfl,_⟩:=h;rfl
 ·obtain⟨a,ns,rfl,q,J,k⟩:=h
  refine⟨_,(zy (xo (i:=1) yV.nd rfl (Or.inl rfl) yg)
   (zy (zis aW rfl (zlp (qv 0)) (zbw (i:=2) yV.nd rfl (Or.inl rfl)) (yj (xo (i:=1) yV.nd rfl (Or.inl rfl) (yL zbs (qv 1) (qv 2)))))
   (yj (xP (qv 1))))),?_⟩
  refine⟨_,rfl,a,rfl,⟨_,.of q⟩,zl4 (K:=K) (xs:=ns.map V.int) (λi σ H2=>H2=H/\∃v,σ=[some (.ref a),some (.int (yu (ns.take i))),v]) ⟨rfl,none,rfl⟩ (λi σ H2 _ ⟨e,_⟩=>e ▸ .of q) ?_ ?_⟩
  ·rintro i y σ H2 hi ⟨rfl,v,rfl⟩;rw[aB] at hi;obtain⟨z,B,rfl⟩:=ay.mp hi;have O:=J z (aC B);refine⟨_,rfl,_,rfl,_,_,rfl,rfl,.inr ⟨by lia,by lia⟩,rfl,some (.int z),?_⟩;rw[zp B,yW];rfl
  ·rintro σ H2 ⟨rfl,v,rfl⟩;refine⟨_,rfl,?_⟩;rw[ac,aT];exact k
def zb2 (T:Txt K mg t):FnOk P w K mg base CX0 1 t.f2 t.d2 ly (spV 1 false zkR):=FnOk.lift (FnOk.mono (zcM T) (by decide)) zhG
@[reducible] def zlD:FV:=λ_ q n R=>∃rm:List Int,q=[.d (stD rm)]/\(∀r∈rm,2<=r/\r<=4)/\R (.d (.bl (decide (yu rm<=64)))) n
def zaw (T:Txt K mg t):FnOk P w K mg base CX0 2 t.f3 t.d3 ly (spV 1 false zlD):=by have G2:=zb2 (P:=P) (w:=w) (base:=base) T;refine Fun.okW (k:=1) (fr:=false) [] 0 T.q3.F ze2 rfl (by decide) rfl λq A outer s H E Pn B=>⟨_,(zh (zL (zcC zpP u_le (JE.bo (wE zw <| yT T.q2 G2 B (za (kv 0) zf))) (JE.bo (zmk rfl T.c_MOST_OF_SMALL)) (zT _)))),λL n R I=>?_⟩;obtain⟨rm,rfl,J,r⟩:=I;left;exact⟨rm,rfl,J,r⟩
@[reducible] def zof:FV:=λ_ q n R=>∃rm:List Int,q=[.d (stD rm)]/\(∀r∈rm,2<=r/\r<=4)/\yu rm<=64/\R (.d .non) n
def xB (T:Txt K mg t):FnOk P w K mg base CX0 3 t.f4 t.d4 ly (spV 1 false zof):=by have G3:=zaw (P:=P) (w:=w) (base:=base) T;refine Fun.okW (k:=2) (fr:=false) [] 0 T.q4.F xQ rfl (by decide) rfl λq A outer s H E Pn B=>⟨_,(zh (wS zK <| yU (wT xY <| uQ (wT zv <| y8 (JE.bo (wE zw <| yT T.q3 G3 B (za (kv 0) zf))))) (zh zsv) zJ)),λL n R I=>?_⟩;obtain⟨rm,rfl,J,hp,r⟩:=I;left;refine⟨rm,rfl,J,?_⟩;rw[aF hp];left;exact r
def zom (q:List W):Prop:=∃rm:List Int,q=[.d (stD rm)]/\(∀r∈rm,2<=r/\r<=4)/\64<yu rm
def xC (T:Txt K mg t):FnOk P w K mg base (CX1 P w t.C_TooMany) 3 t.f4 t.d4 ly (spX 1 zom):=by have G3:=zaw (P:=P) (w:=w) (base:=base) T;refine okX (k:=2) T.q4.F xQ rfl λB A outer s H E Pn q=>⟨_,(zsw zhf q.hd T.X_TooMany (uQ (y8 (JE.bo (yT T.q3 G3 q (za (zjE 0) zf)))))),λL n O I=>?_⟩;obtain⟨rm,rfl,J,hp⟩:=I;exact⟨_,rfl,rfl,rm,rfl,J,_,rfl,by rw[aQ (by lia)];rfl,rfl⟩
def uk(T:Txt K mg t):zi5 P w K mg base t.C_TooMany [t.C_HasRing,t.C_IsBetter,t.C_NotSettled,t.C_NotKept,t.C_NoWish,t.C_NoBook,t.C_NoText,t.C_Full,t.C_NoStanding] k t.f5:=by refine zkz (a := "_law_asked") (c := "_law_caught") (n := "error") (cx := "TooMany") (wx := "WishError") (xs:=[("HasRing",⟨171,40,171,47⟩),("IsBetter",⟨171,49,171,57⟩),("NotSettled",⟨171,59,171,69⟩),("NotKept",⟨171,71,171,78⟩),("NoWish",⟨171,80,171,86⟩),("NoBook",⟨171,88,171,94⟩),("NoText",⟨171,96,171,102⟩),("Full",⟨171,104,171,108⟩),("NoStanding",⟨171,110,171,120⟩)]) T.q5.F T.q5.b zbH (by decide) rfl rfl (by decide) rfl T.er (by decide +kernel) T.b_ValueError T.b_isinstance ?_ (by decide +kernel) (Nat.le_of_ble_eq_true rfl) rfl;show [mg "HasRing",mg "IsBetter",mg "NotSettled",mg "NotKept",mg "NoWish",mg "NoBook",mg "NoText",mg "Full",mg "NoStanding"]=[some (.ref t.C_HasRing),some (.ref t.C_IsBetter),some (.ref t.C_NotSettled),some (.ref t.C_NotKept),some (.ref t.C_NoWish),some (.ref t.C_NoBook),some (.ref t.C_NoText),some (.ref t.C_Full),some (.ref t.C_NoStanding)];rw[T.m_HasRing,T.m_IsBetter,T.m_NotSettled,T.m_NotKept,T.m_NoWish,T.m_NoBook,T.m_NoText,T.m_Full,T.m_NoStanding]
def zeK (T:Txt K mg t):FnOk P w K mg base CX0 1 t.f6 t.d6 lS (zco K):=by
 refine T.q6.F.okQ xM (λvs H Q E h=>?_) (λb2 A outer s H vs Q E hr h=>?_)
 ·obtain⟨ca,xs,cs,rfl,_⟩:=h;rfl
 ·obtain⟨ca,xs,cs,rfl,a3,hL,bl,a4,k⟩:=h;have ab:=zcs bl a4
  refine⟨_,(zy (xo (i:=1) xM.nd rfl (Or.inl rfl) (zil (zz (zeS yn) yn)))
   (zy (zis aW rfl (zeT (qv 0)) (zbw (i:=2) xM.nd rfl (Or.inr rfl)) (yj (zkv (ix:=1) xM.nd rfl rfl (N:=lH) (cix:=[none,none,some 2]) rfl (by walk_at "c") (zeT (qv 1)) (λ_ _ _ _=>(zbw (i:=0) (show (lH:List Str).Nodup by decide +kernel) rfl (Or.inl rfl))) (λ_ _ _ _=>zeW) (λ_ _ _ _=>(zfL K rfl (qv 2))) (λ_ _ _ _=>(zbw (i:=1) (show (lH:List Str).Nodup by decide +kernel) rfl (Or.inl rfl))) (λ_ _ _ _=>zeW) (λ_ _ _ _=>(yL (zkb K rfl) (qv 0) (zeS (zz (qv 1) yn)))))))
   (yj (xP (qv 1))))),?_⟩
  refine⟨(by show 0<=sizeLine;decide),λe0 H1 _ g1 S1=>⟨(by show 1<=sizeLine;decide),λr0 H2 n2 g2 S2=>?_⟩⟩;have S02:yz H H2:=λb o e=>S2 _ _ (S1 _ _ e)
  have bm:H r0=none:=by
   cases e:H r0 with
   | none=>rfl
   | some o=>rw[S1 _ _ e] at n2;cases n2
  refine⟨_,rfl,ca,rfl,⟨xs,.inl (a3.same S02)⟩,zjt (K:=K) (xs:=xs) (λi σ H3=>∃ (ra:Addr) (ys:List V) (v2:Option V),σ=[some (.ref ca),some (.ref ra),v2]/\H ra=none/\H3 ra=some (.lst ys)/\IsL H3 ((yy (cs.take i)).map stD) ys/\yz H H3)
   ⟨r0,_,none,rfl,bm,g2,⟨_,_,rfl,⟨e0,_,rfl,S2 _ _ g1,rfl⟩,rfl⟩,S02⟩ (λi σ H3 _ ⟨_,_,_,_,_,_,_,S⟩=>.inl (a3.same S)) ?_ ?_⟩
  ·rintro i x σ H3 hi ⟨ra,ys,v2,rfl,a5,Z,U,S3⟩;have bo:=(aj.mp hi).1;have Y:i<cs.length:=by rw[<- hL.1];exact bo
   obtain⟨wa,a7,bb⟩:=hL.2 i cs[i] (ar Y);rw[hi] at a7;cases a7;have ad:=a4 cs[i] (aZ Y);have an:cs.take (i+1)=cs.take i++[cs[i]]:=zp (ar Y);have bs:=ab i;have as:=ab (i+1);rw[an,z8] at as;have a0:=U.length;rw[ac] at a0
   have ag:∀I∈yy (cs.take i),I.length<=8:=λI hr=>by rw[xi _ _ hr,aV];lia
   generalize cs[i]=ws at bb ad an as;generalize a1:yy (cs.take i)=rows at U bs as a0 ag;have al:=bb.same S3;refine⟨_,rfl,ra,rfl,⟨_,.of Z⟩,λacc L=>?_⟩;refine zf5 (xs:=ys) L (λj J H'=>(∃v0 v1,J=[v0,v1,some (.ref wa)])/\(∃zs,H' acc=some (.lst zs)/\IsL H' ((yX (rows.take j) ws).map stD) zs)/\yz H3 H') (λH' z1 z2=>⟨⟨_,_,rfl⟩,⟨[],z1,rfl⟩,z2⟩) (λ_ _ _ _ ⟨_,_,S⟩=>.of (S _ _ Z)) ?_ ?_
   ·rintro j y J H4 hy ⟨⟨v0,v1,rfl⟩,⟨zs,B,q⟩,S4⟩;obtain⟨d,hd,bt⟩:=(U.stay (zn.same S4)).get hy;rw[aB] at hd;obtain⟨I,a2,rfl⟩:=ay.mp hd;obtain⟨rwa,rv,rfl,bd,bx⟩:=bt;obtain rfl:=bx.of_ints;have b3:=(aj.mp a2).1;have b4:=ag I (aC a2);show zgJ _ zap _ _ _ _ _ _ _ _ _;refine zlf ?_;refine⟨_,rfl,wa,rfl,⟨_,.inl (al.same S4)⟩,?_⟩;refine zga (xs:=ws.map V.int) (λm J H'=>(∃v1,J=[some (.ref rwa),v1,some (.ref wa)])/\(∃zs,H' acc=some (.lst zs)/\IsL H' ((yX (rows.take j) ws++(ws.take m).map λw=>I++[w]).map stD) zs)/\yz H3 H'/\H' rwa=some (.tup (I.map V.int))) ⟨⟨_,rfl⟩,⟨zs,B,by simpa using q⟩,S4,bd⟩ (λ_ _ _ _ ⟨_,_,S,_⟩=>.inl (al.same S)) ?_ ?_
    ·rintro m u J H5 hu ⟨⟨v1,rfl⟩,⟨zs,B,q⟩,S5,O⟩;rw[aB] at hu;obtain⟨wv,bk,rfl⟩:=ay.mp hu;have b5:=(aj.mp bk).1;refine zow ⟨_,rfl,_,rfl,(by show 1<=sizeLine;decide),λt1 H6 _ g6 S6=>?_⟩;refine⟨rwa,t1,_,_,rfl,rfl,S6 _ _ O,g6,cC (zd0 (by rw[ac];show I.length+1<=1000;lia)),λt2 H7 g7 S7=>?_⟩;have S57:yz H5 H7:=λb o e=>S7 _ _ (S6 _ _ e);have b0:=q.length;rw[ac,aM,ud,ac,aV,aV] at b0;have b6:=ud rows ws;have b1:(min j rows.length) * ws.length<=65536 * 4:=Nat.mul_le_mul (by lia) ad;refine⟨zs,S57 _ _ B,be (show zs.length<=500000 by lia) (by decide),⟨_,rfl⟩,⟨_,zg,?_⟩,zkD L λb o e=>S57 _ _ (S5 _ _ e),?_⟩
     ·refine IsL.stayT (zcr.app (S57 _ _ B)) (zaT _) ?_;rw[zp bk,aA (l₁:=ws.take m),<- dS,aA];refine (q.stay (zn.same S57)).append (IsL.one ⟨t2,_,rfl,g7,?_⟩);rw[aA];exact IsL.ints.append (IsL.ints (ns:=[wv]))
     ·rw[zb (zpv (S57 _ _ O) (S57 _ _ B) (by intro z;cases z))];exact S57 _ _ O
    ·rintro J H5 ⟨⟨v1,rfl⟩,⟨zs,B,q⟩,S5,O⟩;rw[ac,aT] at q;refine⟨⟨_,_,rfl⟩,⟨zs,B,?_⟩,S5⟩;rw[zp a2,zeo];exact q
   ·rintro J H4 ⟨⟨v0,v1,rfl⟩,⟨zs,B,q⟩,S4⟩;rw[a0,aT] at q;refine⟨acc,zs,_,rfl,?_,B,?_,λb o e=>S4 _ _ (S3 _ _ e)⟩
    ·cases e:H acc with
     | none=>rfl
     | some o=>rw[S3 _ _ e] at L;cases L
    ·rw[an,z8,a1];exact q
  ·rintro σ H3 ⟨ra,ys,v2,rfl,a5,Z,U,S3⟩;rw[hL.1,aT] at U;exact⟨_,rfl,k ra ys H3 a5 Z U S3⟩
def zdM (T:Txt K mg t):FnOk P w K mg base CX0 1 t.f6 t.d6 lS (spV 1 true zb4):=FnOk.lift (FnOk.mono (zeK T) (by decide)) zcH
inductive F_keeping  (Pn:PN):List W->Nat->(W->Nat->Prop)->Prop
 | i {n:Nat} {R:W->Nat->Prop} {rm:List Int} {g:List (Int×Int)} (hR:RoomOk rm) (hG:Giv rm g) (h:R (.d (xS (zbW rm g))) n)  : F_keeping Pn [.d (stD rm),.d (yp g)] n R
def zeL (T:Txt K mg t):FnOk P w K mg base CX0 2 t.f7 t.d7 lR (spV 2 true F_keeping):=by
 have G6:=zdM (P:=P) (w:=w) (base:=base) T
 refine Fun.okW (k:=1) (fr:=true) [] 1 T.q7.F zcm rfl (by decide) rfl λag A outer s H E Pn U=>⟨_,(ze (wS zt <| zE (i:=2) zcm.nd (xl (zjg rfl) znW (by rfl) T.b_dict PyProof.Rows.boot_dict (zj (kb 1) zr)))
   (zh (zL (wE zw <| yT T.q6 G6 U (za (yJ (N:=lI) (cix:=[none,none,some 2]) rfl (by walk_at "c") (wI zhN <| zhr rfl T.b_enumerate (za (kv 0) zf)) (λ_ _ _ _=>(wG za8 <| zbc (n:=2) K rfl rfl (wH yY <| zV (wG zP <| zm (i:=0) (show (lI:List Str).Nodup by decide +kernel)) (wH yY <| zV (wG zP <| zm (i:=1) (show (lI:List Str).Nodup by decide +kernel)) (wH za7 uF))))) (λ_ _ _ _=>yr) (λ_ _ _ _=>(wE zpk <| j_if (wT zj3 <| zo9 (uh U) (kb 0) (kb 2)) (xU (za (wE zj0 <| zo5 (uh U) (kb 2) (kb 0) (λ_ _=>rfl)) zf)) (wE zeD <| zhq T.b_list T.b_range (zj (kb 1) zr))))) zf))))),λws n R hF=>?_⟩
 obtain @⟨_,_,rm,g,O,hG,r⟩:=hF;left;have Y:g.map zF=(g.map λq=>(q.1,Dt.int q.2)).map prD:=by rw[au];rfl
 have ad:=zba hG O.few;have Z:(g.map (·.1)).Nodup:=e8 (λq:Int×Int=>q.1) (λa b h e=>by lia) hG.up;refine⟨g.map λq=>(q.1,Dt.int q.2),Y,?_,by rw[ac];lia,?_⟩
 ·rw[au];exact Z
 generalize ab:List.map kvD (List.map (λq:Int×Int=>(q.1,Dt.int q.2)) g)=kvs
 have B:∀i:Nat,zS kvs (Sum.inl (i:Int))=(gw g i).map Dt.int:=λi=>by rw[<- ab];exact zmy g i
 left;refine xy (List.range rm.length) (λi=>W.d (.tup [.int (i:Int),.int (rm.getD i 0)])) (zg5 rm) (λρ=>∃a b,ρ=[a,b,some (.dk kvs)]) (λi=>lsD (cho rm g i)) (ah (by rw[aJ];exact O.few) (by decide)) ⟨_,_,rfl⟩ ?_ ?_
 ·rintro i hi al ⟨a,b,rfl⟩ C hC;have I:=aX.mp hi;have hb:=O.box _ (aZ I);have e:rm.getD i 0=rm[i]:=by simp[I]
  have J:C [some (.d (.int (i:Int))),some (.d (.int (rm.getD i 0))),some (.dk kvs)] n (lsD (cho rm g i)):=hC ⟨_,_,rfl⟩;unfold cho at J;left
  cases hg:gw g i with
  | some v=>
   rw[hg] at J;have L:=B i;rw[hg] at L;refine zpC (by rw[L];rfl) ?_;left;exact uY L J
  | none=>
   rw[hg] at J;have L:=B i;rw[hg] at L;refine zka (by rw[L];rfl) ?_;left;refine⟨⟨by lia,by lia⟩,?_⟩;have e2:lsD (zq (rm.getD i 0))=Dt.lst (zkC (rm.getD i 0).toNat):=by unfold lsD zq zkC;rw[au];rfl
   rw[<- e2];exact J
 ·left;refine⟨chs rm g,by unfold chs;rw[au];rfl,by unfold chs;rw[ac,aJ];exact O.few,λc hc=>?_,r⟩;obtain⟨i,hi,rfl⟩:=aw.mp hc;have I:=aX.mp hi;have hb:=O.box _ (aZ I);have e:rm.getD i 0=rm[i]:=by simp[I]
  unfold cho
  cases gw g i with
  | some v=>simp
  | none=>rw[yD];lia
def zeb (g:List (Int×Int))(b y:Int):List (Int×Int):=g.filter (λq=>decide (q.1<b))++(b,y)::g.filter λq=>decide (b<q.1)
def zdo {g:List (Int×Int)}{b:Int}(y:Int)(B:∀q∈g,q.1≠b):(zeb g b y).Perm (g++[(b,y)]):=by
 have e:g.filter (λq=>decide (b<q.1))=g.filter λq=>!decide (q.1<b):=ff λq F=>by
  have:=B q F;by_cases h:q.1<b
  ·rw[aF h,aQ (by lia)];rfl
  ·rw[aQ h,aF (by lia)];rfl
 unfold zeb;rw[e];refine List.Perm.trans List.perm_middle ?_;refine List.Perm.trans ((List.filter_append_perm _ g).cons (b,y)) ?_;exact (List.perm_append_comm (l₁:=[(b,y)]) (l₂:=g))
def uO {rm:List Int}{g:List (Int×Int)}{b y:Int}(F:Giv rm g)(I:0<=b)(J:b<rm.length)(L:0<=y)(O:y<zA rm b):Giv rm (zeb g b y):=by
 refine⟨λq B=>?_,?_⟩
 ·rcases aK.mp B with z | z
  ·exact F.ok q (az.mp z).1
  ·rcases ax.mp z with z | z
   ·rw[z];exact⟨I,J,L,O⟩
   ·exact F.ok q (az.mp z).1
 ·refine cY.mpr ⟨F.up.filter _,bQ.mpr ⟨λq B=>aS (az.mp B).2,F.up.filter _⟩,λp hp q B=>?_⟩;have h1:=aS (az.mp hp).2;rcases ax.mp B with z | z
  ·rw[z];exact h1
  ·have:=aS (az.mp z).2;lia
def zhd (b y:Int)(g:List (Int×Int))(q:List Int):Bool:=decide (zA q b=y)&&zB q g
def zdz {g:List (Int×Int)}{b y:Int}(F:∀q∈g,q.1≠b)(B:List Int):zB B (zeb g b y)=zhd b y g B:=by unfold zB zhd zB;rw[(zdo y F).all_eq,eO,Bool.and_comm];simp
def zbX (rm:List Int)(sm:List (List Int))(b y:Int)(g:List (Int×Int)):Bool:=(yy (rm.map zq)).all λq=>!zhd b y g q || decide (q∈sm)
def zjW {rm:List Int}{sm:List (List Int)}{g:List (Int×Int)}{b y:Int}(F:Giv rm g)(I:∀q∈g,q.1≠b)(J:0<=b)(L:b<rm.length)(O:0<=y)(U:y<zA rm b):(zbW rm (zeb g b y)).all (λB=>decide (B∈sm))=zbX rm sm b y g:=by rw[<- zbe (uO F J L O U),List.all_filter];unfold zbX;congr 1;funext B;rw[zdz I]
def xq (st:List Int)(b:Int):Nat->List (List (Int×Int))
 | 0=>[[]]
 | k+1=>if (k:Int)=b then xq st b k else xq st b k++(xq st b k).map λg=>g++[((k:Int),zA st k)]
def xN {rm st:List Int}{b:Int}(U:StOk rm st):∀ {k:Nat},k<=rm.length->∀g∈xq st b k,Giv rm g/\(∀q∈g,q.1≠b/\q.1<(k:Int))/\zB st g=true
 | 0,_,g,F=>by rw[aE.mp F];exact⟨⟨by simp,.nil⟩,by simp,rfl⟩
 | k+1,Z,g,F=>by
  have J:=xN (b:=b) U (k:=k) (by lia);unfold xq at F;split at F
  ·obtain⟨h1,h2,I⟩:=J g F;exact⟨h1,λq B=>⟨(h2 q B).1,by have:=(h2 q B).2;lia⟩,I⟩
  ·rename_i L;rcases aK.mp F with z | z
   ·obtain⟨h1,h2,I⟩:=J g z;exact⟨h1,λq B=>⟨(h2 q B).1,by have:=(h2 q B).2;lia⟩,I⟩
   ·obtain⟨g',O,rfl⟩:=aw.mp z;obtain⟨h1,h2,I⟩:=J g' O;have Y:=U.box (k:Int) (by lia) (by lia);refine⟨h1.snoc (λq B=>(h2 q B).2) (by lia) (by lia) Y.1 Y.2,λq B=>?_,?_⟩
    ·rcases aK.mp B with z | z
     ·exact⟨(h2 q z).1,by have:=(h2 q z).2;lia⟩
     ·rw[aE.mp z];exact⟨L,by show (k:Int)<((k+1:Nat):Int);lia⟩
    ·unfold zB at I ⊢;rw[eO,I];simp
def ze5 {rm st:List Int}{b:Int}(F:StOk rm st):∀ {k:Nat},k<=rm.length->(xq st b k).Nodup
 | 0,_=>by simp[xq]
 | k+1,L=>by
  have q:=ze5 (b:=b) F (k:=k) (by lia);unfold xq;split
  ·exact q
  ·refine dU.mpr ⟨q,e8 _ (λa c B z=>B (List.append_cancel_right z)) q,λx I y J e=>?_⟩;obtain⟨g',_,rfl⟩:=aw.mp J;subst e;have:=((xN (b:=b) F (k:=k) (by lia) _ I).2.1 ((k:Int),zA st k) (by simp)).2;simp at this
def zc4 (st:List Int)(b:Int):∀k:Nat,(xq st b k).length<=2 ^ k/\(0<=b->b<k->2 * (xq st b k).length<=2 ^ k)
 | 0=>⟨af _,λh1 h2=>by lia⟩
 | k+1=>by
  obtain⟨h1,h2⟩:=zc4 st b k;have e:2 ^ (k+1)=2 * 2 ^ k:=by rw[Nat.pow_succ,Nat.mul_comm]
  unfold xq;split
  ·exact⟨by lia,λ_ _=>by lia⟩
  ·rename_i q;rw[aM,ac];exact⟨by lia,λB F=>by have:=h2 B (by lia);lia⟩
def zcW (g:List (Int×Int)):List (List (Int×Int)):=(List.range g.length).map λk=>g.take k++g.drop (k+1)
def lyL (rm:List Int)(sm:List (List Int))(b y:Int)(st:List Int):List (List (Int×Int)):=(xq st b st.length).filter (zbX rm sm b y)
def zeG (rm:List Int)(sm:List (List Int))(b y:Int)(st:List Int):List (List (Int×Int)):=(lyL rm sm b y st).filter λg=>!(zcW g).any λh=>decide (h∈lyL rm sm b y st)
def zef (rm:List Int)(sm:List (List Int))(b y:Int)(st:List Int)(l:List Dt):Prop:=l.Perm ((zeG rm sm b y st).map yp)/\l.Pairwise ltD
def zkO{rm:List Int}{sm:List (List Int)}{b y:Int}{st:List Int}(h:zef rm sm b y st l)(h':zef rm sm b y st l'):l=l':=zcX (λ_=>zhM) (λ_ _ _=>zlb) (h.1.trans h'.1.symm) h.2 h'.2
def zps {rm:List Int}{sm:List (List Int)}{b y:Int}{st:List Int}(h:lyL rm sm b y st≠[]):zeG rm sm b y st≠[]:=by
 have key:∀n:Nat,∀g∈lyL rm sm b y st,g.length<=n->zeG rm sm b y st≠[]:=by
  intro n
  induction n with
  | zero=>
   intro g q B e
   have:g∈zeG rm sm b y st:=by unfold zeG;refine az.mpr ⟨q,?_⟩;obtain rfl:=dH.mp (Nat.le_zero.mp B);rfl
   rw[e] at this;cases this
  | succ n F=>
   intro g q B;by_cases c:(zcW g).any (λh=>decide (h∈lyL rm sm b y st))=true
   ·obtain⟨h,I,J⟩:=bT.mp c;refine F h (aS J) ?_;obtain⟨k,L,rfl⟩:=aw.mp I;have:=aX.mp L;rw[aM,aV,cI];lia
   ·intro e;have:g∈zeG rm sm b y st:=az.mpr ⟨q,by rw[Bool.not_eq_true] at c;rw[c];rfl⟩;rw[e] at this;cases this
 obtain⟨g,q⟩:=c7 _ h;exact key _ g q (af _)
def xT (st:List Int)(b:Int):Nat->List (Int×Int)
 | 0=>[]
 | k+1=>if (k:Int)=b then xT st b k else xT st b k++[((k:Int),zA st k)]
def za6 {st:List Int}{b:Int}:∀k:Nat,xT st b k∈xq st b k
 | 0=>aE.mpr rfl
 | k+1=>by
  have q:=za6 (st:=st) (b:=b) k;unfold xT xq;split
  ·exact q
  ·exact aO _ (aw.mpr ⟨_,q,rfl⟩)
def zag {st q:List Int}{b:Int}:∀ {k:Nat},zB q (xT st b k)=true->∀i:Int,0<=i->i<k->i≠b->zA q i=zA st i
 | 0,_,i,B,h1,_=>by lia
 | k+1,h,i,B,h1,F=>by
  unfold xT at h;split at h
  ·exact zag h i B (by lia) F
  ·unfold zB at h;rw[eO,aH] at h;by_cases e:i=k
   ·subst e;simpa using h.2
   ·exact zag (show zB q (xT st b k)=true from h.1) i B (by lia) F
def zqT {a c:List Int}(q:a.length=c.length)(h:∀i:Int,0<=i->i<a.length->zA a i=zA c i):a=c:=by refine List.ext_getElem q λi h1 h2=>?_;have:=h (i:Int) (by lia) (by lia);unfold zA at this;simpa [h1,h2] using this
def zsC {rm:List Int}{sm:List (List Int)}{b:Int}{st:List Int}(I:StOk rm st)(J:st∈sm):lyL rm sm b (zA st b) st≠[]:=by
 intro e
 have:xT st b st.length∈lyL rm sm b (zA st b) st:=by
  refine az.mpr ⟨za6 _,a9.mpr λq B=>?_⟩
  cases hf:zhd b (zA st b) (xT st b st.length) q with
  | false=>rfl
  | true=>
   unfold zhd at hf;rw[aH] at hf;have L:q.length=st.length:=by rw[xi _ _ B,ac,I.len]
   have:q=st:=zqT L λi O h1=>by
    by_cases F:i=b
    ·subst F;exact aS hf.1
    ·exact zag hf.2 i O (by lia) F
   rw[this];simpa using J
 rw[e] at this;cases this
def zk5 {rm:List Int}{g:List (Int×Int)}(h:Giv rm g):g.Nodup:=h.up.imp λh e=>by rw[e] at h;exact Int.lt_irrefl _ h
def ue {rm:List Int}{g:List (Int×Int)}(h:Giv rm g):g.length<=rm.length:=by
 have B:(g.map (λq=>q.1.toNat)).Nodup:=bD.mpr (h.up.imp_of_mem λ{a b} F I J (e:a.1.toNat=b.1.toNat)=>by have:=h.ok a F;have:=h.ok b I;lia)
 have:=zj6 B (m:=List.range rm.length) λx L=>by obtain⟨q,O,rfl⟩:=aw.mp L;have:=h.ok q O;exact aX.mpr (by lia)
 rwa[ac,aJ] at this
def zjZ {p q:Int×Int}(h:p.1<q.1):ltD (zF p) (zF q):=by unfold ltD;show HT.lexLt [1,p.1,1,p.2,0] [1,q.1,1,q.2,0]=true;rw[HT.lexLt_cons,if_pos rfl,HT.lexLt_cons,if_neg (by lia)];exact aF h
def zhQ {q:List Int}{sm:List (List Int)}:stD q∈sm.map stD↔q∈sm:=by
 constructor
 ·intro h;obtain⟨s',h1,h2⟩:=aw.mp h
  have:s'=q:=by
   have e:s'.map Dt.int=q.map Dt.int:=by simpa [stD] using h2
   exact (eV (λ_ _ z=>by cases z;rfl)).mp e
  rwa[<- this]
 ·exact dg
def zaP:∀q:List Int,(Dt.toWs (q.map Dt.int)).all (PySem.W.kqdOk k)=true
 | []=>rfl
 | _::q=>by simp only[ao,Dt.toWs,bY,zaP (k:=k) q,cV];cases k <;> rfl
def eqS {sm:List (List Int)}:(Dt.lst (sm.map stD)).eqOk:=by
 have e:∀sm:List (List Int),(Dt.toWs (sm.map stD)).all (PySem.W.kqdOk 7)=true:=λsm=>by
  induction sm with
  | nil=>rfl
  | cons q sm B=>
   simp only[ao,Dt.toWs,bY,B,cV];exact zaP (k:=6) q
 exact e sm
def zdC:∀g:List (Int×Int),(Dt.toWs (g.map zF)).all (PySem.W.kqdOk (k+1))=true
 | []=>rfl
 | _::g=>by simp only[ao,Dt.toWs,bY,zdC (k:=k) g,cV];exact zaP (k:=k) [_,_]
def eqGs {l:List (List (Int×Int))}:(Dt.lst (l.map yp)).eqOk:=by
 have e:∀l:List (List (Int×Int)),(Dt.toWs (l.map yp)).all (PySem.W.kqdOk 7)=true:=λl=>by
  induction l with
  | nil=>rfl
  | cons g l q=>
   simp only[ao,Dt.toWs,bY,q,cV];exact zdC (k:=5) g
 exact e l
def zj4 {g:List (Int×Int)}{l:List (List (Int×Int))}:yp g∈l.map yp↔g∈l:=by
 constructor
 ·intro h;obtain⟨g',h1,h2⟩:=aw.mp h;rwa[<- zaO h2]
 ·exact dg
def zdS:∀ (k:Nat) (ns:List Int),ns.length=k->(∀n∈ns,2<=n)->(2:Int) ^ k<=yu ns
 | 0,ns,h,_=>by obtain rfl:=dH.mp h;decide
 | k+1,ns,h,B=>by
  have q:ns≠[]:=λz=>by rw[z] at h;cases h
  rw[<- bp q,yW];have F:=zdS k ns.dropLast (by rw[List.length_dropLast,h];rfl) λn I=>B n ((List.dropLast_sublist ns).subset I);have h2:=B _ (List.getLast_mem q);have p0:(0:Int)<=2 ^ k:=Int.le_of_lt (Int.pow_pos (by decide));rw[Int.pow_succ];exact eW F h2 (by decide) (Int.le_trans p0 F)
def zc0 {rm:List Int}(q:∀r∈rm,2<=r/\r<=4)(hp:yu rm<=64):rm.length<=6:=by
 have h:=zdS _ rm rfl λn B=>(q n B).1;refine Nat.le_of_not_lt λz=>?_
 have F:(2:Int) ^ 7<=2 ^ rm.length:=by
  have:(2:Nat) ^ 7<=2 ^ rm.length:=cy (by decide) z
  exact_mod_cast this
 have:(2:Int) ^ 7=128:=by decide
 lia
def ziN {st:List Int}{b:Int}(q:st.length<=6)(B:0<=b)(F:b<st.length):(xq st b st.length).length<=32:=by
 have h:=(zc4 st b st.length).2 B F;have:2 ^ st.length<=2 ^ 6:=cy (by decide) q;have:2 ^ 6=64:=by decide
 lia
def zaS {rm:List Int}{sm:List (List Int)}{b y:Int}{st:List Int}(hs:StOk rm st)(hl:st.length<=6)(b0:0<=b)(b1:b<st.length):(zeG rm sm b y st).length<64/\RowsOk true ((zeG rm sm b y st).map yp):=by
 have h1:(zeG rm sm b y st).length<=32:=ah (bg _ _) (ah (bg _ _) (ziN hl b0 b1));have nd:(lyL rm sm b y st).Nodup:=(ze5 (b:=b) hs (by rw[hs.len];exact af _)).filter _;refine⟨be h1 (by decide),ziI (nd.filter _) λh2 g F e=>?_⟩;subst e;have O:=(az.mp F).1
 have U:∀h∈zeG rm sm b y st,h=[]:=λh Y=>by
  cases h with
  | nil=>rfl
  | cons q r=>
   exfalso;obtain⟨z1,z2⟩:=az.mp Y
   have J:∀g g':List (Int×Int),g.Sublist g'->zbX rm sm b y g=true->zbX rm sm b y g'=true:=λg g' I F=>by
    unfold zbX at F ⊢;refine a9.mpr λZ ab=>?_;have:=a9.mp F Z ab
    cases hf:zhd b y g' Z with
    | false=>rfl
    | true=>
     have ad:zhd b y g Z=true:=by unfold zhd zB at hf ⊢;rw[aH] at hf ⊢;exact⟨hf.1,a9.mpr λq hq=>a9.mp hf.2 q (I.subset hq)⟩
     rw[ad] at this;exact this
   have I:∀ (k:Nat) (g:List (Int×Int)),g∈xq st b k->∀g',g'.Sublist g->g'∈xq st b k:=λk=>by
    induction k with
    | zero=>
     intro g F g' B;rw[aE.mp F] at B;rw[fG.mp B];exact aE.mpr rfl
    | succ k ih=>
     intro g F g' B;unfold xq at F ⊢;split
     ·rename_i e;rw[if_pos e] at F;exact ih g F g' B
     ·rename_i e;rw[if_neg e] at F;rcases aK.mp F with z | z
      ·exact bV _ (ih g z g' B)
      ·obtain⟨g0,ag,rfl⟩:=aw.mp z;obtain⟨a,c,rfl,ha,hc⟩:=List.sublist_append_iff.mp B;have L:=ih g0 ag a ha
       cases hc with
       | cons _ h=>rw[fG.mp h,bc];exact bV _ L
       | cons_cons _ h=>rw[fG.mp h];exact aO _ (aw.mpr ⟨a,L,rfl⟩)
   have h0:r∈lyL rm sm b y st:=az.mpr ⟨I _ _ (az.mp z1).1 _ (List.sublist_cons_self q r),J [] r (List.nil_sublist _) (az.mp O).2⟩;have:(zcW (q::r)).any (λh=>decide (h∈lyL rm sm b y st))=true:=bT.mpr ⟨r,aw.mpr ⟨0,aX.mpr (Nat.succ_pos _),rfl⟩,aF h0⟩;rw[this] at z2;cases z2
 have al:(zeG rm sm b y st).Nodup:=nd.filter _;have an:(zeG rm sm b y st).length<=1:=zj6 (m:=[[]]) al λh Y=>by rw[U h Y];exact aE.mpr rfl
 lia
def zoT {rm:List Int}{g:List (Int×Int)}{b y:Int}(J:RoomOk rm)(L:Giv rm g)(O:∀q∈g,q.1≠b)(U:0<=b)(Y:b<rm.length)(Z:0<=y)(y1:y<zA rm b):∃I∈yy (rm.map zq),zhd b y g I=true:=by
 have hp:1<=(zbW rm (zeb g b y)).length:=zi6 _ λc hc=>by
  obtain⟨i,hi,rfl⟩:=aw.mp hc;have B:=aX.mp hi;have h2:=J.box _ (aZ B);have e:rm.getD i 0=rm[i]:=by simp[B]
  unfold cho
  cases gw (zeb g b y) i with
  | some w=>simp
  | none=>
   intro z;have:=congrArg List.length (show zq (rm.getD i 0)=[] from z);rw[yD,e] at this;simp at this;lia
 obtain⟨I,F⟩:=c7 _ (bN.mp hp);rw[<- zbe (uO L U Y Z y1)] at F;obtain⟨z1,z2⟩:=az.mp F;exact⟨I,z1,by rw[<- zdz O];exact z2⟩
def zfr (st:List Int)(b:Int):∀k:Nat,((List.range k).filter λi:Nat=>!decide ((i:Int)=b)).map (λi:Nat=>zF ((i:Int),zA st i))=(xT st b k).map zF
 | 0=>rfl
 | k+1=>by
  rw[List.range_succ,bS,aA,zfr st b k]
  conv=>rhs;unfold xT
  split
  ·rename_i h;simp[h]
  ·rename_i h;rw[aA];simp[h]
def zrM {α:Type}{x:α}{l:List α}:atI (x::l) 0=some x:=by unfold atI ixN;rw[if_pos (Int.le_refl 0),if_pos (show (0:Int)<((x::l).length:Int) by rw[aN];lia)];rfl
def zgC {α:Type}{l:List α}(h:l≠[]):∃x∈l,atI l (-1)=some x:=by have hp:=bN.mpr h;refine⟨l[l.length - 1],aZ _,?_⟩;unfold atI ixN;rw[if_neg (by decide),if_pos (by lia)];show l[((-1:Int)+l.length).toNat]?=_;rw[show ((-1:Int)+l.length).toNat=l.length - 1 by lia];exact ar _
inductive F_lies  (Pn:PN):List W->Nat->(W->Nat->Prop)->Prop
 | i {n:Nat} {R:W->Nat->Prop} {rm:List Int} {sm:List (List Int)} {b y:Int} {g:List (Int×Int)} (hR:RoomOk rm) (hp:yu rm<=64) (hG:Giv rm g) (hb:∀q∈g,q.1≠b) (b0:0<=b) (b1:b<rm.length) (y0:0<=y) (y1:y<zA rm b) (hl:sm.length<=100000) (h:R (.d (.bl (zbX rm sm b y g))) n)  : F_lies Pn [.d (stD rm),.d (xS sm),.d (.int b),.d (.int y),.d (yp g)] n R
def zbl (T:Txt K mg t):FnOk P w K mg base CX0 4 t.f8 t.d8 lj (spV 5 false F_lies):=by
 have G4:=xB (P:=P) (w:=w) (base:=base) T;have G7:=zeL (P:=P) (w:=w) (base:=base) T
 refine Fun.okW (k:=3) (fr:=false) [] 1 T.q8.F zao rfl (by decide) rfl λal A outer s H E Pn L=>⟨_,(ze (zhu (wE zw <| yT T.q4 G4 L (za (kv 0) zf)))
   (ze (wS zt <| zE (i:=5) zao.nd (wE zw <| yT T.q7 G7 L (za (kv 0) (za (xl xk zc7 (by rfl) T.b_tuple bJ (zj (JE.bo (zZ (zcw L.units) ze7 (by rfl) T.b_sorted dj (zj (JE.bo (uK xf uA (kb 4) (JE.bo (z9 (za (z9 (za (kv 2) (za (kv 3) zf))) zf))))) zr))) zr)) zf))))
   (zh (zL (zZ (zgO rfl) znU (by rfl) T.b_all ee (zj (JE.bo (yJ (N:=["standing","some"]) (cix:=[none,some 1]) rfl (by walk_at "c") (wI yi <| yh K rfl (kv 5)) (λ_ _ _ _=>(wG zP <| zm (i:=0) (show (["standing","some"]:List Str).Nodup by decide +kernel))) (λ_ _ _ _=>yr) (λ_ _ _ _=>(zcC (zlj L.units) zq8 (kb 0) (kb 1) (by with_unfolding_all rfl))))) zr)))))),λws n R hF=>?_⟩
 obtain @⟨_,_,rm,sm,b,y,g,O,hp,I,U,Y,Z,y0,y1,hl,r⟩:=hF;left;refine⟨rm,rfl,O.box,hp,?_⟩;left;have h8:=O.few;have J:=ue I;have nd:(g++[(b,y)]).Nodup:=dU.mpr ⟨zk5 I,by simp,λp hp q hq e=>U p hp (by rw[e,aE.mp hq])⟩;have e1:g.map zF++[Dt.tup [Dt.int b,Dt.int y]]=(g++[(b,y)]).map zF:=by rw[aA];rfl
 rw[e1];refine⟨ah (bv (by rw[ac];exact ah J h8) (af 1)) (by decide),?_⟩;left;refine⟨by rw[ac,aM];exact be (bv (ah J h8) (af 1)) (by decide),⟨_,zgo nd⟩,λl' ab ad=>?_⟩;obtain rfl:l'=(zeb g b y).map zF:=zcX (λ_=>zhM) (λ_ _ _=>zlb) (ab.trans (((zdo y U).map zF).symm)) ad ((uO I Y Z y0 y1).up.map _ λp q h=>zjZ h);have ag:=uO I Y Z y0 y1;left;refine F_keeping.i O ag ?_;left;refine xy (zbW rm (zeb g b y)) (λB=>.d (stD B)) (by rw[au];rfl) (λρ=>∃v,ρ=[v,some (.d (xS sm))]) (λB=>.bl (decide (B∈sm))) (ah (zhz O) (by decide)) ⟨_,rfl⟩ ?_ ?_
 ·rintro B an as ⟨v,rfl⟩ C hC;left;refine⟨za3,eqS,λc hc=>?_⟩
  have e:decide (B∈sm)=c:=by rw[a8,hc,cO,zhQ]
  rw[e] at hC;exact hC ⟨_,rfl⟩
 ·left;refine⟨(zbW rm (zeb g b y)).map λB=>decide (B∈sm),by rw[au];rfl,?_⟩
  have ea:((zbW rm (zeb g b y)).map λB=>decide (B∈sm)).all id=zbX rm sm b y g:=by rw[fH];exact zjW I U Y Z y0 y1
  rw[ea];exact r
def zol (q:List W):Prop:=∃ (rm:List Int) (B F I J:W),q=[.d (stD rm),B,F,I,J]/\(∀r∈rm,2<=r/\r<=4)/\64<yu rm
def zeM (T:Txt K mg t):FnOk P w K mg base (CX1 P w t.C_TooMany) 4 t.f8 t.d8 lj (spX 5 zol):=by have X_must_be_small:=xC (P:=P) (w:=w) (base:=base) T;refine okX (k:=3) T.q8.F zao rfl λq A outer s H E Pn B=>⟨_,(zhy zhf T.q4 X_must_be_small B (za (zjE 0) zf)),λL n O I=>?_⟩;obtain⟨rm,U,Y,Z,w4,rfl,J,hp⟩:=I;exact⟨_,rfl,rfl,rfl,rm,rfl,J,hp⟩
def zoL (st:List Int):enW 0 (st.map Dt.int)=(List.range st.length).map λi:Nat=>W.d (.tup [.int (i:Int),.int (zA st i)]):=zg5 st
def zd3 {st:List Int}{b:Int}{i:Nat}(h:(i:Int)≠b):(xq st b i).map yp++(xq st b i).map (λg=>Dt.tup (g.map zF++[Dt.tup [Dt.int (i:Int),Dt.int (zA st i)]]))=(xq st b (i+1)).map yp:=by
 conv=>rhs;unfold xq
 rw[if_neg h,aA,au];congr 1;refine eL λg _=>?_;show _=Dt.tup ((g++[((i:Int),zA st i)]).map zF);rw[aA];rfl
def zfQ {st:List Int}{b:Int}{i:Nat}(hi:i<st.length)(q:st.length<=8):(xq st b i).length<=256:=ah (zc4 st b i).1 (ah (cy (by decide) (show i<=8 by lia)) (by decide))
inductive F_subs  (Pn:PN):List W->Nat->(W->Nat->Prop)->Prop
 | i {n:Nat} {R:W->Nat->Prop} {rm st:List Int} {b:Int} (hR:RoomOk rm) (hs:StOk rm st) (h:R (.d (.lst ((xq st b st.length).map yp))) n)  : F_subs Pn [.d (stD st),.d (.int b)] n R
def zbk (T:Txt K mg t):FnOk P w K mg base CX0 1 t.f9 t.d9 lO (spV 2 false F_subs):=by
 refine Fun.okW (k:=0) (fr:=false) [] 3 T.q9.F yo rfl (by decide) rfl λad A outer s H E Pn hr=>⟨_,(ze (wS zt <| zE (i:=2) yo.nd (xU (za (z9 zf) zf)))
   (ze (yZ aW rfl (wI zhN <| zhr rfl T.b_enumerate (za (kv 0) zf)) (wG za8 <| zbc (n:=2) K rfl rfl (wH yY <| zV (wG zP <| zm (i:=3) yo.nd) (wH yY <| zV (wG zP <| zm (i:=4) yo.nd) (wH za7 uF)))) (zh (wS zK <| yU (wT zv <| yv zgk zob (kb 3) (kb 1) (zT _)) (zh (wS zt <| zE (i:=2) yo.nd (uK zcU zfS (kb 2) (JE.bo (yJ (N:=["given","at","worth"]) (cix:=[none,some 3,some 4]) rfl (by walk_at "c") (wI yi <| yh K rfl (kv 2)) (λ_ _ _ _=>(wG zP <| zm (i:=0) (show (["given","at","worth"]:List Str).Nodup by decide +kernel))) (λ_ _ _ _=>yr) (λ_ _ _ _=>(uK xf uA (kb 0) (JE.bo (z9 (za (z9 (za (kv 1) (za (kv 2) zf))) zf)))))))))) zJ)))
   (zh (zL (kv 2))))),λws n R hF=>?_⟩
 obtain @⟨_,_,rm,st,b,hR,L,r⟩:=hF;left;have h8:=hR.few;have O:st.length<=8:=by rw[L.len];exact h8
 refine yF (List.range st.length) (λi:Nat=>W.d (.tup [.int (i:Int),.int (zA st i)])) (zoL st) (λi ρ m=>m=n/\∃U Y,ρ=[some (.d (stD st)),some (.d (.int b)),some (.d (.lst ((xq st b i).map yp))),U,Y]) ⟨rfl,none,none,rfl⟩ ?_ ?_
 ·rintro i k ρ m hk ⟨rfl,U,Y,rfl⟩ C B E J _ _;obtain⟨hi,I⟩:=aj.mp hk;rw[aJ] at hi;rw[eU] at I;subst I;have q:=zfQ (b:=b) hi O;left;refine zgj (λZ=>?_) (λZ=>?_)
  ·left;refine xy (xq st b i) (λg=>.d (yp g)) (by rw[au];rfl) (λρ=>∃v,ρ=[v,some (.d (.int (i:Int))),some (.d (.int (zA st i)))]) (λg=>Dt.tup (g.map zF++[Dt.tup [Dt.int (i:Int),Dt.int (zA st i)]])) (ah q (by decide)) ⟨_,rfl⟩ ?_ ?_
   ·rintro g hg ag ⟨v,rfl⟩ C J;have ab:g.length<=rm.length:=ue (xN (b:=b) L (by rw[<- L.len];lia) g hg).1;left;exact⟨ah (bv (by rw[ac];exact ah ab h8) (af 1)) (by decide),J ⟨_,rfl⟩⟩
   ·left;rw[zd3 Z];refine⟨ah (bv (by rw[ac];exact q) (by rw[ac];exact q)) (by decide),J ⟨rfl,_,_,rfl⟩⟩
  ·left;have e:xq st b (i+1)=xq st b i:=by conv=>lhs;unfold xq;rw[if_pos Z]
   exact J ⟨rfl,_,_,by rw[e]⟩
 ·rintro ρ m ⟨rfl,U,Y,rfl⟩;rw[aJ];left;exact r
inductive F_outs  (Pn:PN):List W->Nat->(W->Nat->Prop)->Prop
 | i {n:Nat} {R:W->Nat->Prop} {g:List (Int×Int)} (hl:g.length<=100) (h:R (.d (.lst ((zcW g).map yp))) n)  : F_outs Pn [.d (yp g)] n R
def zaL (T:Txt K mg t):FnOk P w K mg base CX0 1 t.f10 t.d10 ["given"] (spV 1 true F_outs):=by
 refine Fun.okW (k:=0) (fr:=true) [] 0 T.q10.F zbI rfl (by decide) rfl λB A outer s H E Pn hr=>⟨_,(zh (zL (yJ (N:=["at","given"]) (cix:=[none,some 0]) rfl (by walk_at "c") (wI xw <| ym rfl T.b_range (zj (JE.bo (zZ xj zbM (by rfl) T.b_len bn (zj (kb 0) zr))) zr)) (λ_ _ _ _=>(wG zP <| zm (i:=0) (show (["at","given"]:List Str).Nodup by decide +kernel))) (λ_ _ _ _=>yr) (λ_ _ _ _=>(uK xf uA (JE.bo (wE x4 <| zdv (kb 1) xV (wO xm <| xW (kb 0)))) (JE.bo (wE x4 <| zdv (kb 1) (wO xm <| xW (JE.bo (uK yK zbL (kb 0) (JE.bo zk)))) xV))))))),λws n R I=>?_⟩;obtain @⟨_,_,g,J,r⟩:=I;left;have q:(g.map zF).length=g.length:=ac ..;left;rw[q];refine⟨⟨by lia,by lia⟩,?_⟩;refine xy (List.range g.length) (λk:Nat=>W.d (.int (k:Int))) (by rw[u3,bj]) (λρ=>∃v,ρ=[v,some (.d (yp g))]) (λk=>yp (g.take k++g.drop (k+1))) (by rw[aJ];exact ah J (by decide)) ⟨_,rfl⟩ ?_ ?_
 ·rintro k hk L ⟨v,rfl⟩ C O;have U:zdc (g.map zF) none (some (k:Int))=(g.take k).map zF:=by rw[zae,zcx]
  have Y:zdc (g.map zF) (some ((k:Int)+1)) none=(g.drop (k+1)).map zF:=by rw[zae,show ((k:Int)+1)=((k+1:Nat):Int) by lia,za1]
  have Z:(g.take k).length<=100:=by rw[aV];lia
  have l2:(g.drop (k+1)).length<=100:=by rw[cI];lia
  left;rw[U,Y];refine⟨by rw[ac,ac];exact ah (bv Z l2) (by decide),?_⟩;rw[<- aA];exact O ⟨_,rfl⟩
 ·unfold zcW at r;rw[au] at r;exact r
inductive F_wideP  (Pn:PN):List W->Nat->(W->Nat->Prop)->Prop
 | i {n:Nat} {R:W->Nat->Prop} {rm:List Int} {sm:List (List Int)} {b y:Int} {st:List Int} (hR:RoomOk rm) (hp:yu rm<=64) (hs:StOk rm st) (b0:0<=b) (b1:b<rm.length) (y0:0<=y) (y1:y<zA rm b) (hl:sm.length<=100000) (h:∀l,zef rm sm b y st l->R (.d (.lst l)) n)  : F_wideP Pn [.d (stD rm),.d (xS sm),.d (.int b),.d (.int y),.d (stD st)] n R
def zbm (T:Txt K mg t):FnOk P w K mg base CX0 5 t.f11 t.d11 lh (spV 5 true F_wideP):=by
 have G4:=xB (P:=P) (w:=w) (base:=base) T;have G8:=zbl (P:=P) (w:=w) (base:=base) T;have G9:=zbk (P:=P) (w:=w) (base:=base) T;have G10:=zaL (P:=P) (w:=w) (base:=base) T
 refine Fun.okW (k:=4) (fr:=true) [] 1 T.q11.F xx rfl (by decide) rfl λa3 A outer s H E Pn O=>⟨_,(ze (zhu (wE zw <| yT T.q4 G4 O (za (kv 0) zf)))
   (ze (wS zt <| zE (i:=5) xx.nd (yJ (N:=lG) (cix:=[none,some 0,some 1,some 2,some 3]) rfl (by walk_at "c") (wI yi <| yh K rfl (wE zw <| yT T.q9 G9 O (za (kv 4) (za (kv 2) zf)))) (λ_ _ _ _=>(wG zP <| zm (i:=0) (show (lG:List Str).Nodup by decide +kernel))) (λ_ _ _ _=>(zcE (wT zv <| y8 (JE.bo (wE zw <| yT T.q8 G8 O (za (kv 1) (za (kv 2) (za (kv 3) (za (kv 4) (za (kv 0) zf)))))))))) (λ_ _ _ _=>(kv 0))))
   (zh (zL (zZ (zcw O.units) ze7 (by rfl) T.b_sorted dj (zj (JE.bo (yJ (N:=["given","lying"]) (cix:=[none,some 5]) rfl (by walk_at "c") (wI yi <| yh K rfl (kv 5)) (λ_ _ _ _=>(wG zP <| zm (i:=0) (show (["given","lying"]:List Str).Nodup by decide +kernel))) (λ_ _ _ _=>(zcE (wT xY <| uQ (wT zv <| y8 (JE.bo (zZ (zox rfl) ztK (by rfl) T.b_any PyProof.Rows.boot_any (zj (JE.bo (yJ (N:=["less","lying"]) (cix:=[none,some 1]) rfl (by walk_at "c") (wI yi <| yh K rfl (wE zw <| yT T.q10 G10 O (za (kv 0) zf))) (λ_ _ _ _=>(wG zP <| zm (i:=0) (show (["less","lying"]:List Str).Nodup by decide +kernel))) (λ_ _ _ _=>yr) (λ_ _ _ _=>(zcC (zlj O.units) zq8 (kb 0) (kb 1) (by with_unfolding_all rfl))))) zr))))))) (λ_ _ _ _=>(kv 0)))) zr)))))),λws n R hF=>?_⟩
 obtain @⟨_,_,rm,sm,b,y,st,hR,hp,B,b0,b1,y0,y1,hl,r⟩:=hF;left;have h6:=zc0 hR.box hp;have Y:st.length<=6:=by rw[B.len];exact h6
 refine⟨rm,rfl,hR.box,hp,?_⟩;left;refine F_subs.i hR B ?_;have Z:=ziN Y b0 (by rw[B.len];exact b1);have ab:=λg I=>xN (b:=b) B (k:=st.length) (by rw[B.len];exact af _) g I;left;refine zcu (xq st b st.length) (λg=>.d (yp g)) (by rw[au];rfl) (λρ=>∃v,ρ=[v,some (.d (stD rm)),some (.d (xS sm)),some (.d (.int b)),some (.d (.int y))]) (zbX rm sm b y) yp (ah Z (by decide)) ⟨_,rfl⟩ ?_ ?_
 ·rintro g I ad ⟨v,rfl⟩ C U hN;obtain⟨g1,g2,_⟩:=ab g I;left;refine F_lies.i hR hp g1 (λq hq=>(g2 q hq).1) b0 b1 y0 y1 hl ?_
  cases J:zbX rm sm b y g with
  | true=>
   left;exact U J ⟨_,rfl⟩
  | false=>
   left;exact hN J ⟨_,rfl⟩
 ·have as:(xq st b st.length).filter (zbX rm sm b y)=lyL rm sm b y st:=rfl;rw[as];have ag:(lyL rm sm b y st).length<=32:=ah (bg _ _) Z;have al:∀g∈lyL rm sm b y st,g.length<=100:=λg I=>ah (ue (ab g (az.mp I).1).1) (ah h6 (by decide));left;refine zcu (lyL rm sm b y st) (λg=>.d (yp g)) (by rw[au];rfl) (λρ=>∃v,ρ=[v,some (.d (.lst ((lyL rm sm b y st).map yp)))]) (λg=>!(zcW g).any λh=>decide (h∈lyL rm sm b y st)) yp (ah ag (by decide)) ⟨_,rfl⟩ ?_ ?_
  ·rintro g I ad ⟨v,rfl⟩ C U hN;have an:=al g I;left;refine F_outs.i an ?_;left;refine xy (zcW g) (λh=>.d (yp h)) (by rw[au];rfl) (λρ=>∃v,ρ=[v,some (.d (.lst ((lyL rm sm b y st).map yp)))]) (λh=>.bl (decide (h∈lyL rm sm b y st))) (by unfold zcW;rw[ac,aJ];exact ah an (by decide)) ⟨_,rfl⟩ ?_ ?_
   ·rintro h hh ad ⟨v,rfl⟩ C U;left;refine⟨(za9 h).2.1,eqGs,λc J=>?_⟩
    have e:decide (h∈lyL rm sm b y st)=c:=by rw[a8,J,cO,zj4]
    rw[e] at U;exact U ⟨_,rfl⟩
   ·left;refine⟨(zcW g).map λh=>decide (h∈lyL rm sm b y st),by rw[au];rfl,?_⟩;have ea:((zcW g).map λh=>decide (h∈lyL rm sm b y st)).any id=(zcW g).any λh=>decide (h∈lyL rm sm b y st):=by rw[dY];rfl
    rw[ea]
    cases J:(zcW g).any λh=>decide (h∈lyL rm sm b y st) with
    | true=>
     left;exact hN (by rw[J];rfl) ⟨_,rfl⟩
    | false=>
     left;exact U (by rw[J];rfl) ⟨_,rfl⟩
  ·obtain⟨a0,L⟩:=zaS (sm:=sm) (y:=y) B Y b0 (by rw[B.len];exact b1);left;refine⟨by rw[ac];exact a0,⟨_,L⟩,λl' a1 a2=>?_⟩;exact r l' ⟨a1,a2⟩
def zon (q:List W):Prop:=∃ (rm:List Int) (B F I J:W),q=[.d (stD rm),B,F,I,J]/\(∀r∈rm,2<=r/\r<=4)/\64<yu rm
def zbn (T:Txt K mg t):FnOk P w K mg base (CX1 P w t.C_TooMany) 4 t.f11 t.d11 lh (spX 5 zon):=by have X_must_be_small:=xC (P:=P) (w:=w) (base:=base) T;refine okX (k:=3) T.q11.F xx rfl λq A outer s H E Pn B=>⟨_,(zhy zhf T.q4 X_must_be_small B (za (zjE 0) zf)),λL n O I=>?_⟩;obtain⟨rm,U,Y,Z,w4,rfl,J,hp⟩:=I;exact⟨_,rfl,rfl,rfl,rm,rfl,J,hp⟩
inductive F_great  (Pn:PN):List W->Nat->(W->Nat->Prop)->Prop
 | i {n:Nat} {R:W->Nat->Prop} {p:Addr} (hP:IsQ Pn p) (h:∀rm,RoomOk rm->64<yu rm->R (.d (stD rm)) (n+1)) (hn:n+5<=1000000:=by lia):F_great Pn [.pen p] n R
def zbZ (T:Txt K mg t):FnOk P w K mg base CX0 2 t.f12 t.d12 lQ (spV 1 false F_great):=by
 have G1:=zR (P:=P) (w:=w) (base:=base) T
 refine Fun.okW (k:=1) (fr:=false) [] 1 T.q12.F u7 rfl (by decide) rfl λB A outer s H E Pn I=>⟨_,(ze (wS zt <| zE (i:=1) u7.nd (xU (za (z9 (za zk (za zk (za zk (za zk (za zk (za zk (za zk zf)))))))) (za (z9 (za zk (za zk (za zk (za zk (za zk (za zk (za zk (za zk zf))))))))) (za (z9 (za zk (za zk (za zk (za zk zf))))) (za (z9 (za zk (za zk (za zk (za zk zf))))) (za (z9 (za zk (za zk (za zk (za zk zf))))) (za (z9 (za zk (za zk (za zk (za zk zf))))) zf))))))))
   (zh (zL (zcD uJ zgr (kb 1) (JE.bo (wE zw <| yT T.q1 G1 I (za (kv 0) (za zk zf)))) (λ_ _=>rfl))))),λZ n R J=>?_⟩
 obtain @⟨_,_,p,O,r,hn⟩:=J;left;refine tk O λx U Y=>?_;left;refine zj9 (L:=[_,_,_,_,_,_]) U Y λy q=>?_;simp only[ax,ba,or_false] at q;left;rcases q with rfl | rfl | rfl | rfl | rfl | rfl
 ·exact r [2,2,2,2,2,2,2] ⟨by decide,by decide,by decide⟩ (by decide)
 ·exact r [2,2,2,2,2,2,2,2] ⟨by decide,by decide,by decide⟩ (by decide)
 ·exact r [4,4,4,4] ⟨by decide,by decide,by decide⟩ (by decide)
 ·exact r [3,3,3,3] ⟨by decide,by decide,by decide⟩ (by decide)
 ·exact r [4,2,4,4] ⟨by decide,by decide,by decide⟩ (by decide)
 ·exact r [3,3,2,4] ⟨by decide,by decide,by decide⟩ (by decide)
inductive F_mkR  (Pn:PN):List W->Nat->(W->Nat->Prop)->Prop
 | i {n:Nat} {R:W->Nat->Prop} {p:Addr} {most:Int} (hP:IsQ Pn p) (hm:most=64) (h:∀rm m,RoomOk rm->yu rm<=64->m<=n+20->R (.d (stD rm)) m) (hn:n+30<=1000000:=by lia):F_mkR Pn [.pen p,.d (.int most)] n R
def zcQ (T:Txt K mg t):FnOk P w K mg base CX0 2 t.f13 t.d13 lB (spV 2 false F_mkR):=by
 have G1:=zR (P:=P) (w:=w) (base:=base) T
 refine Fun.okW (k:=1) (fr:=false) [] 4 T.q13.F yb rfl (by decide) rfl λag A outer s H E Pn J=>⟨_,(ze (wS zK <| yU (wT zv <| yv zcV zkI (JE.bo (wE zw <| yT T.q1 G1 J (za (kv 0) (za zk zf)))) (JE.bo zk) (zT _)) (zh (zL (zcD uJ zgr (JE.bo (xU (za (z9 (za zk (za zk (za zk (za zk (za zk (za zk zf))))))) (za (z9 (za zk (za zk (za zk zf)))) (za (z9 (za zk (za zk (za zk (za zk zf))))) (za (z9 (za zk (za zk (za zk (za zk zf))))) (za (z9 (za zk (za zk (za zk (za zk (za zk zf)))))) zf))))))) (JE.bo (wE zw <| yT T.q1 G1 J (za (kv 0) (za zk zf)))) (λ_ _=>rfl)))) zJ)
   (ze (wS zt <| zE (i:=2) yb.nd (z9 zf))
   (ze (wS zt <| zE (i:=3) yb.nd zk)
   (ze (yZ aW rfl (wI xw <| ym rfl T.b_range (zj (JE.bo (uK yK zbL (JE.bo zk) (JE.bo (wE zw <| yT T.q1 G1 J (za (kv 0) (za zk zf)))))) zr)) (wG zP <| zm (i:=4) yb.nd) (ze (wS zt <| zE (i:=5) yb.nd (uK yK zbL (JE.bo zk) (JE.bo (wE zw <| yT T.q1 G1 J (za (kv 0) (za zk zf))))))
   (zh (wS zK <| yU (wT zv <| yv zpP u_le (JE.bo (uK zbs zra (kb 3) (kb 5))) (kb 1) (zT _)) (ze (wS zt <| zE (i:=2) yb.nd (uK xf uA (kb 2) (JE.bo (z9 (za (kv 5) zf)))))
   (zh (wS zt <| zE (i:=3) yb.nd (uK zbs zra (kb 3) (kb 5))))) zJ))))
   (zh (zL (kv 2))))))),λws n R hF=>?_⟩
 obtain @⟨_,_,p,ad,U,hm,r,hn⟩:=hF;left;subst hm;refine tk U λal w0 w1=>?_;left;refine zdN (λ_=>?_) (λ_=>?_)
 ·left;refine tk U λx x0 x1=>?_;left;refine zj9 (L:=[_,_,_,_,_]) x0 x1 λy hy=>?_;simp only[ax,ba,or_false] at hy;left;rcases hy with rfl | rfl | rfl | rfl | rfl
  ·exact r [2,2,2,2,2,2] _ ⟨by decide,by decide,by decide⟩ (by decide) (by lia)
  ·exact r [4,4,4] _ ⟨by decide,by decide,by decide⟩ (by decide) (by lia)
  ·exact r [2,4,2,4] _ ⟨by decide,by decide,by decide⟩ (by decide) (by lia)
  ·exact r [3,3,3,2] _ ⟨by decide,by decide,by decide⟩ (by decide) (by lia)
  ·exact r [4,2,2,2,2] _ ⟨by decide,by decide,by decide⟩ (by decide) (by lia)
 left;refine tk U λt t0 t1=>?_;left;refine⟨⟨by lia,by lia⟩,zdn (λi ρ m=>m=n+2+i/\i<=5/\∃I Y Z,ρ=[some (.pen p),some (.d (.int 64)),some (.d (stD I)),some (.d (.int (yu I))),Y,Z]/\(∀r∈I,2<=r/\r<=4)/\yu I<=64/\(0<i->I≠[])) ⟨by lia,by lia,[],none,none,rfl,by simp,by decide,by lia⟩ ?_ ?_⟩
 ·rintro i ρ m hi ⟨rfl,ab,I,Y,Z,rfl,q,hp,O⟩ C B E hC _ _;have an:=zif (ns:=I) λr J=>by have:=q r J;lia
  have h8:I.length<=8:=zay q (by lia);left;refine tk U λx x0 x1=>?_;left;refine⟨.inr ⟨by lia,by lia⟩,?_⟩;left;refine zdN (λh=>?_) (λh=>?_)
  ·left;refine⟨len1 (ah h8 (by decide)),?_⟩;rw[cat1];left;refine⟨.inr ⟨by lia,by lia⟩,?_⟩;left;rw[<- yW]
   exact hC ⟨by lia,by lia,I++[2+x],_,_,rfl,λr J=>by
    rcases aK.mp J with z | z
    ·exact q r z
    ·rw[aE.mp z];lia,by rw[yW];exact h,λ_=>by simp⟩
  ·left;refine hC ⟨by lia,by lia,I,_,_,rfl,q,hp,λ_ z=>?_⟩;subst z;have e1:yu ([]:List Int)=1:=rfl;rw[e1] at h;lia
 ·rintro ρ m ⟨rfl,ab,I,Y,Z,rfl,q,hp,O⟩;left;exact r I _ ⟨O (by lia),zay q (by lia),q⟩ hp (by lia)
inductive F_kind  (Pn:PN):List W->Nat->(W->Nat->Prop)->Prop
 | i {n:Nat} {R:W->Nat->Prop} {p:Addr} {rm:List Int} (hP:IsQ Pn p) (hR:RoomOk rm) (h:∀b x y:Int,0<=b->b<rm.length->0<=x->x<zA rm b->0<=y->y<zA rm b->R (.d (.tup [.int b,.int x,.int y])) (n+3)) (hn:n+10<=1000000:=by lia):F_kind Pn [.pen p,.d (stD rm)] n R
def zcO (T:Txt K mg t):FnOk P w K mg base CX0 2 t.f14 t.d14 lz (spV 2 false F_kind):=by
 have G1:=zR (P:=P) (w:=w) (base:=base) T
 refine Fun.okW (k:=1) (fr:=false) [] 2 T.q14.F ua rfl (by decide) rfl λO A outer s H E Pn I=>⟨_,(ze (wS zt <| zE (i:=2) ua.nd (wE zw <| yT T.q1 G1 I (za (kv 0) (za (zZ xj zbM (by rfl) T.b_len bn (zj (kb 1) zr)) zf))))
   (ze (wS zt <| zE (i:=3) ua.nd (wE zw <| yT T.q1 G1 I (za (kv 0) (za (zcD xE zaq (kb 1) (kb 2) (λ_ _=>rfl)) zf))))
   (zh (zL (z9 (za (kv 2) (za (kv 3) (za (uK uZ zq9 (JE.bo (uK yK zbL (JE.bo (uK yK zbL (kb 3) (JE.bo zk))) (JE.bo (wE zw <| yT T.q1 G1 I (za (kv 0) (za (uK zpQ ztO (JE.bo (zcD xE zaq (kb 1) (kb 2) (λ_ _=>rfl))) (JE.bo zk)) zf)))))) (JE.bo (zcD xE zaq (kb 1) (kb 2) (λ_ _=>rfl)))) zf)))))))),λws n R U=>?_⟩
 obtain @⟨_,_,p,rm,J,L,r,hn⟩:=U;left;have h8:=L.few;have h0:=bN.mpr L.ne;left;rw[ac];refine tk J λb q B=>?_;have hb:=zby L.box (b:=b) q B;left;refine onA q B ?_;left;refine tk J λx Y Z=>?_;left;refine onA q B ?_;left;refine tk J λy y0 y1=>?_;left;refine onA q B ?_;left;refine⟨by lia,?_⟩;left;exact r b x _ q B Y Z (cg _ (by lia)) (bH _ (by lia))
inductive F_mkGv  (Pn:PN):List W->Nat->(W->Nat->Prop)->Prop
 | i {n:Nat} {R:W->Nat->Prop} {p:Addr} {rm:List Int} {box few:Int} (hP:IsQ Pn p) (hR:RoomOk rm) (hf:1<=few) (hf2:few<=10) (h:∀g m,Giv rm g->(∀q∈g,q.1≠box)->m<=n+20->R (.d (yp g)) m) (hn:n+40<=1000000:=by lia):F_mkGv Pn [.pen p,.d (stD rm),.d (.int box),.d (.int few)] n R
def uo (T:Txt K mg t):FnOk P w K mg base CX0 2 t.f15 t.d15 ld (spV 4 false F_mkGv):=by
 have G1:=zR (P:=P) (w:=w) (base:=base) T
 refine Fun.okW (k:=1) (fr:=false) [4] 2 T.q15.F xK rfl (by decide) rfl λag A outer s H E Pn hr=>⟨_,(ze (wS xZ <| zat (i:=4) xK.nd (xU zf))
   (ze (yZ aW rfl (wI xw <| ym rfl T.b_range (zj (JE.bo (zZ xj zbM (by rfl) T.b_len bn (zj (kb 1) zr))) zr)) (wG zP <| zm (i:=5) xK.nd) (zh (wS zK <| yU (JW.t (wW zeC <| zhx (wT zv <| yv zgk zob (kb 5) (kb 2) (zT _)) (zbd (.inl rfl) (wT zv <| yv zmZ u_gt (JE.bo (wE zw <| yT T.q1 G1 hr (za (kv 0) (za (kv 3) zf)))) (JE.bo zk) (zT _))))) (zh (wS zbg <| zdw 4 (z9 (za (kv 5) (za (wE zw <| yT T.q1 G1 hr (za (kv 0) (za (zcD xE zaq (kb 1) (kb 5) (λ_ _=>rfl)) zf))) zf))))) zJ)))
   (zh (zL (xl xk zc7 (by rfl) T.b_tuple bJ (zj (kb 4) zr)))))),λws n R hF=>?_⟩
 obtain @⟨_,_,p,rm,O,Y,hP,hR,hf,al,r,hn⟩:=hF;left;have h8:=hR.few;rw[ac];refine⟨⟨by lia,by lia⟩,zdn (λi ρ m=>m<=n+2 * i/\i<=rm.length/\∃g Z,ρ=[some (.pen p),some (.d (stD rm)),some (.d (.int O)),some (.d (.int Y)),some (.d (.lst (g.map zF))),Z]/\Giv rm g/\(∀q∈g,q.1≠O)/\(∀q∈g,q.1<(i:Int))/\g.length<=i) ⟨by lia,a6 _,[],_,rfl,⟨by simp,.nil⟩,by simp,by simp,by simp⟩ ?_ ?_⟩
 ·rintro i ρ m hi ⟨hm,ab,g,Z,rfl,U,I,J,ad⟩ C B E hC _ _;have an:=zby hR.box (b:=(i:Int)) (by lia) (by lia);left;refine zgj (λhb=>?_) (λ_=>?_);rotate_left
  ·left;exact hC ⟨by lia,by lia,g,_,rfl,U,I,λq L=>by have:=J q L;lia,by lia⟩
  left;refine tk hP λt t0 t1=>?_;left;refine zdN (λ_=>?_) (λ_=>?_);rotate_left
  ·left;exact hC ⟨by lia,by lia,g,_,rfl,U,I,λq L=>by have:=J q L;lia,by lia⟩
  left;refine onA (by lia) (by lia) ?_;left;refine tk hP λu u0 u1=>?_;left;refine⟨by rw[ac];exact be (by lia:_<=8) (by decide),hC ⟨by lia,by lia,g++[((i:Int),u)],_,by rw[aA];rfl,U.snoc J (by lia) (by lia) u0 u1,λq L=>?_,λq L=>?_,by rw[aM];simp;lia⟩⟩
  ·rcases aK.mp L with z | z
   ·exact I q z
   ·rw[aE.mp z];exact hb
  ·rcases aK.mp L with z | z
   ·have:=J q z;lia
   ·rw[aE.mp z];show (i:Int)<((i+1:Nat):Int);lia
 ·rintro ρ m ⟨hm,ab,g,Z,rfl,U,I,J,ad⟩;left;exact r g m U I (by lia)
def zl6{rm:List Int}{g:List (Int×Int)}(h:Giv rm g):Giv rm (g.take k++g.drop (k+1)):=by
 have B:(g.take k++g.drop (k+1)).Sublist g:=by
  have e:=List.take_append_drop k g
  conv=>rhs;rw[<- e]
  refine List.Sublist.append (List.Sublist.refl _) ?_;rw[<- List.drop_drop];exact List.drop_sublist 1 _
 exact⟨λq F=>h.ok q (B.subset F),h.up.sublist B⟩
def zl8{rm:List Int}{g:List (Int×Int)}{q:Int×Int}{x:Int}(h:Giv rm g)(B:g[k]?=some q)(I:0<=x)(J:x<zA rm q.1):Giv rm (g.take k++[(q.1,x)]++g.drop (k+1)):=by
 have e:g=g.take k++[q]++g.drop (k+1):=by rw[<- zp B,List.take_append_drop]
 have L:(g.take k++[(q.1,x)]++g.drop (k+1)).map (·.1)=g.map (·.1):=by
  conv=>rhs;rw[e]
  simp
 refine⟨λF O=>?_,?_⟩
 ·rcases aK.mp O with z | z
  ·rcases aK.mp z with z | z
   ·exact h.ok F (cZ z)
   ·rw[aE.mp z];have:=h.ok q (aC B);exact⟨this.1,this.2.1,I,J⟩
  ·exact h.ok F (eu z)
 ·have h2:(g.map (·.1)).Pairwise (· < ·):=bD.mpr h.up;rw[<- L] at h2;exact bD.mp h2
def zjP{g:List (Int×Int)}:∀q∈g.take k++g.drop (k+1),∃B∈g,q.1=B.1:=λq F=>⟨q,(aK.mp F).elim cZ eu,rfl⟩
def zjQ{g:List (Int×Int)}{p:Int×Int}{x:Int}(hp:g[k]?=some p):∀q∈g.take k++[(p.1,x)]++g.drop (k+1),∃B∈g,q.1=B.1:=λq F=>by
 rcases aK.mp F with z | z
 ·rcases aK.mp z with z | z
  ·exact⟨q,cZ z,rfl⟩
  ·rw[aE.mp z];exact⟨p,aC hp,rfl⟩
 ·exact⟨q,eu z,rfl⟩
inductive F_near  (Pn:PN):List W->Nat->(W->Nat->Prop)->Prop
 | i {n:Nat} {R:W->Nat->Prop} {p:Addr} {rm:List Int} {box:Int} {g:List (Int×Int)} (hP:IsQ Pn p) (hR:RoomOk rm) (hG:Giv rm g) (h:∀g' m,Giv rm g'->(∀q∈g',∃q2∈g,q.1=q2.1)->m<=n+2->R (.d (yp g')) m) (hn:n+10<=1000000:=by lia):F_near Pn [.pen p,.d (stD rm),.d (.int box),.d (yp g)] n R
def zcP (T:Txt K mg t):FnOk P w K mg base CX0 2 t.f16 t.d16 la (spV 4 false F_near):=by
 have G1:=zR (P:=P) (w:=w) (base:=base) T
 refine Fun.okW (k:=1) (fr:=false) [] 4 T.q16.F yM rfl (by decide) rfl λab A outer s H E Pn L=>⟨_,(ze (wS zK <| yU (wT zv <| yv (zh3 L.units) znX (kb 3) (JE.bo (z9 zf)) (zT _)) (zh (zL (kv 3))) zJ)
   (ze (wS zt <| zE (i:=4) yM.nd (wE zw <| yT T.q1 G1 L (za (kv 0) (za (zZ xj zbM (by rfl) T.b_len bn (zj (kb 3) zr)) zf))))
   (ze (wS zt <| zE (i:=5) yM.nd (wE zw <| yT T.q1 G1 L (za (kv 0) (za zk zf))))
   (ze (wS zK <| yU (wT zv <| yv zcV zkI (kb 5) (JE.bo zk) (zT _)) (zh (zL (uK xf uA (JE.bo (wE x4 <| zdv (kb 3) xV (wO xm <| xW (kb 4)))) (JE.bo (wE x4 <| zdv (kb 3) (wO xm <| xW (JE.bo (uK yK zbL (kb 4) (JE.bo zk)))) xV))))) zJ)
   (ze (wS zK <| yU (wT zv <| yv zcV zkI (kb 5) (JE.bo zk) (zT _)) (ze (zht (zcD xE zaq (kb 3) (kb 4) (λ_ _=>rfl)) (wG za8 <| zbc (n:=2) K rfl rfl (wH yY <| zV (wG zP <| zm (i:=6) yM.nd) (wH yY <| zV (wG zP <| zm (i:=7) yM.nd) (wH za7 uF)))))
   (zh (zL (uK xf uA (JE.bo (uK xf uA (JE.bo (wE x4 <| zdv (kb 3) xV (wO xm <| xW (kb 4)))) (JE.bo (z9 (za (z9 (za (kv 6) (za (uK uZ zq9 (JE.bo (uK yK zbL (kb 7) (JE.bo zk))) (JE.bo (zcD xE zaq (kb 1) (kb 6) (λ_ _=>rfl)))) zf))) zf))))) (JE.bo (wE x4 <| zdv (kb 3) (wO xm <| xW (JE.bo (uK yK zbL (kb 4) (JE.bo zk)))) xV)))))) zJ)
   (zh (zL (kv 3)))))))),λws n R hF=>?_⟩
 obtain @⟨_,_,p,rm,ad,g,U,Y,J,r,hn⟩:=hF;left;have h8:=zba J Y.few;refine⟨zca.1,za3 (ns:=[]),λc hc=>?_⟩;left
 cases c with
 | true=>
  left;exact r g _ J (λq I=>⟨q,I,rfl⟩) (by lia)
 | false=>
  have O:g≠[]:=λz=>by subst z;exact absurd (hc.mpr rfl) (by decide)
  have Z:=bN.mpr O;left;rw[ac];refine tk U λa a0 a1=>?_;obtain⟨k,rfl⟩:∃k:Nat,a=(k:Int):=⟨a.toNat,by lia⟩;have hk:k<g.length:=by lia
  obtain⟨q,I⟩:∃q,g[k]?=some q:=⟨g[k],ar hk⟩;have e1:zdc (g.map zF) none (some (k:Int))=(g.take k).map zF:=by rw[zae,zcx]
  have e2:zdc (g.map zF) (some ((k:Int)+1)) none=(g.drop (k+1)).map zF:=by rw[zae,show ((k:Int)+1)=((k+1:Nat):Int) by lia,za1]
  have l1:(g.take k).length<=100:=by rw[aV];lia
  have l2:(g.drop (k+1)).length<=100:=by rw[cI];lia
  left;refine tk U λw w0 w1=>?_;left;refine zdN (λ_=>?_) (λ_=>?_)
  ·left;rw[e1,e2];refine⟨by rw[ac,ac];exact ah (by lia:_<=200) (by decide),?_⟩;rw[<- aA];exact r _ _ (zl6 J) zjP (by lia)
  ·left;refine zdN (λ_=>?_) (λ_=>?_)
   ·have B:=J.ok q (aC I);have ag:=zby Y.box (b:=q.1) B.1 B.2.1;left;refine onG I ?_;left;refine onA B.1 B.2.1 ?_;left;refine⟨by lia,?_⟩;left;rw[e1];refine⟨by rw[ac];exact ah (bv l1 (af 1)) (by decide),?_⟩;left;rw[e2];refine⟨by rw[aM,ac,ac];exact ah (bv (bv l1 (af 1)) l2) (by decide),?_⟩;have e3:(g.take k).map zF++[Dt.tup [Dt.int q.1,Dt.int ((q.2+1) % zA rm q.1)]]++(g.drop (k+1)).map zF=(g.take k++[(q.1,(q.2+1) % zA rm q.1)]++g.drop (k+1)).map zF:=by rw[aA,aA];rfl
    rw[e3];exact r _ _ (zl8 J I (cg _ (by lia)) (bH _ (by lia))) (zjQ I) (by lia)
   ·left;exact r g _ J (λq I=>⟨q,I,rfl⟩) (by lia)
inductive F_allR  (Pn:PN):List W->Nat->(W->Nat->Prop)->Prop
 | i {n:Nat} {R:W->Nat->Prop} {rm:List Int} (hR:RoomOk rm) (h:R (.d (xS (yy (rm.map zq)))) n)  : F_allR Pn [.d (stD rm)] n R
def zav (T:Txt K mg t):FnOk P w K mg base CX0 1 t.f17 t.d17 lP (spV 1 false F_allR):=by
 refine Fun.okW (k:=0) (fr:=false) [3] 4 T.q17.F yE rfl (by decide) rfl λag A outer s H E Pn hr=>⟨_,(ze (wS zt <| zE (i:=1) yE.nd (xU (za (z9 zf) zf)))
   (ze (yZ aW rfl (wI zcJ <| zft K rfl (kv 0)) (wG zP <| zm (i:=2) yE.nd) (ze (wS xZ <| zat (i:=3) yE.nd (xU zf))
   (ze (yZ aW rfl (wI yi <| yh K rfl (kv 1)) (wG zP <| zm (i:=4) yE.nd) (zh (wS zmG <| zo8 3 (yJ (N:=["_law_worth","_law_one"]) (cix:=[none,some 4]) rfl (by walk_at "c") (wI xw <| ym rfl T.b_range (zj (kb 2) zr)) (λ_ _ _ _=>(wG zP <| zm (i:=0) (show (["_law_worth","_law_one"]:List Str).Nodup by decide +kernel))) (λ_ _ _ _=>yr) (λ_ _ _ _=>(uK xf uA (kb 1) (JE.bo (z9 (za (kv 0) zf)))))))))
   (zh (wS zj1 <| zmp (i:=1) 3 yE.nd rfl (Or.inl rfl))))))
   (zh (zL (kv 1))))),λws n R hF=>?_⟩
 obtain @⟨_,_,rm,Z,r⟩:=hF;left;have hb:=Z.box;refine yF rm (λi=>.d (.int i)) (by rw[au];rfl) (λi ρ m=>m=n/\∃v2 v3 U,ρ=[some (.d (stD rm)),some (.d (xS (yy ((rm.take i).map zq)))),v2,v3,U]) ⟨rfl,none,none,none,rfl⟩ ?_ ?_
 ·rintro i a ρ m ha ⟨rfl,v2,v3,U,rfl⟩ C B E hC _ _;have hm:=hb a (aC ha);obtain⟨w,rfl⟩:∃w:Nat,a=(w:Int):=⟨a.toNat,by lia⟩;have J:=zaM Z.few hb i;have L:∀q∈yy ((rm.take i).map zq),q.length<=8:=λq I=>by rw[xi _ _ I,ac,aV];have:=Z.few;lia
  have O:yy ((rm.take (i+1)).map zq)=(yy ((rm.take i).map zq)).flatMap λq=>(zq (w:Int)).map λx=>q++[x]:=by rw[zp ha,aA,ao,cD,z8];rfl
  generalize yy ((rm.take i).map zq)=rows at J O L;left;refine yF rows (λq=>.d (stD q)) (by rw[au];rfl) (λj ρ m'=>m'=m/\∃U,ρ=[some (.d (stD rm)),some (.d (xS rows)),some (.d (.int (w:Int))),some (.d (xS ((rows.take j).flatMap λq=>(zq (w:Int)).map λx=>q++[x]))),U]) ⟨rfl,_,rfl⟩ ?_ ?_
  ·rintro j q ρ m' I ⟨rfl,U,rfl⟩ C2 B2 E2 ab _ _;have h8:=L q (aC I);left;refine⟨⟨by lia,by lia⟩,?_⟩;have ad:(List.range w).map (λk:Nat=>q++[(k:Int)])=(zq (w:Int)).map λx=>q++[x]:=by unfold zq;rw[au,bj];rfl
   have Y:w<=4:=by lia
   have hz:((rows.take j).flatMap λq=>(zq (w:Int)).map λx=>q++[x]).length<=262144:=by
    rw[List.length_flatMap]
    have e0:∀l:List (List Int),((l.map λq=>((zq (w:Int)).map λx=>q++[x]).length).sum)=l.length * w:=λl=>by
     induction l with
     | nil=>simp
     | cons y l ih=>rw[ao,List.sum_cons,ih,ac,yD,aN,Nat.succ_mul,bj,Nat.add_comm]
    rw[e0,aV];exact ah (Nat.mul_le_mul (ah (fE _ _) J) Y) (by decide)
   rw[bj,u3];refine xy (List.range w) (λk:Nat=>W.d (.int (k:Int))) rfl (λρ=>∃v,ρ=[v,some (.d (stD q))]) (λk=>stD (q++[(k:Int)])) (by rw[aJ];exact ah Y (by decide)) ⟨_,rfl⟩ ?_ ?_
   ·rintro k hk al ⟨v,rfl⟩ C hC;left;refine⟨len1 (ah h8 (by decide)),?_⟩;rw[cat1];exact hC ⟨_,rfl⟩
   ·left;refine⟨by rw[ac,ac,aJ];exact ah (bv hz Y) (by decide),?_⟩;refine ab ⟨rfl,some (.d (stD q)),?_⟩;rw[zp I,List.flatMap_append,List.flatMap_singleton,<- ad];simp only[xS,aA,au];rfl
  ·rintro ρ m' ⟨rfl,U,rfl⟩;rw[aT,<- O];left;exact hC ⟨rfl,_,_,_,rfl⟩
 ·rintro ρ m ⟨rfl,v2,v3,U,rfl⟩;rw[aT];left;exact r
inductive F_keepsL  (Pn:PN):List W->Nat->(W->Nat->Prop)->Prop
 | i {n:Nat} {R:W->Nat->Prop} {st:List Int} {g:List (Int×Int)} (hg:∀q∈g,0<=q.1/\q.1<st.length) (hl:g.length<=100) (h:R (.d (.bl (zB st g))) n)  : F_keepsL Pn [.d (stD st),.d (yp g)] n R
def uq (T:Txt K mg t):FnOk P w K mg base CX0 1 t.f18 t.d18 lp (spV 2 false F_keepsL):=by
 refine Fun.okW (k:=0) (fr:=false) [] 0 T.q18.F zc1 rfl (by decide) rfl λI A outer s H E Pn hr=>⟨_,(zh (zL (zZ (zgO rfl) znU (by rfl) T.b_all ee (zj (JE.bo (yJ (N:=lw) (cix:=[none,none,some 0]) rfl (by walk_at "c") (wI zcJ <| zft K rfl (kv 1)) (λ_ _ _ _=>(wG za8 <| zbc (n:=2) K rfl rfl (wH yY <| zV (wG zP <| zm (i:=0) (show (lw:List Str).Nodup by decide +kernel)) (wH yY <| zV (wG zP <| zm (i:=1) (show (lw:List Str).Nodup by decide +kernel)) (wH za7 uF))))) (λ_ _ _ _=>yr) (λ_ _ _ _=>(zcC zcV zkI (JE.bo (zcD xE zaq (kb 2) (kb 0) (λ_ _=>rfl))) (kb 1) (zT _))))) zr)))),λws n R J=>?_⟩;obtain @⟨_,_,st,g,L,O,r⟩:=J;left;refine xy g (λq=>.d (zF q)) (by rw[au];rfl) (λρ=>∃a b,ρ=[a,b,some (.d (stD st))]) (λq=>.bl (decide (zA st q.1=q.2))) (ah O (by decide)) ⟨_,_,rfl⟩ ?_ ?_
 ·rintro q U Y ⟨a,b,rfl⟩ C Z;have B:=L q U;left;refine onA B.1 B.2 ?_;left;exact Z ⟨_,_,rfl⟩
 ·left;refine⟨g.map λq=>decide (zA st q.1=q.2),by rw[au];rfl,?_⟩;have ea:(g.map λq=>decide (zA st q.1=q.2)).all id=zB st g:=by unfold zB;rw[fH];rfl
  rw[ea];exact r
def thC (rm:List Int)(b y:Int):List (List Int):=(yy (rm.map zq)).filter λq=>decide (zA q b=y)
@[reducible] def fsW (rm:List Int) (sm:List (List Int)) (b y:Int):Fs:=[(Sum.inr "room",stD rm),(Sum.inr "some",xS sm),(Sum.inr "box",.int b),(Sum.inr "worse",.int y),(Sum.inr "there",xS (thC rm b y))]
def lk_r {rm:List Int}{sm:List (List Int)}{b y:Int}:zS (fsW rm sm b y) (Sum.inr "room" : Key)=some (stD rm):=rfl
def lk_s {rm:List Int}{sm:List (List Int)}{b y:Int}:zS (fsW rm sm b y) (Sum.inr "some" : Key)=some (xS sm):=rfl
def zsB {rm:List Int}{sm:List (List Int)}{b y:Int}:zS (fsW rm sm b y) (Sum.inr "box" : Key)=some (.int b):=rfl
def lk_w {rm:List Int}{sm:List (List Int)}{b y:Int}:zS (fsW rm sm b y) (Sum.inr "worse" : Key)=some (.int y):=rfl
def lk_t {rm:List Int}{sm:List (List Int)}{b y:Int}:zS (fsW rm sm b y) (Sum.inr "there" : Key)=some (xS (thC rm b y)):=rfl
def knW (sm:List (List Int)):Kn:=sm.map λq=>(q,Dt.bl true)
def zmz (sm:List (List Int))(q:List Int):(zS (knW sm) q).isSome=decide (q∈sm):=by
 unfold zS knW;rw[bC,List.find?_map,bC,a8,List.find?_isSome,cO];constructor
 ·rintro⟨x,h1,h2⟩;rwa[<- show x=q from aS h2]
 ·exact λh=>⟨q,h,aF rfl⟩
def zq6 {rm:List Int}{b y:Int}{q:List Int}(h:q∈thC rm b y):q.length=rm.length:=by rw[xi _ _ (az.mp h).1,ac]
def zq5 {rm:List Int}(q:RoomOk rm){b y:Int}:(thC rm b y).length<=65536:=ah (bg _ _) (by have:=zaM q.few q.box rm.length;rwa[aT] at this)
def zla {rm:List Int}{sm:List (List Int)}{b y:Int}{g:List (Int×Int)}:zbX rm sm b y g=(thC rm b y).all λq=>!zB q g || decide (q∈sm):=by unfold zbX thC;rw[List.all_filter];congr 1;funext q;unfold zhd;cases decide (zA q b=y) <;> rfl
inductive F_llies  (Pn:PN):List W->Nat->(W->Nat->Prop)->Prop
 | i {n:Nat} {R:W->Nat->Prop} {d:Addr} {rm:List Int} {sm:List (List Int)} {b y:Int} {g:List (Int×Int)} (hg:∀q∈g,0<=q.1/\q.1<rm.length) (hl:g.length<=100) (h:R (.d (.bl (zbX rm sm b y g))) n)  : F_llies Pn [.wd d (fsW rm sm b y) (knW sm),.d (yp g)] n R
def uV (T:Txt K mg t):FnOk P w K mg base CX0 2 t.f19 t.d19 lv (spV 2 false F_llies):=by
 have G18:=uq (P:=P) (w:=w) (base:=base) T
 refine Fun.okW (k:=1) (fr:=false) [] 1 T.q19.F zaG rfl (by decide) rfl λab A outer s H E Pn U=>⟨_,(ze (yZ aW rfl (wI yi <| yh K rfl (zas (uh U) (kb 0))) (wG zP <| zm (i:=2) zaG.nd) (zh (wS zK <| yU (JW.t (wW zeC <| zhx (wT zv <| y8 (JE.bo (wE zw <| yT T.q18 G18 U (za (kv 2) (za (kv 1) zf))))) (zbd (.inl rfl) (zmt (uh U) (kb 2) (JE.bo (zss (uh U) (kb 0))))))) (zh (zL zez)) zJ)))
   (zh (zL zez))),λws n R hF=>?_⟩
 obtain @⟨_,_,d,rm,sm,b,y,g,hg,hl,r⟩:=hF;left
 (with_reducible refine uY lk_t ?_)
 left;refine yF (thC rm b y) (λq=>.d (stD q)) (by rw[au];rfl) (λi ρ m=>m=n/\(∃Z,ρ=[some (.wd d (fsW rm sm b y) (knW sm)),some (.d (yp g)),Z])/\((thC rm b y).take i).all (λq=>!zB q g || decide (q∈sm))=true) ⟨rfl,⟨_,rfl⟩,rfl⟩ ?_ ?_
 ·rintro i q ρ m J ⟨rfl,⟨Z,rfl⟩,Y⟩ C B E hC _ hE;have I:=aC J;have L:=zq6 I
  have O:(!zB q g || decide (q∈sm))=true->((thC rm b y).take (i+1)).all (λq=>!zB q g || decide (q∈sm))=true:=λh=>by rw[zp J,eO,Y];simpa using h
  left;refine F_keepsL.i (by rw[L];exact hg) hl ?_
  cases hc:zB q g with
  | false=>
   left;exact hC ⟨rfl,⟨_,rfl⟩,O (by rw[hc];rfl)⟩
  | true=>
   left;refine⟨rfl,?_⟩;left;refine⟨q,rfl,?_⟩;rw[zmz,show xr true (decide (q∈sm)) = !decide (q∈sm) by cases decide (q∈sm) <;> rfl];refine zgj (λhd=>?_) (λhd=>?_)
   ·left
    have e:zbX rm sm b y g=false:=by rw[zla];exact List.all_eq_false.mpr ⟨q,I,by rw[hc,aQ hd];decide⟩
    rw[e] at r;exact hE r
   ·left;exact hC ⟨rfl,⟨_,rfl⟩,O (by rw[aF hd,Bool.or_true])⟩
 ·rintro ρ m ⟨rfl,⟨Z,rfl⟩,Y⟩;rw[aT,<- zla] at Y;rw[Y] at r;left;exact r
inductive F_lsubs  (Pn:PN):List W->Nat->(W->Nat->Prop)->Prop
 | i {n:Nat} {R:W->Nat->Prop} {rm st:List Int} {b:Int} (hR:RoomOk rm) (hs:StOk rm st) (h:R (.d (.lst ((xq st b st.length).map yp))) n)  : F_lsubs Pn [.d (stD st),.d (.int b)] n R
def uH (T:Txt K mg t):FnOk P w K mg base CX0 1 t.f20 t.d20 lE (spV 2 false F_lsubs):=by
 refine Fun.okW (k:=0) (fr:=false) [] 2 T.q20.F z7 rfl (by decide) rfl λab A outer s H E Pn hr=>⟨_,(ze (wS zt <| zE (i:=2) z7.nd (xU (za (z9 zf) zf)))
   (ze (yZ aW rfl (wI xw <| ym rfl T.b_range (zj (JE.bo (zZ xj zbM (by rfl) T.b_len bn (zj (kb 0) zr))) zr)) (wG zP <| zm (i:=3) z7.nd) (zh (wS zK <| yU (wT zv <| yv zgk zob (kb 3) (kb 1) (zT _)) (zh (wS zt <| zE (i:=2) z7.nd (uK zcU zfS (kb 2) (JE.bo (yJ (N:=lC) (cix:=[none,some 3,some 0]) rfl (by walk_at "c") (wI yi <| yh K rfl (kv 2)) (λ_ _ _ _=>(wG zP <| zm (i:=0) (show (lC:List Str).Nodup by decide +kernel))) (λ_ _ _ _=>yr) (λ_ _ _ _=>(uK xf uA (kb 0) (JE.bo (z9 (za (z9 (za (kv 1) (za (zcD xE zaq (kb 2) (kb 1) (λ_ _=>rfl)) zf))) zf)))))))))) zJ)))
   (zh (zL (kv 2))))),λws n R hF=>?_⟩
 obtain @⟨_,_,rm,st,b,hR,J,r⟩:=hF;left;have h8:=hR.few;have L:st.length<=8:=by rw[J.len];exact h8
 rw[show (st.map Dt.int).length=st.length from ac ..];refine⟨⟨by lia,by lia⟩,zdn (λi ρ m=>m=n/\∃O,ρ=[some (.d (stD st)),some (.d (.int b)),some (.d (.lst ((xq st b i).map yp))),O]) ⟨rfl,none,rfl⟩ ?_ ?_⟩
 ·rintro i ρ m hi ⟨rfl,O,rfl⟩ C B E I _ _;have U:i<st.length:=by lia
  have q:=zfQ (b:=b) U L;left;refine zgj (λY=>?_) (λY=>?_)
  ·left;refine xy (xq st b i) (λg=>.d (yp g)) (by rw[au];rfl) (λρ=>∃v,ρ=[v,some (.d (.int (i:Int))),some (.d (stD st))]) (λg=>Dt.tup (g.map zF++[Dt.tup [Dt.int (i:Int),Dt.int (zA st i)]])) (ah q (by decide)) ⟨_,rfl⟩ ?_ ?_
   ·rintro g hg ad ⟨v,rfl⟩ C I;have Z:g.length<=rm.length:=ue (xN (b:=b) J (by rw[<- J.len];lia) g hg).1;left;refine onA (by lia) (by lia) ?_;left;exact⟨ah (bv (by rw[ac];exact ah Z h8) (af 1)) (by decide),I ⟨_,rfl⟩⟩
   ·left;rw[zd3 Y];refine⟨ah (bv (by rw[ac];exact q) (by rw[ac];exact q)) (by decide),I ⟨rfl,_,rfl⟩⟩
  ·left;have e:xq st b (i+1)=xq st b i:=by conv=>lhs;unfold xq;rw[if_pos Y]
   exact I ⟨rfl,_,by rw[e]⟩
 ·rintro ρ m ⟨rfl,O,rfl⟩;left;exact r
def WQ (rm:List Int)(sm:List (List Int))(b y:Int)(k:Dt)(l:List Dt):Prop:=∃st∈sm,k=stD st/\zef rm sm b y st l
def ze3 {a c:List Int}(h:stD a=stD c):a=c:=(eV (λ_ _ z=>by cases z;rfl)).mp (show a.map Dt.int=c.map Dt.int by simpa [stD] using h)
def zqS (st:List Int):(stD st).ky:=⟨yP.mpr λd q=>by obtain⟨i,_,rfl⟩:=aw.mp q;rfl,za3,rfl⟩
def zn3{rm:List Int}{sm:List (List Int)}{b y:Int}{st:List Int}(h:zef rm sm b y st l):Dt.noLs l=true:=zcA (yP.mpr λd q=>by obtain⟨g,_,rfl⟩:=aw.mp (h.1.mem_iff.mp q);exact (za9 g).1)
def kvT (g:List (Int×Int)):Dt×Dt:=(yp g,.bl true)
def zjY (l:List (List (Int×Int)))(g:List (Int×Int)):(zS (l.map kvT) (yp g)).isSome=decide (g∈l):=by
 unfold zS kvT;rw[bC,List.find?_map,bC,a8,List.find?_isSome,cO];constructor
 ·rintro⟨x,h1,h2⟩;rwa[<- show x=g from zaO (aS h2)]
 ·exact λh=>⟨g,h,aF rfl⟩
def znr {l:List (List (Int×Int))}{g:List (Int×Int)}(h:g∉l):zi3 (l.map kvT) (yp g) (.bl true)=(l++[g]).map kvT:=by
 have e:(l.map kvT).any (λkv=>decide (kv.1=yp g))=false:=by rw[dY];exact eY.mpr λx q z=>h (by rwa[<- show x=g from zaO (aS z)])
 unfold zi3;rw[e,if_neg (by decide),aA];rfl
inductive F_lwide  (Pn:PN):List W->Nat->(W->Nat->Prop)->Prop
 | i {n:Nat} {R:W->Nat->Prop} {d:Addr} {rm:List Int} {sm:List (List Int)} {b y:Int} {st:List Int} (hM:IsMemo Pn.J d (WQ rm sm b y)) (hR:RoomOk rm) (hp:yu rm<=64) (hs:StOk rm st) (hm:st∈sm) (b0:0<=b) (b1:b<rm.length) (hl:sm.length<=100000) (h:∀l,zef rm sm b y st l->R (.d (.lst l)) n)  : F_lwide Pn [.wd d (fsW rm sm b y) (knW sm),.d (stD st)] n R
def uW (T:Txt K mg t):FnOk P w K mg base CX0 3 t.f21 t.d21 lA (spV 2 false F_lwide):=by
 have G19:=uV (P:=P) (w:=w) (base:=base) T;have G20:=uH (P:=P) (w:=w) (base:=base) T
 refine Fun.okW (k:=2) (fr:=false) [2,4] 3 T.q21.F yN rfl (by decide) rfl λbk A outer s H E Pn L=>⟨_,(zjJ L.units (zhs 1) (zeA 0 (uh L)) (zhs 1) (zeA 0 (uh L)) (uP (wS xZ <| zat (i:=2) yN.nd zo6)
   (uP (yZ aW rfl (wI yi <| yh K rfl (wE zw <| yT T.q20 G20 L (za (kv 1) (za (zas (uh L) (kb 0)) zf)))) (wG zP <| zm (i:=3) yN.nd) (zh (wS zK <| yU (wT zv <| y8 (JE.bo (wE zw <| yT T.q19 G19 L (za (kv 0) (za (kv 3) zf))))) (zh (zmq 2 L.units (kb 3) zez)) zJ)))
   (zjI [4] 2 (uP (wS xZ <| zat (i:=4) yN.nd (xU zf))
   (uP (yZ aW rfl (zst (kv 2)) (wG zP <| zm (i:=3) yN.nd) (zh (wS zK <| yU (wT zv <| yv zdP zkJ (JE.bo zez) (JE.bo (yJ (N:=lD) (cix:=[none,some 2,some 3]) rfl (by walk_at "c") (wI xw <| ym rfl T.b_range (zj (JE.bo (zZ xj zbM (by rfl) T.b_len bn (zj (kb 3) zr))) zr)) (λ_ _ _ _=>(wG zP <| zm (i:=0) (show (lD:List Str).Nodup by decide +kernel))) (λ_ _ _ _=>yr) (λ_ _ _ _=>(zcC (zpO L.units) ztM (JE.bo (uK xf uA (JE.bo (wE x4 <| zdv (kb 2) xV (wO xm <| xW (kb 0)))) (JE.bo (wE x4 <| zdv (kb 2) (wO xm <| xW (JE.bo (uK yK zbL (kb 0) (JE.bo zk)))) xV)))) (kb 1) (by with_unfolding_all rfl))))) (by with_unfolding_all rfl)) (zh (wS zbg <| zdw 4 (kv 3))) zJ)))
   (zjH L.units (zhs 1) (zeA 0 (uh L)) (zso (zZ (zcw L.units) ze7 (by rfl) T.b_sorted dj (zj (kb 4) zr)))))))))),λws n R hF=>?_⟩
 obtain @⟨_,_,d,rm,sm,b,y,st,hM,hR,hp,J,hm,b0,b1,hl,r⟩:=hF;left;refine⟨d,WQ rm sm b y,stD st,sm.map stD,hM,zqS st,?_,by rw[ac];exact ah hl (by decide),rfl,⟨d,_,_,rfl,rfl,rfl⟩,?_,?_⟩
 ·rintro k l ⟨s,J,rfl,_⟩;exact dg J
 ·have h6:=zc0 hR.box hp;have ab:st.length<=6:=by rw[J.len];exact h6
  have ad:=ziN ab b0 (by rw[J.len];exact b1);have ag:=λg I=>xN (b:=b) J (k:=st.length) (by rw[J.len];exact af _) g I;have a4:=ze5 (b:=b) J (k:=st.length) (by rw[J.len];exact af _);left
  (with_reducible refine uY zsB ?_)
  left;refine F_lsubs.i hR J ?_;left;refine yF (xq st b st.length) (λg=>.d (yp g)) (by rw[au];rfl) (λi ρ m=>m=n/\∃Y,ρ=[some (.wd d (fsW rm sm b y) (knW sm)),some (.d (stD st)),some (.dn false ((((xq st b st.length).take i).filter (zbX rm sm b y)).map kvT)),Y,none]) ⟨rfl,_,rfl⟩ ?_ ?_
  ·rintro i g ρ m I ⟨rfl,Y,rfl⟩ C B E hC _ _;have al:=aC I;obtain⟨g1,g2,_⟩:=ag g al
   have an:∀ {c:Bool},zbX rm sm b y g=c->((xq st b st.length).take (i+1)).filter (zbX rm sm b y)=((xq st b st.length).take i).filter (zbX rm sm b y)++(if c then [g] else []):=λ{c} O=>by rw[zp I,bS,el,List.filter_nil,O]
   left;refine F_llies.i (λq hq=>by have:=g1.ok q hq;lia) (zba g1 hR.few) ?_
   cases O:zbX rm sm b y g with
   | false=>
    have e:=an O;rw[if_neg (by decide),bc] at e;left;exact hC ⟨rfl,_,by rw[e]⟩
   | true=>
    have e:=an O;rw[if_pos rfl] at e
    have a5:g∉(xq st b st.length).take i:=λz=>by have:=dU.mp (by rw[<- zp I];exact a4.sublist (List.take_sublist _ _):((xq st b st.length).take i++[g]).Nodup);exact this.2.2 g z g (by simp) rfl
    left;refine⟨za9 g,by rw[ac];exact be (ah (bg _ _) (ah (ev _ _) ad)) (by decide),?_⟩;left;rw[znr λz=>a5 (az.mp z).1];exact hC ⟨rfl,_,by rw[e]⟩
  ·rintro ρ m ⟨rfl,Y,rfl⟩;rw[aT,show (xq st b st.length).filter (zbX rm sm b y)=lyL rm sm b y st from rfl];have as:(lyL rm sm b y st).length<=32:=ah (bg _ _) ad;have a0:∀g∈lyL rm sm b y st,g.length<=100:=λg I=>ah (ue (ag g (az.mp I).1).1) (ah h6 (by decide));left;intro _
   have U:∀ {i:Nat} {g:List (Int×Int)} {c:Bool},(lyL rm sm b y st)[i]?=some g->(!(zcW g).any λh=>decide (h∈lyL rm sm b y st))=c->((lyL rm sm b y st).take (i+1)).filter (λg=>!(zcW g).any λh=>decide (h∈lyL rm sm b y st))=((lyL rm sm b y st).take i).filter (λg=>!(zcW g).any λh=>decide (h∈lyL rm sm b y st))++(if c then [g] else []):=λ{i g c} I O=>by rw[zp I,bS,el,List.filter_nil,O]
   refine yF (lyL rm sm b y st) (λg=>.d (yp g)) (by rw[au];rfl) (λi ρ m'=>m'=m/\∃Y,ρ=[some (.wd d (fsW rm sm b y) (knW sm)),some (.d (stD st)),some (.dn true ((lyL rm sm b y st).map kvT)),Y,some (.d (.lst ((((lyL rm sm b y st).take i).filter λg=>!(zcW g).any λh=>decide (h∈lyL rm sm b y st)).map yp)))]) ⟨rfl,_,rfl⟩ ?_ ?_
   ·rintro i g ρ m' I ⟨rfl,Y,rfl⟩ C B E hC _ _;have a7:=a0 g (aC I);have a1:(g.map zF).length=g.length:=ac ..;left;rw[a1];refine⟨⟨by lia,by lia⟩,?_⟩;refine xy (List.range g.length) (λk:Nat=>W.d (.int (k:Int))) (by rw[u3,bj]) (λρ=>∃v,ρ=[v,some (.dn true ((lyL rm sm b y st).map kvT)),some (.d (yp g))]) (λk=>.bl (decide (g.take k++g.drop (k+1)∈lyL rm sm b y st))) (by rw[aJ];exact ah a7 (by decide)) ⟨_,rfl⟩ ?_ ?_
    ·rintro k hk bm ⟨v,rfl⟩ C2 bb;have e1:zdc (g.map zF) none (some (k:Int))=(g.take k).map zF:=by rw[zae,zcx]
     have e2:zdc (g.map zF) (some ((k:Int)+1)) none=(g.drop (k+1)).map zF:=by rw[zae,show ((k:Int)+1)=((k+1:Nat):Int) by lia,za1]
     have l1:(g.take k).length<=100:=by rw[aV];lia
     have l2:(g.drop (k+1)).length<=100:=by rw[cI];lia
     left;rw[e1,e2];refine⟨by rw[ac,ac];exact ah (bv l1 l2) (by decide),?_⟩;rw[<- aA];left;refine⟨za9 _,?_⟩;rw[zjY];exact bb ⟨_,rfl⟩
    ·left;refine⟨(List.range g.length).map λk=>decide (g.take k++g.drop (k+1)∈lyL rm sm b y st),by rw[au];rfl,?_⟩
     have ea:((List.range g.length).map λk=>decide (g.take k++g.drop (k+1)∈lyL rm sm b y st)).contains true=(zcW g).any λh=>decide (h∈lyL rm sm b y st):=by unfold zcW;rw[a8,List.contains_iff_mem,aw,dY,bT];exact⟨λ⟨k,h1,h2⟩=>⟨k,h1,h2⟩,λ⟨k,h1,h2⟩=>⟨k,h1,h2⟩⟩
     rw[ea];refine zlg (λO=>?_) (λO=>?_)
     ·have e:=U (c:=true) I (by rw[O];rfl);rw[if_pos rfl] at e;left;refine⟨by rw[ac];exact be (ah (bg _ _) (ah (ev _ _) as)) (by decide),?_⟩;exact hC ⟨rfl,some (.d (yp g)),by rw[e];simp only[aA,ao,cD]⟩
     ·have e:=U (c:=false) I (by rw[O];rfl);rw[if_neg (by decide),bc] at e;left;exact hC ⟨rfl,some (.d (yp g)),by rw[e]⟩
   ·rintro ρ m' ⟨rfl,Y,rfl⟩;rw[aT,show ((lyL rm sm b y st).filter λg=>!(zcW g).any λh=>decide (h∈lyL rm sm b y st))=zeG rm sm b y st from rfl];left;obtain⟨bd,Z⟩:=zaS (sm:=sm) (y:=y) J ab b0 (by rw[J.len];exact b1);refine⟨by rw[ac];exact bd,⟨_,Z⟩,λl' a2 a3=>?_⟩;exact⟨⟨_,rfl,rfl,zn3 ⟨a2,a3⟩,⟨st,hm,rfl,a2,a3⟩⟩,rfl,d,_,_,rfl,rfl,rfl⟩
 ·rintro l ⟨s,J,e,hw⟩;obtain rfl:=ze3 e;exact r l hw
@[reducible] def zlE:FW:=λPn q n R=>∃ (rm:List Int) (sm:List (List Int)) (b y:Int),q=[.d (stD rm),.d (xS sm),.d (.int b),.d (.int y)]/\RoomOk rm/\sm.Nodup/\sm.length<=100000/\0<=b/\b<rm.length/\R (fsW rm sm b y) (knW sm) n
def zb1 (T:Txt K mg t):FnOk P w K mg base CX0 2 t.f22 t.d22 lb (zrE 4 zlE):=by
 have G17:=zav (P:=P) (w:=w) (base:=base) T
 refine zmT (k:=1) 2 T.q22.F xL rfl rfl λad A outer s H E Pn Y=>⟨_,(zfv (wS zt <| zE (i:=4) xL.nd (zsr (xl (zjf rfl Y.units) znV (by rfl) T.b_dict PyProof.Rows.boot_dict (zj (JE.bo (yJ (N:=["_law_one"]) (cix:=[none]) rfl (by walk_at "c") (wI yi <| yh K rfl (kv 1)) (λ_ _ _ _=>(wG zP <| zm (i:=0) (show (["_law_one"]:List Str).Nodup by decide +kernel))) (λ_ _ _ _=>yr) (λ_ _ _ _=>(z9 (za (kv 0) (za zez zf)))))) zr))))
   (zfv (wS zt <| zhw (i:=5) (zfu (ix:=5) xL.nd rfl rfl (N:=lJ) (cix:=[none,some 3,some 2]) rfl (by walk_at "c") (wI yi <| yh K rfl (wE zw <| yT T.q17 G17 Y (za (kv 0) zf))) (λ_ _ _ _=>(wG zP <| zm (i:=0) (show (lJ:List Str).Nodup by decide +kernel))) (λ_ _ _ _=>(zcE (wT zv <| yv zcV zkI (JE.bo (zcD xE zaq (kb 0) (kb 2) (λ_ _=>rfl))) (kb 1) (zT _)))) (λ_ _ _ _=>(kv 0))))
   (zms 0 1 2 3 5 4 (qv 0) (qv 1) (qv 2) (qv 3) (qv 5) (qv 4)))),λws n R hF=>?_⟩
 obtain⟨rm,sm,b,y,rfl,J,L,Z,b0,b1,r⟩:=hF;left;refine xy sm (λq=>.d (stD q)) (by rw[au];rfl) (λρ=>∃v,ρ=[v]) (λq=>Dt.tup [stD q,.bl true]) (ah Z (by decide)) ⟨_,rfl⟩ ?_ ?_
 ·rintro q B O ⟨v,rfl⟩ C U;left;exact U ⟨_,rfl⟩
 ·left;refine⟨knW sm,by unfold knW;rw[au];rfl,by unfold knW;rw[au];exact (List.map_id sm).symm ▸ L,by unfold knW;rw[ac];exact ah Z (by decide),?_⟩;left;refine F_allR.i J ?_;left;have I:(yy (rm.map zq)).length<=65536:=by have:=zaM J.few J.box rm.length;rwa[aT] at this
  refine zcu (yy (rm.map zq)) (λq=>.d (stD q)) (by rw[au];rfl) (λρ=>∃v,ρ=[v,some (.d (.int y)),some (.d (.int b))]) (λq=>decide (zA q b=y)) (λq=>stD q) (ah I (by decide)) ⟨_,rfl⟩ ?_ ?_
  ·rintro q B O ⟨v,rfl⟩ C U hN;have ab:q.length=rm.length:=by rw[xi _ _ B,ac]
   left;refine onA b0 (by lia) ?_;left;refine zdN (λh=>?_) (λh=>?_)
   ·left;exact U (aF h) ⟨_,rfl⟩
   ·exact hN (aQ h) ⟨_,rfl⟩
  ·left;exact r
def Dp:Nat->Dt->Prop
 | 0,_=>False
 | _+1,.int _=>True
 | k+1,.tup l=>l.length<=100000/\∀d∈l,Dp k d
 | k+1,.lst l=>l.length<=100000/\∀d∈l,Dp k d
 | _+1,_=>False
@[reducible] def zgv (k:Nat):FV:=λ_ q n R=>match k with
 | 0=>False
 | k+1=>∃x,q=[.d x,.d x]/\Dp (k+1) x/\R (.d (.bl true)) n
def zfX (l:List Dt):ziW l l=l.map λd=>W.d (.tup [d,d]):=by refine List.ext_getElem? λi=>?_;rw[zda,aB];cases l[i]? <;> rfl
def zcN (T:Txt K mg t)(k:Nat):FnOk P w K mg base CX0 k t.f23 t.d23 ln (spV 2 false (zgv k)):=by
 induction k
 ·exact zrj λ_ _ _ _ z=>z
 rename_i k G23
 refine Fun.okW (k:=k) (fr:=false) [] 0 T.q23.F zdY rfl (by decide) rfl λO A outer s H E Pn I=>⟨_,(ze (wS zK <| yU (wT zv <| y8 (JE.bo (wE xb <| zdt (kb 1) T.b_isinstance T.b_tuple T.b_list))) (ze (wS zK <| yU (JW.t (wW zfC <| zjL (wT zv <| yv zgk zob (JE.bo (wE xb <| ul (by rfl) T.b_isinstance T.b_tuple (kb 0))) (JE.bo (wE xb <| ul (by rfl) T.b_isinstance T.b_tuple (kb 1))) (zT _)) (zbd (.inr rfl) (wT xY <| uQ (wT zv <| y8 (JE.bo (wE xb <| zdt (kb 0) T.b_isinstance T.b_tuple T.b_list))))))) (zh (zL zez)) zJ)
   (zh (zL (wE zaQ <| zjD (JE.bo (zcC zcV zkI (JE.bo (zZ xj zbM (by rfl) T.b_len bn (zj (kb 0) zr))) (JE.bo (zZ xj zbM (by rfl) T.b_len bn (zj (kb 1) zr))) (zT _))) (zmm (zZ (zgO rfl) znU (by rfl) T.b_all ee (zj (JE.bo (yJ (N:=lF) (cix:=[none,none]) rfl (by walk_at "c") (zmo rfl T.b_zip (za (kv 0) (za (kv 1) zf))) (λ_ _ _ _=>(wG za8 <| zbc (n:=2) K rfl rfl (wH yY <| zV (wG zP <| zm (i:=0) (show (lF:List Str).Nodup by decide +kernel)) (wH yY <| zV (wG zP <| zm (i:=1) (show (lF:List Str).Nodup by decide +kernel)) (wH za7 uF))))) (λ_ _ _ _=>yr) (λ_ _ _ _=>(wE zw <| yT T.q23 G23 I (za (kv 0) (za (kv 1) zf)) (af _))))) zr))))))) zJ)
   (ze (wS zK <| yU (JW.t (wW zfC <| zjL (wT zv <| y8 (JE.bo (wE xb <| yx (by rfl) T.b_isinstance T.b_bool (kb 0)))) (zbd (.inr rfl) (wT zv <| y8 (JE.bo (wE xb <| yx (by rfl) T.b_isinstance T.b_bool (kb 1))))))) (zh (zL (wE zaQ <| zjD (JE.bo (wE xb <| yx (by rfl) T.b_isinstance T.b_bool (kb 0))) (wE zaQ <| zjD (JE.bo (wE xb <| yx (by rfl) T.b_isinstance T.b_bool (kb 1))) (zmm (zcC (zh3 I.units) znX (kb 0) (kb 1) (zT _))))))) zJ)
   (zh (zL (wE zaQ <| zjD (JE.bo (zcC zcV zkI (JE.bo (wE xb <| zar (by rfl) T.b_isinstance T.b_str (kb 0))) (JE.bo (wE xb <| zar (by rfl) T.b_isinstance T.b_str (kb 1))) (zT _))) (zmm (zcC (zh3 I.units) znX (kb 0) (kb 1) (zT _)))))))),λws n R U=>?_⟩
 obtain⟨x,rfl,q,r⟩:=U
 cases x with
 | int i=>
  left;rw[show decide (zjy (Dt.int i)=zjy (Dt.int i))=true from aF rfl];left;refine⟨rfl,rfl,λc Y=>?_⟩;obtain rfl:c=true:=Y.mpr rfl;exact r
 | tup l=>
  left;rw[show (!decide ((Dt.tup l).isTup=(Dt.tup l).isTup))=false by rw[aF rfl];rfl];left;rw[show decide ((l.length:Int)=(l.length:Int))=true from aF rfl];left;refine Or.inl ?_;change ∃ (Z k1:List Dt),_/\_;refine⟨l,l,rfl,rfl,?_⟩;refine xy l (λd=>W.d (.tup [d,d])) (zfX l) (λρ=>∃a b,ρ=[a,b]) (λ_=>.bl true) (ah q.1 (by decide)) ⟨_,_,rfl⟩ ?_ ?_
  ·rintro d B J ⟨a,b,rfl⟩ C L;left
   cases k with
   | zero=>exact (q.2 d B).elim
   | succ k=>exact⟨d,rfl,q.2 d B,L ⟨_,_,rfl⟩⟩
  ·left;refine⟨l.map λ_=>true,by rw[au];rfl,?_⟩;rw[show (l.map λ_=>true).all id=true by rw[fH];simp];exact r
 | lst l=>
  left;rw[show (!decide ((Dt.lst l).isTup=(Dt.lst l).isTup))=false by rw[aF rfl];rfl];left;rw[show decide ((l.length:Int)=(l.length:Int))=true from aF rfl];left;refine Or.inr ?_;change ∃ (Z k1:List Dt),_/\_;refine⟨l,l,rfl,?_⟩;refine xy l (λd=>W.d (.tup [d,d])) (zfX l) (λρ=>∃a b,ρ=[a,b]) (λ_=>.bl true) (ah q.1 (by decide)) ⟨_,_,rfl⟩ ?_ ?_
  ·rintro d B J ⟨a,b,rfl⟩ C L;left
   cases k with
   | zero=>exact (q.2 d B).elim
   | succ k=>exact⟨d,rfl,q.2 d B,L ⟨_,_,rfl⟩⟩
  ·left;refine⟨l.map λ_=>true,by rw[au];rfl,?_⟩;rw[show (l.map λ_=>true).all id=true by rw[fH];simp];exact r
 | non=>exact q.elim
 | bl b=>exact q.elim
 | str b=>exact q.elim
 | dct=>exact q.elim
def zcR (T:Txt K mg t):FnOk P w K mg base CX0 4 t.f23 t.d23 ln (spV 2 false (zgv 4)):=zcN T 4
inductive F_some  (Pn:PN):List W->Nat->(W->Nat->Prop)->Prop
 | i {n:Nat} {R:W->Nat->Prop} {p:Addr} {rm:List Int} {b y:Int} (hP:IsQ Pn p) (hR:RoomOk rm) (hp:yu rm<=64) (b0:0<=b) (b1:b<rm.length) (y0:0<=y) (y1:y<zA rm b) (h:∀sm m,sm.Nodup->(∀s∈sm,s∈thC rm b y)->m<=n+200->R (.d (xS sm)) m) (hn:n+400<=1000000:=by lia):F_some Pn [.pen p,.d (stD rm),.d (.int b),.d (.int y)] n R
def zcS (T:Txt K mg t):FnOk P w K mg base CX0 3 t.f24 t.d24 lc (spV 4 true F_some):=by
 have G1:=zR (P:=P) (w:=w) (base:=base) T;have G17:=zav (P:=P) (w:=w) (base:=base) T;have G18:=uq (P:=P) (w:=w) (base:=base) T;have G15:=uo (P:=P) (w:=w) (base:=base) T
 refine Fun.okW (k:=2) (fr:=true) [7] 5 T.q24.F yw rfl (by decide) rfl λbm A outer s H E Pn hr=>⟨_,(ze (wS zt <| zE (i:=4) yw.nd (uK yK zbL (JE.bo zk) (JE.bo (wE zw <| yT T.q1 G1 hr (za (kv 0) (za zk zf))))))
   (ze (wS zt <| zE (i:=5) yw.nd (uK yK zbL (JE.bo zk) (JE.bo (wE zw <| yT T.q1 G1 hr (za (kv 0) (za zk zf))))))
   (ze (wS zt <| zhw (i:=6) (zfu (ix:=6) yw.nd rfl rfl (N:=lm) (cix:=[none,some 0,some 1,some 2,some 5]) rfl (by walk_at "c") (wI xw <| ym rfl T.b_range (zj (kb 4) zr)) (λ_ _ _ _=>(wG zP <| zm (i:=0) (show (lm:List Str).Nodup by decide +kernel))) (λ_ _ _ _=>yr) (λ_ _ _ _=>(wE zw <| yT T.q15 G15 hr (za (kv 1) (za (kv 2) (za (kv 3) (za (kv 4) zf))))))))
   (ze (wS xZ <| zat (i:=7) yw.nd (xU zf))
   (ze (yZ aW rfl (wI yi <| yh K rfl (wE zw <| yT T.q17 G17 hr (za (kv 1) zf))) (wG zP <| zm (i:=8) yw.nd) (zh (wS zK <| yU (JW.t (wW zeC <| zhx (wT zv <| yv zcV zkI (JE.bo (zcD xE zaq (kb 8) (kb 2) (λ_ _=>rfl))) (kb 3) (zT _)) (zbd (.inl rfl) (wT zv <| yv zh4 ztL (JE.bo zez) (JE.bo (yJ (N:=lL) (cix:=[none,some 8]) rfl (by walk_at "c") (wI yi <| yh K rfl (kv 6)) (λ_ _ _ _=>(wG zP <| zm (i:=0) (show (lL:List Str).Nodup by decide +kernel))) (λ_ _ _ _=>yr) (λ_ _ _ _=>(wE zw <| yT T.q18 G18 hr (za (kv 1) (za (kv 0) zf)))))) (by with_unfolding_all rfl))))) (zh (wS zbg <| zdw 7 (kv 8))) zJ)))
   (ze (wS zK <| yU (wT zv <| yv zcV zkI (JE.bo (wE zw <| yT T.q1 G1 hr (za (kv 0) (za zk zf)))) (JE.bo zk) (zT _)) (zh (wS zj2 <| zmr 7 (JE.bo (wE zw <| yT T.q1 G1 hr (za (kv 0) (za (zZ xj zbM (by rfl) T.b_len bn (zj (kb 7) zr)) zf)))))) zJ)
   (zh (wS zfD <| zhv 7)))))))),λws n R hF=>?_⟩
 obtain @⟨_,_,p,rm,b,y,hP,hR,hp,b0,b1,y0,y1,r,hn⟩:=hF;left;refine tk hP λq q0 q1=>?_;left;refine tk hP λf f0 f1=>?_;left;refine⟨⟨by lia,by lia⟩,?_⟩;have hq:(1+q).toNat<=4:=by lia
 refine zgI (List.range (1+q).toNat) (λk:Nat=>W.d (.int (k:Int))) (by rw[u3]) (by rw[aJ];exact ah hq (by decide)) (λi Z n' acc=>n'<=n+2+20 * i/\i<=4/\∃ (v:Option W) (gs:List (List (Int×Int))),Z=[v,some (.pen p),some (.d (stD rm)),some (.d (.int b)),some (.d (.int (2+f)))]/\acc=gs.map yp/\gs.length=i/\∀g∈gs,Giv rm g/\∀q∈g,q.1≠b) ⟨by lia,by lia,none,[],rfl,rfl,rfl,by simp⟩ ?_ ?_
 ·rintro i k Z n' acc hk ⟨as,a5,v,gs,rfl,rfl,O,U⟩ C hC;have hi:=(aj.mp hk).1;rw[aJ] at hi;left;refine F_mkGv.i hP hR (by lia) (by lia) λg m hG a7 hm=>?_;left;refine hC ⟨by lia,by lia,some (.d (.int (k:Int))),gs++[g],rfl,by rw[aA];rfl,by rw[aM,O];rfl,λg' bb=>?_⟩;rcases aK.mp bb with z | z
  ·exact U g' z
  ·rw[aE.mp z];exact⟨hG,a7⟩
 ·rintro Z n' acc ⟨as,a5,v,gs,rfl,rfl,O,U⟩;rw[aJ] at O as;have a2:gs.length<=4:=by lia
  have bs:n'<=n+82:=by lia
  have bd:gs≠[]:=λz=>by rw[z] at O;simp at O;lia
  clear v;have ad:(yy (rm.map zq)).length<=65536:=by have:=zaM hR.few hR.box rm.length;rwa[aT] at this
  left;refine F_allR.i hR ?_;left;refine yF (yy (rm.map zq)) (λI=>.d (stD I)) (by rw[au];rfl) (λi ρ m=>m=n'/\∃v,ρ=[some (.pen p),some (.d (stD rm)),some (.d (.int b)),some (.d (.int y)),some (.d (.int (1+q))),some (.d (.int (2+f))),some (.d (.lst (gs.map yp))),some (.d (xS (((yy (rm.map zq)).take i).filter λI=>decide (zA I b=y)&&gs.any (zB I)))),v]) ⟨rfl,_,rfl⟩ ?_ ?_
  ·rintro i I ρ m ab ⟨rfl,v,rfl⟩ C B E hC _ _;have a3:=aC ab;have J:I.length=rm.length:=by rw[xi _ _ a3,ac]
   have ag:∀ {c:Bool},(decide (zA I b=y)&&gs.any (zB I))=c->((yy (rm.map zq)).take (i+1)).filter (λI=>decide (zA I b=y)&&gs.any (zB I))=((yy (rm.map zq)).take i).filter (λI=>decide (zA I b=y)&&gs.any (zB I))++(if c then [I] else []):=λ{c} hc=>by rw[zp ab,bS,el,List.filter_nil,hc]
   left;refine onA b0 (by lia) ?_;left;refine zdN (λh=>?_) (λh=>?_);rotate_left
   ·left;have e:=ag (c:=false) (by rw[aQ h];rfl);rw[if_neg (by decide),bc] at e;exact hC ⟨rfl,_,by rw[e]⟩
   left;refine xy gs (λg=>.d (yp g)) (by rw[au];rfl) (λρ=>∃v,ρ=[v,some (.d (stD I))]) (λg=>.bl (zB I g)) (ah a2 (by decide)) ⟨_,rfl⟩ ?_ ?_
   ·rintro g hg Z ⟨v,rfl⟩ C hC;have hG:=(U g hg).1;left;refine F_keepsL.i (λq hq=>?_) ?_ (hC ⟨_,rfl⟩)
    ·have:=hG.ok q hq;rw[J];lia
    ·have:=zba hG hR.few;lia
   ·left;refine⟨gs.map λg=>zB I g,by rw[au];rfl,?_⟩
    have ea:(gs.map λg=>zB I g).contains true=gs.any (zB I):=by rw[a8,List.contains_iff_mem,aw,bT]
    rw[ea]
    cases hc:gs.any (zB I) with
    | true=>
     have e:=ag (c:=true) (by rw[aF h,hc];rfl);rw[if_pos rfl] at e;left;refine⟨by rw[ac];exact be (ah (bg _ _) (ah (ev _ _) ad)) (by decide),?_⟩;exact hC ⟨rfl,some (.d (stD I)),by rw[e];simp only[xS,aA,ao,cD]⟩
    | false=>
     have e:=ag (c:=false) (by rw[hc,Bool.and_false]);rw[if_neg (by decide),bc] at e;left;exact hC ⟨rfl,some (.d (stD I)),by rw[e]⟩
  ·rintro ρ m ⟨rfl,v,rfl⟩;rw[aT];obtain⟨g0,Y⟩:=c7 _ bd;obtain⟨I,ab,L⟩:=zoT hR (U g0 Y).1 (U g0 Y).2 b0 b1 y0 y1
   have a4:((yy (rm.map zq)).filter λI=>decide (zA I b=y)&&gs.any (zB I))≠[]:=λz=>by
    have:I∈(yy (rm.map zq)).filter λI=>decide (zA I b=y)&&gs.any (zB I):=by refine az.mpr ⟨ab,?_⟩;unfold zhd at L;rw[aH] at L ⊢;exact⟨L.1,bT.mpr ⟨g0,Y,L.2⟩⟩
    rw[z] at this;cases this
   have al:∀s∈(yy (rm.map zq)).filter λI=>decide (zA I b=y)&&gs.any (zB I),s∈thC rm b y:=λs hs=>by obtain⟨z1,z2⟩:=az.mp hs;rw[aH] at z2;exact az.mpr ⟨z1,z2.1⟩
   have an:((yy (rm.map zq)).filter λI=>decide (zA I b=y)&&gs.any (zB I)).Nodup:=(zoo rm).filter _;have J:((yy (rm.map zq)).filter λI=>decide (zA I b=y)&&gs.any (zB I)).length<=65536:=ah (bg _ _) ad;generalize ((yy (rm.map zq)).filter λI=>decide (zA I b=y)&&gs.any (zB I))=sm at a4 al an J;have bk:=bN.mpr a4;left;refine tk hP λt t0 t1=>?_;left;refine zdN (λ_=>?_) (λ_=>?_);rotate_left
   ·left;exact r sm _ an al (by lia)
   left;rw[ac];refine tk hP λa a0 a1=>?_;left;refine⟨⟨a0,a1,ah J (by decide)⟩,?_⟩;rw[<- zk2];left;exact r _ _ (an.sublist (List.eraseIdx_sublist ..)) (λs hs=>al s (List.mem_of_mem_eraseIdx hs)) (by lia)
def Gv (rm:List Int)(b:Int)(g:List (Int×Int)):Prop:=Giv rm g/\∀q∈g,q.1≠b
inductive F_givens  (Pn:PN):List W->Nat->(W->Nat->Prop)->Prop
 | i {n:Nat} {R:W->Nat->Prop} {p d:Addr} {rm:List Int} {sm fw:List (List Int)} {b y:Int} (hP:IsQ Pn p) (hM:IsMemo Pn.J d (WQ rm sm b y)) (hR:RoomOk rm) (hp:yu rm<=64) (b0:0<=b) (b1:b<rm.length) (hl:sm.length<=100000) (hs:∀s∈sm,s∈thC rm b y) (hf:∀s∈fw,s∈sm) (hfl:fw.length<=3) (h:∀ (gs:List (List (Int×Int))) (m:Nat),(∀g∈gs,Gv rm b g)->gs.length<=100->m<=n+80->R (.d (.lst (gs.map yp))) m) (hn:n+100<=1000000:=by lia):F_givens Pn [.pen p,.wd d (fsW rm sm b y) (knW sm),.d (xS fw)] n R
def zbj (T:Txt K mg t):FnOk P w K mg base CX0 4 t.f25 t.d25 lg (spV 3 true F_givens):=by
 have G15:=uo (P:=P) (w:=w) (base:=base) T;have G16:=zcP (P:=P) (w:=w) (base:=base) T;have G21:=uW (P:=P) (w:=w) (base:=base) T
 refine Fun.okW (k:=3) (fr:=true) [5] 6 T.q25.F zM rfl (by decide) rfl λbx A outer s H E Pn hr=>⟨_,(ze (zht (z9 (za (zas (uh hr) (kb 1)) (za (zas (uh hr) (kb 1)) zf))) (wG za8 <| zbc (n:=2) K rfl rfl (wH yY <| zV (wG zP <| zm (i:=3) zM.nd) (wH yY <| zV (wG zP <| zm (i:=4) zM.nd) (wH za7 uF)))))
   (ze (wS xZ <| zat (i:=5) zM.nd (uK zcU zfS (JE.bo (xU (za (z9 zf) zf))) (JE.bo (yJ (N:=lu) (cix:=[none,some 0,some 3,some 4]) rfl (by walk_at "c") (wI zcJ <| zft K rfl (z9 (za zk (za zk (za zk zf))))) (λ_ _ _ _=>(wG zP <| zm (i:=0) (show (lu:List Str).Nodup by decide +kernel))) (λ_ _ _ _=>yr) (λ_ _ _ _=>(wE zw <| yT T.q15 G15 hr (za (kv 1) (za (kv 2) (za (kv 3) (za (kv 0) zf))))))))))
   (ze (yZ aW rfl (wI yi <| yh K rfl (kv 2)) (wG zP <| zm (i:=6) zM.nd) (ze (wS zt <| zE (i:=7) zM.nd (xl xk zc7 (by rfl) T.b_tuple bJ (zj (JE.bo (yJ (N:=lK) (cix:=[none,some 6,some 4]) rfl (by walk_at "c") (wI xw <| ym rfl T.b_range (zj (JE.bo (zZ xj zbM (by rfl) T.b_len bn (zj (kb 3) zr))) zr)) (λ_ _ _ _=>(wG zP <| zm (i:=0) (show (lK:List Str).Nodup by decide +kernel))) (λ_ _ _ _=>(zcE (wT zv <| yv zgk zob (kb 0) (kb 2) (zT _)))) (λ_ _ _ _=>(z9 (za (kv 0) (za (zcD xE zaq (kb 1) (kb 0) (λ_ _=>rfl)) zf)))))) zr)))
   (ze (wS zt <| zE (i:=8) zM.nd (zcD uJ zgr (JE.bo (wE zw <| yT T.q21 G21 hr (za (kv 1) (za (kv 6) zf)))) (JE.bo zk) (λ_ _=>rfl)))
   (ze (wS xZ <| zat (i:=5) zM.nd (uK zcU zfS (kb 5) (JE.bo (xU (za (kv 7) (za (wE zw <| yT T.q16 G16 hr (za (kv 0) (za (kv 3) (za (kv 4) (za (kv 7) zf))))) (za (kv 8) zf)))))))
   (zh (wS zbg <| zdw 5 (wE zw <| yT T.q16 G16 hr (za (kv 0) (za (kv 3) (za (kv 4) (za (kv 8) zf)))))))))))
   (zh (wS zfD <| zhv 5))))),λws n R hF=>?_⟩
 obtain @⟨_,_,p,d,rm,sm,fw,b,y,hP,hM,hR,hp,b0,b1,hl,hs,hf,b2,r,hn⟩:=hF;left;have h8:=hR.few
 (with_reducible refine uY lk_r ?_)
 left
 (with_reducible refine uY zsB ?_)
 left;refine zgI [2,4,9] (λk:Int=>W.d (.int k)) rfl (by decide) (λi Y n' acc=>n'<=n+20 * i/\i<=3/\∃ (v:Option W) (gs:List (List (Int×Int))),Y=[v,some (.pen p),some (.d (stD rm)),some (.d (.int b))]/\acc=gs.map yp/\gs.length=i/\∀g∈gs,Gv rm b g) ⟨by lia,by lia,none,[],rfl,rfl,rfl,by simp⟩ ?_ ?_
 ·rintro i k Y n' acc hk ⟨al,a4,v,gs,rfl,rfl,I,L⟩ C hC;have hi:=(aj.mp hk).1;have hi:i<3:=hi
  have Z:1<=k/\k<=10:=by have:=aC hk;simp only[ax,ba,or_false] at this;lia
  left;refine F_mkGv.i hP hR Z.1 Z.2 λg m hG ab hm=>?_;left;refine hC ⟨by lia,by lia,some (.d (.int k)),gs++[g],rfl,by rw[aA];rfl,by rw[aM,I];rfl,λg' an=>?_⟩;rcases aK.mp an with z | z
  ·exact L g' z
  ·rw[aE.mp z];exact⟨hG,ab⟩
 ·rintro Y n' acc ⟨al,a4,v,gs,rfl,rfl,I,L⟩;have al:n'<=n+60:=al;have I:gs.length=3:=I;clear v;left;refine⟨by rw[ac,I];exact (show 1+3<=lim by decide),?_⟩;have e0:[Dt.tup []]++gs.map yp=([]::gs).map yp:=rfl
  have ad:∀g∈([]::gs:List (List (Int×Int))),Gv rm b g:=λg hg=>by
   rcases ax.mp hg with z | z
   ·rw[z];exact⟨⟨by simp,.nil⟩,by simp⟩
   ·exact L g z
  rw[e0];have ag:([]::gs).length=4:=by rw[aN,I]
  generalize ([]::gs)=gs0 at ad ag;left;refine yF fw (λJ=>.d (stD J)) (by rw[au];rfl) (λi ρ m=>m<=n'+4 * i/\i<=fw.length/\∃ (gs:List (List (Int×Int))) (v6 v7 v8:Option W),ρ=[some (.pen p),some (.wd d (fsW rm sm b y) (knW sm)),some (.d (xS fw)),some (.d (stD rm)),some (.d (.int b)),some (.d (.lst (gs.map yp))),v6,v7,v8]/\(∀g∈gs,Gv rm b g)/\gs.length=4+4 * i) ⟨by lia,by lia,gs0,none,none,none,rfl,ad,ag⟩ ?_ ?_
  ·rintro i J ρ m a3 ⟨hm,hi,gs,v6,v7,v8,rfl,L,I⟩ C B E hC _ _;have b3:=(aj.mp a3).1;have a5:=aC a3;have as:=hf J a5;have a7:=hs J as;obtain⟨bb,bd⟩:=az.mp a7;have O:=zgz rm J bb;have hy:zA J b=y:=aS bd;left;rw[show (rm.map Dt.int).length=rm.length from ac ..];refine⟨⟨by lia,by lia⟩,?_⟩;refine zcu (List.range rm.length) (λk:Nat=>W.d (.int (k:Int))) (by rw[u3,bj]) (λρ=>∃v,ρ=[v,some (.d (stD J)),some (.d (.int b))]) (λk:Nat=>!decide ((k:Int)=b)) (λk:Nat=>zF ((k:Int),zA J k)) (by rw[aJ];exact ah h8 (by decide)) ⟨_,rfl⟩ ?_ ?_
   ·rintro k hk Y ⟨v,rfl⟩ C hC hN;have b4:=aX.mp hk;left;refine zgj (λhb=>?_) (λhb=>?_)
    ·left;refine onA (by lia) (by rw[O.len];lia) ?_;left;exact hC (by rw[aQ hb];rfl) ⟨_,rfl⟩
    ·exact hN (by rw[aF hb];rfl) ⟨_,rfl⟩
   ·rw[zfr];have a0:=za6 (st:=J) (b:=b) rm.length;obtain⟨f1,f2,_⟩:=xN (b:=b) O (af _) _ a0;have hF:Gv rm b (xT J b rm.length):=⟨f1,λq hq=>(f2 q hq).1⟩;left;refine F_lwide.i hM hR hp O as b0 b1 hl λl hw=>?_;have bk:zeG rm sm b y J≠[]:=zps (by have:=zsC O as (b:=b);rwa[hy] at this)
    obtain⟨U,bl,ye,a1⟩:∃U,U∈zeG rm sm b y J/\∃ye,l=yp U::ye:=by
     cases l with
     | nil=>
      have:=hw.1.length_eq;rw[ac] at this;exact (bk (dH.mp this.symm)).elim
     | cons x ye=>
      obtain⟨U,h1,h2⟩:=aw.mp (hw.1.mem_iff.mp (aL:x∈x::ye));exact⟨U,h1,ye,by rw[h2]⟩
    subst a1;obtain⟨w1,w2,_⟩:=xN (b:=b) O (by rw[O.len];exact af _) U (az.mp (az.mp bl).1).1;have a2:Gv rm b U:=⟨w1,λq hq=>(w2 q hq).1⟩
    have ab:∀ {g g':List (Int×Int)},Gv rm b g->Giv rm g'->(∀q∈g',∃q2∈g,q.1=q2.1)->Gv rm b g':=λhg an hk=>⟨an,λq hq=>by obtain⟨q2,z1,z2⟩:=hk q hq;rw[z2];exact hg.2 q2 z1⟩
    left
    (with_reducible refine uY zrM ?_)
    left;refine F_near.i hP hR hF.1 λg1 m1 bm bs b5=>?_;left;refine⟨by rw[ac,I];exact ah (show 4+4 * i+3<=100 by lia) (by decide),?_⟩;have e1:gs.map yp++[Dt.tup ((xT J b rm.length).map zF),Dt.tup (g1.map zF),Dt.tup (U.map zF)]=(gs++[xT J b rm.length,g1,U]).map yp:=by rw[aA];rfl
    rw[e1];left;refine F_near.i hP hR a2.1 λg2 m2 bt Z b6=>?_;left;refine⟨by rw[ac,aM,I];exact be (show _<=100 from by simp;lia) (by decide),?_⟩;have e2:(gs++[xT J b rm.length,g1,U]).map yp++[Dt.tup (g2.map zF)]=(gs++[xT J b rm.length,g1,U]++[g2]).map yp:=by rw[aA (l₂:=[g2])];rfl
    rw[e2];refine hC ⟨by lia,by lia,gs++[xT J b rm.length,g1,U]++[g2],_,_,_,rfl,λg hg=>?_,by simp;lia⟩;rcases aK.mp hg with z | z
    ·rcases aK.mp z with z | z
     ·exact L g z
     ·simp only[ax,ba,or_false] at z;rcases z with rfl | rfl | rfl
      ·exact hF
      ·exact ab hF bm bs
      ·exact a2
    ·rw[aE.mp z];exact ab a2 bt Z
  ·rintro ρ m ⟨hm,hi,gs,v6,v7,v8,rfl,L,I⟩;left;exact r gs m L (by lia) (by lia)
def zn2{rm:List Int}{sm:List (List Int)}{b y:Int}{st:List Int}(F:StOk rm st)(I:st.length<=6)(J:0<=b)(L:b<st.length)(h:zef rm sm b y st l):Dp 4 (.lst l):=by have O:=(zaS (sm:=sm) (y:=y) F I J L).1;refine⟨by rw[h.1.length_eq,ac];lia,λd B=>?_⟩;obtain⟨g,U,rfl⟩:=aw.mp (h.1.mem_iff.mp B);have Y:=ue (xN (b:=b) F (by rw[F.len];exact af _) g (az.mp (az.mp U).1).1).1;refine⟨by rw[ac];have:=F.len;lia,λd B=>?_⟩;obtain⟨q,_,rfl⟩:=aw.mp B;refine⟨show 2<=100000 by decide,λd B=>?_⟩;simp only[ax,ba,or_false] at B;rcases B with rfl | rfl <;> trivial
inductive F_right  (Pn:PN):List W->Nat->(W->Nat->Prop)->Prop
 | i {n:Nat} {R:W->Nat->Prop} {p d:Addr} {rm:List Int} {sm:List (List Int)} {b y:Int} (hP:IsQ Pn p) (hM:IsMemo Pn.J d (WQ rm sm b y)) (hR:RoomOk rm) (hp:yu rm<=64) (b0:0<=b) (b1:b<rm.length) (y0:0<=y) (y1:y<zA rm b) (hl:sm.length<=100000) (hs:∀s∈sm,s∈thC rm b y) (h:∀m,m<=n+100->R (.d (.bl true)) m) (hn:n+200<=1000000:=by lia):F_right Pn [.pen p,.wd d (fsW rm sm b y) (knW sm)] n R
def zb0 (T:Txt K mg t):FnOk P w K mg base CX0 6 t.f26 t.d26 lx (spV 2 false F_right):=by
 have G8:=zbl (P:=P) (w:=w) (base:=base) T;have G11:=zbm (P:=P) (w:=w) (base:=base) T;have G1:=zR (P:=P) (w:=w) (base:=base) T;have G19:=uV (P:=P) (w:=w) (base:=base) T;have G21:=uW (P:=P) (w:=w) (base:=base) T;have G23:=zcR (P:=P) (w:=w) (base:=base) T;have G25:=zbj (P:=P) (w:=w) (base:=base) T
 refine Fun.okW (k:=5) (fr:=false) [10] 10 T.q26.F zu rfl (by decide) rfl λbx A outer s H E Pn I=>⟨_,(ze (wS zt <| zE (i:=2) zu.nd (zas (uh I) (kb 1)))
   (ze (wS zt <| zE (i:=3) zu.nd (zas (uh I) (kb 1)))
   (ze (wS zt <| zE (i:=4) zu.nd (zas (uh I) (kb 1)))
   (ze (wS zt <| zE (i:=5) zu.nd (zas (uh I) (kb 1)))
   (ze (wS zt <| zE (i:=6) zu.nd (xU zf))
   (ze (wS zK <| yU (wT zv <| yv (zh5 I.units) znY (kb 3) (JE.bo (xU zf)) (zT _)) (zh (wS zt <| zE (i:=6) zu.nd (xU (za (zcD uJ zgr (kb 3) (JE.bo (wE zw <| yT T.q1 G1 I (za (kv 0) (za (zZ xj zbM (by rfl) T.b_len bn (zj (kb 3) zr)) zf)))) (λ_ _=>rfl)) (za (zcD uJ zgr (kb 3) (JE.bo zk) (λ_ _=>rfl)) (za (zcD uJ zgr (kb 3) (JE.bo (j_un zrf ztN (JE.bo zk))) (λ_ _=>rfl)) zf)))))) zJ)
   (ze (yZ aW rfl (wI yi <| yh K rfl (kv 6)) (wG zP <| zm (i:=7) zu.nd) (ze (wS zt <| zE (i:=8) zu.nd (xl zaZ zlC (by rfl) T.b_list cK (zj (kb 3) zr)))
   (zh (yZ aW rfl (wI xw <| ym rfl T.b_range (zj (JE.bo zk) zr)) (wG zP <| zm (i:=9) zu.nd) (ze (wS xZ <| zat (i:=10) zu.nd (wE zw <| yT T.q11 G11 I (za (kv 2) (za (kv 8) (za (kv 4) (za (kv 5) (za (kv 7) zf)))))))
   (ze (wS zK <| yU (JW.t (wW zfC <| zjL (wT zv <| yv (zh5 I.units) znY (kb 8) (kb 3) (zT _)) (zbd (.inr rfl) (wT xY <| uQ (wT zv <| y8 (JE.bo (wE zmH <| zsp T.q23 G23 I (zj (kb 10) (zj (JE.bo (wE zw <| yT T.q21 G21 I (za (kv 1) (za (kv 7) zf)))) zr))))))))) (zh (zL zez)) zJ)
   (ze (wS zbg <| zdw 10 (z9 zf))
   (zh (wS zeE <| zgd 10)))))))))
   (zjK [] 10 (ze (yZ aW rfl (wI yi <| yh K rfl (wE zw <| yT T.q25 G25 I (za (kv 0) (za (kv 1) (za (kv 6) zf))))) (wG zP <| zm (i:=11) zu.nd) (ze (wS zt <| zE (i:=8) zu.nd (xl zaZ zlC (by rfl) T.b_list cK (zj (kb 3) zr)))
   (ze (wS zt <| zE (i:=10) zu.nd (wE zw <| yT T.q8 G8 I (za (kv 2) (za (kv 8) (za (kv 4) (za (kv 5) (za (kv 11) zf)))))))
   (ze (wS zK <| yU (JW.t (wW zfC <| zjL (wT xY <| uQ (wT zv <| y8 (JE.bo (wE xb <| yx (by rfl) T.b_isinstance T.b_bool (kb 10))))) (zbd (.inr rfl) (wT zv <| yv (zh5 I.units) znY (kb 8) (kb 3) (zT _))))) (zh (zL zez)) zJ)
   (zh (wS zK <| yU (wT zv <| yv zgk zob (kb 10) (JE.bo (wE zw <| yT T.q19 G19 I (za (kv 1) (za (kv 11) zf)))) (zT _)) (zh (zL zez)) zJ))))))
   (zh (zL zez))))))))))),λws n R hF=>?_⟩
 obtain @⟨_,_,p,d,rm,sm,b,y,hP,hM,hR,hp,b0,b1,y0,y1,hl,hs,r,hn⟩:=hF;left
 (with_reducible refine uY lk_r ?_)
 left
 (with_reducible refine uY lk_s ?_)
 left
 (with_reducible refine uY zsB ?_)
 left
 (with_reducible refine uY lk_w ?_)
 left;refine' zsY (λ(O:List (List Int)) (m:Nat)=>(∀s∈O,s∈sm)/\O.length<=3/\m<=n+1) _ (λye=>?_) ?_;rotate_left
 ·refine⟨eqS,eqS (sm:=[]),λc hc=>?_⟩;refine zlg (λY=>?_) (λY=>?_)
  ·subst Y
   have ab:sm≠[]:=λz=>by subst z;exact absurd (hc.mpr rfl) (by decide)
   have bt:=bN.mpr ab;left;rw[ac];refine tk hP λa a0 a1=>?_;left;refine zj9 (L:=sm.map stD) a0 (by rw[ac];exact a1) λx1 al=>?_;obtain⟨s1,an,rfl⟩:=aw.mp al;left;refine zj9 (L:=sm.map stD) (Int.le_refl 0) (by rw[ac];lia) λx2 as=>?_;obtain⟨s2,a2,rfl⟩:=aw.mp as;left;obtain⟨x3,a3,e3⟩:=zgC (l:=sm.map stD) λz=>ab (List.map_eq_nil_iff.mp z);obtain⟨s3,a4,rfl⟩:=aw.mp a3
   (with_reducible refine uY e3 ?_)
   left;rw[show ([stD s1,stD s2,stD s3]:List Dt)=[s1,s2,s3].map stD from rfl]
   have Z:(∀s∈[s1,s2,s3],s∈sm)/\[s1,s2,s3].length<=3:=⟨λs h=>by
    simp only[ax,ba,or_false] at h;rcases h with rfl | rfl | rfl
    ·exact an
    ·exact a2
    ·exact a4,af _⟩
   generalize [s1,s2,s3]=O at Z ⊢;generalize b2:n+1=m1;exact ye O m1 ⟨Z.1,Z.2,by lia⟩
  ·subst Y;obtain rfl:sm=[]:=by simpa using hc.mp rfl
   left;exact ye [] n ⟨by simp,by simp,by lia⟩
 ·rintro O m ⟨hf,a5,hm⟩
  have a7:∀s∈sm,StOk rm s/\zA s b=y:=λs h=>by obtain⟨z1,z2⟩:=az.mp (hs s h);exact⟨zgz rm s z1,aS z2⟩
  left;refine yF O (λso=>.d (stD so)) (by rw[au];rfl) (λi ρ m'=>m'=m/\∃v7 v8 U J,ρ=[some (.pen p),some (.wd d (fsW rm sm b y) (knW sm)),some (.d (stD rm)),some (.d (xS sm)),some (.d (.int b)),some (.d (.int y)),some (.d (xS O)),v7,v8,U,J,none]) ⟨rfl,none,none,none,none,rfl⟩ ?_ ?_
  ·rintro i so ρ m' bb ⟨rfl,v7,v8,U,J,rfl⟩ C B E hC _ _;have ad:=hf so (aC bb);obtain⟨hS,hy⟩:=a7 so ad;left;have h6:=zc0 hR.box hp;have ag:so.length<=6:=by rw[hS.len];exact h6
   refine⟨⟨by decide,by decide⟩,zdn (λi2 ρ m2=>m2=m'/\∃U J,ρ=[some (.pen p),some (.wd d (fsW rm sm b y) (knW sm)),some (.d (stD rm)),some (.d (xS sm)),some (.d (.int b)),some (.d (.int y)),some (.d (xS O)),some (.d (stD so)),some (.d (xS sm)),U,J,none]) ⟨rfl,_,_,rfl⟩ ?_ ?_⟩
   ·rintro i2 ρ m2 b3 ⟨rfl,U,J,rfl⟩ C2 B2 E2 bd _ _;left;refine F_wideP.i hR hp hS b0 b1 y0 y1 hl λl hw=>?_;have hD:=zn2 hS ag b0 (by rw[hS.len];exact b1) hw
    have bk:l.length<=64:=by have:=(zaS (sm:=sm) (y:=y) hS ag b0 (by rw[hS.len];exact b1)).1;rw[hw.1.length_eq,ac];lia
    left;refine⟨eqS,eqS,λc hc=>?_⟩;obtain rfl:c=true:=hc.mpr rfl
    (with_reducible refine zka rfl ?_)
    left;refine F_lwide.i hM hR hp hS ad b0 b1 hl λl' bl=>?_;obtain rfl:=zkO hw bl;left;refine⟨.lst l,rfl,hD,?_⟩;refine⟨rfl,?_⟩;left;refine⟨be bk (by decide),?_⟩;left;exact bd ⟨rfl,_,_,rfl⟩
   ·rintro ρ m2 ⟨rfl,U,J,rfl⟩;left;exact hC ⟨rfl,_,_,_,_,rfl⟩
  ·rintro ρ m' ⟨rfl,v7,v8,U,J,rfl⟩;left;refine F_givens.i hP hM hR hp b0 b1 hl hs hf a5 λgs m2 bm b4 b5=>?_;left;refine yF gs (λg=>.d (yp g)) (by rw[au];rfl) (λi ρ m3=>m3=m2/\∃v8 J vb,ρ=[some (.pen p),some (.wd d (fsW rm sm b y) (knW sm)),some (.d (stD rm)),some (.d (xS sm)),some (.d (.int b)),some (.d (.int y)),some (.d (xS O)),v7,v8,U,J,vb]) ⟨rfl,_,_,_,rfl⟩ ?_ ?_
   ·rintro i g ρ m3 hg ⟨rfl,v8,J,vb,rfl⟩ C B E hC _ _;obtain⟨hG,bs⟩:=bm g (aC hg);left;refine F_lies.i hR hp hG bs b0 b1 y0 y1 hl ?_;left;refine⟨eqS,eqS,λc hc=>?_⟩;obtain rfl:c=true:=hc.mpr rfl
    (with_reducible refine zka rfl ?_)
    left;refine F_llies.i (λq hq=>by have:=hG.ok q hq;lia) (zba hG hR.few) ?_;left;refine zgj (λz=>(z rfl).elim) (λ_=>?_);left;exact hC ⟨rfl,_,_,_,rfl⟩
   ·rintro ρ m3 ⟨rfl,v8,J,vb,rfl⟩;left;exact r _ (by lia)
def zpB (T:Txt K mg t)(hB:base.BuiltinsAt mg t.PT):FnOk P w K mg base CX0 7 t.f27 t.d27 li (zd1 K t.PT):=by
 have X_lies_in:=zeM (P:=P) (w:=w) (base:=base) T;have X_wide_givens:=zbn (P:=P) (w:=w) (base:=base) T;have G0:FnOk P w K mg base CX0 1 t.f0 t.d0 li (zkF K):=zeJ T;have G1:=zR (P:=P) (w:=w) (base:=base) T;have G13:=zcQ (P:=P) (w:=w) (base:=base) T;have G12:=zbZ (P:=P) (w:=w) (base:=base) T;have G14:=zcO (P:=P) (w:=w) (base:=base) T;have G22:=zb1 (P:=P) (w:=w) (base:=base) T;have G24:=zcS (P:=P) (w:=w) (base:=base) T;have G26:=zb0 (P:=P) (w:=w) (base:=base) T
 refine zpx (S:=[]) (k:=6) (r:=8) (lq:=(PyProof.Rows.envOfC "law" (zd ze0) 0 0 .none).qual ++ "<lambda>") [] T.q27.F uz rfl rfl (by decide) λa1 A outer s H E Pn I Z=>⟨_,_,_,rfl,(xo (i:=1) uz.nd rfl (Or.inr rfl) (zik T.q0 G0 I (zz (qv 0) yn))),(ze (yZ aW rfl (wI xw <| ym rfl T.b_range (zj (JE.bo zk) zr)) (wG zP <| zm (i:=2) uz.nd) (ze (wS zt <| zE (i:=3) uz.nd (wE zw <| yT T.q13 G13 I (za (kv 1) (za zk zf))))
   (ze (zht (wE zw <| yT T.q14 G14 I (za (kv 1) (za (kv 3) zf))) (wG za8 <| zbc (n:=3) K rfl rfl (wH yY <| zV (wG zP <| zm (i:=4) uz.nd) (wH yY <| zV (wG zP <| zm (i:=5) uz.nd) (wH yY <| zV (wG zP <| zm (i:=6) uz.nd) (wH za7 uF))))))
   (ze (wS zt <| zE (i:=7) uz.nd (wE zw <| yT T.q24 G24 I (za (kv 1) (za (kv 3) (za (kv 4) (za (kv 6) zf))))))
   (ze (wS zK <| yU (wT xY <| uQ (wT zv <| y8 (JE.bo (zsq T.q26 G26 I (zjF (kv 1) (zjG T.q22 G22 I (za (kv 3) (za (kv 7) (za (kv 4) (za (kv 6) zf)))) (λ_ _=>zf))))))) (zh (zL zez)) zJ)
   (ze (wS zt <| zE (i:=8) uz.nd (wE zw <| yT T.q12 G12 I (za (kv 1) zf)))
   (ze (wS zt <| zE (i:=9) uz.nd (xl xk zc7 (by rfl) T.b_tuple bJ (zj (JE.bo (yJ (N:=lN) (cix:=[none,some 1]) rfl (by walk_at "c") (wI zcJ <| zft K rfl (kv 8)) (λ_ _ _ _=>(wG zP <| zm (i:=0) (show (lN:List Str).Nodup by decide +kernel))) (λ_ _ _ _=>yr) (λ_ _ _ _=>(wE zw <| yT T.q1 G1 I (za (kv 1) (za (kv 0) zf)))))) zr)))
   (ze (wS zK <| yU (wT xY <| uQ (wT zv <| y8 (JE.bo (zdu (N:=lM) (cix:=[some 8,some 9]) (k:=4) rfl (λ_=>rfl) (uk T) I (by decide) T.q5.m T.q5.F.kp (by walk_at "c") (by decide) rfl rfl T.lam hB (Z.symm.trans T.lamc) rfl (λ_ _ _ _=>rfl) T.q8 X_lies_in (by decide) rfl (λ_ _ _ _ _ _ _ _ an=>(za (kv 0) (za (xU (za (kv 1) zf)) (za zk (za (zcD xE zaq (kb 1) (JE.bo zk) (λ_ _=>rfl)) (za (z9 zf) zf)))))))))) (zh (zL zez)) zJ)
   (zh (wS zK <| yU (wT xY <| uQ (wT zv <| y8 (JE.bo (zdu (N:=lM) (cix:=[some 8,some 9]) (k:=4) rfl (λ_=>rfl) (uk T) I (by decide) T.q5.m T.q5.F.kp (by walk_at "c") (by decide) rfl rfl T.lam hB (Z.symm.trans T.lamc) rfl (λ_ _ _ _=>rfl) T.q11 X_wide_givens (by decide) rfl (λ_ _ _ _ _ _ _ _ an=>(za (kv 0) (za (xU (za (kv 1) zf)) (za zk (za (zcD xE zaq (kb 1) (JE.bo zk) (λ_ _=>rfl)) (za (kv 1) zf)))))))))) (zh (zL zez)) zJ))))))))))
   (zh (zL zez))),λp c ns as=>?_⟩
 subst as;have O:IsQ ⟨some (p,c,ns),zfR t.PT ((PyProof.Rows.envOfC "law" (zd ze0) 0 0 .none).qual ++ "<lambda>")⟩ p:=⟨⟨_,_,rfl⟩,zkf⟩;have hJ:(⟨some (p,c,ns),zfR t.PT ((PyProof.Rows.envOfC "law" (zd ze0) 0 0 .none).qual ++ "<lambda>")⟩:PN).J=zfR t.PT ((PyProof.Rows.envOfC "law" (zd ze0) 0 0 .none).qual ++ "<lambda>"):=rfl;generalize (⟨some (p,c,ns),zfR t.PT ((PyProof.Rows.envOfC "law" (zd ze0) 0 0 .none).qual ++ "<lambda>")⟩:PN)=Pn at O hJ;refine zqC ?_;left;refine⟨⟨by lia,by lia⟩,zdn (λi ρ m=>m<=2000 * i/\i<=3/\∃v2 v3 v4 v5 v6 v7 v8 v9,ρ=[none,some (.pen p),v2,v3,v4,v5,v6,v7,v8,v9]) ⟨by lia,by lia,_,_,_,_,_,_,_,_,rfl⟩ ?_ ?_⟩
 ·rintro i ρ m hi ⟨hm,a0,v2,v3,v4,v5,v6,v7,v8,v9,rfl⟩ C B E hC _ _;left;refine F_mkR.i O rfl λrm m1 hR hp a2=>?_;left;refine F_kind.i O hR λb x y b0 b1 x0 x1 y0 y1=>?_;left;refine F_some.i O hR hp b0 b1 y0 y1 λsm m2 ab ad a3=>?_;left;have ag:sm.length<=100000:=ah (zj6 ab ad) (ah (zq5 hR) (by decide));refine⟨rfl,rm,sm,b,y,rfl,hR,ab,ag,b0,b1,WQ rm sm b y,λd=>?_⟩;have hQ:IsQ (Pn.mo d (WQ rm sm b y)) p:=O.mo;have hM:IsMemo (Pn.mo d (WQ rm sm b y)).J d (WQ rm sm b y):=zgc (by rw[hJ];exact zj7);generalize Pn.mo d (WQ rm sm b y)=Pm at hQ hM;left;refine⟨rfl,?_⟩;refine F_right.i hQ hM hR hp b0 b1 y0 y1 ag ad λm3 a4=>?_;left;refine F_great.i O λU q al=>?_;left;refine zgI U (λx=>W.d (.int x)) (by rw[au];rfl) (ah q.few (by decide)) (λj Y n' acc=>n'=m3+1+j/\∃ (v:Option W) (ls:List Int),Y=[v,some (.pen p)]/\acc=ls.map Dt.int/\ls.length=j) ⟨rfl,none,[],rfl,rfl,rfl⟩ ?_ ?_
  ·rintro j x Y n' acc hx ⟨rfl,v,ls,rfl,rfl,L⟩ C hC;have hj:=(aj.mp hx).1;have h8:=q.few;have hb:=q.box x (aC hx);left;refine tk O λr r0 r1=>?_;left;exact hC ⟨by lia,some (.d (.int x)),ls++[r],rfl,by rw[aA];rfl,by rw[aM,L];rfl⟩
  ·rintro Y n' acc ⟨rfl,v,ls,rfl,rfl,L⟩;have h8:=q.few;have h1:=q.pos;left;refine⟨hJ,?_,?_⟩
   ·left;refine onA (Int.le_refl 0) (by lia) ?_;left;exact⟨rfl,rfl,U,_,_,_,_,rfl,q.box,al⟩
   left;refine⟨hJ,?_,?_⟩
   ·left;refine onA (Int.le_refl 0) (by lia) ?_;left;exact⟨rfl,rfl,U,_,_,_,_,rfl,q.box,al⟩
   left;exact hC ⟨by lia,by lia,_,_,_,_,_,_,_,_,rfl⟩
 ·rintro ρ m ⟨hm,a0,v2,v3,v4,v5,v6,v7,v8,v9,rfl⟩;left
end
def Dm {K:PySem.W.Frag}{h:Heap}{mg:Str->Option Value}{x:Str}{st:Stmt}{ps:List Str}{f:Addr}{I kV dc B q ct:Value}{J F:Option Addr}{L:Array (Option Value)}(X:K.In h)(G:h.Ns mainGlobals mg)(a:PySem.W.nsIn K mainGlobals x=some (some (.ref f)))(l:K.lookup f=some ⟨I,J,.func (PySem.W.fnOf x x (uC st) (zU st) (zd st) .none kV dc B F q ct),L⟩)(c:PySem.W.codeIn K q x=true)(k:PySem.W.keepIn K (.ref f)=true)(b:∀ (kV dc B:Value) (F:Option Addr) (q ct:Value) (us:List Value),us.length=ps.length->bindArgs (PySem.W.fnOf x x (uC st) (zU st) (zd st) .none kV dc B F q ct) ⟨us,[]⟩=pure (ps.zip us)):Dfn K mg x st ps f (PySem.W.fnOf x x (uC st) (zU st) (zd st) .none kV dc B F q ct):=⟨zk4 l c k,(zk4 l c k).binds b,dJ X G a⟩
def Mm(X:K.In h)(G:h.Ns mainGlobals mg)(a:PySem.W.nsIn K mainGlobals x=some (some (.ref C)))(e:C=D):mg x=some (.ref D):=e ▸ dJ X G a
def Ym{i:Int}(X:K.In h)(G:h.Ns mainGlobals mg)(a:PySem.W.nsIn K mainGlobals x=some (some (.int i u))):∃v,zX (.int i) v/\mg x=some v:=⟨_,⟨_,rfl⟩,dJ X G a⟩
def fin {l:PySem.W.OpenLaw}{w:World}{K:PySem.W.Frag}{mg:Str->Option Value}{fa:Addr}{t:Ad}(q:mg "law" = some (.ref fa))(T:Txt K mg t)(b:∀ (s:Shared) (v:Value),BindsTo s t.d27 ⟨[v],[]⟩ [("_law_script",v)]):∃fd:FuncData,(∀ (s:Shared) (v:Value),BindsTo s fd ⟨[v],[]⟩ [("_law_script",v)])/\(∀h:Heap,K.In h->∃c,PySem.W.CodeHd h c t.PT)/\∀base:Heap,K.In base->base.Ns mainGlobals mg->base.BuiltinsAt mg t.PT->FnOk l.prog w K mg base CX0 7 fa fd li (zd1 K t.PT):=by have e:=q.symm.trans T.q27.m;cases e;exact⟨_,b,λh X=>⟨_,T.lam.hd h X⟩,λbase _ _ B=>zpB T B⟩
def walk{l:PySem.W.OpenLaw}{q:Program}{B:List Str}{XP:(Str->Option Value)->Heap->Prop}{YP:World->Heap->Prop}{d:DefRec}{K:Params->PySem.W.Frag}(L:l.most=some 63)(I:d.params.defaults=[])(O:∀ (w:World) (h:Heap),YP w h->(K w.params).In h/\h.get? T=some (PySem.W.tabObj #[]))(J:∀w:World,(K w.params).lookup T=none)(F:∀ (w:World) (mg:Str->Option Value) (fa:Addr) (h:Heap),(K w.params).In h->h.Ns mainGlobals mg->mg d.name=some (.ref fa)->
   ∃fd:FuncData,(∀ (s:Shared) (u:Value),BindsTo s fd ⟨[u],[]⟩ [("_law_script",u)])/\(∀h:Heap,(K w.params).In h->∃c,PySem.W.CodeHd h c T)/\∀base:Heap,(K w.params).In base->base.Ns mainGlobals mg->base.BuiltinsAt mg T->FnOk l.prog w (K w.params) mg base CX0 7 fa fd li (zd1 (K w.params) T)) :
  PySem.W.WalkO q B XP YP l.row.toRowW d [] (λf vs=>PySem.call f vs):=
 L2.zkN (T:=T) (n:=63) (k:=7) (x := "_law_script") (CX:=λ_=>CX0) (sp:=λw=>zd1 (K w.params) T) L (by decide) I ⟨rfl,by decide,by decide,rfl⟩ O J F (λ_ _ a ns U Y Z=>⟨a,ns,rfl,Z,U,Y,λ_ h=>⟨rfl,h⟩⟩) λ_ _ _ _ _ z=>z
end Law
open PySem PySem.W PyProof.Rows
theorem PySem.W.Fast.te13052408679150730464:True:=.intro
theorem PySem.W.Fast.te13590782946482404596:True:=.intro
set_option maxRecDepth 100000 in
set_option maxHeartbeats 0 in
theorem PySem.Challenge.cw_allelse_k47_givens_that_lie_holds : PySem.Challenge.rw_allelse_k47_givens_that_lie.Holds := by
 w_on;refine holds_law (by decide +kernel) λ_=>?_;k_head;(case hw=>w_witness2)
 k_fill
 refine Law.walk (l:=PySem.Challenge.rw_allelse_k47_givens_that_lie) rfl rfl (λw h Y=>⟨PySem.W.km_in_of Y,PySem.W.km_tabs_of Y _ (List.mem_singleton.mpr rfl)⟩) ?KT ?F
 (case KT=>intro w;rfl)
 case F=>
  intro w mg fa h KX G hmg;refine' Law.fin (t:=⟨_,_,_,_,_,_,_,_,_,_,_,_,_,_,_,_,_,_,_,_,_,_,_,_,_,_,_,_,_,_,_,_,_,_,_,_,_,_,_,_,_,_,_,_,_,_,_,_,_,_,_,_,_,_,_,_,_,_,_,_,_,_,_,_,_,_,_,_,_⟩) hmg ⟨?D0,?D1,?D2,?D3,?D4,?D5,?D6,?D7,?D8,?D9,?D10,?D11,?D12,?D13,?D14,?D15,?D16,?D17,?D18,?D19,?D20,?D21,?D22,?D23,?D24,?D25,?D26,?D27,?z_ValueError,?z_dict,?z_all,?z_enumerate,?z_sorted,?z_range,?z_tuple,?z_isinstance,?z_len,?z_list,?z_bool,?z_abs,?z_str,?z_any,?z_zip,?m_TooMany,?m_WishError,?m_HasRing,?m_IsBetter,?m_NotSettled,?m_NotKept,?m_NoWish,?m_NoBook,?m_NoText,?m_Full,?m_NoStanding,?er,?xc,?lam,?lamc,?y_MOST_OF_SMALL⟩ λs v=>?b
  (case D0 | D1 | D2 | D3 | D4 | D5 | D6 | D7 | D8 | D9 | D10 | D11 | D12 | D13 | D14 | D15 | D16 | D17 | D18 | D19 | D20 | D21 | D22 | D23 | D24 | D25 | D26 | D27=>(dsimp only;refine' Law.Dm (by assumption) (by assumption) ?da ?dl ?dc ?dk ?db;(case da=>k_is);(case dl=>k_is);(case dc=>k_is);(case dk=>k_is);(case db=>(intro _ _ _ _ _ _ us hl;first | (obtain⟨_,e⟩:=L2.us_1 hl;subst e;rfl) | (obtain⟨_,_,e⟩:=L2.us_2 hl;subst e;rfl) | (obtain⟨_,_,_,e⟩:=L2.us_3 hl;subst e;rfl) | (obtain⟨_,_,_,_,e⟩:=L2.us_4 hl;subst e;rfl) | (obtain⟨_,_,_,_,_,e⟩:=L2.us_5 hl;subst e;rfl)))))
  (case z_ValueError | z_dict | z_all | z_enumerate | z_sorted | z_range | z_tuple | z_isinstance | z_len | z_list | z_bool | z_abs | z_str | z_any | z_zip=>(refine' PySem.W.mg_none_of (by assumption) (by assumption) ?dz;(case dz=>k_is)))
  (case y_MOST_OF_SMALL=>(refine' Law.Ym (by assumption) (by assumption) ?dz;(case dz=>k_is)))
  (case m_TooMany | m_WishError | m_HasRing | m_IsBetter | m_NotSettled | m_NotKept | m_NoWish | m_NoBook | m_NoText | m_Full | m_NoStanding=>(dsimp only;refine' Law.Mm (by assumption) (by assumption) ?dz ?dy;(case dz=>k_is);(case dy=>exact rfl)))
  (case er=>(dsimp only;refine' ⟨⟨?e1,?e2,?e3,?e4⟩,⟨?f1,?f2,?f3,?f4⟩,PySem.W.mg_of (by assumption) (by assumption) ?g1,PySem.W.mg_of (by assumption) (by assumption) ?g2,?g3,?g4,?g5,?g6⟩;all_goals (first | k_is | kernel_rfl)))
  (case xc=>(dsimp only;refine' ⟨PySem.W.mg_of (by assumption) (by assumption) ?h1,?h2⟩;all_goals (first | k_is | kernel_rfl)))
  (case lamc=>rfl)
  (case lam=>(dsimp only;exact⟨λh X=>PySem.W.codeHd_of_K X (by kernel_rfl),by decide⟩))
  (case b=>exact .of_eq rfl)

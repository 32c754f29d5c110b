import PyProof.Rows.All
import Wide.All
import OpenK.AllK
import Wide.FinOn
import Lean
import PyProof.EqAt
import PyProof.EqKinds
import PyProof.TupleCall
import PySem.Challenge.RW_allelse_k56_laid_one_by_one
local macro_rules | `(tactic| walk_at "v") => `(tactic| (first | exact Or.inl rfl | exact Or.inr (Or.inl rfl) | exact Or.inr (Or.inr rfl)))
local macro_rules | `(tactic| walk_at "l") => `(tactic| (first | exact Or.inl rfl | exact Or.inr rfl | assumption))
local macro_rules | `(tactic| walk_at "f") => `(tactic| (exact ⟨rfl, rfl, rfl, by decide +kernel, rfl, by decide +kernel, by decide +kernel⟩))
local macro_rules | `(tactic| walk_at "c") => `(tactic| (exact ⟨rfl, by decide +kernel, rfl⟩))
set_option Elab.async false
set_option linter.all false
set_option maxRecDepth 100000
set_option maxHeartbeats 4000000
namespace L2
open PySem PySem.Spec PyProof.Rows
abbrev aa:=@wpAny_bind
abbrev ab:=@List.length_map
abbrev ae:=@wpAny_pure
abbrev af:=@List.getElem?_eq_some_iff
abbrev ah:=@Nat.le_refl
abbrev ai:=@List.mem_cons_of_mem
abbrev aj:=@List.getElem?_eq_getElem
abbrev ak:=@List.mem_cons_self
abbrev am:=@Heap.get?_push_of_some
abbrev ao:=@List.mem_singleton
abbrev aq:=@List.length_append
abbrev ar:=@Bool.false_ne_true
abbrev au:=@List.map_cons
abbrev av:=@List.mem_append
abbrev aw:=@Heap.get?_push_size
abbrev ax:=@List.append_assoc
abbrev ay:=@List.mem_cons
abbrev az:=@Nat.le_trans
abbrev aA:=@List.mem_of_getElem?
abbrev aB:=@List.getElem?_set_ne
abbrev aC:=@wpAny_mono
abbrev aD:=@decide_eq_true
abbrev aE:=@List.getElem?_map
abbrev aF:=@Option.map_eq_some_iff
abbrev aG:=@List.mem_map
abbrev aH:=@Heap.lt_size
abbrev aI:=@List.map_map
abbrev aJ:=@Bool.and_eq_true
abbrev aK:=@Array.length_toList
abbrev aL:=@Bool.false_eq_true
abbrev aM:=@List.take_append_drop
abbrev aN:=@Nat.zero_le
abbrev aO:=@decide_eq_false
abbrev aP:=@List.map_append
abbrev aQ:=@List.mem_range
abbrev aR:=@Array.getElem?_eq_getElem
abbrev aS:=@List.pairwise_cons
abbrev aT:=@List.length_cons
abbrev aU:=@List.size_toArray
abbrev aV:=@Nat.lt_of_lt_of_le
abbrev aW:=@List.mem_append_right
abbrev aX:=@wpAny_call_entry
abbrev aY:=@List.eq_nil_of_length_eq_zero
abbrev aZ:=@List.getElem?_set_self
abbrev a6:=@Nat.ne_of_lt
abbrev a8:=@List.take_of_length_le
abbrev a9:=@List.getElem_mem
abbrev ba:=@Heap.SameBut.update
abbrev be:=@Array.toList_append
abbrev bf:=@List.getElem?_append_right
abbrev bg:=@List.getD_eq_getElem?_getD
abbrev bh:=@List.pairwise_append
abbrev bi:=@wpAny_newObj_type
abbrev bj:=@of_decide_eq_true
abbrev bm:=@List.length_range
abbrev bn:=@List.length_take
abbrev bp:=@wpAny_standAt
abbrev bq:=@Int.toNat_natCast
abbrev br:=@wpAny_askSetting
abbrev bt:=@List.getElem?_append_left
abbrev bu:=@Int.toNat_of_nonneg
abbrev bv:=@List.dropLast_concat_getLast
abbrev bw:=@List.mem_of_mem_take
abbrev bz:=@List.take_length
abbrev bA:=@Bool.eq_iff_iff
abbrev bB:=@PassesOwn.never
abbrev bC:=@Nat.lt_of_le_of_lt
abbrev bD:=@List.append_nil
abbrev bE:=@wpAny_setState_of
abbrev bF:=@List.mem_of_mem_drop
abbrev bG:=@List.mem_filter
abbrev bH:=@List.find?_cons
abbrev bI:=@wpS_forRange
abbrev bJ:=@List.all_eq_true
abbrev bK:=@PySem.boot_len
abbrev bL:=@wpAny_holding
abbrev bM:=@Bool.and_true
abbrev bN:=@Array.toList_push
abbrev bO:=@List.pairwise_map
abbrev bP:=@decide_eq_false_iff_not
abbrev bQ:=@decide_eq_true_iff
abbrev bR:=@List.pairwise_iff_getElem
abbrev bS:=@List.length_set
abbrev bT:=@List.getElem?_take_of_lt
abbrev bU:=@Array.getElem?_toList
abbrev bV:=@PySem.F.slot_dict_keyiterator_next
abbrev bW:=@Int.emod_lt_of_pos
abbrev bX:=@Obj.data_mapFields
abbrev bY:=@Array.getD_eq_getD_getElem?
abbrev bZ:=@List.mem_append_left
abbrev b5:=@List.mem_iff_getElem
abbrev b6:=@Array.mem_toList_iff
abbrev b7:=@eq_of_beq
abbrev b8:=@List.filterMap_cons
abbrev b9:=@sizeLine_eq
abbrev ce:=@decide_eq_true_eq
abbrev cg:=@List.all_cons
abbrev ci:=@Classical.byContradiction
abbrev cj:=@Option.some.inj
abbrev ck:=@wpAny_rule
abbrev cm:=@List.length_drop
abbrev cq:=@wpAny_typeNameOfWhole_keyiter
abbrev cr:=@beq_self_eq_true
abbrev cw:=@PyProof.Rows.boot_tuple
abbrev cy:=@List.take_sublist
abbrev cz:=@Nat.lt_trichotomy
abbrev cA:=@Int.emod_nonneg
abbrev cB:=@F.slot_tuple_iterator_next
abbrev cC:=@Array.getElem?_eq_some_iff
abbrev cD:=@List.getElem_inj
abbrev cE:=@wpAny_isInstance
abbrev cF:=@List.getElem_map
abbrev cG:=@List.cons_append
abbrev cH:=@List.any_cons
abbrev cI:=@Heap.get?_update_self
abbrev cJ:=@wpAny_setField
abbrev cK:=@List.drop_eq_getElem_cons
abbrev cL:=@List.nodup_cons
abbrev cN:=@AutoSeq1.wpAny_loadPart'
abbrev cO:=@PySem.W.kqd_lay
abbrev cP:=@Nat.not_lt_zero
abbrev cQ:=@Nat.le_of_lt_succ
abbrev cR:=@Nat.le_of_lt
abbrev cS:=@wpAny_typeOf
abbrev cT:=@Nat.lt_irrefl
abbrev cU:=@PySem.mem_of_lookup
abbrev cV:=@Bool.not_true
abbrev cW:=@Int.le_refl
abbrev cY:=@wpAny_forIn_list
abbrev cZ:=@List.mem_reverse
abbrev c7:=@List.pairwise_lt_range
abbrev c8:=@List.mem_filterMap
abbrev c9:=@List.filter_append
abbrev dg:=@List.map_inj_right
abbrev dh:=@PyProof.Rows.callWith_type1
abbrev di:=@wpAny_specialOf
abbrev dj:=@codeAny_loop
abbrev dq:=@Obj.isFreed_of_fields
abbrev du:=@PySem.W.kqd_eqv
abbrev dw:=@Option.isSome_map
abbrev dy:=@Array.getElem_mem
abbrev dB:=@wpS_modify
abbrev dC:=@List.nodup_iff_pairwise_ne
abbrev dD:=@Array.getElem_toList
abbrev dE:=@List.drop_zero
abbrev dF:=@PySem.F.args_dict_keyiterator_next_1
abbrev dG:=@List.drop_drop
abbrev dH:=@wpAny_field
abbrev dJ:=@wpAny_noted
abbrev dL:=@PySem.F.entry_dict_keyiterator_next
abbrev dM:=@List.map_congr_left
abbrev dN:=@List.length_pos_iff
abbrev dO:=@PySem.F.args_tuple_add_2
abbrev dP:=@wpAny_pyIter_tuple
abbrev dQ:=@wpAny_passesOwn
abbrev dR:=@PySem.F.entry_tuple_add
abbrev dS:=@wpAny_attempt
abbrev dU:=@List.cons.injEq
abbrev dW:=@PySem.F.plainAttrs_list
abbrev dX:=@List.pairwise_singleton
abbrev dY:=@Nat.min_eq_left
abbrev dZ:=@codeAny_of_tree
abbrev ee:=@Array.forIn_toList
abbrev ef:=@List.getElem?_cons_succ
abbrev eh:=@List.getElem_range
abbrev el:=@Nat.add_assoc
abbrev en:=@PySem.F.slot_tuple_add
abbrev er:=@codeAny_compStart_list
abbrev et:=@PyProof.Rows.boot_list
abbrev eu:=@wpAny_truthy_bool
abbrev ev:=@Obj.cls_mapFields
abbrev ez:=@Bool.not_eq_true'
abbrev eA:=@List.drop_sublist
abbrev eC:=@List.flatMap_cons
abbrev eD:=@List.nodup_nil
abbrev eE:=@wpAny_seqItems
abbrev eF:=@List.Perm.refl
abbrev eG:=@codeAny_mono
abbrev eI:=@List.map_nil
abbrev eJ:=@List.Perm.append_left
abbrev eK:=@List.pairwise_flatMap
abbrev eL:=@List.pairwise_reverse
abbrev eM:=@PyProof.Rows.boot_abs
abbrev eO:=@List.ext_getElem
abbrev eP:=@List.nodup_range
abbrev eQ:=@Array.toList_inj
abbrev eR:=@List.not_mem_nil
abbrev eS:=@List.mem_flatMap
abbrev eU:=@Nat.pow_le_pow_right
abbrev eV:=@List.drop_eq_nil_iff
abbrev eW:=@Paired.length
abbrev eX:=@F.args_tuple_iterator_next_1
abbrev eY:=@listUpdate_at
abbrev eZ:=@List.cons.inj
abbrev ff:=@beq_eq_false_iff_ne
abbrev fg:=@F.entry_tuple_iterator_next
abbrev fj:=@Heap.get?_update_ne
abbrev fq:=@List.nil_append
abbrev fw:=@wpAny_setEntries_of
abbrev fB:=@List.flatMap_append
abbrev fD:=@List.take_left'
abbrev fE:=@wpAny_Call_Name_kw
abbrev fF:=@Nat.add_sub_cancel
abbrev fG:=@List.zip_cons_cons
abbrev fH:=@Nat.succ_pos
abbrev fJ:=@List.getElem?_drop
abbrev fK:=@wpAny_tupleItemsOf
abbrev fL:=@Nat.zero_add
abbrev fM:=@Bool.not_eq_false'
abbrev fN:=@isSubtype_stop
abbrev fO:=@wpAny_fieldsOf
abbrev fP:=@Nat.add_le_add
abbrev fQ:=@bne_self_eq_false
abbrev fR:=@Nat.mod_lt
abbrev fS:=@Nat.lt_succ_of_le
abbrev fT:=@wpAny_pyIter_slot
abbrev fU:=@wpAny_dictEntries
abbrev fV:=@List.ext_getElem?
abbrev fW:=@List.getElem_take
abbrev fX:=@List.reverse_perm
abbrev fY:=@wpAny_handled
abbrev fZ:=@wpAny_newList
abbrev ga:=@Int.lt_irrefl
abbrev gb:=@noFill_tuple_add
abbrev gc:=@Nat.min_le_right
abbrev ge:=@Array.toList_map
abbrev gf:=@List.any_eq_true
abbrev gg:=@Nat.sub_zero
abbrev gh:=@listItems_at
abbrev gm:=@List.any_map
abbrev gn:=@Nat.add_zero
abbrev Key:=Sum Int Str
def zfn:Key->Value->Bool
 | .inl k,v=>Value.isInt k v
 | .inr x,v=>Value.isStrOf x v
def keyH (w:World):Key->Int
 | .inl k=>hashInt k
 | .inr x=>hashStr w x
def zJ:∀ {k:Key} {v:Value},zfn k v=true->(∃i t,k=Sum.inl i/\v=Value.int i t)\/(∃x t,k=Sum.inr x/\v=Value.str x t)
 | .inl i,v,h=>by obtain⟨t,e⟩:=Value.isInt_shape (k:=i) (v:=v) h;exact .inl ⟨i,t,rfl,e⟩
 | .inr x,v,h=>by obtain⟨t,e⟩:=Value.isStrOf_shape (x:=x) (v:=v) h;exact .inr ⟨x,t,rfl,e⟩
def zee (i:Int)(t:Tok):zfn (.inl i) (.int i t)=true:=by simp[zfn,Value.isInt]
def ziK (x:Str)(t:Tok):zfn (.inr x) (.str x t)=true:=by simp[zfn,Value.isStrOf]
def zqh (a b:Int):decide ((Sum.inl a:Key)=Sum.inl b)=(a==b):=by grind
def zqk (a b:Str):decide ((Sum.inr a:Key)=Sum.inr b)=decide (a=b):=by grind
def zqi (a:Int)(b:Str):decide ((Sum.inl a:Key)=Sum.inr b)=false:=rfl
def zqj (a:Str)(b:Int):decide ((Sum.inr a:Key)=Sum.inl b)=false:=rfl
def zO (prog:Program)(w:World):PySem.KeyKind prog w Key where
 is:=zfn
 hash:=keyH w
 inj:=λv a b I F=>by
  rcases zJ I with ⟨i,t,rfl,rfl⟩ | ⟨x,t,rfl,rfl⟩
  ·rcases zJ F with ⟨j,u,rfl,e⟩ | ⟨y,u,rfl,e⟩
   ·injection e with q _;rw[q]
   ·exact nomatch e
  ·rcases zJ F with ⟨j,u,rfl,e⟩ | ⟨y,u,rfl,e⟩
   ·exact nomatch e
   ·injection e with q _;rw[q]
 byValue:=λk v h=>by rcases zJ h with ⟨i,t,rfl,rfl⟩ | ⟨x,t,rfl,rfl⟩ <;> rfl
 pyHash:=λB h=>by
  rcases zJ B with ⟨i,t,rfl,rfl⟩ | ⟨x,t,rfl,rfl⟩
  ·exact wpAny_pyHash_int h
  ·exact wpAny_pyHash_str h
 eqBool:=λJ B h=>by
  rcases zJ J with ⟨i,t,rfl,rfl⟩ | ⟨x,t,rfl,rfl⟩
  ·rcases zJ B with ⟨j,u,rfl,rfl⟩ | ⟨y,u,rfl,rfl⟩
   ·rw[zqh] at h;exact wpAny_eqBool_int h
   ·rw[zqi] at h;exact SeqAt.EqAt.int_str i t y u _ _ _ _ h
  ·rcases zJ B with ⟨j,u,rfl,rfl⟩ | ⟨y,u,rfl,rfl⟩
   ·rw[zqj] at h;exact SeqAt.EqAt.str_int x t j u _ _ _ _ h
   ·rw[zqk] at h;exact wpAny_eqBool_str h
 «strs»:=λk x t v h=>by
  rcases zJ h with ⟨i,u,rfl,e⟩ | ⟨y,u,rfl,e⟩
  ·exact nomatch e
  ·injection e with q _;subst q;cases v <;> rfl
def zfv (prog:Program)(w:World)(i:Int)(t:Tok):(zO prog w).is (.inl i) (.int i t)=true:=zee i t
def zfw (prog:Program)(w:World)(x:Str)(t:Tok):(zO prog w).is (.inr x) (.str x t)=true:=ziK x t
inductive V where
 | non | bl (b:Bool) | int (i:Int) | str (x:Str) | byt (b:Array UInt8) | flt (b:UInt64) | ref (a:Addr) | ty (n:String)
 deriving DecidableEq
def yr:V->Value->Prop
 | .non,u=>u=Value.none
 | .bl b,u=>u=Value.bool b
 | .int i,u=>∃t,u=Value.int i t
 | .str x,u=>∃t,u=Value.str x t
 | .byt b,u=>∃t,u=Value.bytes b t
 | .flt b,u=>∃t,u=Value.float b t
 | .ref a,u=>u=Value.ref a
 | .ty n,u=>u=Value.type n
abbrev yn:List V->List Value->Prop:=Paired yr
def yn.length(r:yn xs q):xs.length=q.length:=eW r
def yn.get:∀ {xs:List V} {q:List Value} {i:Nat} {x:V},yn xs q->xs[i]?=some x->∃u,q[i]?=some u/\yr x u
 | _,_,_,_,.nil,e=>by simp at e
 | _,_,0,_,.cons r _,e=>by simp_all
 | _,_,i+1,x,.cons _ t,e=>by
  obtain⟨u,h1,h2⟩:=yn.get (i:=i) (x:=x) t (by simpa using e)
  simp_all
def yn.append:∀ {xs ys:List V} {q B:List Value},yn xs q->yn ys B->yn (xs++ys) (q++B)
 | _,_,_,_,.nil,s=>s
 | _,_,_,_,.cons r t,s=>.cons r (yn.append t s)
def yn.take:∀ {xs:List V} {q:List Value} (n:Nat),yn xs q->yn (xs.take n) (q.take n)
 | _,_,0,_=>.nil
 | _,_,_+1,.nil=>.nil
 | _,_,n+1,.cons r t=>.cons r (yn.take n t)
def yn.drop:∀ {xs:List V} {q:List Value} (n:Nat),yn xs q->yn (xs.drop n) (q.drop n)
 | _,_,0,r=>r
 | _,_,_+1,.nil=>.nil
 | _,_,n+1,.cons _ t=>yn.drop n t
def zhD:Option V->Option Value->Prop
 | some v,some u=>yr v u
 | none,none=>True
 | _,_=>False
def KV {κ:Type}:List (κ×V)->List (κ×Value)->Prop:=Paired λ(p:κ×V) (q:κ×Value)=>p.1=q.1/\yr p.2 q.2
def kV:Key->V
 | .inl i=>.int i
 | .inr x=>.str x
inductive HO where
  | lst (xs:List V)
  | tup (xs:List V)
  | dK (kvs:List (Key×V)) | dT (kvs:List (List Key×V))
  | set (S:Int->Bool) (n:Nat)
  | ins (C dx:Addr) (fs:List (Str×V))
  | own (x:Addr)
  | xd (fs:List (Str×V))
  | met (f x:Addr)
  | rng (lo hi:Int)
  | frz (o:Obj) (u:HO)
  | tbl (ps:Array Value)
  | ext (φ:Heap->Prop)
abbrev Hp:=Addr->Option HO
def upd (H:Hp)(a:Addr)(o:HO):Hp:=λb=>if b=a then some o else H b
def zf:upd H a o a=some o:=by unfold upd;rw[if_pos rfl]
def zd(h:b≠a):upd H a o b=H b:=by unfold upd;rw[if_neg h]
def zje {H:Hp}{a b:Addr}{o u:HO}(h:H a=some o)(h':H b=some u)(d:o≠u):a≠b:=by grind
def zg {H:Hp}{a b:Addr}{o:HO}(h:H a=some o)(h':H b=none):a≠b:=by grind
def uO (h:Heap)(a:Addr)(q:Array Value):Prop:=∃o,h.get? a=some o/\o.cls = .type "tuple" /\ (∃n,o.data = .seq q n)/\o.dict=none
def uO.tup(x:uO h a q):IsTup h a q:=let ⟨o,h1,h2,h3,_⟩:=x;⟨o,h1,h2,h3⟩
def uO.lt(x:uO h a q):a<h.objs.size:=x.tup.lt
def uO.new (h:Heap)(q:Array Value):uO (h.push { cls:=.type "tuple",data:=.seq q }) h.objs.size q:=⟨_,aw _ rfl,rfl,⟨_,rfl⟩,rfl⟩
section
variable (P:Program)(w:World)
def z8 (H:Hp)(h:Heap)(a:Addr):HO->Prop
 | .lst xs=>xs.length<=sizeLine/\∃ (its:List Value) (n:Nat),yn xs its/\h.get? a=some { cls:=.type "list",data:=.seq its.toArray n }
 | .tup xs=>xs.length<=sizeLine/\∃its:List Value,yn xs its/\uO h a its.toArray
 | .dK kvs=>kvs.length<=sizeLine/\(a==sysModules)=false/\∃vs,KV kvs vs/\h.DictOf (zO P w) a vs
 | .dT kvs=>kvs.length<=sizeLine/\(a==sysModules)=false/\∃xs:List (List Key×Addr×Value),
   Paired (λ(p:List Key×V) (q:List Key×Addr×Value)=>p.1=q.1/\H q.2.1=some (.tup (p.1.map kV))/\yr p.2 q.2.2) kvs xs/\
   ∃o es ep,h.get? a=some o/\o.ExactDict/\o.data = .dict es ep/\es.toList=xs.map (entryOfKey (tupleKind (zO P w)))/\(xs.map (·.1)).Nodup
 | .set S n=>h.SetOf (intKind P w) a S n
 | .ins C dx fs=>H dx=some (.own a)/\fs.length<=1000/\dx≠a/\h.get? a=some (PySem.W.instObj C dx)/\
   ∃mA,h.Ns1 dx mA/\(∀f,zhD (fs.lookup f) (mA f))/\PySem.Within mA (fs.map (·.1))
 | .own _=>∃o,h.get? a=some o
 | .xd fs=>∃mA,h.Ns1 a mA/\∀f,zhD (fs.lookup f) (mA f)
 | .rng lo hi=>∃t u v,h.get? a=some { cls:=.type "range",data:=.fields #[.int lo t,.int hi u,.int 1 v] }
 | .frz o u=>h.get? a=some o/\z8 H h a u
 | .tbl ps=>h.get? a=some { cls:=.none,data:=.fields ps }
 | .met f x=>h.get? a=some (PySem.W.methodObj (.ref f) (.ref x))
 | .ext B=>B h/\(∃o,h.get? a=some o)/\∀h1 h2:Heap,B h1->(∀o,h1.get? a=some o->h2.get? a=some o)->B h2
def HOk (H:Hp)(h:Heap):Prop:=∀a o,H a=some o->z8 P w H h a o
end
section
variable {P:Program}{w:World}{H H':Hp}{h h':Heap}{a:Addr}{o:HO}
def z8.lt (x:z8 P w H h a o):a<h.objs.size:=by
 cases o with
 | lst xs=>obtain⟨_,_,_,_,e⟩:=x;exact aH e
 | tup xs=>obtain⟨_,_,_,p⟩:=x;exact p.lt
 | dK kvs=>obtain⟨_,_,_,_,o,_,_,e,_⟩:=x;exact aH e
 | dT kvs=>obtain⟨_,_,_,_,o,_,_,e,_⟩:=x;exact aH e
 | set S n=>obtain⟨o,_,_,_,e,_⟩:=x;exact aH e
 | ins C dx fs=>obtain⟨_,_,_,e,_⟩:=x;exact aH e
 | own y=>obtain⟨_,e⟩:=x;exact aH e
 | xd fs=>obtain⟨_,⟨_,_,_,e,_⟩,_⟩:=x;exact aH e
 | rng lo hi=>obtain⟨_,_,_,e⟩:=x;exact aH e
 | frz ob u=>obtain⟨e,_⟩:=x;exact aH e
 | tbl ps=>exact aH (show h.get? a=some _ from x)
 | met f y=>exact aH (show h.get? a=some _ from x)
 | ext q=>obtain⟨_,⟨_,e⟩,_⟩:=x;exact aH e
def Paired.mapP {α B:Type}{F G:α->B->Prop}:∀ {l₁:List α} {q:List B},Paired F l₁ q->(∀a b,F a b->G a b)->Paired G l₁ q
 | _,_,.nil,_=>.nil
 | _,_,.cons r t,f=>.cons (f _ _ r) (Paired.mapP t f)
def Paired.imp' {α B:Type}{F G:α->B->Prop}(f:∀a b,F a b->G a b){l₁:List α}{q:List B}(r:Paired F l₁ q):Paired G l₁ q:=Paired.mapP r f
def z8.stay (x:z8 P w H h a o)(k:∀b u,(b=a\/H b=some (.own a))->h.get? b=some u->h'.get? b=some u)
  (F:∀b,H b=some (.own a)->H' b=some (.own a)) (I:∀b xs,H b=some (.tup xs)->H' b=some (.tup xs)):z8 P w H' h' a o:=by
 induction o with
 | lst xs=>obtain⟨z,its,n,r,e⟩:=x;exact⟨z,its,n,r,k _ _ (.inl rfl) e⟩
 | tup xs=>obtain⟨z,its,r,ob,e,c⟩:=x;exact⟨z,its,r,ob,k _ _ (.inl rfl) e,c⟩
 | dK kvs=>obtain⟨z,y,vs,r,ob,es,ep,e,c⟩:=x;exact⟨z,y,vs,r,ob,es,ep,k _ _ (.inl rfl) e,c⟩
 | dT kvs=>
  obtain⟨z,y,xs,r,ob,es,ep,e,c⟩:=x;exact⟨z,y,xs,Paired.mapP r λp q z=>⟨z.1,I _ _ z.2.1,z.2.2⟩,ob,es,ep,k _ _ (.inl rfl) e,c⟩
 | set S n=>obtain⟨ob,es,ep,t,e,c⟩:=x;exact⟨ob,es,ep,t,k _ _ (.inl rfl) e,c⟩
 | ins C dx fs=>
  obtain⟨d,z,J,e,mA,⟨B,es,ep,O,c⟩,r⟩:=x;exact⟨F _ d,z,J,k _ _ (.inl rfl) e,mA,⟨B,es,ep,k _ _ (.inr d) O,c⟩,r⟩
 | own y=>obtain⟨ob,e⟩:=x;exact⟨ob,k _ _ (.inl rfl) e⟩
 | xd fs=>obtain⟨mA,⟨B,es,ep,e,c⟩,r⟩:=x;exact⟨mA,⟨B,es,ep,k _ _ (.inl rfl) e,c⟩,r⟩
 | rng lo hi=>obtain⟨t,u,v,e⟩:=x;exact⟨t,u,v,k _ _ (.inl rfl) e⟩
 | frz ob u U=>obtain⟨e,q⟩:=x;exact⟨k _ _ (.inl rfl) e,U q⟩
 | tbl ps=>
  have e:h.get? a=some { cls:=.none,data:=.fields ps }:=x;show h'.get? a=some { cls:=.none,data:=.fields ps };exact k a _ (.inl rfl) e
 | met f y=>
  have e:h.get? a=some (PySem.W.methodObj (.ref f) (.ref y)):=x;show h'.get? a=some (PySem.W.methodObj (.ref f) (.ref y));exact k a _ (.inl rfl) e
 | ext Y=>obtain⟨p,⟨o,e⟩,st⟩:=x;exact⟨st _ _ p λo q=>k _ _ (.inl rfl) q,⟨o,k _ _ (.inl rfl) e⟩,st⟩
def HOk.lt (x:HOk P w H h)(e:H a=some o):a<h.objs.size:=(x a o e).lt
def HOk.fresh (x:HOk P w H h)(e:h.objs.size<=a):H a=none:=by
 cases q:H a with
 | none=>rfl
 | some u=>exact absurd (aV (x.lt q) e) (cT _)
def HOk.kept (x:HOk P w H h)(k:∀b u,h.get? b=some u->h'.get? b=some u):HOk P w H h':=λa o e=>
 (x a o e).stay (λb u _ q=>k b u q) (λ_ q=>q) λ_ _ q=>q
def HOk.laid (x:HOk P w H h)(k:∀b u,h.get? b=some u->h'.get? b=some u)(hp:h.objs.size<=a)(B:z8 P w (upd H a o) h' a o):HOk P w (upd H a o) h':=λb u e=>by
 have F:=x.fresh hp;by_cases I:b=a
 ·subst I;rw[zf] at e;cases e;exact B
 ·rw[zd I] at e;exact (x b u e).stay (λc v _ q=>k c v q) (λc q=>by rw[zd (zg q F)];exact q) λc xs q=>by rw[zd (zg q F)];exact q
end
def Rd (H:Hp)(a:Addr)(u:HO):Prop:=H a=some u\/∃o,H a=some (.frz o u)
def Rd.ok(r:Rd H a u)(x:HOk P w H h):z8 P w H h a u:=by
 rcases r with r | ⟨o,r⟩
 ·exact x a u r
 ·obtain⟨_,q⟩:=x a _ r;exact q
def Mut:Option HO->Prop
 | some (.lst _)=>True
 | some (.dK _)=>True
 | some (.dT _)=>True
 | some (.set _ _)=>True
 | some (.ins _ _ _)=>True
 | some (.ext _)=>True
 | _=>False
section
variable {P:Program}{w:World}{H:Hp}{h h':Heap}{x e:Addr}{o':HO}
def HOk.write (ok:HOk P w H h)(I:Mut (H x))(he:e=x\/H e=some (.own x))(k:∀b u,b≠e->h.get? b=some u->h'.get? b=some u)(J:∃u,h'.get? e=some u)
  (O:z8 P w (upd H x o') h' x o'):HOk P w (upd H x o') h':=λb u q=>by
 have B:∀c y,H c=some (.own y)->c≠x:=λc y r z=>by subst z;rw[r] at I;exact I
 have F:∀c xs,H c=some (.tup xs)->c≠x:=λc xs r z=>by subst z;rw[r] at I;exact I
 by_cases Y:b=x
 ·subst Y;rw[zf] at q;cases q;exact O
 ·rw[zd Y] at q;by_cases U:b=e
  ·have Z:H b=some (.own x):=by
    grind
   rw[q] at Z;cases Z;obtain⟨v,hv⟩:=J;exact⟨v,by rw[U];exact hv⟩
  ·refine (ok b u q).stay (λc v hc r=>k c v ?_ r) (λc r=>by rw[zd (B c b r)];exact r) λc xs r=>by rw[zd (F c xs r)];exact r
   grind
end
structure Un (fs ex:List Addr)(H H':Hp)(h h':Heap):Prop where
 keep:∀b o,h.get? b=some o->H b=none->b∉fs->b∉ex->h'.get? b=some o
 slot:∀b o,h.get? b=some o->H b=none->b∈fs->b∉ex->∃sl,h'.get? b=some { o with slots:=sl }
 free:∀b o,h.get? b=some o->H b=none->b∉ex->H' b=none
 there:∀b o,h.get? b=some o->b∉ex->∃o',h'.get? b=some o'
 tups:∀b xs,H b=some (.tup xs)->H' b=some (.tup xs)
 frzs:∀b o u,H b=some (.frz o u)->H' b=some (.frz o u)
 tbls:∀b ps,H b=some (.tbl ps)->∃more,H' b=some (.tbl (ps++more))
section
variable {fs fs' ex ex':List Addr}{H H1 H2:Hp}{h h1 h2 h':Heap}{a x e:Addr}{o:HO}
def Un.any(u:Un fs ex H H1 h h1)(q:h.get? b=some ob)(n:H b=none)(B:b∉ex):∃I,h1.get? b=some { ob with slots:=I }:=by
 by_cases F:b∈fs
 ·exact u.slot b ob q n F B
 ·exact⟨ob.slots,u.keep b ob q n F B⟩
def Un.kept (k:∀b u,h.get? b=some u->h'.get? b=some u):Un fs ex H H h h':=
 ⟨λb ob q _ _ _=>k b ob q,λb ob q _ _ _=>⟨ob.slots,k b ob q⟩,λ_ _ _ n _=>n,λb ob q _=>⟨ob,k b ob q⟩,λ_ _ q=>q,λ_ _ _ q=>q,λ_ ps q=>⟨#[],by rw[q];simp⟩⟩
def Un.refl:Un fs ex H H h h:=Un.kept λ_ _ q=>q
def Un.laid (k:∀b u,h.get? b=some u->h'.get? b=some u)(hp:h.objs.size<=a)(B:H a=none):Un fs ex H (upd H a o) h h' where
 keep:=λb u q _ _ _=>k b u q
 slot:=λb u q _ _ _=>⟨u.slots,k b u q⟩
 free:=λb u q n _=>by rw[zd (a6 (aV (aH q) hp))];exact n
 there:=λb u q _=>⟨u,k b u q⟩
 tups:=λb xs q=>by rw[zd (zg q B)];exact q
 frzs:=λb u xs q=>by rw[zd (zg q B)];exact q
 tbls:=λb ps q=>⟨#[],by rw[zd (zg q B),q];simp⟩
def Un.write (B:Mut (H x))(U:e=x\/H e=some (.own x))(k:∀b u,b≠e->h.get? b=some u->h'.get? b=some u)(J:∃u,h'.get? e=some u):Un fs ex H (upd H x o) h h':=by
 have O:∀b,H b=none->b≠x:=λb n z=>by subst z;rw[n] at B;exact B
 have I:∀b,H b=none->b≠e:=λb n z=>by grind
 have F:∀b u,H b=some u->¬ Mut (some u)->b≠x:=λb u q nm z=>by subst z;rw[q] at B;exact nm B
 refine⟨λb u q n _ _=>k b u (I b n) q,λb u q n _ _=>⟨u.slots,k b u (I b n) q⟩,λb u q n _=>by rw[zd (O b n)];exact n,λb u q _=>?_,
  λb xs q=>by rw[zd (F b _ q λz=>z)];exact q,λb u xs q=>by rw[zd (F b _ q λz=>z)];exact q,λb ps q=>⟨#[],by rw[zd (F b _ q λz=>z),q];simp⟩⟩
 grind
end
def trk (h:Heap)(H:Hp):List Addr:=(List.range h.objs.size).filter λa=>(H a).isSome
def zkI (h:Heap)(H:Hp):Heap:=PySem.W.hideAll h (trk h H)
def zir (h:Heap)(H:Hp):(zkI h H).objs.size=h.objs.size:=PySem.W.hideAll_size _ _
def zkJ(e:h.get? b=some o)(n:H b=none):(zkI h H).get? b=some o:=
 PySem.W.hideAll_get _ e λB=>by
  have q:(H b).isSome=true:=(bG.mp B).2
  simp_all
def zn3(e:(zkI h H).get? b=some o):h.get? b=some o/\H b=none:=by
 have B:h.get? b=some o:=PySem.W.of_hideAll (trk h H) e;refine⟨B,?_⟩
 cases q:H b with
 | none=>rfl
 | some x=>
  have F:b∈trk h H:=bG.mpr ⟨aQ.mpr (aH B),by simp[q]⟩;have z:(zkI h H).get? b=none:=PySem.W.hideAll_none (trk h H) F
  grind
def zm1 (g h:Heap)(L:Addr):List (Addr×Obj):=(List.range h.objs.size).filterMap λa=>if a=L\/(g.get? a).isSome=true then none else (h.get? a).map λo=>(a,o)
def zw (g h:Heap)(L d:Addr):List (Addr×Obj):=(zm1 g h L).filter λp=>decide (p.1≠d)
structure Mod (K:PySem.W.Frag)(mg:Str->Option Value)(base:Heap):Prop where
 kin:K.In base
 glob:base.Ns mainGlobals mg
 blt:∃mb,base.Ns builtinsNs mb/\∀x:Str,x ≠ "__name__" -> mb x=bootBuiltins x
 nolimit:base.NoLimit
structure Cx where
 prog:Program
 w:World
 K:PySem.W.Frag
 mg:Str->Option Value
 base:Heap
 A:Around
 N:List Str
 s₀:Shared
 H₀:Hp
 env:Env
 outer:List Env
 stack:List Env
 ex:List Addr
 fn:Str->Bool
 calm:Bool
 pn:List (Addr×Obj)
 xe:Value->Shared->Prop
def frs (l:List Env):List Addr:=l.filterMap (·.frame)
abbrev Cx.fs (X:Cx):List Addr:=frs X.outer
def Vis (q:Scope)(x:Str):Prop:=q.names.lookup x=some .local\/q.names.lookup x=some .cell\/q.names.lookup x=some .free
def Loc (q:Scope)(x:Str):Prop:=q.names.lookup x=some .local\/q.names.lookup x=some .cell
def Look (env:Env)(h:Heap)(m:Str->Option Value)(x:Str)(u:Value):Prop:=
 (env.kindOf x=some .local/\m x=some u)\/((env.kindOf x=some .cell\/env.kindOf x=some .free)/\∃c,env.cells.lookup x=some c/\h.IsCell c (some u))
structure Cx.Ok (X:Cx):Prop where
 mod:Mod X.K X.mg X.base
 kind:X.env.scope.kind = .function
 glob:X.env.globals=mainGlobals
 blt:X.env.builtins=builtinsNs
 above:X.s₀.heap.objs.size<=X.env.locals
 inj:∀x y c,X.env.cells.lookup x=some c->X.env.cells.lookup y=some c->x=y
 has:∀x,(X.env.kindOf x=some .cell\/X.env.kindOf x=some .free)->∃c,X.env.cells.lookup x=some c
 cab:∀x c,X.fn x=true->X.env.cells.lookup x=some c->X.s₀.heap.objs.size<=c
 hd:X.calm=true->X.A.handled=none
 frames:X.A.frames=some X.stack
 stk:X.stack=X.outer\/(X.stack=X.env::X.outer/\X.env.frame=some X.env.locals)
 exf:∀b∈X.ex,b≠X.env.locals/\∀x c,X.env.cells.lookup x=some c->c≠b
 bs:∀b o,X.base.get? b=some o->X.s₀.heap.get? b=some o/\X.H₀ b=none
 bsz:X.base.objs.size<=X.s₀.heap.objs.size
 noex:∀b o,X.base.get? b=some o->b∉X.ex
 exfs:∀b∈X.ex,b∉X.fs
 funs:X.s₀.heap.FunFrames X.base X.outer
 frf:∀b∈X.fs,X.H₀ b=none
structure Inv (X:Cx)(pins:List (Addr×Obj))(σ:List (Option V))(H:Hp)(s:Shared):Prop where
 ok:X.Ok
 os:s.os=X.s₀.os
 bare:AllBare s.gens
 base:Un X.fs X.ex X.H₀ H X.s₀.heap s.heap
 loc:∃m,s.heap.Ns X.env.locals m/\∀ (i:Nat) (x:Str) (v:V),X.N[i]?=some x->σ[i]?=some (some v)->Vis X.env.scope x->∃u,yr v u/\Look X.env s.heap m x u
 cell:∀x c,X.env.cells.lookup x=some c->∃v,s.heap.IsCell c v
 free:H X.env.locals=none
 freeC:∀x c,X.env.cells.lookup x=some c->H c=none
 pin:∀p∈X.pn++pins,s.heap.get? p.1=some p.2/\H p.1=none/\p.1≠X.env.locals/\p.1∉X.fs/\∀v,p.2.data≠.cell v
 hok:HOk X.prog X.w H s.heap
 len:σ.length=X.N.length
section
variable {X:Cx}{pins:List (Addr×Obj)}{σ:List (Option V)}{H H':Hp}{s:Shared}{h':Heap}
def Cx.Ok.nofr(q:X.Ok)(e:X.base.get? b=some o):b∉X.fs:=λB=>by
 have:=(q.funs.mem B).1
 grind
def Inv.bs (I:Inv X pins σ H s):∀b o,X.base.get? b=some o->s.heap.get? b=some o/\H b=none:=λb o e=>
 ⟨I.base.keep b o (I.ok.bs b o e).1 (I.ok.bs b o e).2 (I.ok.nofr e) (I.ok.noex b o e),I.base.free b o (I.ok.bs b o e).1 (I.ok.bs b o e).2 (I.ok.noex b o e)⟩
def Inv.bk (I:Inv X pins σ H s):∀b o,X.base.get? b=some o->s.heap.get? b=some o:=λb o e=>(I.bs b o e).1
def Inv.mod (I:Inv X pins σ H s):Mod X.K X.mg X.base:=I.ok.mod
def Inv.kIn (I:Inv X pins σ H s):X.K.In s.heap:=I.ok.mod.kin.keeps I.bk
def Inv.lt (I:Inv X pins σ H s):X.env.locals<s.heap.objs.size:=let ⟨_,hn,_⟩:=I.loc;hn.lt
def Inv.sz (I:Inv X pins σ H s):X.s₀.heap.objs.size<=s.heap.objs.size:=az I.ok.above (cR I.lt)
def Inv.nofs (I:Inv X pins σ H s){a:Addr}(h:s.heap.objs.size<=a):a∉X.fs:=λq=>by obtain⟨_,o,B,_⟩:=I.ok.funs.mem q;exact absurd (aV (aH B) (az I.sz h)) (cT _)
def Inv.cne (I:Inv X pins σ H s):∀x c,X.env.cells.lookup x=some c->c≠X.env.locals:=λx c e z=>by
 obtain⟨v,o,F,J⟩:=I.cell x c e;obtain⟨m,⟨o',es,ep,q,B,_⟩,_⟩:=I.loc
 grind
def Inv.funs (I:Inv X pins σ H s):s.heap.FunFrames X.base X.outer:=by
 have all:∀ (l:List Env),(∀b∈frs l,b∈X.fs)->X.s₀.heap.FunFrames X.base l->s.heap.FunFrames X.base l:=by
  intro l
  induction l with
  | nil=>intro _ _;trivial
  | cons env r J=>
   intro hs O;obtain⟨U,⟨L,o,q,Y,Z,hd⟩,hr⟩:=O;have B:L∈X.fs:=hs L (by unfold frs;rw[b8,q];exact ak);obtain⟨sl,e⟩:=I.base.slot L o Z (I.ok.frf L B) B λz=>I.ok.exfs L z B;exact⟨U,⟨L,_,q,Y,e,hd⟩,J (λb F=>hs b (by unfold frs;rw[b8,q];exact ai _ F)) hr⟩
 exact all X.outer (λ_ F=>F) I.ok.funs
def Inv.stack (I:Inv X pins σ H s):s.heap.FunFrames X.base X.stack:=by
 rcases I.ok.stk with e | ⟨e,hf⟩
 ·rw[e];exact I.funs
 ·rw[e];obtain⟨m,q,_⟩:=I.loc;refine .cons (by rw[I.ok.kind];decide) hf q ?_ I.funs;exact Heap.get?_none_of_le (az I.ok.bsz I.ok.above)
def Inv.stkSub (I:Inv X pins σ H s):∀b∈frs X.stack,b∈X.env.locals::X.fs:=λb q=>by
 rcases I.ok.stk with e | ⟨e,hf⟩
 ·grind
 ·rw[e] at q;unfold frs at q;rw[b8,hf] at q;exact q
def Inv.stkFree (I:Inv X pins σ H s):∀b∈frs X.stack,H b=none:=λb q=>by
 rcases ay.mp (I.stkSub b q) with e | q
 ·rw[e];exact I.free
 ·obtain⟨_,o,B,_⟩:=I.ok.funs.mem q;exact I.base.free b o B (I.ok.frf b q) λz=>I.ok.exfs b z q
def Inv.step {g':Array GenState}{t':Nat}{d':Drawn}{ch:List Addr}(I:Inv X pins σ H s)
  (F:∀b∈ch,(b∈X.ex\/X.s₀.heap.objs.size<=b)/\b≠X.env.locals/\(∀x c,X.env.cells.lookup x=some c->c≠b)/\∀p∈X.pn++pins,p.1≠b)
  (U:∀b o,b≠X.env.locals->b∉X.fs->b∉ch->s.heap.get? b=some o->H b=none->h'.get? b=some o)
  (Y:∀b o,b≠X.env.locals->b∈X.fs->b∉ch->s.heap.get? b=some o->H b=none->∃sl,h'.get? b=some { o with slots:=sl }) (J:∀b o,b∉ch->s.heap.get? b=some o->H b=none->H' b=none)
  (an:∀b o,b∉ch->s.heap.get? b=some o->∃o',h'.get? b=some o')
  (ad:∀b xs,H b=some (.tup xs)->H' b=some (.tup xs)) (ag:∀b o u,H b=some (.frz o u)->H' b=some (.frz o u)) (a1:∀b ps,H b=some (.tbl ps)->∃more,H' b=some (.tbl (ps++more)))
  (ns:∀m,s.heap.Ns X.env.locals m->h'.Ns X.env.locals m) (as:HOk X.prog X.w H' h') (hg:AllBare g') :
  Inv X pins σ H' { s with heap:=h',gens:=g',drawn:=d',toks:=t' }:=by
 have al:∀b o,X.s₀.heap.get? b=some o->b≠X.env.locals:=λb o e=>a6 (aV (aH e) I.ok.above)
 have Z:∀b o,X.s₀.heap.get? b=some o->b∉X.ex->b∉ch:=λb o e B hb=>by
  rcases (F b hb).1 with z | z
  ·exact B z
  ·exact absurd (aV (aH e) z) (cT _)
 have O:∀x c,X.env.cells.lookup x=some c->∀v,s.heap.IsCell c v->h'.IsCell c v:=by
  rintro x c e v ⟨o,ho,hd⟩;have ac:c∉ch:=λz=>(F c z).2.2.1 x c e rfl;by_cases hc:c∈X.fs
  ·obtain⟨sl,q⟩:=Y c o (I.cne x c e) hc ac ho (I.freeC x c e);exact⟨_,q,hd⟩
  ·exact⟨o,U c o (I.cne x c e) hc ac ho (I.freeC x c e),hd⟩
 refine⟨I.ok,I.os,hg,⟨λb o e n hb B=>?_,λb o e n hb B=>?_,λb o e n B=>?_,λb o e B=>?_,λb xs e=>ad b xs (I.base.tups b xs e),λb o xs e=>ag b o xs (I.base.frzs b o xs e),λb ps e=>?_⟩,?_,λx c e=>?_,?_,λx c e=>?_,λp hp=>?_,as,I.len⟩
 ·exact U b o (al b o e) hb (Z b o e B) (I.base.keep b o e n hb B) (I.base.free b o e n B)
 ·obtain⟨sl,e1⟩:=I.base.slot b o e n hb B;obtain⟨a0,e2⟩:=Y b _ (al b o e) hb (Z b o e B) e1 (I.base.free b o e n B);exact⟨a0,e2⟩
 ·obtain⟨o',e1⟩:=I.base.there b o e B;exact J b o' (Z b o e B) e1 (I.base.free b o e n B)
 ·obtain⟨o',e1⟩:=I.base.there b o e B
  simp_all
 ·obtain⟨m1,e1⟩:=I.base.tbls b ps e
  grind
 ·obtain⟨m,hn,hl⟩:=I.loc;refine⟨m,ns m hn,λi x v e1 e2 e3=>?_⟩;obtain⟨u,r,l⟩:=hl i x v e1 e2 e3;refine⟨u,r,?_⟩;rcases l with l | ⟨k,c,e,z⟩
  ·exact .inl l
  ·exact .inr ⟨k,c,e,O x c e _ z⟩
 ·obtain⟨v,z⟩:=I.cell x c e;exact⟨v,O x c e v z⟩
 ·obtain⟨m,⟨o,_,_,ho,_⟩,_⟩:=I.loc;exact J _ o (λz=>(F _ z).2.1 rfl) ho I.free
 ·obtain⟨v,o,ho,hd⟩:=I.cell x c e;exact J c o (λz=>(F c z).2.2.1 x c e rfl) ho (I.freeC x c e)
 ·obtain⟨e,n,ne,nf,d⟩:=I.pin p hp;have ac:p.1∉ch:=λz=>(F p.1 z).2.2.2 p hp rfl
  simp_all
def Inv.un(I:Inv X pins σ H s)(u:Un X.fs [] H H' s.heap h')(B:HOk X.prog X.w H' h'):Inv X pins σ H' { s with heap:=h',toks:=t' }:=by
 obtain⟨m,⟨o,es,ep,O,r⟩,_⟩:=id I.loc;obtain⟨sl,U⟩:=u.any O I.free (by simp)
 exact I.step (g':=s.gens) (d':=s.drawn) (ch:=[]) (λ_ z=>nomatch z) (λb o _ F _ e n=>u.keep b o e n F (by simp)) (λb o _ F _ e n=>u.slot b o e n F (by simp)) (λb o _ e n=>u.free b o e n (by simp)) (λb o _ e=>u.there b o e (by simp)) u.tups u.frzs u.tbls (λm' Y=>by obtain⟨o',es',J,q,Z⟩:=Y;rw[O] at q;cases q;exact⟨_,es',J,U,Z⟩) B I.bare
def Inv.call(I:Inv X pins σ H s)(u:Un (frs X.stack) ch H H' s.heap h')(J:HOk X.prog X.w H' h')(Z:AllBare g')(B:∀b∈ch,(b∈X.ex\/X.s₀.heap.objs.size<=b)/\b≠X.env.locals/\(∀x c,X.env.cells.lookup x=some c->c≠b)/\∀p∈X.pn++pins,p.1≠b) :
  Inv X pins σ H' { s with heap:=h',gens:=g',drawn:=d',toks:=t' }:=by
 obtain⟨m,⟨o,es,ep,Y,r⟩,_⟩:=id I.loc;obtain⟨sl,O⟩:=u.any Y I.free λz=>(B _ z).2.1 rfl
 exact I.step (ch:=ch) B (λb o O hb q e n=>u.keep b o e n (λz=>(ay.mp (I.stkSub b z)).elim O hb) q) (λb o _ _ q e n=>u.any e n q) (λb o q e n=>u.free b o e n q) (λb o q e=>u.there b o e q) u.tups u.frzs u.tbls (λm' hm=>by obtain⟨o',es',U,F,r'⟩:=hm;rw[Y] at F;cases F;exact⟨_,es',U,O,r'⟩) J Z
def Inv.turned(I:Inv X pins σ H s)(k:∀b o,b≠it->s.heap.get? b=some o->h'.get? b=some o)(J:H it=none)(F:it≠X.env.locals)(h1:it∈X.ex\/X.s₀.heap.objs.size<=it)(h2:∀x c,X.env.cells.lookup x=some c->c≠it)(O:∀p∈X.pn++pins,p.1≠it):Inv X pins σ H { s with heap:=h',toks:=t' }:=by
 have U:∀b u,H b=some u->b≠it:=λb u e z=>by rw[z,J] at e;cases e
 refine I.step (g':=s.gens) (d':=s.drawn) (ch:=[it]) (λb Y=>?_) (λb o _ _ B e _=>k b o (λz=>B (by simp[z])) e) (λb o _ _ B e _=>⟨o.slots,k b o (λz=>B (by simp[z])) e⟩) (λ_ _ _ _ n=>n)
  (λb o B e=>⟨o,k b o (λz=>B (by simp[z])) e⟩) (λ_ _ e=>e) (λ_ _ _ e=>e) (λb ps e=>⟨#[],by rw[e];simp⟩) (λm Z=>?_) (λb u e=>?_) I.bare
 ·have e:b=it:=by simpa using Y
  subst e;exact⟨h1,F,h2,O⟩
 ·obtain⟨o,es,ep,ho,r⟩:=Z;exact⟨o,es,ep,k _ o (Ne.symm F) ho,r⟩
 ·refine (I.hok b u e).stay (λc v B q=>k c v ?_ q) (λ_ q=>q) λ_ _ q=>q
  grind
def Inv.tok (I:Inv X pins σ H s)(t:Nat):Inv X pins σ H { s with toks:=t }:=I.un (h':=s.heap) (t':=t) Un.refl I.hok
def Inv.kept(I:Inv X pins σ H s)(k:∀b u,s.heap.get? b=some u->h'.get? b=some u):Inv X pins σ H { s with heap:=h',toks:=t' }:=I.un (Un.kept k) (I.hok.kept k)
def Inv.laid{a:Addr}(I:Inv X pins σ H s)(k:∀b u,s.heap.get? b=some u->h'.get? b=some u)(hp:s.heap.objs.size<=a)(q:z8 X.prog X.w (upd H a o) h' a o) :
  Inv X pins σ (upd H a o) { s with heap:=h',toks:=t' }:=I.un (Un.laid k hp (I.hok.fresh hp)) (I.hok.laid k hp q)
def Inv.write(I:Inv X pins σ H s)(F:Mut (H x))(J:e=x\/H e=some (.own x))(k:∀b u,b≠e->s.heap.get? b=some u->h'.get? b=some u)(q:∃u,h'.get? e=some u)(B:z8 X.prog X.w (upd H x o) h' x o):Inv X pins σ (upd H x o) { s with heap:=h',toks:=t' }:=I.un (Un.write F J k q) (I.hok.write F J k q B)
def Inv.pins_of(I:Inv X pins σ H s)(h:∀p∈q,s.heap.get? p.1=some p.2/\H p.1=none/\p.1≠X.env.locals/\p.1∉X.fs/\∀v,p.2.data≠.cell v):Inv X q σ H s:=
 ⟨I.ok,I.os,I.bare,I.base,I.loc,I.cell,I.free,I.freeC,λp hp=>(av.mp hp).elim (λz=>I.pin p (bZ _ z)) (h p),I.hok,I.len⟩
def zgB {N:List Str}(q:N.Nodup){i j:Nat}{x:Str}(a:N[i]?=some x)(b:N[j]?=some x):i=j:=by obtain⟨h1,B⟩:=af.mp a;obtain⟨h2,F⟩:=af.mp b;exact (cD q).mp (B.trans F.symm)
def zeE(I:Inv X pins σ H s)(hN:X.N.Nodup)(hi:X.N[i]?=some x)(J:Loc X.env.scope x)(r:yr v u)(h:∀s',Inv X pins (σ.set i (some v)) H s'->(∃a,Heap.SameBut a s.heap s'.heap/\(a=X.env.locals\/X.env.cells.lookup x=some a))->Q () s')(hf:X.fn x=true\/X.env.scope.names.lookup x=some .local:=by walk_at "l"):wpAny M A (storeName X.env x u) Q E s:=by
 obtain⟨m,hn,hl⟩:=id I.loc;have ad:(X.env.scope.kind==.class || (X.env.scope.kind==.module&&X.env.locals != X.env.globals))=false:=by rw[I.ok.kind];rfl
 have Y:i<σ.length:=by rw[I.len];exact (af.mp hi).1
 have Z:=I.cne
 have B:∀ {a:Addr} {h':Heap},(∃o,s.heap.get? a=some o/\H a=none)->Heap.SameBut a s.heap h'->HOk X.prog X.w H h':=λ{a h'} ha hs b ob e=>by
  obtain⟨_,_,an⟩:=ha;refine (I.hok b ob e).stay (λc w' O q=>(hs.2 c ?_).trans q) (λ_ q=>q) λ_ _ q=>q
  grind
 rcases J with hk | hk
 ·refine wpAny_storeName_local hk hn (λh' as hs=>?_) ad;obtain⟨oL,_,_,a0,_⟩:=id hn;refine h _ ⟨I.ok,I.os,I.bare,⟨λb o e n hb J=>?_,λb o e n hb J=>?_,I.base.free,λb o e J=>?_,I.base.tups,I.base.frzs,I.base.tbls⟩,⟨_,as,λj y v' F U e3=>?_⟩,λy c e=>?_,I.free,I.freeC,λp hp=>?_,B ⟨oL,a0,I.free⟩ hs,by simpa using I.len⟩ ⟨_,hs,.inl rfl⟩
  ·exact (hs.2 b (a6 (aV (aH e) I.ok.above))).trans (I.base.keep b o e n hb J)
  ·obtain⟨sl,F⟩:=I.base.slot b o e n hb J;exact⟨sl,(hs.2 b (a6 (aV (aH e) I.ok.above))).trans F⟩
  ·obtain⟨o',F⟩:=I.base.there b o e J;exact⟨o',(hs.2 b (a6 (aV (aH e) I.ok.above))).trans F⟩
  ·by_cases hj:j=i
   ·subst hj;rw[hi] at F;cases F;rw[aZ Y] at U;cases U;exact⟨u,r,.inl ⟨hk,by simp⟩⟩
   ·rw[aB (Ne.symm hj)] at U;obtain⟨u',r',q⟩:=hl j y v' F U e3;refine⟨u',r',?_⟩;rcases q with ⟨k,e⟩ | ⟨k,c,e,z⟩
    ·refine .inl ⟨k,?_⟩;have:y≠x:=λe=>hj (zgB hN F (e ▸ hi));simp[this,e]
    ·exact .inr ⟨k,c,e,z.sameBut hs (Z y c e)⟩
  ·obtain⟨w',z⟩:=I.cell y c e;exact⟨w',z.sameBut hs (Z y c e)⟩
  ·obtain⟨e,n,ne,nf,d⟩:=I.pin p hp;exact⟨(hs.2 p.1 ne).trans e,n,ne,nf,d⟩
 ·have ac:X.fn x=true:=by
   grind
  obtain⟨c,O⟩:=I.ok.has x (.inl hk);obtain⟨w',z⟩:=I.cell x c O;refine wpAny_storeName_cell I.ok.kind hk O z (λh' ag hs=>?_);obtain⟨oc,a1,a2⟩:=id z;refine h { s with heap:=h' } ⟨I.ok,I.os,I.bare,⟨λb o e n hb J=>?_,λb o e n hb J=>?_,I.base.free,λb o e J=>?_,I.base.tups,I.base.frzs,I.base.tbls⟩,⟨m,hn.sameBut hs (Ne.symm (Z x c O)),λj y v' F U e3=>?_⟩,λy c' e=>?_,I.free,I.freeC,λp hp=>?_,B ⟨oc,a1,I.freeC x c O⟩ hs,by simpa using I.len⟩ ⟨c,hs,.inr O⟩
  ·exact (hs.2 b (a6 (aV (aH e) (I.ok.cab x c ac O)))).trans (I.base.keep b o e n hb J)
  ·obtain⟨sl,F⟩:=I.base.slot b o e n hb J;exact⟨sl,(hs.2 b (a6 (aV (aH e) (I.ok.cab x c ac O)))).trans F⟩
  ·obtain⟨o',F⟩:=I.base.there b o e J;exact⟨o',(hs.2 b (a6 (aV (aH e) (I.ok.cab x c ac O)))).trans F⟩
  ·by_cases hj:j=i
   ·subst hj;rw[hi] at F;cases F;rw[aZ Y] at U;cases U;exact⟨u,r,.inr ⟨.inl hk,c,O,ag⟩⟩
   ·rw[aB (Ne.symm hj)] at U;obtain⟨u',r',q⟩:=hl j y v' F U e3;refine⟨u',r',?_⟩;rcases q with q | ⟨k,c',e,z'⟩
    ·exact .inl q
    ·refine .inr ⟨k,c',e,z'.sameBut hs ?_⟩;rintro rfl;exact hj (zgB hN F (I.ok.inj _ _ _ e O ▸ hi))
  ·by_cases al:c'=c
   ·subst al;exact⟨_,ag⟩
   ·obtain⟨w2,z2⟩:=I.cell y c' e;exact⟨w2,z2.sameBut hs al⟩
  ·obtain⟨e,n,ne,nf,d⟩:=I.pin p hp;refine⟨(hs.2 p.1 ?_).trans e,n,ne,nf,d⟩;intro q
   simp_all
def zgS(I:Inv X pins σ H s)(q:X.N.Nodup)(hi:X.N[i]?=some x)(B:Loc X.env.scope x)(r:yr v u)(h:∀s',Inv X pins (σ.set i (some v)) H s'->Q () s')(F:X.fn x=true\/X.env.scope.names.lookup x=some .local:=by walk_at "l"):wpAny M A (storeName X.env x u) Q E s:=
 zeE I q hi B r (λs' I' _=>h s' I') F
def Inv.call'(I:Inv X pins σ H s)(F:s'.os=s.os)(u:Un (frs X.stack) ch H H' s.heap s'.heap)(q:HOk X.prog X.w H' s'.heap)(J:AllBare s'.gens)(B:∀b∈ch,(b∈X.ex\/X.s₀.heap.objs.size<=b)/\b≠X.env.locals/\(∀x c,X.env.cells.lookup x=some c->c≠b)/\∀p∈X.pn++pins,p.1≠b):Inv X pins σ H' s':=by
 obtain⟨h',g',d',t',o'⟩:=s';have e:o'=s.os:=F;subst e;exact I.call (g':=g') (t':=t') (d':=d') u q J B
end
abbrev XK:=Value->Option Addr->Hp->Prop
abbrev St:=List (Option V)
abbrev VK:=V->Hp->Prop
abbrev TE:=St->Hp->VK->Prop
abbrev TT:=St->Hp->(Bool->Hp->Prop)->Prop
abbrev TA:=St->Hp->(List V->Hp->Prop)->Prop
structure Ends where
 nx:St->Hp->Prop
 rt:VK
 bk:St->Hp->Prop:=λ_ _=>False
 ct:St->Hp->Prop:=λ_ _=>False
abbrev TS:=Ends->St->Hp->Prop
def EP (X:Cx)(pins:List (Addr×Obj))(σ:St)(Q:VK)(u:Value)(s':Shared):Prop:=∃v H',Inv X pins σ H' s'/\yr v u/\Q v H'
def TP (X:Cx)(pins:List (Addr×Obj))(σ:St)(Q:Bool->Hp->Prop)(b:Bool)(s':Shared):Prop:=∃H',Inv X pins σ H' s'/\Q b H'
def AP (X:Cx)(pins:List (Addr×Obj))(σ:St)(Q:List V->Hp->Prop)(q:List Value)(s':Shared):Prop:=∃vs H',Inv X pins σ H' s'/\yn vs q/\Q vs H'
def SP (X:Cx)(pins:List (Addr×Obj))(D:Ends)(f:Flow)(s':Shared):Prop:=
 match f with
 | .next=>∃ q H',Inv X pins q H' s'/\D.nx q H'
 | .brk=>∃ q H',Inv X pins q H' s'/\D.bk q H'
 | .cont=>∃ q H',Inv X pins q H' s'/\D.ct q H'
 | .ret u=>∃v q H',Inv X pins q H' s'/\yr v u/\D.rt v H'
def PE (X:Cx)(e:Expr)(t:TE):Prop:=
 ∀ (pins:List (Addr×Obj)) (s:Shared) (σ:St) (H:Hp) (Q:VK),Inv X pins σ H s->t σ H Q->wpAny (model X.prog X.w) X.A (eval e X.env) (EP X pins σ Q) X.xe s
def PT (X:Cx)(e:Expr)(t:TT):Prop:=
 ∀ (pins:List (Addr×Obj)) (s:Shared) (σ:St) (H:Hp) (Q:Bool->Hp->Prop),Inv X pins σ H s->t σ H Q->wpAny (model X.prog X.w) X.A (isTrue e X.env (eval e X.env)) (TP X pins σ Q) X.xe s
def PW (X:Cx)(e:Expr)(t:TT):Prop:=
 ∀ (q:Sem Value) (pins:List (Addr×Obj)) (s:Shared) (σ:St) (H:Hp) (Q:Bool->Hp->Prop),Inv X pins σ H s->t σ H Q->wpAny (model X.prog X.w) X.A (isTrue e X.env q) (TP X pins σ Q) X.xe s
def PW.pt(h:PW X e t):PT X e t:=h _
def PA (X:Cx)(es:List Expr)(t:TA):Prop:=
 ∀ (pos:Pos) (pins:List (Addr×Obj)) (s:Shared) (σ:St) (H:Hp) (Q:List V->Hp->Prop),Inv X pins σ H s->t σ H Q->wpAny (model X.prog X.w) X.A (spliced (backTo pos (starEach es X.env))) (AP X pins σ Q) X.xe s
def PS (X:Cx)(st:Stmt)(t:TS):Prop:=
 ∀ (pins:List (Addr×Obj)) (s:Shared) (σ:St) (H:Hp) (D:Ends),Inv X pins σ H s->t D σ H->wpAny (model X.prog X.w) X.A (exec st X.env) (SP X pins D) X.xe s
def PSs (X:Cx)(st:List Stmt)(t:TS):Prop:=
 ∀ (pins:List (Addr×Obj)) (s:Shared) (σ:St) (H:Hp) (D:Ends),Inv X pins σ H s->t D σ H->wpAny (model X.prog X.w) X.A (execs st X.env) (SP X pins D) X.xe s
def thn{α:Type}{t:Sem α}{Q Q':α->Shared->Prop}(h:wpAny M A t Q E s)(q:∀a s,Q a s->Q' a s):wpAny M A t Q' E s:=aC h q λ_ _ x=>x
section
variable {X:Cx}
def zlR (i:Nat):TE:=λσ H Q=>∃v,σ[i]?=some (some v)/\Q v H
def tC (v:V):TE:=λ_ H Q=>Q v H
def zmD {i:Nat}{x:Str}{pos:Pos}(J:X.N[i]?=some x)(O:Vis X.env.scope x)(B:(x==("__debug__" : Str))=false:=by decide)(F:(x==("__classdict__" : Str))=false:=by decide):PE X (.Name x pos) (zlR i):=by
 intro pins s σ H Q I h;obtain⟨v,e,h⟩:=h;obtain⟨m,U,Y⟩:=I.loc;obtain⟨u,r,l⟩:=Y i x v J e O;have fin:EP X pins σ Q u s:=⟨v,H,I,r,h⟩;rcases l with ⟨q,hm⟩ | ⟨q,c,hc,hcell⟩
 ·exact wpAny_Name (wpAny_loadName_local I.ok.kind q U hm fin) B
 ·rcases q with q | q
  ·exact wpAny_Name (wpAny_loadName_cell I.ok.kind q hc hcell fin) B
  ·exact wpAny_Name (wpAny_loadName_free I.ok.kind q hc hcell fin F) B
def zqT {i j pos}:PE X (.Constant (.int i) j pos) (tC (.int i)):=λ_ _ _ H _ I h=>wpAny_Constant_int ⟨.int i,H,I.tok _,⟨_,rfl⟩,h⟩
def ztS {b j pos}:PE X (.Constant (.bool b) j pos) (tC (.bl b)):=λ_ _ _ H _ I h=>Constant_bool ⟨.bl b,H,I,rfl,h⟩
def zqU {x j pos}:PE X (.Constant (.str x) j pos) (tC (.str x)):=λ_ _ _ H _ I h=>Calls.Constant_str ⟨.str x,H,I.tok _,⟨_,rfl⟩,h⟩
def Gl (X:Cx)(x:Str):Prop:=X.env.kindOf x=some .globalImplicit
def ziP{E:Value->Shared->Prop}{pins:List (Addr×Obj)}{s:Shared}{σ:St}{H:Hp}{x:Str}{u:Value}{Q:Value->Shared->Prop}(I:Inv X pins σ H s)(q:Gl X x)(B:X.mg x=some u)(h:Q u s)(F:(x==("__debug__" : Str))=false:=by decide):wpAny (model X.prog X.w) X.A (eval (.Name x pos) X.env) Q E s:=
 Calls.Name_function_global I.ok.kind q (Calls.loadGlobal_global (by rw[I.ok.glob];exact I.mod.glob.keeps I.bk) B h) F
def zgq {E:Value->Shared->Prop}{pins:List (Addr×Obj)}{s:Shared}{σ:St}{H:Hp}{x:Str}{u:Value}{pos:Pos}{Q:Value->Shared->Prop}(I:Inv X pins σ H s)(q:Gl X x)(B:X.mg x=none)(F:bootBuiltins x=some u)(h:Q u s)
  (J:x ≠ "__name__" := by decide) (O:(x==("__debug__" : Str))=false:=by decide):wpAny (model X.prog X.w) X.A (eval (.Name x pos) X.env) Q E s:=by
 obtain⟨U,h1,h2⟩:=I.mod.blt;exact Calls.Name_function_global I.ok.kind q (Calls.loadGlobal_builtin (by rw[I.ok.glob];exact I.mod.glob.keeps I.bk) B (by rw[I.ok.blt];exact h1.keeps I.bk) ((h2 x J).trans F) h) O
def zoj(q:Gl X x)(B:X.mg x=some u)(r:yr v u)(F:(x==("__debug__" : Str))=false:=by decide):PE X (.Name x pos) (tC v):=
 λ_ _ _ H _ I h=>ziP I q B ⟨v,H,I,r,h⟩ F
variable {a b:Expr}{ta tb:TE}{pos:Pos}
def PC (X:Cx)(op:CmpOp)(a b:Expr)(t:TE):Prop:=
 ∀ (pins:List (Addr×Obj)) (s:Shared) (σ:St) (H:Hp) (Q:VK),Inv X pins σ H s->t σ H Q->
  wpAny (model X.prog X.w) X.A (eval a X.env) (λv q=>wpAny (model X.prog X.w) X.A (eval b X.env) (λu B=>wpAny (model X.prog X.w) X.A (compareOp op v u) (EP X pins σ Q) X.xe B) X.xe q) X.xe s
def zgA(b:Expr)(h:op≠.In)(h2:op≠.NotIn):behindInMarks op b=false:=by
 have q:(op==CmpOp.In)=false:=by cases op <;> first | rfl | exact absurd rfl h
 have B:(op==CmpOp.NotIn)=false:=by cases op <;> first | rfl | exact absurd rfl h2
 cases b <;> simp[behindInMarks,q,B]
def zug (ta:TE):TE:=λσ H Q=>ta σ H λx H1=>Q (.bl (decide (x = .non))) H1
def yr.none_iff(r:yr x v):(v==Value.none)=decide (x = .non):=by
 cases x with
 | non=>cases r;rfl
 | bl _=>cases r;rfl
 | int _=>obtain⟨t,rfl⟩:=r;rfl
 | str _=>obtain⟨t,rfl⟩:=r;rfl
 | byt _=>obtain⟨t,rfl⟩:=r;rfl
 | flt _=>obtain⟨t,rfl⟩:=r;rfl
 | ref _=>cases r;rfl
 | ty _=>cases r;rfl
def zqR {j pos'}(q:PE X a ta):PC X .Is a (.Constant .none j pos') (zug ta):=by intro pins s σ H Q I h;refine thn (q pins s σ H _ I h)  ?_;rintro v J ⟨x,H1,I1,B,F⟩;exact Constant_none (is_none_gen ⟨.bl _,H1,I1,by rw[B.none_iff];rfl,F⟩)
def tB (t:TE):TT:=λσ H Q=>t σ H λx H1=>∃c,x = .bl c/\Q c H1
def zq7(h:PC X op a b t)(h1:behindInMarks op b=false:=by first | exact zgA _ (by decide) (by decide) | rfl):PT X (.Compare a [op] [b] pos) (tB t):=by intro pins s σ H Q I B;refine wpAny_isTrue_Compare1 (thn (h pins s σ H _ I B) λv O h1=>thn h1 λu U h2=>thn h2 λc Y ⟨x,H1,I1,F,J⟩=>?_) h1;obtain⟨d,rfl,q⟩:=J;cases F;exact eu ⟨H1,I1,q⟩
def zq9(h:PE X e t)(he:∀whole,isTrue e X.env whole=(do let v <- whole;standAt e.pos;holding [v] (truthy v)):=by intro _;rfl):PT X e (tB t):=by intro pins s σ H Q I hw;refine isTrue_plain (thn (h pins s σ H _ I hw) λv s1 ⟨x,H1,I1,r1,q1⟩=>?_) (he _);obtain⟨d,rfl,q⟩:=q1;cases r1;exact eu ⟨H1,I1,q⟩
variable {tA tB':TT}{zw:List Expr}
def zub (t u:TT):TT:=λσ H Q=>t σ H λc H1=>if c=true then u σ H1 Q else Q false H1
def tOr (t u:TT):TT:=λσ H Q=>t σ H λc H1=>if c=true then Q true H1 else u σ H1 Q
def tNot (t:TT):TT:=λσ H Q=>t σ H λc H1=>Q (!c) H1
def zoD (q:PT X a tA):PW X (.BoolOp .And [a] pos) tA:=by
 intro wh pins s σ H Q I h;refine isTrue_and (thn (q pins s σ H Q I h) λc B e=>?_)
 cases c with
 | true=>exact isTrue_and_nil e
 | false=>exact e
def zrb (q:PT X a tA):PW X (.BoolOp .Or [a] pos) tA:=by
 intro wh pins s σ H Q I h;refine isTrue_or (thn (q pins s σ H Q I h) λc B e=>?_)
 cases c with
 | false=>exact isTrue_or_nil e
 | true=>exact e
def zra (B:PT X a tA)(F:PW X (.BoolOp .And (b::zw) pos) tB'):PW X (.BoolOp .And (a::b::zw) pos) (zub tA tB'):=by
 intro wh pins s σ H Q I h;refine isTrue_and (thn (B pins s σ H _ I h)  ?_);rintro c J ⟨H1,I1,q⟩
 cases c with
 | true=>exact F wh pins J σ H1 Q I1 q
 | false=>exact⟨H1,I1,q⟩
def ztZ (B:PT X a tA)(F:PW X (.BoolOp .Or (b::zw) pos) tB'):PW X (.BoolOp .Or (a::b::zw) pos) (tOr tA tB'):=by
 intro wh pins s σ H Q I h;refine isTrue_or (thn (B pins s σ H _ I h)  ?_);rintro c J ⟨H1,I1,q⟩
 cases c with
 | true=>exact⟨H1,I1,q⟩
 | false=>exact F wh pins J σ H1 Q I1 q
def zq8 (q:PT X a tA):PT X (.UnaryOp .Not a pos) (tNot tA):=by intro pins s σ H Q I h;exact isTrue_not (q pins s σ H (λc H1=>Q (!c) H1) I h)
def tIf (t:TT)(ta tb:TE):TE:=λσ H Q=>t σ H λc H1=>if c=true then ta σ H1 Q else tb σ H1 Q
def zlk(F:PT X c tA)(J:PE X a ta)(O:PE X b tb):PE X (.IfExp c a b pos) (tIf tA ta tb):=by
 intro pins s σ H Q I h;refine wpAny_IfExp (thn (F pins s σ H _ I h)  ?_);rintro d q ⟨H1,I1,B⟩
 cases d with
 | true=>exact J pins q σ H1 Q I1 B
 | false=>exact O pins q σ H1 Q I1 B
end
def SqL (K:PySem.W.Frag)(H:Hp)(a:Addr)(xs:List V):Prop:=
 Rd H a (.lst xs)\/
  ∃ (o:Obj) (its:Array Value) (n:Nat),K.lookup a=some o/\o.cls = .type "list" /\ o.dict=none/\o.data = .seq its n/\its.size<=sizeLine/\yn xs its.toList
def SqT (K:PySem.W.Frag)(H:Hp)(a:Addr)(xs:List V):Prop:=
 Rd H a (.tup xs)\/
  ∃ (o:Obj) (its:Array Value) (n:Nat),K.lookup a=some o/\o.cls = .type "tuple" /\ o.data = .seq its n/\its.size<=sizeLine/\yn xs its.toList
def absV:Value->Option V
 | .none=>some .non
 | .bool b=>some (.bl b)
 | .int i _=>some (.int i)
 | .str x _=>some (.str x)
 | .bytes b _=>some (.byt b)
 | .float b _=>some (.flt b)
 | .ref a=>some (.ref a)
 | .type n=>some (.ty n)
 | _=>none
def yr.abs(r:yr x u):absV u=some x:=by
 cases x with
 | non=>cases r;rfl
 | bl _=>cases r;rfl
 | int _=>obtain⟨t,rfl⟩:=r;rfl
 | str _=>obtain⟨t,rfl⟩:=r;rfl
 | byt _=>obtain⟨t,rfl⟩:=r;rfl
 | flt _=>obtain⟨t,rfl⟩:=r;rfl
 | ref _=>cases r;rfl
 | ty _=>cases r;rfl
def yr.inj(r:yr x u)(q:yr y u):x=y:=cj (r.abs.symm.trans q.abs)
def yn.inj:∀ {xs ys:List V} {q:List Value},yn xs q->yn ys q->xs=ys
 | _,_,_,.nil,.nil=>rfl
 | _,_,_,.cons r t,.cons B t'=>by rw[r.inj B,yn.inj t t']
section
variable {X:Cx}{pins:List (Addr×Obj)}{σ:St}{H:Hp}{s:Shared}{a:Addr}{xs ys:List V}
def SqL.of {K:PySem.W.Frag}(h:H a=some (.lst xs)):SqL K H a xs:=.inl (.inl h)
def SqT.of {K:PySem.W.Frag}(h:H a=some (.tup xs)):SqT K H a xs:=.inl (.inl h)
def Inv.list (I:Inv X pins σ H s)(h:SqL X.K H a xs):∃its:List Value,yn xs its/\PlainL s.heap a its.toArray/\xs.length<=sizeLine:=by
 rcases h with h | ⟨o,its,n,hk,hc,hd,hs,hz,r⟩
 ·obtain⟨z,its,n,r,e⟩:=h.ok I.hok;exact⟨its,r,⟨_,n,e,rfl,rfl,rfl⟩,z⟩
 ·refine⟨its.toList,r,⟨o,n,I.kIn a o hk,hc,hd,by simpa using hs⟩,?_⟩;have e:=r.length
  grind
def Inv.tuple (I:Inv X pins σ H s)(h:SqT X.K H a xs):∃its:List Value,yn xs its/\IsTup s.heap a its.toArray/\xs.length<=sizeLine:=by
 rcases h with h | ⟨o,its,n,hk,hc,hs,hz,r⟩
 ·obtain⟨z,its,r,p⟩:=h.ok I.hok;exact⟨its,r,p.tup,z⟩
 ·refine⟨its.toList,r,⟨o,I.kIn a o hk,hc,n,by simpa using hs⟩,?_⟩;have e:=r.length
  grind
def Inv.list_inj (I:Inv X pins σ H s)(h:SqL X.K H a xs)(h':SqL X.K H a ys):xs=ys:=by
 obtain⟨its,r,⟨o,n,e,_,_,d⟩,_⟩:=I.list h;obtain⟨its',B,⟨o',J,q,_,_,d'⟩,_⟩:=I.list h';rw[e] at q;cases q;rw[d] at d';injection d' with F _;have:its=its':=by simpa using congrArg Array.toList F
 subst this;exact r.inj B
def Inv.tuple_inj (I:Inv X pins σ H s)(h:SqT X.K H a xs)(h':SqT X.K H a ys):xs=ys:=by
 obtain⟨its,r,⟨o,e,_,n,d⟩,_⟩:=I.tuple h;obtain⟨its',B,⟨o',q,_,J,d'⟩,_⟩:=I.tuple h';rw[e] at q;cases q;rw[d] at d';injection d' with F _;have:its=its':=by simpa using congrArg Array.toList F
 subst this;exact r.inj B
end
abbrev Cx.wish (X:Cx)(E:Value->Shared->Prop):Cx:={ X with xe:=E }
abbrev Cx.nox (X:Cx):Cx:=X.wish λ_ _=>False
def Cx.Ok.wish {X:Cx}(q:X.Ok)(E:Value->Shared->Prop):(X.wish E).Ok:=
 ⟨q.mod,q.kind,q.glob,q.blt,q.above,q.inj,q.has,q.cab,q.hd,q.frames,q.stk,q.exf,q.bs,q.bsz,q.noex,q.exfs,q.funs,q.frf⟩
def Cx.Ok.unwish{X:Cx}(q:(X.wish E).Ok):X.Ok:=
 ⟨q.mod,q.kind,q.glob,q.blt,q.above,q.inj,q.has,q.cab,q.hd,q.frames,q.stk,q.exf,q.bs,q.bsz,q.noex,q.exfs,q.funs,q.frf⟩
section
variable {X:Cx}{pins:List (Addr×Obj)}{σ:St}{H:Hp}{s:Shared}{E:Value->Shared->Prop}
def Inv.wish (I:Inv X pins σ H s)(E:Value->Shared->Prop):Inv (X.wish E) pins σ H s:=⟨I.ok.wish E,I.os,I.bare,I.base,I.loc,I.cell,I.free,I.freeC,I.pin,I.hok,I.len⟩
def Inv.unwish (I:Inv (X.wish E) pins σ H s):Inv X pins σ H s:=⟨I.ok.unwish,I.os,I.bare,I.base,I.loc,I.cell,I.free,I.freeC,I.pin,I.hok,I.len⟩
def SP.unwish(h:SP (X.wish E) pins D f s'):SP X pins D f s':=by
 cases f with
 | next=>obtain⟨B,H',I,q⟩:=h;exact⟨B,H',I.unwish,q⟩
 | brk=>obtain⟨B,H',I,q⟩:=h;exact⟨B,H',I.unwish,q⟩
 | cont=>obtain⟨B,H',I,q⟩:=h;exact⟨B,H',I.unwish,q⟩
 | ret u=>obtain⟨v,B,H',I,r,q⟩:=h;exact⟨v,B,H',I.unwish,r,q⟩
def PSs.nox{st:List Stmt}(h:PSs X.nox st t):PSs X st t:=λpins s σ H D I B=>
 aC (h pins s σ H D (I.wish _) B) (λ_ _ q=>q.unwish) λ_ _ z=>False.elim z
end
section
variable {X:Cx}{st:Stmt}{zw:List Stmt}{t u:TS}{e:Expr}{te:TE}{pos:Pos}
def zrN:TS:=λD σ H=>D.nx σ H
def zui (t u:TS):TS:=λD σ H=>t { D with nx:=u D } σ H
def zow:PSs X [] zrN:=λ_ _ σ H _ I h=>wpAny_execs_nil ⟨σ,H,I,h⟩
def zlq (h1:PS X st t)(h2:PSs X zw u):PSs X (st::zw) (zui t u):=by
 intro pins s σ H D I h;refine wpAny_execs_cons (thn (h1 pins s σ H { D with nx:=u D } I h) λf F q=>?_)
 cases f with
 | next=>
  obtain⟨B,H',I',q⟩:=q;exact h2 pins F B H' D I' q
 | ret v=>exact q
 | brk=>exact q
 | cont=>exact q
def zox (h1:PS X st t):PSs X [st] t:=by
 intro pins s σ H D I h;refine wpAny_execs_cons (thn (h1 pins s σ H D I h) λf B q=>?_)
 cases f with
 | next=>exact wpAny_execs_nil q
 | ret v=>exact q
 | brk=>exact q
 | cont=>exact q
def Inv.quiet{pins:List (Addr×Obj)}{σ:St}{H:Hp}(I:Inv X pins σ H s):interactive X.env=false:=by simp[interactive,I.ok.kind]
def zpe (te:TE):TS:=λD σ H=>te σ H λ_ H1=>D.nx σ H1
def zov (q:PE X e te)(hs:swapsWith e none pos.line X.env=pure false:=by rfl):PS X (.Expr e pos) (zpe te):=by intro pins s σ H D I h;exact wpAny_Expr_any (thn (q pins s σ H _ I h) <| by rintro v F ⟨x,H1,I1,J,B⟩;exact⟨σ,H1,I1,B⟩) I.quiet hs
def zsz (te:TE):TS:=λD σ H=>te σ H D.rt
def zq5 (q:PE X e te):PS X (.Return (some e) pos) (zsz te):=by intro pins s σ H D I h;exact wpAny_Return_some (thn (q pins s σ H _ I h) <| by rintro v J ⟨x,H1,I1,B,F⟩;exact⟨x,σ,H1,I1,B,F⟩)
def tIfS (c:TT)(t u:TS):TS:=λD σ H=>c σ H λb H1=>if b=true then t D σ H1 else u D σ H1
def ztY(F:PT X c tc)(J:PSs X a t)(O:PSs X b u):PS X (.If c a b pos) (tIfS tc t u):=by
 intro pins s σ H D I h;refine wpAny_If (thn (F pins s σ H _ I h)  ?_);rintro d q ⟨H1,I1,B⟩
 cases d with
 | true=>exact J pins q σ H1 D I1 B
 | false=>exact O pins q σ H1 D I1 B
end
abbrev TG:=V->St->Hp->(St->Hp->Prop)->Prop
abbrev TGs:=List V->St->Hp->(St->Hp->Prop)->Prop
def PG (X:Cx)(q:Expr)(t:TG):Prop:=
 ∀ (pins:List (Addr×Obj)) (s:Shared) (σ:St) (H:Hp) (v:V) (u:Value) (Q:St->Hp->Prop),Inv X pins σ H s->yr v u->t v σ H Q->
  wpAny (model X.prog X.w) X.A (assign q X.env u) (λ_ s'=>∃ B H',Inv X pins B H' s'/\Q B H') X.xe s
def PGs (X:Cx)(ts:List Expr)(t:TGs):Prop:=
 ∀ (pins:List (Addr×Obj)) (s:Shared) (σ:St) (H:Hp) (vs:List V) (B:List Value) (Q:St->Hp->Prop),Inv X pins σ H s->yn vs B->t vs σ H Q->
  wpAny (model X.prog X.w) X.A (assignInOrder ((assignEach ts X.env).map (·.2)) B) (λ_ s'=>∃ q H',Inv X pins q H' s'/\Q q H') X.xe s
section
variable {X:Cx}{pos:Pos}
def zbl (i:Nat):TG:=λv σ H Q=>Q (σ.set i (some v)) H
def zon(q:X.N.Nodup)(hi:X.N[i]?=some x)(B:Loc X.env.scope x)(F:X.fn x=true\/X.env.scope.names.lookup x=some .local:=by walk_at "l"):PG X (.Name x pos) (zbl i):=by intro pins s σ H v u Q I r h;exact wpAny_assign_Name (zgS I q hi B r (λs' I'=>⟨_,H,I',h⟩) F)
def gNil:TGs:=λvs σ H Q=>vs=[]/\Q σ H
def zp8 (t:TG)(u:TGs):TGs:=λvs σ H Q=>∃v r,vs=v::r/\t v σ H λq H'=>u r q H' Q
def zoo:PGs X [] gNil:=by intro pins s σ H vs q Q I r h;obtain⟨e,h⟩:=h;subst e;cases r;exact assignInOrder_nil ⟨σ,H,I,h⟩
def zln(h1:PG X e t)(h2:PGs X es u)(hs:(assignEach (e::es) X.env).map (·.2)=assign e X.env::(assignEach es X.env).map (·.2):=by rfl):PGs X (e::es) (zp8 t u):=by
 intro pins s σ H vs U Q I r h;obtain⟨v,Y,B,h⟩:=h;subst B
 cases r with
 | cons r F=>
  rw[hs];refine assignInOrder_cons (thn (h1 pins s σ H _ _ _ I r h)  ?_);rintro _ J ⟨q,H1,I1,O⟩;exact h2 pins J q H1 _ _ Q I1 F O
def zta (K:PySem.W.Frag)(n:Nat)(t:TGs):TG:=λv σ H Q=>∃a xs,v = .ref a/\SqT K H a xs/\xs.length=n/\t xs σ H Q
def zq1 {es:List Expr}{k:Nat}{t:TGs}{n:Nat}(J:X.calm=true)(h:PGs X es t)
  (O:(assignEach es X.env).length=n:=by rfl) (q:(assignEach es X.env).findIdx? (·.1)=none:=by rfl):PG X (.Tuple es k pos) (zta X.K n t):=by
 intro pins s σ H v u Q I r B;obtain⟨a,xs,U,Y,Z,B⟩:=B;subst U;cases r;obtain⟨its,F,ht,hz⟩:=I.tuple Y;refine assign_Tuple_tuple (I.ok.hd J) ht (by simp[O,<- Z,F.length]) q λh' hx=>?_;have I1:Inv X pins σ H { s with heap:=h' }:=I.kept (t':=s.toks) λb o e=>hx b o (a6 (aH e)) e;exact h pins _ σ H xs _ Q I1 (by simpa using F) B
def zhx (te:TE)(g:TG):TS:=λD σ H=>te σ H λx H1=>g x σ H1 D.nx
def zq3(B:PE X e te)(F:PG X tg g)(hs:swapsWithSole [tg] e pos.line X.env=pure false:=by rfl)(J:swappedStores [tg] e X.env=pure none:=by rfl)(h1:(assignEach [tg] X.env).map (·.2)=[assign tg X.env]:=by rfl):PS X (.Assign [tg] e pos) (zhx te g):=by
 intro pins s σ H D I h;refine wpAny_Assign_stores (thn (B pins s σ H _ I h) λv O ⟨x,H1,I1,U,Y⟩=>?_) hs J;rw[h1];exact thn (F pins O σ H1 x v _ I1 U Y) λ_ Z q=>q
def zq6(q:X.N.Nodup)(hi:X.N[i]?=some x)(B:Loc X.env.scope x)(F:PE X e te)(hs:swapsWith e (some (.Name x pos')) pos.line X.env=pure false:=by rfl)(J:X.fn x=true\/X.env.scope.names.lookup x=some .local:=by walk_at "l") :
  PS X (.Assign [.Name x pos'] e pos) (zhx te (zbl i)):=by
 intro pins s σ H D I h;refine wpAny_Assign_Name (thn (F pins s σ H _ I h) λv Y ⟨y,H1,I1,O,U⟩=>?_) hs;exact zgS I1 q hi B O (λZ I2=>⟨_,H1,I2,U⟩) J
end
section
variable {X:Cx}{pos:Pos}
end
structure It where
 go:Nat->Hp->Prop
 yld:Nat->Hp->V->Hp->Prop
 stop:Nat->Hp->Prop
def zeS (X:Cx)(pins:List (Addr×Obj))(H:Hp)(b:Addr):Prop:=
 H b=none/\b≠X.env.locals/\b∉X.fs/\(b∈X.ex\/X.s₀.heap.objs.size<=b)/\(∀x c,X.env.cells.lookup x=some c->c≠b)/\∀p∈X.pn++pins,p.1≠b
def Inv.fpOk {X:Cx}{pins:List (Addr×Obj)}{σ:St}{H H':Hp}{s:Shared}{b:Addr}(I:Inv X pins σ H s)(B:s.heap.objs.size<=b)(F:H' b=none):zeS X pins H' b:=by
 refine⟨F,Nat.ne_of_gt (aV I.lt B),I.nofs B,.inr (az I.sz B),λx c e z=>?_,λp hp z=>?_⟩
 ·obtain⟨v,q⟩:=I.cell x c e;exact absurd (aV q.lt (by rw[z];exact B)) (cT _)
 ·exact absurd (aV (aH (I.pin p hp).1) (by rw[z];exact B)) (cT _)
structure Turn (P:Program)(w:World)(K:PySem.W.Frag)(tg:Expr)(J:It)(fp:List Addr)(it:Addr)(tn:Nat->Heap->Prop):Prop where
 mem:it∈fp
 obj:∀i h,tn i h->∀b∈fp,∃o,h.get? b=some o/\∀v,o.data≠.cell v
 keep:∀i h h',tn i h->(∀b∈fp,∀o,h.get? b=some o->h'.get? b=some o)->tn i h'
 item:∀ (X:Cx),X.prog=P->X.w=w->X.K=K->X.calm=true->∀ (i:Nat) (pins:List (Addr×Obj)) (s:Shared) (σ:St) (H:Hp) (E:Value->Shared->Prop),Inv X pins σ H s->(∀b∈fp,zeS X pins H b)->tn i s.heap->J.go i H->
  wpAny (model P w) X.A (pyNext (.ref it)) (λr s1=>∃u,r=some u/\
   wpAny (model P w) X.A (letOwnedTupleGo tg (.ref it) u) (λ_ s2=>∃x H',Inv X pins σ H' s2/\yr x u/\J.yld i H x H'/\tn (i+1) s2.heap/\∀b∈fp,H' b=none) E s1) E s
 done:∀ (X:Cx),X.prog=P->X.w=w->X.K=K->X.calm=true->∀ (i:Nat) (pins:List (Addr×Obj)) (s:Shared) (σ:St) (H:Hp) (E:Value->Shared->Prop),Inv X pins σ H s->(∀b∈fp,zeS X pins H b)->tn i s.heap->J.stop i H->
  wpAny (model P w) X.A (pyNext (.ref it)) (λr s1=>r=none/\Inv X pins σ H s1) E s
 self:∀ (A:Around) (i:Nat) (s:Shared) (Q:Value->Shared->Prop) (E:Value->Shared->Prop),tn i s.heap->Q (.ref it) s->wpAny (model P w) A (pyIter (.ref it)) Q E s
abbrev TI:=St->Hp->(It->Hp->Prop)->Prop
def PIE (X:Cx)(pins:List (Addr×Obj))(σ:St)(tg:Expr)(R:It->Hp->Prop)(q:Value)(B:Shared):Prop:=
 ∃ (it:Addr) (F:List Addr) (I:Nat->Heap->Prop) (J:It) (H':Hp),q = .ref it/\Inv X pins σ H' B/\Turn X.prog X.w X.K tg J F it I/\I 0 B.heap/\(∀b∈F,zeS X pins H' b)/\R J H'
def PI (X:Cx)(tg iter:Expr)(wi:TI):Prop:=
 ∀ (pins:List (Addr×Obj)) (s:Shared) (σ:St) (H:Hp) (R:It->Hp->Prop),Inv X pins σ H s->wi σ H R->
  wpAny (model X.prog X.w) X.A (eval iter X.env) (λv q=>wpAny (model X.prog X.w) X.A (pyIter v) (PIE X pins σ tg R) X.xe q) X.xe s
def zkH(B:s.heap.get? it=some o)(F:o.cls = .type n)(I:o.data = .fields vs)(J:["enumerate","zip","dict_itemiterator","dict_reverseitemiterator","odict_iterator","itertools.zip_longest","itertools.pairwise"].contains n=false)(q:Q () s):wpAny M A (letOwnedTupleGo tg (.ref it) u) Q E s:=by
 unfold letOwnedTupleGo
 cases tg <;> first
  | exact ae q
  | (cases u <;> first
    | exact ae q
    | (refine aa (wpAny_load B ?_)
       rw[F,I];show wpAny M A (if (["enumerate","zip","dict_itemiterator","dict_reverseitemiterator","odict_iterator","itertools.zip_longest","itertools.pairwise"].contains n&&vs[0]?==some (rawInt _))=true then _ else _) Q E s;rw[if_neg (by lia)];exact ae q))
def Itl (K:PySem.W.Frag)(a:Addr):It:=
 ⟨λi H=>∃xs x,SqL K H a xs/\xs[i]?=some x,λi H x H'=>H'=H/\∀xs,SqL K H a xs->xs[i]?=some x,λi H=>∃xs,SqL K H a xs/\xs.length<=i⟩
def Itt (K:PySem.W.Frag)(a:Addr):It:=
 ⟨λi H=>∃xs x,SqT K H a xs/\xs[i]?=some x,λi H x H'=>H'=H/\∀xs,SqT K H a xs->xs[i]?=some x,λi H=>∃xs,SqT K H a xs/\xs.length<=i⟩
def Itr (lo:Int)(n:Nat):It:=⟨λi _=>i<n,λi H x H'=>H'=H/\x = .int (lo+i),λi _=>n<=i⟩
def zkb{P:Program}{w:World}{K:PySem.W.Frag}(a it:Addr):Turn P w K tg (Itl K a) [it] it (λi h=>h.IsListIter it a i) where
 mem:=by simp
 obj:=λi h st b q=>by
  have e:b=it:=by simpa using q
  subst e;obtain⟨o,e,c,d⟩:=st
  simp_all
 keep:=λi h h' st k=>st.at λo e=>k it (by simp) o e
 item:=by intro X O U Y hc i pins s σ H E I F st Z;subst O U Y;obtain⟨xs,x,J,hx⟩:=Z;obtain⟨its,rv,p,hz⟩:=I.list J;obtain⟨u,hu,ru⟩:=rv.get hx;obtain⟨f0,f1,f2,f3,f4,f5⟩:=F it (by simp);refine wpAny_pyNext_list_item st p.isList (x:=u) (by simpa using hu) λh' B sb=>?_;have I1:Inv X pins σ H { s with heap:=h' }:=I.turned (t':=s.toks) (λb o q e=>(sb.2 b q).trans e) f0 f1 f3 f4 f5;obtain⟨o,e,c,d⟩:=id B;exact⟨u,rfl,zkH (s:={ s with heap:=h' }) e c d (by decide) ⟨x,H,I1,ru,⟨rfl,λys hy=>by rw[I.list_inj hy J];exact hx⟩,B,λb q=>(F b q).1⟩⟩
 done:=by intro X O U Y hc i pins s σ H E I F st Z;subst O U Y;obtain⟨xs,J,hx⟩:=Z;obtain⟨its,rv,p,hz⟩:=I.list J;obtain⟨f0,f1,f2,f3,f4,f5⟩:=F it (by simp);have hl:=rv.length;exact wpAny_pyNext_list_end (I.ok.hd hc) st p.isList (by simp;lia) λh' eb=>⟨rfl,I.turned (t':=s.toks) (λb o q e=>eb b o q e) f0 f1 f3 f4 f5⟩
 self:=λ_ _ _ _ _ st h=>wpAny_pyIter_listiter st h
def zhv{P:Program}{w:World}{K:PySem.W.Frag}(a it:Addr):Turn P w K tg (Itt K a) [it] it (λi h=>h.IsTupleIter it a i) where
 mem:=by simp
 obj:=λi h st b q=>by
  have e:b=it:=by simpa using q
  subst e;obtain⟨o,e,c,d⟩:=st
  simp_all
 keep:=λi h h' st k=>st.at λo e=>k it (by simp) o e
 item:=by intro X O U Y hc i pins s σ H E I F st Z;subst O U Y;obtain⟨xs,x,J,hx⟩:=Z;obtain⟨its,rv,p,hz⟩:=I.tuple J;obtain⟨u,hu,ru⟩:=rv.get hx;obtain⟨f0,f1,f2,f3,f4,f5⟩:=F it (by simp);refine wpAny_pyNext_tuple_item st (show s.heap.IsTuple a its.toArray from p) (x:=u) (by simpa using hu) λh' B sb=>?_;have I1:Inv X pins σ H { s with heap:=h' }:=I.turned (t':=s.toks) (λb o q e=>(sb.2 b q).trans e) f0 f1 f3 f4 f5;obtain⟨o,e,c,d⟩:=id B;exact⟨u,rfl,zkH (s:={ s with heap:=h' }) e c d (by decide) ⟨x,H,I1,ru,⟨rfl,λys hy=>by rw[I.tuple_inj hy J];exact hx⟩,B,λb q=>(F b q).1⟩⟩
 done:=by intro X O U Y hc i pins s σ H E I F st Z;subst O U Y;obtain⟨xs,J,hx⟩:=Z;obtain⟨its,rv,p,hz⟩:=I.tuple J;obtain⟨f0,f1,f2,f3,f4,f5⟩:=F it (by simp);have hl:=rv.length;exact wpAny_pyNext_tuple_end (I.ok.hd hc) st (show s.heap.IsTuple a its.toArray from p) (by simp;lia) λh' eb=>⟨rfl,I.turned (t':=s.toks) (λb o q e=>eb b o q e) f0 f1 f3 f4 f5⟩
 self:=λ_ _ _ _ _ st h=>wpAny_pyIter_tupleiter st h
def zhu{P:Program}{w:World}{K:PySem.W.Frag}(it:Addr)(lo:Int)(n:Nat):Turn P w K tg (Itr lo n) [it] it (λi h=>IsRangeIter h it (lo+(i:Nat) * 1) ((n:Int) - (i:Nat)) 1) where
 mem:=by simp
 obj:=λi h st b q=>by simp_all
 keep:=λi h h' st k=>k it (by simp) _ st
 item:=by intro X J O U Y i pins s σ H E I F st Z;subst J O U;obtain⟨f0,f1,f2,f3,f4,f5⟩:=F it (by simp);have W:=Walks.range (prog:=X.prog) (w:=X.w) (I.ok.hd Y) it lo 1 n;refine W.item i s _ _ Z st λv h' tk hv B kk=>?_;obtain⟨t,rfl⟩:=hv;have I1:Inv X pins σ H { s with heap:=h',toks:=tk }:=I.turned (λb o q e=>kk b o (by simpa using q) e) f0 f1 f3 f4 f5;refine⟨_,rfl,zkH (s:={ s with heap:=h',toks:=tk }) (n := "range_iterator") B rfl rfl (by decide) ⟨.int (lo+i),H,I1,⟨t,?_⟩,⟨rfl,rfl⟩,B,λb q=>(F b q).1⟩⟩;rw[Int.mul_one]
 done:=by intro X J O U Y i pins s σ H E I F st Z;subst J O U;obtain⟨f0,f1,f2,f3,f4,f5⟩:=F it (by simp);exact wpAny_pyNext_range_end (I.ok.hd Y) st (by have:n<=i:=Z;lia) λh' eb=>⟨rfl,I.turned (t':=s.toks) (λb o q e=>eb b o q e) f0 f1 f3 f4 f5⟩
 self:=λ_ _ _ _ _ st h=>wpAny_pyIter_rangeiter st h
section
variable {X:Cx}{tg:Expr}
def znz (K:PySem.W.Frag)(tl:TE):TI:=λσ H R=>tl σ H λx H1=>∃a,x = .ref a/\(∃xs,SqL K H1 a xs)/\R (Itl K a) H1
def ztc (K:PySem.W.Frag)(tl:TE):TI:=λσ H R=>tl σ H λx H1=>∃a,x = .ref a/\(∃xs,SqT K H1 a xs)/\R (Itt K a) H1
def zoq(F:PE X l tl):PI X tg l (znz X.K tl):=by
 intro pins s σ H R I h;refine thn (F pins s σ H _ I h)  ?_;rintro v B ⟨x,H1,I1,J,O⟩;obtain⟨a,e,⟨xs,U⟩,q⟩:=O;subst e;cases J;obtain⟨its,Z,p,hz⟩:=I1.list U;refine wpAny_pyIter_list p.isList ?_;refine⟨B.heap.objs.size,[B.heap.objs.size],_,_,H1,rfl,I1.kept (t':=B.toks) λb o e=>am _ e,zkb a _,⟨_,aw _ rfl,rfl,rfl⟩,λb Y=>?_,q⟩;have e:b=B.heap.objs.size:=by simpa using Y
 subst e;exact I1.fpOk (ah _) (I1.hok.fresh (ah _))
def zq2(F:PE X l tl):PI X tg l (ztc X.K tl):=by
 intro pins s σ H R I h;refine thn (F pins s σ H _ I h)  ?_;rintro v B ⟨x,H1,I1,J,O⟩;obtain⟨a,e,⟨xs,U⟩,q⟩:=O;subst e;cases J;obtain⟨its,Z,p,hz⟩:=I1.tuple U;refine dP (show B.heap.IsTuple a its.toArray from p) ?_;refine⟨B.heap.objs.size,[B.heap.objs.size],_,_,H1,rfl,I1.kept (t':=B.toks) λb o e=>am _ e,zhv a _,⟨_,aw _ rfl,rfl,rfl⟩,λb Y=>?_,q⟩;have e:b=B.heap.objs.size:=by simpa using Y
 subst e;exact I1.fpOk (ah _) (I1.hok.fresh (ah _))
def zlB{pins:List (Addr×Obj)}{σ:St}{H:Hp}{s:Shared}{R:It->Hp->Prop}{E:Value->Shared->Prop}{lo hi:Int}{t u v:Tok}(I:Inv X pins σ H s)(h1:-(2 ^ 62)<=lo)(h2:lo<2 ^ 62)(B:-(2 ^ 62)<=hi)(F:hi<2 ^ 62)(q:R (Itr lo (hi - lo).toNat) H):wpAny (model X.prog X.w) X.A (pyIter (.ref s.heap.objs.size)) (PIE X pins σ tg R) E { s with heap:=s.heap.push { cls:=.type "range",data:=.fields #[.int lo t,.int hi u,.int 1 v] },toks:=tk }:=by
 refine wpAny_pyIter_range (IsRange.new ..) (small_one h1 h2 B F) ?_;have I1:Inv X pins σ H { s with heap:=s.heap.push { cls:=.type "range",data:=.fields #[.int lo t,.int hi u,.int 1 v] },toks:=tk }:=I.kept λb o e=>am _ e
 refine⟨(s.heap.push { cls:=.type "range",data:=.fields #[.int lo t,.int hi u,.int 1 v] }).objs.size,[(s.heap.push { cls:=.type "range",data:=.fields #[.int lo t,.int hi u,.int 1 v] }).objs.size],_,_,H,rfl,
  I1.kept (t':=tk) λb o e=>am _ e,zhu _ lo (hi - lo).toNat,?_,λb J=>?_,q⟩
 ·have O:lo+((0:Nat):Int) * 1=lo:=by simp
  have U:(((hi - lo).toNat:Nat):Int) - ((0:Nat):Int)=Builtin.Range.rangeSize lo hi 1:=by rw[rangeSize_one];split <;> lia
  show IsRangeIter _ _ (lo+((0:Nat):Int) * 1) ((((hi - lo).toNat:Nat):Int) - ((0:Nat):Int)) 1;rw[O,U];exact aw _ rfl
 ·have e:b=(s.heap.push { cls:=.type "range",data:=.fields #[.int lo t,.int hi u,.int 1 v] }).objs.size:=by simpa using J
  subst e;exact I1.fpOk (ah _) (I1.hok.fresh (ah _))
def zqb (ta:TA):TI:=λσ H R=>ta σ H λvs H1=>∃j:Int,vs=[.int j]/\-(2 ^ 62)<=j/\j<2 ^ 62/\R (Itr 0 j.toNat) H1
def zju(F:Gl X "range")(J:X.mg "range" = none)(O:PA X [a] ta)(hs:starEach [a] X.env=[(false,eval a X.env)]:=by rfl):PI X tg (.Call (.Name "range" p) [a] [] pos) (zqb ta):=by
 intro pins s σ H R I h;refine Call_ (zgq I F J boot_range (dh (thn (O pos pins s σ H _ I h) λus s1 ⟨vs,H1,I1,U,B⟩=>?_) hs rfl));obtain⟨j,e,B,Y,q⟩:=B;subst e
 cases U with
 | cons r Z=>
  cases Z;obtain⟨t,rfl⟩:=r;exact call_range_1 (zlB I1 (by lia) (by lia) B Y (by simpa using q))
def zud (wi:TI)(g:TG)(tb:TS):TS:=λD σ H=>wi σ H λJ H1=>∃W:Nat->Nat->St->Hp->Prop,(∃m,W 0 m σ H1)/\∀i m σ H,W i m σ H->
 (J.stop i H/\D.nx σ H)\/(J.go i H/\∃N:St->Hp->Prop,(∀ q H',N q H'->∃F,F<m/\W (i+1) F q H')/\∀x H',J.yld i H x H'->g x σ H' λB H2=>tb { D with nx:=N,ct:=N,bk:=D.nx } B H2)
def zew (q:List Addr)(h:Heap):List (Addr×Obj):=q.filterMap λb=>(h.get? b).map λo=>(b,o)
def zaR(B:b∈q)(e:h.get? b=some o):(b,o)∈zew q h:=c8.mpr ⟨b,B,by rw[e];rfl⟩
def zjj(hp:p∈zew B h):p.1∈B/\h.get? p.1=some p.2:=by
 obtain⟨b,F,e⟩:=c8.mp hp
 cases q:h.get? b with
 | none=>rw[q] at e;cases e
 | some o=>
  grind
def Inv.pinned {pins:List (Addr×Obj)}{σ:St}{H:Hp}{s:Shared}{q:List Addr}(I:Inv X pins σ H s)(F:∀b∈q,zeS X pins H b)(J:∀b∈q,∃o,s.heap.get? b=some o/\∀v,o.data≠.cell v):Inv X (pins++zew q s.heap) σ H s:=
 I.pins_of λp hp=>(av.mp hp).elim (λz=>I.pin p (aW _ z)) λz=>by
  obtain⟨B,e⟩:=zjj z;obtain⟨O,f1,f2,_⟩:=F p.1 B;obtain⟨o,U,d⟩:=J p.1 B
  simp_all
def Inv.unpinned{pins pl:List (Addr×Obj)}{σ:St}{H:Hp}(I:Inv X (pins++pl) σ H s):Inv X pins σ H s:=I.pins_of λp hp=>I.pin p (aW _ (bZ _ hp))
def zq4(hp:PassesOwn (model X.prog X.w) X.A X.env X.xe)(hc:X.calm=true)(hi:PI X tg iter wi)(hg:PG X tg g)(B:PSs X body tb)(hs:∀x,foldedSetIterable iter X.env x=pure x:=by intro _;rfl):PS X (.For tg iter body [] pos) (zud wi g tb):=by
 intro pins s σ H D I h;refine wpAny_For (thn (hi pins s σ H _ I h) λv s1 h1=>thn h1 λa1 s2 h2=>?_) hs;obtain⟨it,fp,tn,J,H2,e,I2,T,an,f2,W,⟨m0,w0⟩,ad⟩:=h2;subst e;have F:∀ {H':Hp},(∀b∈fp,H' b=none)->∀b∈fp,zeS X pins H' b:=λhn b B=>⟨hn b B,(f2 b B).2⟩;refine codeAny_forLoop_any (λn s'=>∃i O H',Inv X pins O H' s'/\tn i s'.heap/\(∀b∈fp,H' b=none)/\W i n O H') ?_ m0 ⟨0,σ,H2,I2,an,λb B=>(f2 b B).1,w0⟩;rintro n s3 ⟨i,U,H3,I3,ag,al,w3⟩;rcases ad i n U H3 w3 with ⟨stop,qn⟩ | ⟨go,N,hN,step⟩
 ·refine dQ hp (thn (T.done X rfl rfl rfl hc i pins s3 U H3 X.xe I3 (F al) ag stop)  ?_);rintro r s4 ⟨hr,I4⟩;subst hr;exact wpAny_execs_nil ⟨U,H3,I4,qn⟩
 ·refine dQ hp (thn (T.item X rfl rfl rfl hc i pins s3 U H3 X.xe I3 (F al) ag go)  ?_);rintro r s4 ⟨u,hr,h4⟩;subst hr;refine dQ hp (thn h4  ?_);rintro _ s5 ⟨x,H5,I5,r5,y5,ac,as⟩;have I5':=I5.pinned (F as) (T.obj _ _ ac);refine dQ hp (thn (hg _ s5 U H5 x u _ I5' r5 (step x H5 y5))  ?_);rintro _ s6 ⟨a0,H6,I6,q6⟩;refine dQ hp (thn (B _ s6 a0 H6 _ I6 q6) λf s7 Z=>?_)
  have Y:∀ {q:St} {H7:Hp},Inv X (pins++zew fp s5.heap) q H7 s7->N q H7->∃m,m<n/\∃i O H',Inv X pins O H' s7/\tn i s7.heap/\(∀b∈fp,H' b=none)/\W i m O H':=λ{q H7} I7 n7=>by obtain⟨m',hm,w7⟩:=hN q H7 n7;refine⟨m',hm,i+1,q,H7,I7.unpinned,T.keep _ _ _ ac λb B o e=>(I7.pin (b,o) (aW _ (aW _ (zaR B e)))).1,λb B=>?_,w7⟩;obtain⟨o,e,d⟩:=T.obj _ _ ac b B;exact (I7.pin (b,o) (aW _ (aW _ (zaR B e)))).2.1
  cases f with
  | next=>obtain⟨q,H7,I7,n7⟩:=Z;exact Y I7 n7
  | cont=>obtain⟨q,H7,I7,n7⟩:=Z;exact Y I7 n7
  | brk=>obtain⟨q,H7,I7,Z⟩:=Z;exact⟨q,H7,I7.unpinned,Z⟩
  | ret v=>obtain⟨x7,q,H7,I7,r7,Z⟩:=Z;exact⟨x7,q,H7,I7.unpinned,r7,Z⟩
end
def zkF {K:PySem.W.Frag}{a:Addr}{xs:List V}{g:TG}{tb:TS}{D:Ends}{σ:St}{H:Hp}(Pv:Nat->St->Hp->Prop)(O:Pv 0 σ H)(U:∀i σ H,i<=xs.length->Pv i σ H->SqL K H a xs)
  (hs:∀i x σ H,xs[i]?=some x->Pv i σ H->g x σ H λB H2=>tb { D with nx:=Pv (i+1),ct:=Pv (i+1),bk:=D.nx } B H2) (Y:∀ σ H,Pv xs.length σ H->D.nx σ H) :
  ∃W:Nat->Nat->St->Hp->Prop,(∃m,W 0 m σ H)/\∀i m σ H,W i m σ H->
   ((Itl K a).stop i H/\D.nx σ H)\/((Itl K a).go i H/\∃N:St->Hp->Prop,(∀ F H',N F H'->∃J,J<m/\W (i+1) J F H')/\∀x H',(Itl K a).yld i H x H'->g x σ H' λB H2=>tb { D with nx:=N,ct:=N,bk:=D.nx } B H2):=by
 refine⟨λi m σ H=>m=xs.length - i/\i<=xs.length/\Pv i σ H,⟨xs.length,by simp,aN _,O⟩,?_⟩;rintro i m σ H ⟨rfl,hi,p⟩;have q:=U i σ H hi p;by_cases I:i<xs.length
 ·refine .inr ⟨⟨xs,xs[i],q,by simp[I]⟩,Pv (i+1),λF H' Z=>⟨xs.length - (i+1),by lia,rfl,I,Z⟩,λx H' y=>?_⟩;obtain⟨e,y⟩:=y;subst e;exact hs i x σ _ (y xs q) p
 ·have e:i=xs.length:=by lia
  subst e;exact .inl ⟨⟨xs,q,ah _⟩,Y σ H p⟩
def zns {K:PySem.W.Frag}{a:Addr}{xs:List V}{g:TG}{tb:TS}{D:Ends}{σ:St}{H:Hp}(Pv:Nat->St->Hp->Prop)(O:Pv 0 σ H)(U:∀i σ H,i<=xs.length->Pv i σ H->SqT K H a xs)
  (hs:∀i x σ H,xs[i]?=some x->Pv i σ H->g x σ H λB H2=>tb { D with nx:=Pv (i+1),ct:=Pv (i+1),bk:=D.nx } B H2) (Y:∀ σ H,Pv xs.length σ H->D.nx σ H) :
  ∃W:Nat->Nat->St->Hp->Prop,(∃m,W 0 m σ H)/\∀i m σ H,W i m σ H->
   ((Itt K a).stop i H/\D.nx σ H)\/((Itt K a).go i H/\∃N:St->Hp->Prop,(∀ F H',N F H'->∃J,J<m/\W (i+1) J F H')/\∀x H',(Itt K a).yld i H x H'->g x σ H' λB H2=>tb { D with nx:=N,ct:=N,bk:=D.nx } B H2):=by
 refine⟨λi m σ H=>m=xs.length - i/\i<=xs.length/\Pv i σ H,⟨xs.length,by simp,aN _,O⟩,?_⟩;rintro i m σ H ⟨rfl,hi,p⟩;have q:=U i σ H hi p;by_cases I:i<xs.length
 ·refine .inr ⟨⟨xs,xs[i],q,by simp[I]⟩,Pv (i+1),λF H' Z=>⟨xs.length - (i+1),by lia,rfl,I,Z⟩,λx H' y=>?_⟩;obtain⟨e,y⟩:=y;subst e;exact hs i x σ _ (y xs q) p
 ·have e:i=xs.length:=by lia
  subst e;exact .inl ⟨⟨xs,q,ah _⟩,Y σ H p⟩
abbrev R2:=V->V->Hp->VK->Prop
def OpR (X:Cx)(f:Value->Value->Sem Value)(r:R2):Prop:=
 ∀ (pins:List (Addr×Obj)) (s:Shared) (σ:St) (H:Hp) (x y:V) (v u:Value) (Q:VK),Inv X pins σ H s->yr x v->yr y u->r x y H Q->
  wpAny (model X.prog X.w) X.A (f v u) (EP X pins σ Q) X.xe s
def zdG (X:Cx)(f:Value)(r:List V->Hp->VK->Prop):Prop:=
 ∀ (pins:List (Addr×Obj)) (s:Shared) (σ:St) (H:Hp) (xs:List V) (q:List Value) (Q:VK),Inv X pins σ H s->yn xs q->r xs H Q->
  wpAny (model X.prog X.w) X.A (call f q) (EP X pins σ Q) X.xe s
def tOp (r:R2)(ta tb:TE):TE:=λσ H Q=>ta σ H λx H1=>tb σ H1 λy H2=>r x y H2 Q
def rI (C:Int->Int->Prop)(g:Int->Int->V):R2:=λx y H Q=>∃i j,x = .int i/\y = .int j/\C i j/\Q (g i j) H
def rI0 (g:Int->Int->V):R2:=λx y H Q=>∃i j,x = .int i/\y = .int j/\Q (g i j) H
section
variable {X:Cx}{a b c:Expr}{ta tb tc:TE}{pos:Pos}
def zsJ(J:PE X a ta)(O:PE X b tb){pins:List (Addr×Obj)}{σ:St}{H:Hp}{R:V->V->Hp->Prop}(I:Inv X pins σ H s)(h:ta σ H λx H1=>tb σ H1 λy H2=>R x y H2){Q:Value->Shared->Prop}{f:Value->Value->Sem Value}(U:∀v u F x y H2,Inv X pins σ H2 F->yr x v->yr y u->R x y H2->wpAny (model X.prog X.w) X.A (f v u) Q X.xe F) :
  wpAny (model X.prog X.w) X.A (eval a X.env) (λv q=>wpAny (model X.prog X.w) X.A (eval b X.env) (λu B=>wpAny (model X.prog X.w) X.A (f v u) Q X.xe B) X.xe q) X.xe s:=by
 refine thn (J pins s σ H _ I h)  ?_;rintro v Y ⟨x,H1,I1,Z,q1⟩;refine thn (O pins Y σ H1 _ I1 q1)  ?_;rintro u F ⟨y,H2,I2,r2,q2⟩;exact U v u F x y H2 I2 Z r2 q2
def ztV(B:OpR X (binaryOp op) r)(F:PE X a ta)(J:PE X b tb):PE X (.BinOp a op b pos) (tOp r ta tb):=by intro pins s σ H Q I h;exact wpAny_BinOp (zsJ F J I h λv u O x y H2 I2 U Y q=>B pins O σ H2 x y v u Q I2 U Y q)
def opI{C:Int->Int->Prop}{g:Int->Int->Int}(B:∀ (i j:Int) (t u:Tok) (s:Shared) (Q:Value->Shared->Prop) (E:Value->Shared->Prop),C i j->Q (.int (g i j) s.toks) { s with toks:=s.toks+1 }->wpAny (model X.prog X.w) X.A (f (.int i t) (.int j u)) Q E s) :
  OpR X f (rI C λi j=>.int (g i j)):=by
 intro pins s σ H x y v u Q I F J h;obtain⟨i,j,rfl,rfl,O,q⟩:=h;obtain⟨t,rfl⟩:=F;obtain⟨t',rfl⟩:=J;exact B i j t t' s _ _ O ⟨.int (g i j),H,I.tok _,⟨_,rfl⟩,q⟩
def opI0{g:Int->Int->Int}(B:∀ (i j:Int) (t u:Tok) (s:Shared) (Q:Value->Shared->Prop) (E:Value->Shared->Prop),Q (.int (g i j) s.toks) { s with toks:=s.toks+1 }->wpAny (model X.prog X.w) X.A (f (.int i t) (.int j u)) Q E s) :
  OpR X f (rI0 λi j=>.int (g i j)):=by
 intro pins s σ H x y v u Q I F J h;obtain⟨i,j,rfl,rfl,q⟩:=h;obtain⟨t,rfl⟩:=F;obtain⟨t',rfl⟩:=J;exact B i j t t' s _ _ ⟨.int (g i j),H,I.tok _,⟨_,rfl⟩,q⟩
def zsu{g:Int->Int->Bool}(B:∀ (i j:Int) (t u:Tok) (s:Shared) (Q:Value->Shared->Prop) (E:Value->Shared->Prop),Q (.bool (g i j)) s->wpAny (model X.prog X.w) X.A (f (.int i t) (.int j u)) Q E s) :
  OpR X f (rI0 λi j=>.bl (g i j)):=by
 intro pins s σ H x y v u Q I F J h;obtain⟨i,j,rfl,rfl,q⟩:=h;obtain⟨t,rfl⟩:=F;obtain⟨t',rfl⟩:=J;exact B i j t t' s _ _ ⟨.bl (g i j),H,I,rfl,q⟩
def CDiv (i j:Int):Prop:=0<j/\j<1073741824
def CPow (i j:Int):Prop:=0<=j/\j<=1000000/\i.natAbs<2 ^ 64
def zl5 (i j:Int):Prop:=(-(2 ^ 64)<i/\i<2 ^ 64)\/(-(2 ^ 64)<j/\j<2 ^ 64)
def zl5.ok {i j:Int}(h:zl5 i j):IntMulOk i j:=by
 rcases h with ⟨h1,h2⟩ | ⟨h1,h2⟩
 ·exact .of_left (intBits_le_64 h1 h2)
 ·exact .of_right (intBits_le_64 h1 h2)
def zqE:OpR X (binaryOp .Add) (rI0 λi j=>.int (i+j)):=opI0 λ_ _ _ _ _ _ _ q=>add_int q
def zqL:OpR X (binaryOp .Sub) (rI0 λi j=>.int (i - j)):=opI0 λ_ _ _ _ _ _ _ q=>sub_int q
def zqI:OpR X (binaryOp .Mult) (rI zl5 λi j=>.int (i * j)):=opI λ_ _ _ _ _ _ _ B q=>mul_int q B.ok
def zob:OpR X (binaryOp .FloorDiv) (rI CDiv λi j=>.int (i / j)):=opI λi j _ _ _ _ _ B q=>by have h1:(0:Int)<j:=B.1;have h2:j<1073741824:=B.2;exact floordiv_int (by lia) (by rw[Int.fdiv_eq_ediv_of_nonneg i (by lia)];exact q) (.inl (PyProof.noPylong_small (by lia)))
def zqH:OpR X (binaryOp .Mod) (rI (λ_ j=>0<j) λi j=>.int (i % j)):=opI λi j _ _ _ _ _ B q=>by have h1:(0:Int)<j:=B;exact mod_int' (by lia) (by rw[Int.fmod_eq_emod_of_nonneg i (by lia)];exact q)
def zqK:OpR X (binaryOp .Pow) (rI CPow λi j=>.int (i ^ j.toNat)):=opI λ_ _ _ _ _ _ _ B q=>pow_int_small B.1 B.2.1 B.2.2 q
end
def zua:V->V->Bool
 | .non,.non=>true | .non,.int _=>true | .int _,.non=>true | .non,.bl _=>true | .bl _,.non=>true | .non,.str _=>true | .str _,.non=>true
 | .int _,.int _=>true | .bl _,.bl _=>true | .str _,.str _=>true | .byt _,.byt _=>true
 | .int _,.str _=>true | .str _,.int _=>true | .bl _,.str _=>true | .str _,.bl _=>true
 | _,_=>false
def rEq:R2:=λx y H Q=>zua x y=true/\Q (.bl (decide (x=y))) H
def rNe:R2:=λx y H Q=>zua x y=true/\Q (.bl (!decide (x=y))) H
def zh7 {i j:Int}:decide (V.int i=V.int j)=(i==j):=by rw[bA];simp
def zmi:decide (V.bl i=V.bl j)=(i==j):=by rw[bA];simp
def zh8:decide (V.str i=V.str j)=(i==j):=by rw[bA];simp
def zh6:decide (V.byt i=V.byt j)=(i.toList==j.toList):=by
 rw[bA]
 simp_all
section
variable {X:Cx}{a b c:Expr}{ta tb tc:TE}{pos:Pos}
def zL{pins:List (Addr×Obj)}{σ:St}{H:Hp}{Q:VK}(I:Inv X pins σ H s)(q:Q (.bl k) H)(e:k=B):EP X pins σ Q (.bool B) s:=by subst e;exact⟨.bl k,H,I,rfl,q⟩
def ztL:OpR X (compareOp .Eq) rEq:=by
 intro pins s σ H x y v u Q I F B h;obtain⟨hs,q⟩:=h
 cases x with
 | non=>
  cases F
  cases y with
  | non=>cases B;exact PySem.EqNone.eq_none_none (zL I q (by simp))
  | bl j=>cases B;exact PySem.EqNone.eq_none_bool (zL I q (by simp))
  | int j=>obtain⟨t',rfl⟩:=B;exact PySem.EqNone.eq_none_int (zL I q (by simp))
  | str j=>obtain⟨t',rfl⟩:=B;exact PySem.EqNone.eq_none_str (zL I q (by simp))
  | _=>exact absurd (show false=true from hs) ar
 | bl i=>
  cases F
  cases y with
  | non=>cases B;exact PySem.EqNone.eq_bool_none (zL I q (by simp))
  | bl j=>cases B;exact eq_bool (zL I q zmi)
  | str j=>obtain⟨t',rfl⟩:=B;exact PySem.EqMixed.eq_bool_str (zL I q (by simp))
  | _=>exact absurd (show false=true from hs) ar
 | int i=>
  obtain⟨t,rfl⟩:=F
  cases y with
  | non=>cases B;exact PySem.EqNone.eq_int_none (zL I q (by simp))
  | int j=>obtain⟨t',rfl⟩:=B;exact eq_int (zL I q zh7)
  | str j=>obtain⟨t',rfl⟩:=B;exact PySem.EqMixed.eq_int_str (zL I q (by simp))
  | _=>exact absurd (show false=true from hs) ar
 | str i=>
  obtain⟨t,rfl⟩:=F
  cases y with
  | non=>cases B;exact PySem.EqNone.eq_str_none (zL I q (by simp))
  | bl j=>cases B;exact PySem.EqMixed.eq_str_bool (zL I q (by simp))
  | int j=>obtain⟨t',rfl⟩:=B;exact PySem.EqMixed.eq_str_int (zL I q (by simp))
  | str j=>obtain⟨t',rfl⟩:=B;exact eq_str (zL I q zh8)
  | _=>exact absurd (show false=true from hs) ar
 | byt i=>
  obtain⟨t,rfl⟩:=F
  cases y with
  | byt j=>obtain⟨t',rfl⟩:=B;exact PySem.W.eq_bytes (zL I q zh6)
  | _=>exact absurd (show false=true from hs) ar
 | _=>cases y <;> exact absurd (show false=true from hs) ar
def ztQ:OpR X (compareOp .NotEq) rNe:=by
 intro pins s σ H x y v u Q I F B h;obtain⟨hs,q⟩:=h
 cases x with
 | non=>
  cases F
  cases y with
  | non=>cases B;exact PySem.EqNone.ne_none_none (zL I q (by simp))
  | bl j=>cases B;exact PySem.EqNone.ne_none_bool (zL I q (by simp))
  | int j=>obtain⟨t',rfl⟩:=B;exact PySem.EqNone.ne_none_int (zL I q (by simp))
  | str j=>obtain⟨t',rfl⟩:=B;exact PySem.EqNone.ne_none_str (zL I q (by simp))
  | _=>exact absurd (show false=true from hs) ar
 | bl i=>
  cases F
  cases y with
  | non=>cases B;exact PySem.EqNone.ne_bool_none (zL I q (by simp))
  | bl j=>cases B;exact ne_bool (zL I q (congrArg not zmi))
  | str j=>obtain⟨t',rfl⟩:=B;exact PySem.EqMixed.ne_bool_str (zL I q (by simp))
  | _=>exact absurd (show false=true from hs) ar
 | int i=>
  obtain⟨t,rfl⟩:=F
  cases y with
  | non=>cases B;exact PySem.EqNone.ne_int_none (zL I q (by simp))
  | int j=>obtain⟨t',rfl⟩:=B;exact ne_int (zL I q (congrArg not zh7))
  | str j=>obtain⟨t',rfl⟩:=B;exact PySem.EqMixed.ne_int_str (zL I q (by simp))
  | _=>exact absurd (show false=true from hs) ar
 | str i=>
  obtain⟨t,rfl⟩:=F
  cases y with
  | non=>cases B;exact PySem.EqNone.ne_str_none (zL I q (by simp))
  | bl j=>cases B;exact PySem.EqMixed.ne_str_bool (zL I q (by simp))
  | int j=>obtain⟨t',rfl⟩:=B;exact PySem.EqMixed.ne_str_int (zL I q (by simp))
  | str j=>obtain⟨t',rfl⟩:=B;exact ne_str (zL I q (congrArg not zh8))
  | _=>exact absurd (show false=true from hs) ar
 | byt i=>
  obtain⟨t,rfl⟩:=F
  cases y with
  | byt j=>obtain⟨t',rfl⟩:=B;exact PySem.W.ne_bytes (zL I q (congrArg not zh6))
  | _=>exact absurd (show false=true from hs) ar
 | _=>cases y <;> exact absurd (show false=true from hs) ar
def ztP:OpR X (compareOp .Lt) (rI0 λi j=>.bl (decide (i<j))):=zsu λ_ _ _ _ _ _ _ q=>lt_int q
def ztO:OpR X (compareOp .LtE) (rI0 λi j=>.bl (decide (i<=j))):=zsu λ_ _ _ _ _ _ _ q=>le_int q
def ztN:OpR X (compareOp .Gt) (rI0 λi j=>.bl (decide (j<i))):=zsu λ_ _ _ _ _ _ _ q=>gt_int q
def ztM:OpR X (compareOp .GtE) (rI0 λi j=>.bl (decide (j<=i))):=zsu λ_ _ _ _ _ _ _ q=>ge_int q
def zR(b:Expr)(h:op≠.In:=by decide)(h2:op≠.NotIn:=by decide):behindInMarks op b=false:=by
 have q:(op==CmpOp.In)=false:=by cases op <;> first | rfl | exact absurd rfl h
 have B:(op==CmpOp.NotIn)=false:=by cases op <;> first | rfl | exact absurd rfl h2
 cases b <;> simp[behindInMarks,q,B]
def zof(B:OpR X (compareOp op) r)(F:PE X a ta)(J:PE X b tb)(O:behindInMarks op b=false):PE X (.Compare a [op] [b] pos) (tOp r ta tb):=by intro pins s σ H Q I h;exact wpAny_Compare1 (zsJ F J I h λv u U x y H2 I2 Y Z q=>B pins U σ H2 x y v u Q I2 Y Z q) O
def zpg (t:TE):TT:=λσ H Q=>t σ H λx H'=>∃k,x = .bl k/\Q k H'
def zoy(q:OpR X (compareOp op) r)(B:PE X a ta)(F:PE X b tb)(J:behindInMarks op b=false):PT X (.Compare a [op] [b] pos) (zpg (tOp r ta tb)):=by
 intro pins s σ H Q I h
 refine wpAny_isTrue_Compare1 (thn (B pins s σ H _ I h) λv O ⟨x,H1,I1,U,Y⟩=>thn (F pins O σ H1 _ I1 Y) λu Z ⟨y,H2,I2,r2,q2⟩=>
  thn (q pins Z σ H2 x y v u _ I2 U r2 q2) λc s3 ⟨z,H3,I3,r3,k,e,q3⟩=>?_) J
 subst e;cases r3;exact eu ⟨H3,I3,q3⟩
def ziZ:(sizeLine:Nat)<2 ^ 63:=by rw[b9];decide
def zcm(r:yn [x] q):∃u,q=[u]/\yr x u:=by
 cases r with
 | cons B F=>cases F;exact⟨_,rfl,B⟩
def zkl:zdG X (.builtin "abs") (λxs H Q=>∃i,xs=[.int i]/\Q (.int (if i<0 then -i else i)) H):=by intro pins s σ H xs B Q I r h;obtain⟨i,rfl,q⟩:=h;obtain⟨u,rfl,t,rfl⟩:=zcm r;exact call_abs_int λu tk=>⟨.int (if i<0 then -i else i),H,I.tok _,⟨_,rfl⟩,q⟩
def zsa (K:PySem.W.Frag)(x:V)(H:Hp)(n:Nat):Prop:=
 match x with
 | .str y=>y.length<=sizeLine/\n=y.length
 | .byt y=>y.size<=sizeLine/\n=y.size
 | .ref p=>(∃xs,SqL K H p xs/\n=xs.length)\/∃xs,SqT K H p xs/\n=xs.length
 | _=>False
def zkn:zdG X (.builtin "len") (λxs H Q=>∃x n,xs=[x]/\zsa X.K x H n/\Q (.int n) H):=by
 intro pins s σ H xs us Q I r h;obtain⟨x,n,rfl,e,q⟩:=h;obtain⟨u,rfl,rx⟩:=zcm r;have hl:=ziZ;have hs:sizeLine=16777216:=b9
 cases x with
 | str y=>
  obtain⟨t,rfl⟩:=rx;obtain⟨hy,e'⟩:y.length<=sizeLine/\n=y.length:=e;subst e';exact len_str (by lia) ⟨.int _,H,I.tok _,⟨_,rfl⟩,q⟩
 | byt y=>
  obtain⟨t,rfl⟩:=rx;obtain⟨hy,e'⟩:y.size<=sizeLine/\n=y.size:=e;subst e';exact PySem.W.len_bytes (by lia) ⟨.int _,H,I.tok _,⟨_,rfl⟩,q⟩
 | ref p=>
  cases rx;have e':(∃xs,SqL X.K H p xs/\n=xs.length)\/∃xs,SqT X.K H p xs/\n=xs.length:=e;rcases e' with ⟨xs,hx,e'⟩ | ⟨xs,hx,e'⟩
  ·subst e';obtain⟨its,r',pl,hz⟩:=I.list hx;have hlen:=r'.length;exact Calls.call_len_list pl.isList (by simp only[aU];lia) ⟨.int xs.length,H,I.tok _,⟨_,by simp only[aU];rw[hlen]⟩,q⟩
  ·subst e';obtain⟨its,r',pl,hz⟩:=I.tuple hx;have hlen:=r'.length;exact len_tuple pl (by simp only[aU];lia) ⟨.int xs.length,H,I.tok _,⟨_,by simp only[aU];rw[hlen]⟩,q⟩
 | _=>exact (show False from e).elim
end
section
variable {prog:Program}{w:World}{A:Around}{E:Value->Shared->Prop}{s:Shared}{K:PySem.W.Frag}{x dx C f:Addr}{mA:Str->Option Value}{name:Str}{v:Value}
end
def zhD.some_of(r:zhD (some v) o):∃u,o=some u/\yr v u:=by
 cases o with
 | none=>exact (show False from r).elim
 | some u=>exact⟨u,rfl,r⟩
section
variable {P:Program}{w:World}{H H':Hp}{h h':Heap}{a C dx:Addr}{fs fs':List (Str×V)}
end
section
variable {X:Cx}{pins:List (Addr×Obj)}{σ:St}{H:Hp}{s:Shared}{a C dx:Addr}{fs:List (Str×V)}{f:Str}{v:V}{A:Around}{E:Value->Shared->Prop}
end
section
variable {X:Cx}{o e value:Expr}{f:Str}{pos pos' tpos:Pos}{ta tv:TE}
end
section
variable {X:Cx}{pins:List (Addr×Obj)}{σ:St}{H:Hp}{s:Shared}{A:Around}{E:Value->Shared->Prop}{Q:Value->Shared->Prop}{c:Value}{b:Bool}
end
structure Room (k:Nat)(A:Around):Prop where
 hd:A.handled=none
 dp:A.depth+3 * k+5<recursionLimit
 un:A.units+16 * k+200<cLine
 gd:A.guards=some []:=by rfl
def Room.mono {j k:Nat}{A:Around}(r:Room k A)(h:j<=k):Room j A:=⟨r.hd,by have:=r.dp;lia,by have:=r.un;lia,r.gd⟩
def Room.deeper(r:Room (k+1) A)(env:Env):Room k (A.deeper env):=
 ⟨r.hd,by have:=r.dp;show A.depth+1+3 * k+5<_;lia,by have:=r.un;show A.units+3+16 * k+200<_;lia,r.gd⟩
def Room.depth(r:Room k A):A.depth<recursionLimit:=by have:=r.dp;lia
def Room.units(r:Room k A):A.units+64<cLine:=by have:=r.un;lia
def zpx:TA:=λ_ H Q=>Q [] H
def zho (ta:TE)(q:TA):TA:=λσ H Q=>ta σ H λx H1=>q σ H1 λxs H2=>Q (x::xs) H2
section
variable {X:Cx}{e:Expr}{es:List Expr}{te:TE}{t:TA}{pos:Pos}
def zqO:PA X [] zpx:=λ_ _ _ _ H Q I h=>Calls.spliced_nil ⟨[],H,I,.nil,h⟩
def zoe (q:PE X e te)(B:PA X es t)(hs:starEach (e::es) X.env=(false,eval e X.env)::starEach es X.env:=by rfl):PA X (e::es) (zho te t):=by intro pos pins s σ H Q I h;rw[hs];show wpAny _ _ (spliced ((false,eval e X.env)::backTo pos (starEach es X.env))) _ _ s;refine Calls.spliced_cons (thn (q pins s σ H _ I h)  ?_);rintro u F ⟨x,H1,I1,J,O⟩;exact thn (B pos pins F σ H1 _ I1 O) <| by rintro Z s2 ⟨xs,H2,I2,U,Y⟩;exact⟨x::xs,H2,I2,.cons J U,Y⟩
end
abbrev Sp:=List V->Hp->VK->XK->Prop
abbrev CXT:=List Env->Hp->Shared->XK->Value->Shared->Prop
structure Env0 (P:Program)(w:World)(K:PySem.W.Frag)(mg:Str->Option Value)(base:Heap)(A:Around)(outer:List Env)(s:Shared)(H:Hp):Prop where
 frames:A.frames=some outer
 mod:Mod K mg base
 bs:∀b o,base.get? b=some o->s.heap.get? b=some o/\H b=none
 bsz:base.objs.size<=s.heap.objs.size
 funs:s.heap.FunFrames base outer
 frf:∀b∈frs outer,H b=none
 hok:HOk P w H s.heap
 bare:AllBare s.gens
def CE (outer:List Env)(P:Program)(w:World)(H:Hp)(s:Shared)(Q:VK)(u:Value)(s':Shared):Prop:=
 ∃v H',s'.os=s.os/\AllBare s'.gens/\Un (frs outer) [] H H' s.heap s'.heap/\HOk P w H' s'.heap/\yr v u/\Q v H'
def CR (CX:CXT)(outer:List Env)(P:Program)(w:World)(H:Hp)(s:Shared)(Q:VK)(E:XK)(r:Result)(s':Shared):Prop:=
 match r with
 | .ok (.ret u)=>CE outer P w H s Q u s'
 | .ok _=>False
 | .error e=>CX outer H s E e s'
structure FnOk (P:Program)(w:World)(K:PySem.W.Frag)(mg:Str->Option Value)(base:Heap)(CX:CXT)(k:Nat)(f:Addr)(fd:FuncData)(ps:List Str)(sp:Sp):Prop where
 len:∀vs H Q E,sp vs H Q E->vs.length=ps.length
 run:∀ (A:Around) (outer:List Env) (s:Shared) (H:Hp) (args:Args) (us:List Value) (vs:List V) (Q:VK) (E:XK),Room k A->Env0 P w K mg base A outer s H->BindsTo s fd args (ps.zip us)->yn vs us->sp vs H Q E->
  codeAny (model P w) A (.call (.ref f) args) (CR CX outer P w H s Q E) s
def FnOk.mono{P:Program}{w:World}{K:PySem.W.Frag}{mg:Str->Option Value}{base:Heap}{CX:CXT}{f:Addr}{fd:FuncData}{ps:List Str}(F:FnOk P w K mg base CX j f fd ps sp)(h:j<=k) :
  FnOk P w K mg base CX k f fd ps sp:=⟨F.len,λA outer s H args q vs Q E B=>F.run A outer s H args q vs Q E (B.mono h)⟩
def FnOk.imp{P:Program}{w:World}{K:PySem.W.Frag}{mg:Str->Option Value}{base:Heap}{CX:CXT}{f:Addr}{fd:FuncData}{ps:List Str}{sp B:Sp}(F:FnOk P w K mg base CX k f fd ps sp)(h:∀vs H Q E,B vs H Q E->sp vs H Q E):FnOk P w K mg base CX k f fd ps B:=
 ⟨λvs H Q E q=>F.len vs H Q E (h _ _ _ _ q),λA outer s H args I vs Q E J O U Y hs=>F.run A outer s H args I vs Q E J O U Y (h _ _ _ _ hs)⟩
section
variable {X:Cx}{pins:List (Addr×Obj)}{σ:St}{H:Hp}{s s':Shared}
def Inv.env0 (I:Inv X pins σ H s):Env0 X.prog X.w X.K X.mg X.base X.A X.stack s H:=
 ⟨I.ok.frames,I.ok.mod,I.bs,az I.ok.bsz I.sz,I.stack,I.stkFree,I.hok,I.bare⟩
def Inv.after(I:Inv X pins σ H s)(h:CE X.stack X.prog X.w H s Q u s'):EP X pins σ Q u s':=by obtain⟨v,H',O,B,U,F,r,q⟩:=h;obtain⟨Y,g,d,t,J⟩:=s';obtain rfl:J=s.os:=O;exact⟨v,H',I.call (h':=Y) (g':=g) (d':=d) (t':=t) (ch:=[]) U F B (λb z=>absurd z (by simp)),r,q⟩
end
def zeG (sp:Sp)(dvs:List V)(E:XK)(t:TA):TE:=λσ H Q=>t σ H λvs H1=>sp (vs++dvs) H1 Q E
def zcK (K:PySem.W.Frag)(fd:FuncData)(ps:List Str)(ds:List Value):Prop:=
 ∀ (s:Shared) (q:List Value),K.In s.heap->(q++ds).length=ps.length->BindsTo s fd ⟨q,[]⟩ (ps.zip (q++ds))
def zcK.all {K:PySem.W.Frag}{fd:FuncData}{ps:List Str}(h:∀q:List Value,q.length=ps.length->bindArgs fd ⟨q,[]⟩=pure (ps.zip q)):zcK K fd ps []:=λs q _ B=>by rw[bD] at B ⊢;exact .of_eq (h q B)
def zhC (CX:CXT)(X:Cx)(E:XK):Prop:=∀ (pins:List (Addr×Obj)) (σ:St) (H:Hp) (s:Shared) (e:Value) (s':Shared),Inv X pins σ H s->CX X.stack H s E e s'->X.xe e s'
section
variable {X:Cx}{CX:CXT}{k:Nat}{f C:Addr}{fd:FuncData}{ps:List Str}{sp:Sp}{dvs:List V}{ds:List Value}{E:XK}{x m:Str}{p pos apos:Pos}{e o:Expr}{es:List Expr}{ta:TE}{t:TA}
def zrE{pins:List (Addr×Obj)}{σ:St}{H:Hp}{s:Shared}{Q:VK}{vs:List V}(F:FnOk X.prog X.w X.K X.mg X.base CX k f fd ps sp)(O:Room k X.A)(U:zcK X.K fd ps ds)(Y:yn dvs ds)(Z:zhC CX X E)(I:Inv X pins σ H s)(r:yn vs q)(h:sp (vs++dvs) H Q E):wpAny (model X.prog X.w) X.A (call (.ref f) q) (EP X pins σ Q) X.xe s:=by
 have J:yn (vs++dvs) (q++ds):=r.append Y;have hl:(q++ds).length=ps.length:=by rw[<- J.length];exact F.len _ _ _ _ h
 refine wpAny_call (eG (F.run X.A X.stack s H ⟨q,[]⟩ (q++ds) (vs++dvs) Q E O I.env0 (U s q I.kIn hl) J h) λr s' B=>?_)
 cases r with
 | error e=>exact Z pins σ H s e s' I B
 | ok fl=>
  cases fl with
  | ret u=>exact I.after B
  | next=>exact False.elim B
  | brk=>exact False.elim B
  | cont=>exact False.elim B
def zjq (F:FnOk X.prog X.w X.K X.mg X.base CX k f fd ps sp)(O:Room k X.A)(U:Gl X x)(Y:X.mg x=some (.ref f))(Z:PySem.W.keepIn X.K (.ref f)=true)(hb:zcK X.K fd ps ds)(hd:yn dvs ds)(hx:zhC CX X E)
  (ha:PA X (e::es) t) (B:(x==("__debug__" : Str))=false:=by decide) (he:starEach (e::es) X.env=(false,eval e X.env)::starEach es X.env:=by rfl) (J:(backTo pos (starEach es X.env)).any (·.1)=false:=by rfl) :
  PE X (.Call (.Name x p) (e::es) [] pos) (zeG sp dvs E t):=by
 intro pins s σ H Q I h;refine fE (ziP I U Y ?_ B);refine PySem.W.callWith_K (h₀:=X.base) I.ok.mod.kin Z (thn (ha pos pins s σ H _ I h) λus s1 ⟨vs,H1,I1,r,q⟩=>⟨I1.kIn,?_⟩) he J;exact zrE F O hb hd hx I1 r q
end
section
variable {X:Cx}{CX:CXT}{k:Nat}{f C:Addr}{fd:FuncData}{ps ks:List Str}{sp:Sp}{E:XK}{x m:Str}{p pos apos kpos:Pos}{e o:Expr}{es:List Expr}{kws:List Keyword}{te ta:TE}{t tk:TA}{nm:Option Str}
variable {g:List Value->List Value->List Value}{gV:List V->List V->List V}
end
structure FnScope (N P:List Str)(sc:Scope):Prop where
 kind:sc.kind = .function
 co:sc.isCoroutine=false
 gen:sc.isGenerator=false
 nd:N.Nodup
 pre:N.take P.length=P
 par:∀x∈P,sc.names.lookup x=some .local\/sc.names.lookup x=some .cell
 nofree:∀y∈sc.names,y.2≠.free
def zdP {B:Str->Option NameKind}{x:Str}:∀ {q:List (Str×Value)} {m:Str->Option Value},(∀v,(x,v)∉q)->bindL B q m x=m x
 | [],_,_=>rfl
 | (n,v)::r,m,h=>by
  unfold bindL;rw[zdP λw F=>h w (ai _ F)];split
  all_goals grind
def zdN {B:Str->Option NameKind}{x:Str}:∀ {q:List (Str×Value)} {m:Str->Option Value},(∀v,(x,v)∉q)->bindC B q m x=m x
 | [],_,_=>rfl
 | (n,v)::r,m,h=>by
  unfold bindC;rw[zdN λw F=>h w (ai _ F)];split
  all_goals grind
def zdO {q:Str->Option NameKind}{x:Str}{v:Value}:∀ {P:List Str} {vs:List Value} {i:Nat} {m:Str->Option Value},P.Nodup->P[i]?=some x->vs[i]?=some v->q x=some .local->
  bindL q (P.zip vs) m x=some v
 | [],_,_,_,_,h,_,_=>by simp at h
 | _::_,[],_,_,_,_,h,_=>by simp at h
 | p::P,w::vs,0,m,B,h1,h2,F=>by simp at h1 h2;subst h1;subst h2;show bindL q ((p,w)::P.zip vs) m p=_;unfold bindL;rw[zdP λv I=>(cL.mp B).1 (List.of_mem_zip I).1,if_pos F];simp
 | p::P,w::vs,i+1,m,B,h1,h2,F=>by show bindL q ((p,w)::P.zip vs) m x=_;unfold bindL;exact zdO (i:=i) (cL.mp B).2 (by simpa using h1) (by simpa using h2) F
def zdM {q:Str->Option NameKind}{x:Str}{v:Value}:∀ {P:List Str} {vs:List Value} {i:Nat} {m:Str->Option Value},P.Nodup->P[i]?=some x->vs[i]?=some v->q x≠some .local->
  bindC q (P.zip vs) m x=some v
 | [],_,_,_,_,h,_,_=>by simp at h
 | _::_,[],_,_,_,_,h,_=>by simp at h
 | p::P,w::vs,0,m,B,h1,h2,F=>by simp at h1 h2;subst h1;subst h2;show bindC q ((p,w)::P.zip vs) m p=_;unfold bindC;rw[zdN λv I=>(cL.mp B).1 (List.of_mem_zip I).1,if_neg F];simp
 | p::P,w::vs,i+1,m,B,h1,h2,F=>by show bindC q ((p,w)::P.zip vs) m x=_;unfold bindC;exact zdM (i:=i) (cL.mp B).2 (by simpa using h1) (by simpa using h2) F
def xg (N:List Str)(vs:List V):St:=vs.map some++List.replicate (N.length - vs.length) none
def zdE (CX:CXT)(P:Program)(w:World)(K:PySem.W.Frag)(mg:Str->Option Value)(base:Heap)(N:List Str)(qual:Str)(scope:Scope)(f:Addr)(B:Value)(A:Around)(outer:List Env)(s:Shared)(H:Hp)(E:XK):Cx where
 prog:=P
 w:=w
 K:=K
 mg:=mg
 base:=base
 A:=A.deeper (envOfC qual scope s.heap.objs.size f B)
 N:=N
 s₀:=s
 H₀:=H
 env:=envOfC qual scope s.heap.objs.size f B
 outer:=outer
 stack:=envOfC qual scope s.heap.objs.size f B::outer
 ex:=[]
 calm:=true
 fn:=λ_=>true
 pn:=[]
 xe:=λe s'=>wpAny (model P w) (A.deeper (envOfC qual scope s.heap.objs.size f B)) (leaving (envOfC qual scope s.heap.objs.size f B) e) (λ_ q=>CX outer H s E e q) (λF q=>CX outer H s E F q) s'
def zf3{B:Scope}(h:B.names.lookup x=some .cell):∃c,(cellsFrom n B.names []).lookup x=some c:=by have q:=PySem.W.cellsFrom_some B.names n [] (.inl h);exact Option.isSome_iff_exists.mp q
def ziy{CX:CXT}{P:Program}{w:World}{K:PySem.W.Frag}{mg:Str->Option Value}{base:Heap}{N ps:List Str}{qual:Str}{scope:Scope}{f:Addr}{O:Value}{A:Around}{outer:List Env}{s Y:Shared}{H:Hp}{E:XK}{vs:List V}(S:FnScope N ps scope)(hd:A.handled=none)(B:Env0 P w K mg base A outer s H)(hl:vs.length=ps.length)(r:yn vs U)(x:InCallC s s.heap.objs.size (bindL (envOfC qual scope s.heap.objs.size f O).kindOf (ps.zip U) λ_=>none) (cellsFrom (s.heap.objs.size+1) scope.names []) (bindC (envOfC qual scope s.heap.objs.size f O).kindOf (ps.zip U) λ_=>none) Y) :
  Inv (zdE CX P w K mg base N qual scope f O A outer s H E) [] (xg N vs) H Y:=by
 have ac:ps.length<=N.length:=by have:=congrArg List.length S.pre;rw[bn] at this;lia
 obtain⟨h1,tk,rfl,Z⟩:=x.done;have F:∀b:Addr,b∉(zdE CX P w K mg base N qual scope f O A outer s H E).ex:=λb z=>absurd (show b∈([]:List Addr) from z) (by simp)
 refine⟨⟨B.mod,S.kind,rfl,rfl,ah _,λy z c h1 h2=>?_,λy I=>?_,λy c _ h=>?_,λ_=>hd,Around.frames_deeper B.frames,.inr ⟨rfl,rfl⟩,λb z=>absurd z (F b),B.bs,B.bsz,λb _ _=>F b,λb z=>absurd z (F b),B.funs,B.frf⟩,
  rfl,B.bare,Un.kept Z,⟨_,x.toInCall.ns,λi y v h1 h2 h3=>?_⟩,λy c h=>⟨_,x.cell y c h⟩,B.hok.fresh (ah _),λy c h=>?_,λp hp=>absurd (show p∈([]:List (Addr×Obj)) from hp) (by simp),B.hok.kept Z,?_⟩
 ·exact name_of_addr x.apart (cU h1) (cU h2)
 ·have I:scope.names.lookup y=some .cell\/scope.names.lookup y=some .free:=I;rcases I with I | I
  ·exact zf3 I
  ·exact absurd rfl (S.nofree _ (cU I))
 ·exact cR (x.above y c (cU h))
 ·have hi:i<vs.length:=by
   unfold xg at h2;by_cases hi:i<vs.length
   ·exact hi
   ·rw[bf (by simpa using hi)] at h2;rw[List.getElem?_replicate] at h2
    simp_all
  have ha:vs[i]?=some v:=by
   unfold xg at h2;rw[bt (by simpa using hi),aE] at h2
   simp_all
  obtain⟨u,hu,rv⟩:=r.get ha
  have hp:ps[i]?=some y:=by rw[<- S.pre,bT (by lia)];exact h1
  have J:ps.Nodup:=by rw[<- S.pre];exact S.nd.sublist (cy _ _)
  refine⟨u,rv,?_⟩;rcases S.par y (aA hp) with k | k
  ·exact .inl ⟨k,zdO J hp hu k⟩
  ·obtain⟨c,e⟩:=zf3 (n:=s.heap.objs.size+1) k;refine .inr ⟨.inl k,c,e,?_⟩;have q:=x.cell y c e;rw[zdM J hp hu (by show scope.names.lookup y≠_;rw[k];decide)] at q;exact q
 ·exact B.hok.fresh (cR (x.above y c (cU h)))
 ·unfold xg;show _=N.length
  grind
def zp7 {CX:CXT}{P:Program}{w:World}{K:PySem.W.Frag}{mg:Str->Option Value}{base:Heap}{k:Nat}{f:Addr}{name qual:Str}{params:Arguments}{body:List Stmt}{scope:Scope}{dV kV Y pm B ct oc:Value}{an od:Option Addr}
  {ad:Array (Option Value)} {N ps:List Str} {sp:Sp} (lk:K.lookup f=some ⟨oc,od,.func (PySem.W.fnOf name qual params body scope dV kV Y pm an B ct),ad⟩) (ag:PySem.W.codeIn K B qual=true) (S:FnScope N ps scope)
  (Z:∀vs H Q E,sp vs H Q E->vs.length=ps.length)
  (O:∀ (A:Around) (outer:List Env) (s:Shared) (H:Hp) (vs:List V) (Q:VK) (E:XK),Room k (A.deeper (envOfC qual scope s.heap.objs.size f B))->sp vs H Q E->
   ∃t,PSs (zdE CX P w K mg base N qual scope f B A outer s H E) body t/\t { nx:=λ_ H'=>Q .non H',rt:=Q } (xg N vs) H) :
  FnOk P w K mg base CX (k+1) f (PySem.W.fnOf name qual params body scope dV kV Y pm an B ct) ps sp:=by
 refine⟨Z,λA outer s H args us vs Q E hr e0 hb r ac=>?_⟩;have hl:=Z _ _ _ _ ac;have KX:K.In s.heap:=e0.mod.kin.keeps λb o e=>(e0.bs b o e).1;have lim:s.heap.NoLimit:=e0.mod.nolimit.keeps λb o e=>(e0.bs b o e).1
 have U:∀y∈ps.zip us,scope.names.lookup y.1=some .local\/(scope.names.lookup y.1=some .cell/\((cellsFrom (s.heap.objs.size+1) scope.names []).lookup y.1).isSome=true):=by
  rintro⟨n,v⟩ hy;rcases S.par n (List.of_mem_zip hy).1 with q | q
  ·exact .inl q
  ·exact .inr ⟨q,PySem.W.cellsFrom_some _ _ _ (.inl q)⟩
 refine codeAny_call_function hr.depth (KX _ _ lk) rfl S.co S.gen rfl (PySem.W.codeRec_of KX ag) (hb _ _ _ _ ?_);refine wpAny_newFunctionEnv_cells S.kind U λenv he s1 x=>?_;subst he;refine⟨lim.keeps x.toInCall.keep,codeAny_func ?_⟩;obtain⟨t,ht,hq⟩:=O A outer s H vs Q E (hr.deeper _) ac;have I:Inv (zdE CX P w K mg base N qual scope f B A outer s H E) [] (xg N vs) H s1:=ziy S hr.hd e0 hl r x;refine aC (ht [] s1 (xg N vs) H _ I hq) (λfl s' hs=>?_) λe s' hs=>hs
 have fin:∀ {F:St} {H':Hp} {v:V} {u:Value},Inv (zdE CX P w K mg base N qual scope f B A outer s H E) [] F H' s'->yr v u->Q v H'->CE outer P w H s Q u s':=
  λ{F H' v u} J rv q=>⟨v,H',J.os,J.bare,J.base,J.hok,rv,q⟩
 cases fl with
 | ret u=>
  obtain⟨v,F,H',J,rv,q⟩:=hs;exact fin J rv q
 | next=>
  obtain⟨F,H',J,q⟩:=hs;exact fin (v:=V.non) (u:=Value.none) J rfl q
 | brk=>
  obtain⟨_,_,_,q⟩:=hs;exact False.elim q
 | cont=>
  obtain⟨_,_,_,q⟩:=hs;exact False.elim q
section
variable {X:Cx}{x:Str}{p pos:Pos}{e:Expr}{es:List Expr}{t:TA}{id T:String}{r:List V->Hp->VK->Prop}
def tCB (r:List V->Hp->VK->Prop)(t:TA):TE:=λσ H Q=>t σ H λvs H1=>r vs H1 Q
def zlj (F:zdG X (.builtin id) r)(J:Gl X x)(O:X.mg x=none)(U:bootBuiltins x=some (.builtin id))(Y:PA X (e::es) t)(Z:x ≠ "__name__" := by decide)(q:(x==("__debug__" : Str))=false:=by decide)
  (he:starEach (e::es) X.env=(false,eval e X.env)::starEach es X.env:=by rfl) (B:(backTo pos (starEach es X.env)).any (·.1)=false:=by rfl):PE X (.Call (.Name x p) (e::es) [] pos) (tCB r t):=by
 intro pins s σ H Q I h;refine fE (zgq I J O U ?_ Z q);exact PyProof.Rows.callWith_builtin1 (thn (Y pos pins s σ H _ I h) <| by rintro us s1 ⟨vs,H1,I1,r1,q1⟩;exact F pins s1 σ H1 vs us Q I1 r1 q1) he B
def zjr (F:zdG X (.type T) r)(J:Gl X x)(O:X.mg x=none)(U:bootBuiltins x=some (.type T))(Y:PA X (e::es) t)(Z:x ≠ "__name__" := by decide)(q:(x==("__debug__" : Str))=false:=by decide)
  (he:starEach (e::es) X.env=(false,eval e X.env)::starEach es X.env:=by rfl) (B:(backTo pos (starEach es X.env)).any (·.1)=false:=by rfl):PE X (.Call (.Name x p) (e::es) [] pos) (tCB r t):=by
 intro pins s σ H Q I h;refine fE (zgq I J O U ?_ Z q);exact dh (thn (Y pos pins s σ H _ I h) <| by rintro us s1 ⟨vs,H1,I1,r1,q1⟩;exact F pins s1 σ H1 vs us Q I1 r1 q1) he B
end
section
variable {κ:Type}[DecidableEq κ]
def zaE (kvs:List (κ×V))(k:κ):Option V:=(kvs.find? λkv=>decide (kv.1=k)).map (·.2)
def uQ (kvs:List (κ×V))(k:κ)(v:V):List (κ×V):=
 if (kvs.any λkv=>decide (kv.1=k))=true then kvs.map (λkv=>if kv.1=k then (kv.1,v) else kv) else kvs++[(k,v)]
def yW{p:κ×V}(e:p.1=k):zaE (p::r) k=some p.2:=by simp[zaE,bH,e]
def yU{p:κ×V}{r:List (κ×V)}(e:¬ p.1=k):zaE (p::r) k=zaE r k:=by simp[zaE,bH,e]
def zgT (k:κ):∀kvs:List (κ×V),(kvs.any λkv=>decide (kv.1=k))=(zaE kvs k).isSome
 | []=>rfl
 | p::r=>by
  rw[cH];by_cases e:p.1=k
  ·simp only[yW e,aD e,Bool.true_or,Option.isSome_some]
  ·rw[yU e,aO e,Bool.false_or];exact zgT k r
def y8 (kvs:List (κ×V))(k:κ)(v:V):(uQ kvs k v).length<=kvs.length+1:=by
 unfold uQ;split
 all_goals simp_all
def zhD.isSome_eq(r:zhD o u):o.isSome=u.isSome:=by
 cases o with
 | none=>cases u with
  | none=>rfl
  | some _=>exact (show False from r).elim
 | some _=>cases u with
  | none=>exact (show False from r).elim
  | some _=>rfl
def KV.val(r:KV kvs vs)(k:κ):zhD (zaE kvs k) (valueAt vs k):=by
 unfold KV at r
 induction r with
 | nil=>exact True.intro
 | @cons p q ps B h t I=>
  obtain⟨h1,h2⟩:=h;by_cases e:p.1=k
  ·have F:q.1=k:=h1.symm.trans e;have b:valueAt (q::B) k=some q.2:=by simp[valueAt,bH,F]
   rw[yW e,b];exact h2
  ·have F:¬ q.1=k:=λz=>e (h1.trans z);have b:valueAt (q::B) k=valueAt B k:=by simp[valueAt,bH,F]
   rw[yU e,b];exact I
def KV.any(r:KV kvs vs)(k:κ):(kvs.any λkv=>decide (kv.1=k))=vs.any λkv=>decide (kv.1=k):=by
 unfold KV at r
 induction r with
 | nil=>rfl
 | cons h t q=>rw[cH,cH,q,h.1]
def KV.repl {kvs:List (κ×V)}{vs:List (κ×Value)}(r:KV kvs vs)(k:κ){y:V}{u:Value}(F:yr y u) :
  KV (kvs.map λkv=>if kv.1=k then (kv.1,y) else kv) (vs.map λkv=>if kv.1=k then (kv.1,u) else kv):=by
 unfold KV at r ⊢
 induction r with
 | nil=>exact .nil
 | @cons p q ps I h t B=>
  rw[au,au];refine .cons ?_ B
  grind
def KV.put(r:KV kvs vs)(k:κ)(q:yr y u):KV (uQ kvs k y) (stored vs k u):=by
 unfold uQ stored;rw[r.any k];by_cases e:(vs.any λkv=>decide (kv.1=k))=true
 ·rw[if_pos e,if_pos e];exact r.repl k q
 ·rw[if_neg e,if_neg e];exact Paired.snoc r ⟨rfl,q⟩
def KV.length {kvs:List (κ×V)}{vs:List (κ×Value)}(r:KV kvs vs):kvs.length=vs.length:=eW r
end
def ziI(r:yr (kV k) u):(zO P w).is k u=true:=by
 cases k with
 | inl i=>obtain⟨t,e⟩:=(show ∃t,u=Value.int i t from r);subst e;exact zfv P w i t
 | inr x=>obtain⟨t,e⟩:=(show ∃t,u=Value.str x t from r);subst e;exact zfw P w x t
def zd9:∀ {ks:List Key} {q:List Value},yn (ks.map kV) q->ItemsAre (zO P w) ks q
 | [],_,r=>by rw[eI] at r;cases r;exact .nil
 | k::ks,_,r=>by
  rw[au] at r
  cases r with
  | cons h t=>exact .cons (ziI h) (zd9 t)
abbrev KT (H:Hp):List (List Key×V)->List (List Key×Addr×Value)->Prop:=Paired λp q=>p.1=q.1/\H q.2.1=some (.tup (p.1.map kV))/\yr p.2 q.2.2
def KT.val(r:KT H kvs xs)(k:List Key):zhD (zaE kvs k) ((atKey xs k).map (·.2)):=by
 induction r with
 | nil=>exact True.intro
 | @cons p q ps B h t I=>
  obtain⟨h1,_,h2⟩:=h;by_cases e:p.1=k
  ·have F:q.1=k:=h1.symm.trans e;have b:atKey (q::B) k=some q.2:=by simp[atKey,bH,F]
   rw[yW e,b];exact h2
  ·have F:¬ q.1=k:=λz=>e (h1.trans z);have b:atKey (q::B) k=atKey B k:=by simp[atKey,bH,F]
   rw[yU e,b];exact I
def KT.repl(r:KT H kvs xs)(k:List Key)(F:yr y u) :
  KT H (kvs.map λkv=>if kv.1=k then (kv.1,y) else kv) (xs.map (putAt k u)):=by
 induction r with
 | nil=>exact .nil
 | @cons p q ps I h t B=>
  rw[au,au];refine .cons ?_ B;obtain⟨h1,h2,J⟩:=h;unfold putAt;by_cases e:p.1=k
  all_goals simp_all
def KT.put(r:KT H kvs xs)(k:List Key)(F:H b=some (.tup (k.map kV)))(B:yr y u) :
  KT H (uQ kvs k y) (storedH xs k b u):=by
 have e:(kvs.any λkv=>decide (kv.1=k))=(atKey xs k).isSome:=by rw[zgT,(r.val k).isSome_eq,dw]
 unfold uQ storedH;rw[e];by_cases q:(atKey xs k).isSome=true
 ·rw[if_pos q,if_pos q];exact r.repl k B
 ·rw[if_neg q,if_neg q];exact Paired.snoc r ⟨rfl,F,B⟩
def KT.keeps(r:KT H kvs xs)(q:∀b ys,H b=some (.tup ys)->H' b=some (.tup ys)):KT H' kvs xs:=
 Paired.mapP r λ_ _ z=>⟨z.1,q _ _ z.2.1,z.2.2⟩
section
variable {P:Program}{w:World}{H:Hp}{h:Heap}{a:Addr}
def zoU(q:HOk P w H h)(e:Rd H a u):z8 P w H h a u:=e.ok q
def zng(q:HOk P w H h)(e:Rd H a (.dK kvs)):kvs.length<=sizeLine/\(a==sysModules)=false/\∃vs,KV kvs vs/\h.DictOf (zO P w) a vs:=
 show z8 P w H h a (.dK kvs) from zoU q e
def znf(q:HOk P w H h)(e:H a=some (.dK kvs)):kvs.length<=sizeLine/\(a==sysModules)=false/\∃vs,KV kvs vs/\h.DictOf (zO P w) a vs:=zng q (.inl e)
def zgn(q:HOk P w H h)(e:H a=some (.tup (ks.map kV))):(tupleKind (zO P w)).is h ks a:=by obtain⟨_,its,r,o,h1,h2,⟨n,B⟩,_⟩:=(show z8 P w H h a (.tup (ks.map kV)) from q a _ e);exact⟨o,its.toArray,n,h1,h2,B,by simpa using zd9 r⟩
def znh(F:HOk P w H h)(e:Rd H a (.dT kvs)):kvs.length<=sizeLine/\(a==sysModules)=false/\
  ∃xs,KT H kvs xs/\h.DictOfH (tupleKind (zO P w)) a xs:=by
 obtain⟨z,y,xs,r,o,es,ep,h1,h2,I,J,O⟩:=(show z8 P w H h a (.dT kvs) from zoU F e);refine⟨z,y,xs,r,o,es,ep,h1,h2,I,J,λx B=>?_,O⟩
 have all:∀ {l:List (List Key×V)} {m:List (List Key×Addr×Value)},KT H l m->∀x∈m,(tupleKind (zO P w)).is h x.1 x.2.1:=by
  intro l m q
  induction q with
  | nil=>intro x B;exact nomatch B
  | @cons p q ps Y Z t U=>
   intro x B;rcases ay.mp B with e | B
   ·subst e;exact zgn F (by simp_all)
   ·exact U x B
 exact all r x B
def zp0(q:HOk P w H h)(e:H a=some (.dT kvs)):kvs.length<=sizeLine/\(a==sysModules)=false/\
  ∃xs,KT H kvs xs/\h.DictOfH (tupleKind (zO P w)) a xs:=znh q (.inl e)
end
def zfT (H:Hp)(a:Addr)(y:V)(r:Option V):Prop:=
 (∃kvs k,Rd H a (.dK kvs)/\y=kV k/\r=zaE kvs k)\/∃kvs k b,Rd H a (.dT kvs)/\y = .ref b/\H b=some (.tup (k.map kV))/\r=zaE kvs k
def zdH (H:Hp)(a:Addr)(y v:V)(H':Hp):Prop:=
 (∃kvs k,H a=some (.dK kvs)/\y=kV k/\kvs.length<sizeLine/\H'=upd H a (.dK (uQ kvs k v)))\/
 ∃kvs k b,H a=some (.dT kvs)/\y = .ref b/\H b=some (.tup (k.map kV))/\kvs.length<sizeLine/\H'=upd H a (.dT (uQ kvs k v))
def zfT.k {H:Hp}{a:Addr}{kvs:List (Key×V)}{k:Key}(e:H a=some (.dK kvs)):zfT H a (kV k) (zaE kvs k):=.inl ⟨kvs,k,.inl e,rfl,rfl⟩
def zdH.k {H:Hp}{a:Addr}{kvs:List (Key×V)}{k:Key}{v:V}(e:H a=some (.dK kvs))(q:kvs.length<sizeLine):zdH H a (kV k) v (upd H a (.dK (uQ kvs k v))):=.inl ⟨kvs,k,e,rfl,q,rfl⟩
def zdH.t {H:Hp}{a b:Addr}{kvs:List (List Key×V)}{k:List Key}{v:V}(e:H a=some (.dT kvs))(q:H b=some (.tup (k.map kV)))(B:kvs.length<sizeLine) :
  zdH H a (.ref b) v (upd H a (.dT (uQ kvs k v))):=.inr ⟨kvs,k,b,e,rfl,q,B,rfl⟩
section
variable {X:Cx}{pins:List (Addr×Obj)}{σ:St}{H:Hp}{s:Shared}{a:Addr}{y v:V}{u r:Value}{o:Option V}{A:Around}{E:Value->Shared->Prop}
def Inv.big (I:Inv X pins σ H s):sysModules<s.heap.objs.size:=by have h:mainGlobals<s.heap.objs.size:=(I.mod.glob.keeps I.bk).lt;exact Nat.lt_trans (by decide) h
def zh2(Y:A.units+1<cLine)(I:Inv X pins σ H s)(g:zfT H a y (some v))(U:yr y u)(h:∀w' s',Inv X pins σ H s'->yr v w'->Q w' s') :
  wpAny (model X.prog X.w) A (getItem (.ref a) u) Q E s:=by
 rcases g with ⟨kvs,k,e,ey,l⟩ | ⟨kvs,k,b,e,ey,eb,l⟩
 ·subst ey;obtain⟨z,Z,vs,q,F⟩:=zng I.hok e;obtain⟨w',J,B⟩:=zhD.some_of (v:=v) (o:=valueAt vs k) (by rw[l];exact q.val k);exact wpAny_getItem_of (ziI U) F.mapOf J (h w' _ (I.tok _) B)
 ·subst ey;cases (show u=Value.ref b from U);obtain⟨z,Z,xs,q,F⟩:=znh I.hok e;obtain⟨w',J,B⟩:=zhD.some_of (v:=v) (o:=(atKey xs k).map (·.2)) (by rw[l];exact q.val k);obtain⟨p,hp,O⟩:=aF.mp J;refine wpAny_getItem_heap (tupleKind_room_in1 Y) (zgn I.hok eb) F hp ?_;rw[O];exact h w' _ (I.tok _) B
def zaK(I:Inv X pins σ H s)(F:Mut (H a))(hs:Heap.SameBut a s.heap h')(J:∃q,h'.get? a=some q)(B:z8 X.prog X.w (upd H a ob) h' a ob) :
  Inv X pins σ (upd H a ob) { s with heap:=h',toks:=t' }:=
 I.write (x:=a) (e:=a) F (.inl rfl) (λb q O z=>(hs.2 b O).trans z) J B
def zia(z:kvs.length<=sizeLine)(B:(a==sysModules)=false)(q:KV kvs vs)(F:h'.DictOf (zO P w) a vs) :
  z8 P w H' h' a (.dK kvs):=⟨z,B,vs,q,F⟩
def zh3(hu:A.units+1<cLine)(I:Inv X pins σ H s)(g:zdH H a y v H')(ry:yr y u)(rv:yr v r)(h:∀s',Inv X pins σ H' s'->Q () s') :
  wpAny (model X.prog X.w) A (setItem (.ref a) u r) Q E s:=by
 rcases g with ⟨kvs,k,e,ey,l,eH⟩ | ⟨kvs,k,b,e,ey,eb,l,eH⟩
 ·subst ey eH;obtain⟨z,O,vs,B,U⟩:=znf I.hok e;have Y:vs.length<=sizeLine:=by rw[<- B.length];exact z
  have Z:(uQ kvs k v).length<=sizeLine:=by have:=y8 kvs k v;lia
  refine wpAny_setItem_pairs (hsz:=Y) (ziI ry) U λh' F hs=>h _ ?_;have he:∃q,h'.get? a=some q:=let ⟨q,_,_,J,_⟩:=F;⟨q,J⟩;exact zaK I (by rw[e];exact True.intro) hs he (zia Z O (B.put k rv) F)
 ·subst ey eH;cases (show u=Value.ref b from ry);obtain⟨z,O,xs,B,U⟩:=zp0 I.hok e;have Y:xs.length<=sizeLine:=by rw[<- eW B];exact z
  have Z:(uQ kvs k v).length<=sizeLine:=by have:=y8 kvs k v;lia
  refine wpAny_setItem_heap (hsz:=Y) (tupleKind_room_in1 hu) (zgn I.hok eb) U λh' F hs=>h _ ?_;obtain⟨q,es,ep,J,h2,h3,h4,_,h5⟩:=F;refine zaK I (by rw[e];exact True.intro) hs ⟨q,J⟩ ⟨Z,O,_,(B.put k eb rv).keeps λc ys ec=>?_,q,es,ep,J,h2,h3,h4,h5⟩;rw[zd (by grind)];exact ec
end
section
variable {X:Cx}{pins:List (Addr×Obj)}{σ:St}{H:Hp}{s:Shared}{a:Addr}{kvs:List (Key×V)}{k:Key}{u:Value}{A:Around}{E:Value->Shared->Prop}
end
def zsd (i:Expr):Prop:=∀q B,subscripted i false q B=operate [q,B] (getItem q B)
def zpd {prog:Program}{w:World}{A:Around}{E:Value->Shared->Prop}{s:Shared}{env:Env}{value q:Expr}{pos:Pos}{T id:String}{Q:Value->Shared->Prop}
  (Z:typeLookup (.type T) "__getitem__" = pure (some (.builtin id))) (hs:zsd q)
  (h:wpAny (model prog w) A (eval value env) (λo I=>wpAny (model prog w) A (eval q env) (λi B=>B.TypeIs o T/\wpAny (model prog w) A (getItem o i) Q E B) E I) E s) :
  wpAny (model prog w) A (eval (.Subscript value q pos) env) Q E s:=by
 refine Subscript_ (aC h (λo I O=>aC O (λi B F=>?_) λ_ _ x=>x) λ_ _ x=>x);obtain⟨Y,F⟩:=F;unfold subscriptTail;refine aa ?_;rw[getitemInPython_of_ne Y.not_modules];refine aa (di Y Z ?_)
 have fin:wpAny (model prog w) A (subscripted q false o i) (λr J=>wpAny (model prog w) A (letTemporaryGo value o r >>= λ_=>pure r) Q E J) E B:=by rw[hs o i];exact wpAny_operating (aC F (λr J U=>aa (wpAny_letTemporaryGo (ae U))) λ_ _ x=>x)
 first
  | exact ae (aa fin)
  | exact aa (by grind)
  | exact aa fin
def ze4{X:Cx}{pins:List (Addr×Obj)}{σ:St}{H:Hp}{s:Shared}{a:Addr}{y:V}(I:Inv X pins σ H s)(g:zfT H a y o):s.TypeIs (.ref a) "dict" := by
 rcases g with ⟨kvs,k,e,_,_⟩ | ⟨kvs,k,b,e,_,_,_⟩
 ·obtain⟨_,_,vs,_,q⟩:=zng I.hok e;exact q.typeIs
 ·obtain⟨_,_,xs,_,q⟩:=znh I.hok e;exact q.typeIs
def zrK (td ty:TE):TE:=λσ H Q=>td σ H λx H1=>ty σ H1 λy H2=>∃a v,x = .ref a/\zfT H2 a y (some v)/\Q v H2
def zrF (td ty tv:TE):TS:=λD σ H=>tv σ H λv H1=>td σ H1 λx H2=>ty σ H2 λy H3=>∃a H4,x = .ref a/\zdH H3 a y v H4/\D.nx σ H4
section
variable {X:Cx}{o i e value:Expr}{pos pos' tpos:Pos}{td ty tv:TE}
def zog (B:X.A.units+1<cLine)(J:PE X o td)(hi:PE X i ty)(hs:zsd i):PE X (.Subscript o i pos) (zrK td ty):=by intro pins s σ H Q I h;refine zpd PySem.F.slot_dict_getitem.lookup hs (thn (J pins s σ H _ I h) λu O ⟨x,H1,I1,U,Y⟩=>thn (hi pins O σ H1 _ I1 Y)  ?_);rintro iv s2 ⟨y,H2,I2,Z,a,v,ex,g,q2⟩;subst ex;obtain rfl:u=Value.ref a:=U;exact⟨ze4 I2 g,zh2 B I2 g Z λw' s3 I3 q=>⟨v,H2,I3,q,q2⟩⟩
def zou (q:X.A.units+1<cLine)(B:PE X o td)(hi:PE X i ty)(F:PE X value tv)(hs:swapsWith value (some (.Subscript o i pos')) pos.line X.env=pure false) :
  PS X (.Assign [.Subscript o i pos'] value pos) (zrF td ty tv):=by
 intro pins s σ H D I h;refine wpAny_Assign_Subscript (thn (F pins s σ H _ I h) λr J ⟨v,H1,I1,O,U⟩=>thn (B pins J σ H1 _ I1 U) λu Y ⟨x,H2,I2,Z,q2⟩=>thn (hi pins Y σ H2 _ I2 q2) λiv s3 ⟨y,H3,I3,ry,a,H4,ex,g,q3⟩=>?_) hs;subst ex;obtain rfl:u=Value.ref a:=Z;exact zh3 q I3 g ry O λs4 I4=>⟨σ,H4,I4,q3⟩
end
def zf9(h:Heap)(q:sysModules<h.objs.size):z8 P w H (h.push { cls:=.type "dict",data:=.dict #[] }) h.objs.size (.dK []):=
 ⟨aN _,ff.mpr (Ne.symm (a6 q)),[],.nil,Heap.DictOf.new h⟩
def zkx(h:Heap)(q:sysModules<h.objs.size):z8 P w H (h.push { cls:=.type "dict",data:=.dict #[] }) h.objs.size (.dT []):=
 ⟨aN _,ff.mpr (Ne.symm (a6 q)),[],.nil,_,#[],0,aw _ rfl,⟨rfl,rfl,rfl⟩,rfl,rfl,eD⟩
section
variable {X:Cx}{pos:Pos}
end
def zj6:List (TE×TE)->St->Hp->(List (V×V)->Hp->Prop)->Prop
 | [],_,H,Q=>Q [] H
 | (tk,tv)::r,σ,H,Q=>tk σ H λx H1=>tv σ H1 λy H2=>zj6 r σ H2 λps H3=>Q ((x,y)::ps) H3
abbrev VV:List (V×V)->List (Value×Value)->Prop:=Paired λp q=>yr p.1 q.1/\yr p.2 q.2
def PPs (X:Cx)(pos:Pos)(B:List (Option Expr))(q:List Expr)(F:List (TE×TE)):Prop:=
 ∀ (pins:List (Addr×Obj)) (s:Shared) (σ:St) (H:Hp) (Q:List (V×V)->Hp->Prop),Inv X pins σ H s->zj6 F σ H Q->
  wpAny (model X.prog X.w) X.A (evalPairs (pairTrees B q X.env pos)) (λvs s'=>∃ps H',Inv X pins σ H' s'/\VV ps vs/\Q ps H') X.xe s
def zot:PPs X pos [] [] []:=λpins s σ H Q I h=>pairTrees_nil_walk ⟨[],H,I,.nil,h⟩
def zlp(F:PE X k tk)(J:PE X v tv)(O:PPs X pos ks vs q) :
  PPs X pos (some k::ks) (v::vs) ((tk,tv)::q):=λpins s σ H Q I h=>
 pairTrees_cons_walk (thn (F pins s σ H _ I h) λu U ⟨x,H1,I1,Y,Z⟩=>thn (J pins U σ H1 _ I1 Z) λw2 s2 ⟨y,H2,I2,ry,q2⟩=>
  thn (O pins s2 σ H2 _ I2 q2) <| by rintro ws s3 ⟨ps,H3,I3,B,q3⟩;exact⟨(x,y)::ps,H3,I3,.cons ⟨Y,ry⟩ B,q3⟩)
def zbM (kvs more:List (Key×V)):List (Key×V):=more.foldl (λacc kv=>uQ acc kv.1 kv.2) kvs
def KV.merge:∀ {more:List (Key×V)} {B:List (Key×Value)} {kvs:List (Key×V)} {vs:List (Key×Value)},KV more B->KV kvs vs->KV (zbM kvs more) (merged vs B):=by
 intro more B kvs vs r;unfold KV at r
 induction r generalizing kvs vs with
 | nil=>intro q;exact q
 | @cons p q ps J h t F=>
  intro I
  have e:KV (uQ kvs p.1 p.2) (stored vs q.1 q.2):=by
   have:=I.put p.1 h.2
   simp_all
  exact F e
def zal:∀ (more kvs:List (Key×V)),(zbM kvs more).length<=kvs.length+more.length
 | [],kvs=>by show kvs.length<=kvs.length+0;lia
 | p::r,kvs=>by
  have h1:=zal r (uQ kvs p.1 p.2);have h2:=y8 kvs p.1 p.2;show (zbM (uQ kvs p.1 p.2) r).length<=_
  grind
def zcq:∀ {kvs:List (Key×V)} {F:List (Value×Value)},VV (kvs.map λkv=>(kV kv.1,kv.2)) F->∃B,Carries (zO P w) F B/\KV kvs B
 | [],_,r=>by rw[eI] at r;cases r;exact⟨[],True.intro,.nil⟩
 | p::kvs,_,r=>by
  rw[au] at r
  cases r with
  | @cons a b as J h t=>
   obtain⟨B,c,q⟩:=zcq (P:=P) (w:=w) t;obtain⟨O,I⟩:=b;exact⟨(p.1,I)::B,⟨ziI h.1,rfl,c⟩,.cons ⟨rfl,h.2⟩ q⟩
def zrL (q:List (TE×TE)):TE:=λσ H Q=>∀p,H p=none->zj6 q σ (upd H p (.dK [])) λps H2=>H2 p=some (.dK [])/\∃kvs:List (Key×V),ps=kvs.map (λkv=>(kV kv.1,kv.2))/\kvs.length<=15/\Q (.ref p) (upd H2 p (.dK (zbM [] kvs)))
def zoh(h:PPs X pos B F J)(O:B.all (·.isSome)=true)(hl:B.length=F.length)(h0:B≠[])(Y:B.length<=15):PE X (.Dict B F pos) (zrL J):=by
 intro pins s σ H Q I q;have hn:=I.hok.fresh (ah s.heap.objs.size);have I1:=I.laid (a:=s.heap.objs.size) (o:=.dK []) (h':=s.heap.push { cls:=.type "dict",data:=.dict #[] }) (t':=s.toks) (λ_ _ q=>am _ q) (ah _) (zf9 s.heap I.big);refine wpAny_Dict_walk (knd:=zO X.prog X.w) O hl h0 Y (thn (h pins _ σ _ _ I1 (q _ hn))  ?_);rintro ws s2 ⟨ps,H2,I2,Z,e,kvs,ep,lk,q2⟩;subst ep;obtain⟨rs,c,rk⟩:=zcq (P:=X.prog) (w:=X.w) Z;obtain⟨z,hd,ac,r0,dd⟩:=znf I2.hok e;cases r0;refine⟨rs,c,dd,λh' U hs=>⟨.ref s.heap.objs.size,_,?_,rfl,q2⟩⟩
 have hz:(zbM [] kvs).length<=sizeLine:=by have h1:=zal kvs [];rw[List.length_nil] at h1;rw[b9];lia
 have he:∃q,h'.get? s.heap.objs.size=some q:=let ⟨q,_,_,hq,_⟩:=U;⟨q,hq⟩;exact zaK I2 (by rw[e];exact True.intro) hs he (zia hz hd (rk.merge .nil) U)
section
variable {X:Cx}{pins:List (Addr×Obj)}{σ:St}{H:Hp}{s:Shared}{a:Addr}{y d:V}{u r:Value}{o:Option V}{A:Around}{E:Value->Shared->Prop}
end
section
variable {X:Cx}{o e f:Expr}{apos cpos:Pos}{td ty tx:TE}
end
section
variable {X:Cx}{pins:List (Addr×Obj)}{σ:St}{H:Hp}{s:Shared}{a:Addr}{kvs:List (Key×V)}{A:Around}{E:Value->Shared->Prop}
end
section
variable {X:Cx}{pins:List (Addr×Obj)}{σ:St}{H:Hp}{s:Shared}{a:Addr}{y:V}{u:Value}{A:Around}{E:Value->Shared->Prop}
end
end L2
namespace HT
open PySem PyProof.Rows
def lexLt:List Int->List Int->Bool
 | [],[]=>false
 | [],_::_=>true
 | _::_,[]=>false
 | x::xs,y::ys=>if x=y then lexLt xs ys else decide (x<y)
def lexLt_cons (x y:Int)(xs ys:List Int):lexLt (x::xs) (y::ys)=if x=y then lexLt xs ys else decide (x<y):=rfl
def lexLt_nil_nil:lexLt [] []=false:=rfl
section
open PySem.SeqAt
open PySem.AutoSeq1 (wpAny_loadPart')
open PySem.MeetsSeq PySem.MeetsSeq2 PySem.MeetsSeq3
end
section
variable {prog:Program}{w:World}{A:Around}{E:Value->Shared->Prop}{s:Shared}
def cat_tup(ht:IsTup s.heap t vs.toArray)(hb:IsTup s.heap b q.toArray)(hv:vs≠[])(h1:q=[]->Q (.ref t) s)(h2:q≠[]->Q (.ref s.heap.objs.size) { s with heap:=s.heap.push { cls:=.type "tuple",data:=.seq (vs++q).toArray } })(hsz:vs.length+q.length<=sizeLine):wpAny (model prog w) A (binaryOp .Add (.ref t) (.ref b)) Q E s:=by
 obtain⟨⟨cls,dd,data,sl⟩,Y,hc,n,hd⟩:=id ht;obtain⟨⟨ad,I,ac,J⟩,B,O,n2,U⟩:=id hb;simp only at hc hd O U;subst hc hd O U;have e:vs.toArray++q.toArray=(vs++q).toArray:=by simp
 by_cases Z:q=[]
 ·exact concat_meets ⟨_,Y,rfl⟩ ⟨_,B,rfl⟩ noFill_tuple_add seq_tuple_add PySem.F.slot_tuple_add PySem.F.entry_tuple_add (PySem.F.args_tuple_add_2 _ _)
   (tuple_addW1 t b vs.toArray q.toArray n n2 dd I sl J (by simpa using hv) (by simp[Z])) ⟨Y,B,h1 Z⟩
 ·refine concat_meets ⟨_,Y,rfl⟩ ⟨_,B,rfl⟩ noFill_tuple_add seq_tuple_add PySem.F.slot_tuple_add PySem.F.entry_tuple_add (PySem.F.args_tuple_add_2 _ _)
   (tuple_addW2 t b vs.toArray q.toArray n n2 dd I sl J (by simpa using hv) (by simpa using Z) (by simp_all)) ⟨Y,B,?_⟩
  rw[e];exact h2 Z
def sIx (n d:Nat):Option Int->Nat
 | none=>d
 | some v=>if v<0 then (v+(n:Int)).toNat else min v.toNat n
def sIx_none (n d:Nat):sIx n d none=d:=rfl
def sIx_nat (n d k:Nat):sIx n d (some (k:Int))=min k n:=by show (if (k:Int)<0 then ((k:Int)+(n:Int)).toNat else min (k:Int).toNat n)=min k n;rw[if_neg (by lia),Int.toNat_natCast]
def zrG (n d:Nat)(B:d<=n)(o:Option Int):sIx n d o<=n:=by
 cases o with
 | none=>exact B
 | some v=>
  show (if v<0 then (v+(n:Int)).toNat else min v.toNat n)<=n;by_cases q:v<0
  ·rw[if_pos q];lia
  ·rw[if_neg q];exact Nat.min_le_right _ _
def zhN (v:Int)(n d:Nat):(if v<0 then max (v+(n:Int)) 0 else min v (n:Int))=((sIx n d (some v):Nat):Int):=by
 show (if v<0 then max (v+(n:Int)) 0 else min v (n:Int))=(((if v<0 then (v+(n:Int)).toNat else min v.toNat n):Nat):Int)
 grind
def zgU (lo hi:Option Int)(n:Nat):Builtin.Slice.sliceAdjust lo hi 1 (n:Int)=(((sIx n 0 lo:Nat):Int),((sIx n n hi:Nat):Int)):=by
 have h1:¬ ((1:Int)<0):=by lia
 unfold Builtin.Slice.sliceAdjust;simp only[h1,if_false];refine Prod.ext ?_ ?_
 ·cases lo with
  | none=>rfl
  | some v=>exact zhN v n 0
 ·cases hi with
  | none=>rfl
  | some v=>exact zhN v n n
def zhh (i j:Nat):Builtin.Slice.slicePlaces (i:Int) (j:Int) 1=j - i:=by
 unfold Builtin.Slice.slicePlaces;have h1:(1:Int) > 0:=by lia
 simp only[h1,if_true,Int.ediv_one];split <;> lia
def zcI{o:Option Int}{Q:Option Int->Shared->Prop}(p:IsPart v o)(h:Q o s):wpAny (model prog w) A (Builtin.Slice.slicePartIndex v) Q E s:=by
 cases p with
 | none=>exact slicePart_none h
 | int i t=>exact slicePart_int h
def uk{lo hi:Option Int}{Q:Int×Int×Nat->Shared->Prop}(hs:s.heap.IsSliceOf J F I .none)(pl:IsPart F lo)(O:IsPart I hi)(h:Q (((sIx n 0 lo:Nat):Int),1,sIx n n hi - sIx n 0 lo) s):wpAny (model prog w) A (Builtin.Slice.sliceApplied (.ref J) (pure (n:Int))) Q E s:=by
 obtain⟨Y,q,U,B⟩:=id hs;unfold Builtin.Slice.sliceApplied Builtin.Slice.sliceFields;refine wpAny_bind (wpAny_bind (wpAny_field q B (x:=F) rfl (wpAny_bind (wpAny_field q B (x:=I) rfl (wpAny_bind (wpAny_field q B (x:=.none) rfl (wpAny_pure ?_)))))));refine wpAny_bind (slicePart_none ?_);show wpAny _ _ (if ((1:Int)==0)=true then _ else _) _ _ s;rw[if_neg (by decide)];refine wpAny_bind (zcI pl (wpAny_bind (zcI O (wpAny_bind (wpAny_pure ?_)))));show wpAny _ _ (match Builtin.Slice.sliceAdjust lo hi 1 (n:Int) with | (lo,hi)=>pure (lo,(1:Int),Builtin.Slice.slicePlaces lo hi 1)) _ _ s;rw[zgU lo hi n];show wpAny _ _ (pure (((sIx n 0 lo:Nat):Int),(1:Int),Builtin.Slice.slicePlaces ((sIx n 0 lo:Nat):Int) ((sIx n n hi:Nat):Int) 1)) _ _ s;rw[zhh];exact wpAny_pure h
def zlo (xs:Array Value)(i k:Nat):((List.range k).filterMap λ(m:Nat)=>xs[((i:Int)+(m:Int) * 1).toNat]?).toArray=((xs.toList.drop i).take k).toArray:=by
 have e:(λ(m:Nat)=>xs[((i:Int)+(m:Int) * 1).toNat]?)=λm=>xs[i+m]?:=by
  funext m;have:((i:Int)+(m:Int) * 1).toNat=i+m:=by lia
  rw[this]
 rw[e];have:=pick_run xs i k;rw[List.filterMap_map] at this;have q:((λx=>xs[x]?) ∘ λx=>i+x)=λm=>xs[i+m]?:=rfl
 simp_all
def getItem_tuple_cut{lo hi:Option Int}(F:IsTup s.heap t q)(hs:s.heap.IsSliceOf I Z vu .none)(pl:IsPart Z lo)(pu:IsPart vu hi)(hw:¬ (sIx q.size 0 lo=0/\sIx q.size q.size hi=q.size))(h:Q (.ref s.heap.objs.size) { s with heap:=s.heap.push { cls:=.type "tuple",data:=.seq ((q.toList.drop (sIx q.size 0 lo)).take (sIx q.size q.size hi - sIx q.size 0 lo)).toArray } })(hsz:q.size<=sizeLine):wpAny (model prog w) A (getItem (.ref t) (.ref I)) Q E s:=by
 have B:sizeOk (.seq ((q.toList.drop (sIx q.size 0 lo)).take (sIx q.size q.size hi - sIx q.size 0 lo)).toArray):=by show ((q.toList.drop (sIx q.size 0 lo)).take (sIx q.size q.size hi - sIx q.size 0 lo)).toArray.size<=sizeLine;rw[List.size_toArray,List.length_take,List.length_drop,Array.length_toList];lia
 have hj:sIx q.size q.size hi<=q.size:=zrG _ _ (Nat.le_refl _) hi;obtain⟨os,J,O,ac⟩:=id hs;have U:s.TypeIs (.ref I) "slice" := ⟨os,J,O⟩;unfold getItem;try with_reducible refine wpAny_holding ?_
 first | refine wpAny_bind (wpAny_pure ?_) | skip
 refine wpAny_bind (wpAny_sequenceKey F.typeIs (by decide) ?_)
 refine wpAny_bind (wpAny_callSpecial?_slot (name:=Str.ofString "__getitem__") F.typeIs PyProof.Rows.slot_tuple_getitem
  (wpAny_call_entry PyProof.Rows.slot_tuple_getitem F.typeIs entry_tuple_getitem ?_ (args_tuple_getitem _ _)))
 show wpAny _ _ (Builtin.Tuple.tupleItemsOf (.ref t) >>= _) _ _ s;refine wpAny_bind (tupleItemsOf_ F ?_);refine wpAny_bind (wpAny_typeOf U ?_);rw[if_pos (by decide)];refine wpAny_bind (uk hs pl pu ?_)
 have Y:¬ ((((sIx q.size 0 lo:Nat):Int)==0&&(1:Int)==1&&(sIx q.size q.size hi - sIx q.size 0 lo)==q.size)=true):=by grind
 show wpAny _ _ (if (((sIx q.size 0 lo:Nat):Int)==0&&(1:Int)==1&&(sIx q.size q.size hi - sIx q.size 0 lo)==q.size)=true then _ else _) _ _ s;rw[if_neg Y,zlo]
 first
  | exact wpAny_bind (m:=Builtin.Tuple.tupleExact _) (wpAny_newObj_type (wpAny_pure ⟨_,rfl,wpAny_pure h⟩) B)
  | exact wpAny_bind (by grind) (by grind)
  | exact wpAny_bind (by grind)
  | exact wpAny_bind (by grind)
end
end HT
namespace L2
open PySem PySem.Spec PyProof.Rows
abbrev TO:=St->Hp->(Option Int->Hp->Prop)->Prop
def PO (X:Cx)(e:Option Expr)(t:TO):Prop:=
 ∀ (pins:List (Addr×Obj)) (s:Shared) (σ:St) (H:Hp) (Q:Option Int->Hp->Prop),Inv X pins σ H s->t σ H Q->
  wpAny (model X.prog X.w) X.A (evalPart e X.env) (λu s'=>∃o H',Inv X pins σ H' s'/\IsPart u o/\Q o H') X.xe s
def zj5:TO:=λ_ H Q=>Q none H
def zrO (t:TE):TO:=λσ H Q=>t σ H λx H1=>∃i,x = .int i/\Q (some i) H1
section
variable {X:Cx}{e:Expr}{te:TE}{lo hi:Option Expr}{tl th:TO}{pos p2:Pos}
def zor:PO X none zj5:=by intro pins s σ H Q I h;rw[evalPart_none];exact ae ⟨none,H,I,.none,h⟩
def zos (h:PE X e te):PO X (some e) (zrO te):=by intro pins s σ H Q I B;rw[evalPart_some];refine thn (h pins s σ H _ I B)  ?_;rintro u O ⟨x,H1,I1,F,J⟩;obtain⟨i,rfl,q⟩:=J;obtain⟨t,rfl⟩:=F;exact⟨some i,H1,I1,.int i t,q⟩
def SlR (X:Cx)(r:V->Option Int->Option Int->Hp->VK->Prop):Prop:=
 ∀ (pins:List (Addr×Obj)) (s:Shared) (σ:St) (H:Hp) (x:V) (v q B:Value) (lo hi:Option Int) (F:Addr) (Q:VK),Inv X pins σ H s->yr x v->s.heap.IsSliceOf F q B .none->IsPart q lo->IsPart B hi->r x lo hi H Q->
  ∃T id,typeLookup (.type T) "__getitem__" = pure (some (.builtin id))/\s.TypeIs v T/\wpAny (model X.prog X.w) X.A (getItem v (.ref F)) (EP X pins σ Q) X.xe s
def tSl (r:V->Option Int->Option Int->Hp->VK->Prop)(te:TE)(tl th:TO):TE:=λσ H Q=>te σ H λx H1=>tl σ H1 λl H2=>th σ H2 λu H3=>r x l u H3 Q
def zll {r:V->Option Int->Option Int->Hp->VK->Prop}(O:SlR X r)(U:PE X e te)(Y:PO X lo tl)(Z:PO X hi th):PE X (.Subscript e (.Slice lo hi none p2) pos) (tSl r te tl th):=by intro pins s σ H Q I h;refine Subscript_ (thn (U pins s σ H _ I h)  ?_);rintro v s1 ⟨x,H1,I1,r1,q1⟩;refine wpAny_Slice (thn (Y pins s1 σ H1 _ I1 q1) λF s2 ⟨l,H2,I2,pl,q2⟩=>thn (Z pins s2 σ H2 _ I2 q2)  ?_);rintro J B ⟨u,H3,I3,pu,q3⟩;rw[evalPart_none];refine ae ?_;have I4:Inv X pins σ H3 { B with heap:=B.heap.push { cls:=.type "slice",data:=.fields #[F,J,.none] } }:=I3.kept (t':=B.toks) λb ob q=>am _ q;obtain⟨T,id,hT,ht,hg⟩:=O pins { B with heap:=B.heap.push { cls:=.type "slice",data:=.fields #[F,J,.none] } } σ H3 x v F J l u B.heap.objs.size Q I4 r1 (Heap.IsSliceOf.new ..) pl pu q3;show wpAny (model X.prog X.w) X.A (subscriptTail e (.Slice lo hi none p2) v (.ref B.heap.objs.size)) (EP X pins σ Q) X.xe { B with heap:=B.heap.push { cls:=.type "slice",data:=.fields #[F,J,.none] } };exact tail_any (ops:=[.ref B.heap.objs.size,v]) ht hT hg (by with_unfolding_all rfl)
def zcb (xs:List V)(lo hi:Option Int):List V:=(xs.drop (HT.sIx xs.length 0 lo)).take (HT.sIx xs.length xs.length hi - HT.sIx xs.length 0 lo)
def zbB (xs:List V)(lo hi:Option Int):(zcb xs lo hi).length<=xs.length:=by unfold zcb;rw[bn,cm];lia
def rSlT (K:PySem.W.Frag):V->Option Int->Option Int->Hp->VK->Prop:=λx lo hi H Q=>∃a xs,x = .ref a/\SqT K H a xs/\
 ¬ (HT.sIx xs.length 0 lo=0/\HT.sIx xs.length xs.length hi=xs.length)/\∀p,H p=none->Q (.ref p) (upd H p (.tup (zcb xs lo hi)))
def zrI:SlR X (rSlT X.K):=by
 intro pins s σ H x v vl vu lo hi sl Q I O hs pl U h;obtain⟨a,xs,rfl,Y,Z,q⟩:=h;cases O;obtain⟨its,r,F,J⟩:=I.tuple Y;have B:its.toArray.size=xs.length:=by rw[aU];exact r.length.symm
 refine⟨"tuple",_,PyProof.Rows.slot_tuple_getitem.lookup,F.typeIs,?_⟩;refine HT.getItem_tuple_cut F hs pl U (by rw[B];exact Z) ?_ (by rw[B];exact J);rw[B];refine⟨.ref s.heap.objs.size,_,I.laid (t':=s.toks) (o:=.tup (zcb xs lo hi)) (λb ob q=>am _ q) (ah _) ?_,rfl,q _ (I.hok.fresh (ah _))⟩;exact⟨az (zbB xs lo hi) J,_,(r.drop (HT.sIx xs.length 0 lo)).take (HT.sIx xs.length xs.length hi - HT.sIx xs.length 0 lo),uO.new _ _⟩
def zt2 (K:PySem.W.Frag):R2:=λx y H Q=>∃a b xs ys,x = .ref a/\y = .ref b/\SqT K H a xs/\SqT K H b ys/\xs≠[]/\xs.length+ys.length<=sizeLine/\
 (ys=[]->Q (.ref a) H)/\(ys≠[]->∀p,H p=none->Q (.ref p) (upd H p (.tup (xs++ys))))
def yn.nil_iff(r:yn xs q):q=[]↔xs=[]:=by
 cases r with
 | nil=>simp
 | cons _ _=>simp
def zoa:OpR X (binaryOp .Add) (zt2 X.K):=by intro pins s σ H x y v u Q I O U h;obtain⟨a,b,xs,ys,rfl,rfl,Y,Z,hx,hz,q1,q2⟩:=h;cases O;cases U;obtain⟨its,F,p1,_⟩:=I.tuple Y;obtain⟨J,B,p2,_⟩:=I.tuple Z;refine HT.cat_tup p1 p2 (λz=>hx (F.nil_iff.mp z)) (λz=>⟨.ref a,H,I,rfl,q1 (B.nil_iff.mp z)⟩) (λz=>?_) (by rw[<- F.length,<- B.length];exact hz);refine⟨.ref s.heap.objs.size,_,I.laid (t':=s.toks) (o:=.tup (xs++ys)) (λb ob q=>am _ q) (ah _) ?_,rfl,q2 (λw=>z (B.nil_iff.mpr w)) _ (I.hok.fresh (ah _))⟩;exact⟨by simp_all,_,F.append B,uO.new _ _⟩
end
def ixN (n:Nat)(i:Int):Option Nat:=if 0<=i then (if i<n then some i.toNat else none) else if -(n:Int)<=i then some (i+n).toNat else none
def atI {α:Type}(xs:List α)(i:Int):Option α:=(ixN xs.length i).bind λj=>xs[j]?
def znD {n:Nat}{i:Int}{j:Nat}(h:ixN n i=some j):seqIndex? i n=some j/\j<n/\-(n:Int)<=i/\i<n:=by
 unfold ixN at h;by_cases q:0<=i
 ·rw[if_pos q] at h;by_cases h1:i<n
  ·rw[if_pos h1] at h;have e:i.toNat=j:=cj h;exact⟨by rw[seqIndex_of q h1,e],by lia,by lia,h1⟩
  ·simp_all
 ·rw[if_neg q] at h;by_cases h1:-(n:Int)<=i
  ·rw[if_pos h1] at h;have e:(i+n).toNat=j:=cj h;exact⟨by rw[seqIndex_neg (by lia) h1,e],by lia,h1,by lia⟩
  ·simp_all
def zhG {α:Type}{xs:List α}{i:Int}{v:α}(h:atI xs i=some v):∃j,seqIndex? i xs.length=some j/\xs[j]?=some v/\j<xs.length/\-(xs.length:Int)<=i/\i<xs.length:=by
 unfold atI at h
 cases e:ixN xs.length i with
 | none=>rw[e] at h;cases h
 | some j=>
  rw[e] at h;obtain⟨h1,h2,q,B⟩:=znD e;exact⟨j,h1,h,h2,q,B⟩
def zm3 {α:Type}{xs:List α}{j:Nat}{v:α}(h:xs[j]?=some v):atI xs (j:Int)=some v:=by
 have q:j<xs.length:=(af.mp h).1
 have e:ixN xs.length (j:Int)=some j:=by
  unfold ixN
  simp_all
 unfold atI;rw[e];exact h
def zeT (b:Expr):Prop:=∀o i,subscripted b false o i=operate [o,i] (getItem o i)
def IxR (X:Cx)(r:R2):Prop:=
 ∀ (value q:Expr) (pins:List (Addr×Obj)) (s:Shared) (σ:St) (H:Hp) (x y:V) (v u:Value) (Q:VK),Inv X pins σ H s->yr x v->yr y u->r x y H Q->
  subscripted q false v u=operate [v,u] (getItem v u)->wpAny (model X.prog X.w) X.A (subscriptTail value q v u) (EP X pins σ Q) X.xe s
def MtR (X:Cx)(id:String)(r:V->List V->Hp->VK->Prop):Prop:=
 ∀ (pins:List (Addr×Obj)) (s:Shared) (σ:St) (H:Hp) (x:V) (xs:List V) (v:Value) (q:List Value) (Q:VK),Inv X pins σ H s->yr x v->yn xs q->r x xs H Q->
  wpAny (model X.prog X.w) X.A (call (.builtin id) (v::q)) (EP X pins σ Q) X.xe s
section
variable {X:Cx}{a b:Expr}{ta tb:TE}{pos:Pos}
def ztU(B:IxR X r)(F:PE X a ta)(J:PE X b tb)(hs:zeT b):PE X (.Subscript a b pos) (tOp r ta tb):=by intro pins s σ H Q I h;exact Subscript_ (zsJ F J I h λv u O x y H2 I2 U Y q=>B a b pins O σ H2 x y v u Q I2 U Y q (hs _ _))
def zsw (K:PySem.W.Frag):R2:=λx y H Q=>∃p xs i v,x = .ref p/\y = .int i/\SqL K H p xs/\atI xs i=some v/\Q v H
def zsx (K:PySem.W.Frag):R2:=λx y H Q=>∃p xs i v,x = .ref p/\y = .int i/\SqT K H p xs/\atI xs i=some v/\Q v H
def znE:IxR X (zsw X.K):=by
 intro value B pins s σ H x y v u Q I Y Z h hs;obtain⟨p,xs,i,z,rfl,rfl,hq,he,q⟩:=h;cases Y;obtain⟨t,rfl⟩:=Z;obtain⟨its,r,pl,hz⟩:=I.list hq;obtain⟨j,h1,h2,h3,h4,h5⟩:=zhG he;obtain⟨w,O,F⟩:=r.get h2;have hl:=r.length;have hn:=ziZ;have fin:EP X pins σ Q w s:=⟨z,H,I,F,q⟩;by_cases U:0<=i
 ·have J:i.toNat=j:=by
   rw[seqIndex_of U h5] at h1
   simp_all
  exact item_listR pl.isList U (by lia) (by rw[J];simpa using O) fin hs
 ·have J:(i+(its.toArray.size:Int)).toNat=j:=by
   rw[seqIndex_neg (by lia) h4] at h1
   simp_all
  exact subscriptTail_builtinR (x:=w) pl.isList.typeIs slot_list_getitem.lookup
   (wpAny_getItem_list_neg (Q:=λr s'=>r=w/\EP X pins σ Q r s') pl.isList (by lia) (by simp_all) (by lia) (by rw[J];simpa using O) ⟨rfl,fin⟩) hs
def zqd:IxR X (zsx X.K):=by
 intro value B pins s σ H x y v u Q I J O h hs;obtain⟨p,xs,i,z,rfl,rfl,U,Y,q⟩:=h;cases J;obtain⟨t,rfl⟩:=O;obtain⟨its,r,pl,hz⟩:=I.tuple U;obtain⟨j,h1,h2,h3,h4,h5⟩:=zhG Y;obtain⟨w,Z,F⟩:=r.get h2;have hl:=r.length;have hn:=ziZ;have fin:EP X pins σ Q w s:=⟨z,H,I,F,q⟩
 exact subscriptTail_builtinR (x:=w) pl.typeIs slot_tuple_getitem.lookup
  (getItem_tuple (j:=j) (Q:=λr s'=>r=w/\EP X pins σ Q r s') pl (by lia) (by lia) (by simp_all) (by simpa using Z) ⟨rfl,fin⟩) hs
def zeC (lo hi:Option Int)(n:Nat):(sliceBounds lo hi none n).1=((HT.sIx n 0 lo:Nat):Int)/\(sliceBounds lo hi none n).2.1=((HT.sIx n n hi:Nat):Int)/\(sliceBounds lo hi none n).2.2=1:=by
 refine⟨?_,?_,rfl⟩
 ·cases lo with
  | none=>simp[sliceBounds,HT.sIx]
  | some i=>
   simp only[sliceBounds,HT.sIx,Option.getD_none,show (1:Int) > 0 by decide,if_true];by_cases h:i<0
   ·simp only[h,if_true] <;> lia
   ·simp only[h,if_false] <;> lia
 ·cases hi with
  | none=>simp[sliceBounds,HT.sIx]
  | some i=>
   simp only[sliceBounds,HT.sIx,Option.getD_none,show (1:Int) > 0 by decide,if_true];by_cases h:i<0
   ·simp only[h,if_true] <;> lia
   ·simp only[h,if_false] <;> lia
def zdw (its:List Value)(lo hi:Option Int):slicePick its.toArray lo hi none=((its.drop (HT.sIx its.length 0 lo)).take (HT.sIx its.length its.length hi - HT.sIx its.length 0 lo)).toArray:=by obtain⟨h1,h2,q⟩:=zeC lo hi its.toArray.size;unfold slicePick;rw[h1,h2,q];simp only[sliceRange_one,pick_run,aU] <;> rfl
def rSlL (K:PySem.W.Frag):V->Option Int->Option Int->Hp->VK->Prop:=λx lo hi H Q=>∃a xs,x = .ref a/\SqL K H a xs/\∀p,H p=none->Q (.ref p) (upd H p (.lst (zcb xs lo hi)))
def zo7:SlR X (rSlL X.K):=by intro pins s σ H x v Z vu lo hi sl Q I J hs pl O h;obtain⟨a,xs,rfl,U,q⟩:=h;cases J;obtain⟨its,r,F,Y⟩:=I.list U;have B:=r.length;refine⟨"list",_,slot_list_getitem.lookup,F.isList.typeIs,?_⟩;refine wpAny_getItem_list_slice F.isList hs pl O .none (by simp) ?_ (by grind);rw[zdw,<- B];refine⟨.ref s.heap.objs.size,_,I.laid (t':=s.toks) (o:=.lst (zcb xs lo hi)) (λb ob q=>am _ q) (ah _) ?_,rfl,q _ (I.hok.fresh (ah _))⟩;exact⟨az (zbB xs lo hi) Y,_,0,(r.drop (HT.sIx xs.length 0 lo)).take (HT.sIx xs.length xs.length hi - HT.sIx xs.length 0 lo),aw _ rfl⟩
def zc1:V->Bool
 | .non=>true
 | .bl _=>true
 | .int _=>true
 | .str _=>true
 | _=>false
def eqV:V->V->Bool
 | .non,.non=>true
 | .bl a,.bl b=>a==b
 | .bl a,.int b=>(if a then 1 else 0)==b
 | .int a,.bl b=>a==(if b then 1 else 0)
 | .int a,.int b=>a==b
 | .str a,.str b=>a==b
 | _,_=>false
def zp2(B:yr y u)(q:yr x v)(I:zc1 y=true)(F:zc1 x=true):SeqAt.EqAt A s u v (eqV y x):=by
 cases y with
 | non=>
  cases B
  cases x with
  | non=>cases q;exact SeqAt.EqAt.same _
  | bl b=>cases q;exact SeqAt.EqAt.none_bool b
  | int b=>obtain⟨t,rfl⟩:=q;exact SeqAt.EqAt.none_int b t
  | str b=>obtain⟨t,rfl⟩:=q;exact SeqAt.EqAt.none_str b t
  | _=>exact absurd (show false=true from F) ar
 | bl a=>
  cases B
  cases x with
  | non=>cases q;exact SeqAt.EqAt.bool_none a
  | bl b=>cases q;exact SeqAt.EqAt.bool_bool a b
  | int b=>obtain⟨t,rfl⟩:=q;exact SeqAt.EqAt.bool_int a b t
  | str b=>obtain⟨t,rfl⟩:=q;exact SeqAt.EqAt.bool_str a b t
  | _=>exact absurd (show false=true from F) ar
 | int a=>
  obtain⟨t',rfl⟩:=B
  cases x with
  | non=>cases q;exact SeqAt.EqAt.int_none a t'
  | bl b=>cases q;exact SeqAt.EqAt.int_bool a t' b
  | int b=>obtain⟨t,rfl⟩:=q;exact SeqAt.EqAt.int_int a t' b t
  | str b=>obtain⟨t,rfl⟩:=q;exact SeqAt.EqAt.int_str a t' b t
  | _=>exact absurd (show false=true from F) ar
 | str a=>
  obtain⟨t',rfl⟩:=B
  cases x with
  | non=>cases q;exact SeqAt.EqAt.str_none a t'
  | bl b=>cases q;exact SeqAt.EqAt.str_bool a t' b
  | int b=>obtain⟨t,rfl⟩:=q;exact SeqAt.EqAt.str_int a t' b t
  | str b=>obtain⟨t,rfl⟩:=q;exact SeqAt.EqAt.str_str a t' b t
  | _=>exact absurd (show false=true from F) ar
 | _=>exact absurd (show false=true from I) ar
def eqU (x:V)(u:Value):Bool:=match u with
 | .none=>eqV .non x
 | .bool b=>eqV (.bl b) x
 | .int i _=>eqV (.int i) x
 | .str z _=>eqV (.str z) x
 | _=>false
def zmj(r:yr y u)(f:zc1 y=true):eqU x u=eqV y x:=by
 cases y with
 | non=>cases r;rfl
 | bl b=>cases r;rfl
 | int i=>obtain⟨t,rfl⟩:=r;rfl
 | str z=>obtain⟨t,rfl⟩:=r;rfl
 | _=>exact absurd (show false=true from f) ar
def zeU:∀ {xs:List V} {q:List Value},yn xs q->xs.all zc1=true->q.any (eqU x)=xs.any λy=>eqV y x
 | _,_,.nil,_=>rfl
 | y::xs,u::q,.cons r t,f=>by rw[cg,aJ] at f;rw[cH,cH,zmj r f.1,zeU t f.2]
def zdb {A:Around}{s:Shared}{x:V}{v:Value}(F:yr x v)(I:zc1 x=true):∀ {xs:List V} {q:List Value},yn xs q->xs.all zc1=true->∀u∈q,SeqAt.EqAt A s u v (eqU x u)
 | _,_,.nil,_=>by grind
 | y::xs,u::q,.cons r t,f=>λJ B=>by
  rw[cg,aJ] at f;rcases ay.mp B with rfl | B
  ·rw[zmj r f.1];exact zp2 r F f.1 I
  ·exact zdb F I t f.2 J B
def inV (x:V)(xs:List V):Bool:=xs.any λy=>eqV y x
def rIn (K:PySem.W.Frag)(q:Bool):R2:=λx y H Q=>∃p xs,y = .ref p/\(SqL K H p xs\/SqT K H p xs)/\zc1 x=true/\xs.all zc1=true/\Q (.bl (if q then !inV x xs else inV x xs)) H
def zes:OpR X (compareOp .NotIn) (rIn X.K true):=by
 intro pins s σ H x y v u Q I J U h;obtain⟨p,xs,rfl,B,O,fs,q⟩:=h;cases U;rcases B with B | B
 ·obtain⟨its,r,pl,Y⟩:=I.list B;refine SeqAt.notIn_listAt (eqU x) pl.isList (λw F=>zdb J O r fs w (by simpa using F)) ⟨.bl _,H,I,rfl,?_⟩;rw[show its.toArray.any (eqU x)=its.any (eqU x) by simp,zeU r fs];exact q
 ·obtain⟨its,r,pl,Y⟩:=I.tuple B;refine SeqAt.notIn_tupleAt (eqU x) pl (λw F=>zdb J O r fs w (by simpa using F)) ⟨.bl _,H,I,rfl,?_⟩;rw[show its.toArray.any (eqU x)=its.any (eqU x) by simp,zeU r fs];exact q
def zdQ:zdG X (.type "list") (λxs H Q=>∃p ys,xs=[.ref p]/\(SqL X.K H p ys\/SqT X.K H p ys)/\∀l,H l=none->Q (.ref l) (upd H l (.lst ys))):=by
 intro pins s σ H xs us Q I r h;obtain⟨p,ys,rfl,J,q⟩:=h;obtain⟨u,rfl,rx⟩:=zcm r;cases rx
 have fin:∀ (its:List Value),yn ys its->ys.length<=sizeLine->∀ (h':Heap) (B:Nat),(∀b o',s.heap.get? b=some o'->h'.get? b=some o')->
   h'.get? s.heap.objs.size=some { cls:=.type "list",dict:=none,data:=.seq its.toArray B,slots:=#[] }->EP X pins σ Q (.ref s.heap.objs.size) { s with heap:=h' }:=λits F O h' B kp e=>
  ⟨.ref s.heap.objs.size,_,I.laid (t':=s.toks) kp (ah _) (show z8 X.prog X.w _ h' _ (.lst ys) from ⟨O,its,B,F,e⟩),rfl,q _ (I.hok.fresh (ah _))⟩
 rcases J with J | J
 ·obtain⟨its,F,pl,O⟩:=I.list J;have U:=F.length;obtain⟨o,Y,Z,n,hd⟩:=pl.isList;exact call_list_seq p (.inl rfl) Y Z hd (λh' B kp e=>fin its F O h' B kp e) (by grind)
 ·obtain⟨its,F,pl,O⟩:=I.tuple J;have U:=F.length;obtain⟨o,Y,Z,n,hd⟩:=pl;exact call_list_seq p (.inr rfl) Y Z hd (λh' B kp e=>fin its F O h' B kp e) (by grind)
def zcS:zdG X (.type "tuple") (λxs H Q=>∃p ys,xs=[.ref p]/\((SqL X.K H p ys/\∀l,H l=none->Q (.ref l) (upd H l (.tup ys)))\/(SqT X.K H p ys/\Q (.ref p) H))):=by
 intro pins s σ H xs U Q I r h;obtain⟨p,ys,rfl,h⟩:=h;obtain⟨u,rfl,O⟩:=zcm r;cases O;rcases h with ⟨hq,q⟩ | ⟨hq,q⟩
 ·obtain⟨its,B,pl,F⟩:=I.list hq;have J:=B.length;refine call_tuple_list pl.isList (λh' kp=>?_) (by grind);have I1:Inv X pins σ H { s with heap:=h' }:=I.kept (t':=s.toks) kp
  have I2:Inv X pins σ (upd H h'.objs.size (.tup ys)) { s with heap:=h'.push { cls:=.type "tuple",data:=.seq its.toArray } }:=
   I1.laid (t':=s.toks) (λb o e=>am _ e) (ah _) (show z8 X.prog X.w _ _ _ (.tup ys) from ⟨F,its,B,uO.new _ _⟩)
  exact⟨.ref h'.objs.size,_,I2,rfl,q _ (I1.hok.fresh (ah _))⟩
 ·obtain⟨its,B,pl,F⟩:=I.tuple hq;exact call_tuple_same pl ⟨.ref p,H,I,rfl,q⟩
def tyV (K:PySem.W.Frag)(T:String)(x:V)(H:Hp):Prop:=match x with
 | .str _=>T = "str"
 | .int _=>T = "int"
 | .ref p=>(T = "list" /\ ∃xs,SqL K H p xs)\/(T = "tuple" /\ ∃o,K.lookup p=some o/\o.cls = .type "tuple" /\ o.dict=none)\/
   (T = "dict" /\ ((∃kvs,H p=some (.dK kvs))\/∃kvs,H p=some (.dT kvs)))\/(T = "set" /\ ∃S n,H p=some (.set S n))
 | _=>False
def zrS {pins:List (Addr×Obj)}{σ:St}{H:Hp}{s:Shared}{T:String}{x:V}{v:Value}(I:Inv X pins σ H s)(r:yr x v)(ty:tyV X.K T x H) :
  s.TypeIs v T/\∀a,v = .ref a->∃ob,s.heap.get? a=some ob/\ob.dict=none:=by
 cases x with
 | str z=>
  obtain⟨t,rfl⟩:=r;cases (show T = "str" from ty);exact⟨typeIs_str s z t,λ_ e=>nomatch e⟩
 | int i=>
  obtain⟨t,rfl⟩:=r;cases (show T = "int" from ty);exact⟨typeIs_int s i t,λ_ e=>nomatch e⟩
 | ref p=>
  cases r;rcases ty with ⟨rfl,xs,hq⟩ | ⟨rfl,o,q,hc,B⟩ | ⟨rfl,q⟩ | ⟨rfl,S,n,q⟩
  ·obtain⟨its,_,pl,_⟩:=I.list hq;refine⟨pl.isList.typeIs,λa e=>?_⟩;cases e;obtain⟨o,n,e,c,B,_⟩:=pl;exact⟨o,e,B⟩
  ·refine⟨⟨o,I.kIn p o q,hc⟩,λa e=>?_⟩;cases e;exact⟨o,I.kIn _ o q,B⟩
  ·have z:∃o,s.heap.get? p=some o/\o.ExactDict:=by
    rcases q with ⟨kvs,q⟩ | ⟨kvs,q⟩
    ·obtain⟨_,_,_,_,o,_,_,e,ex,_⟩:=I.hok p _ q;exact⟨o,e,ex⟩
    ·obtain⟨_,_,_,_,o,_,_,e,ex,_⟩:=I.hok p _ q;exact⟨o,e,ex⟩
   obtain⟨o,e,ex⟩:=z;refine⟨⟨o,e,ex.1⟩,λa F=>?_⟩;cases F;exact⟨o,e,ex.2.1⟩
  ·obtain⟨o,_,_,_,e,ex,_⟩:=I.hok p _ q;refine⟨⟨o,e,ex.1⟩,λa F=>?_⟩;cases F;exact⟨o,e,ex.2.1⟩
 | _=>exact False.elim ty
def tBM (K:PySem.W.Frag)(T:String)(r:V->List V->Hp->VK->Prop)(to:TE)(t:TA):TE:=λσ H Q=>to σ H λx H1=>tyV K T x H1/\t σ H1 λxs H2=>r x xs H2 Q
variable {o e:Expr}{es:List Expr}{to:TE}{t:TA}{name:Str}{apos cpos:Pos}{T id:String}{r:V->List V->Hp->VK->Prop}
def zqS (pa:PlainAttrs T)(J:Slot T name id)(U:typeOf (.builtin id)=pure (.type "method_descriptor"))(hm:MtR X id r)(ho:PE X o to)(ha:PA X (e::es) t)
  (B:attributeBase o name X.env (eval o X.env)=eval o X.env:=by rfl)
  (O:((backTo cpos (starEach (e::es) X.env)).all (λx=>!x.1)&&(backToKw cpos (keywordEach [] X.env)).all (λx=>x.1.isSome)
   && decide ((e::es).length+([]:List Keyword).length+(if ([]:List Keyword).isEmpty then 0 else 1)<30))=true:=by rfl)
  (F:(apos.endLine==cpos.line)=true:=by rfl) (hs:starEach (e::es) X.env=(false,eval e X.env)::starEach es X.env:=by rfl) (q:(backTo cpos (starEach es X.env)).any (·.1)=false:=by rfl) :
  PE X (.Call (.Attribute o name apos) (e::es) [] cpos) (tBM X.K T r to t):=by
 intro pins s σ H Q I h;refine wpAny_Call_method_late B O F rfl (thn (ho pins s σ H _ I h)  ?_);rintro v s1 ⟨x,H1,I1,Y,ty,q1⟩;obtain⟨h1,h2⟩:=zrS I1 Y ty;refine⟨T,id,pa,J,U,h1,h2,?_⟩;have Z:=ha cpos pins s1 σ H1 _ I1 q1;rw[hs] at Z ⊢;refine Calls.callWith_builtin (by show (false || (backTo cpos (starEach es X.env)).any (·.1))=false;rw[q] <;> rfl) (Calls.evalArgs_plain ?_);exact thn Z <| by rintro us s2 ⟨vs,H2,I2,r2,q2⟩;exact hm pins s2 σ H2 x vs v us Q I2 Y r2 q2
end
def MtM (X:Cx)(id:String)(r:V->List V->Hp->VK->Prop):Prop:=
 ∀ (pins:List (Addr×Obj)) (s:Shared) (σ:St) (H:Hp) (x:V) (xs:List V) (v:Value) (q:List Value) (Q:VK),Inv X pins σ H s->yr x v->yn xs q->r x xs H Q->
  wpAny (model X.prog X.w) X.A (call (.builtin id) (v::q)) (EP X pins σ Q) X.xe s
def yn.one:∀ {x:V} {q:List Value},yn [x] q->∃u,q=[u]/\yr x u
 | _,_,.cons r .nil=>⟨_,rfl,r⟩
section
variable {X:Cx}{pins:List (Addr×Obj)}{σ:St}{H:Hp}{s:Shared}{l b:Addr}{xs ys zs:List V}
def Inv.lset{its its':List Value}{f:Array Value->Array Value}(I:Inv X pins σ H s)(B:H l=some (.lst xs))(e:s.heap.get? l=some { cls:=.type "list",data:=.seq its.toArray n })(F:f its.toArray=its'.toArray)(J:yn ys its')(O:ys.length<=sizeLine) :
  Inv X pins σ (upd H l (.lst ys)) { s with heap:=s.heap.update l (Obj.mapSeq f),toks:=t' }:=by
 have q:=PySem.IsL.update e f;rw[F] at q;refine I.write (x:=l) (e:=l) (by rw[B];exact trivial) (.inl rfl) (λZ u U Y=>(Heap.get?_update_other s.heap (Obj.mapSeq f) (Ne.symm U)).trans Y) ⟨_,q⟩ ?_;exact⟨O,its',_,J,q⟩
def Inv.lnew(I:Inv X pins σ H s)(B:yn ys its)(F:ys.length<=sizeLine) :
  Inv X pins σ (upd H s.heap.objs.size (.lst ys)) { s with heap:=s.heap.push { cls:=.type "list",data:=.seq its.toArray },toks:=t' }:=
 I.laid (λ_ _ q=>am _ q) (ah _) ⟨F,its,0,B,aw _ rfl⟩
def Inv.fresh (I:Inv X pins σ H s):H s.heap.objs.size=none:=I.hok.fresh (ah _)
def Inv.lstM (I:Inv X pins σ H s)(q:Rd H l (.lst xs)):xs.length<=sizeLine/\∃ (its:List Value) (n:Nat),yn xs its/\xs.length=its.length/\s.heap.get? l=some { cls:=.type "list",data:=.seq its.toArray n }:=by obtain⟨z,its,n,r,e⟩:=(show z8 X.prog X.w H s.heap l (.lst xs) from q.ok I.hok);exact⟨z,its,n,r,r.length,e⟩
def zlc(h:n<=sizeLine):Builtin.List.listTooLong n=false:=by
 unfold Builtin.List.listTooLong
 simp_all
end
section
variable {X:Cx}
def zfG:V->List V->Hp->VK->Prop:=λx vs H Q=>∃l xs y,x = .ref l/\vs=[y]/\H l=some (.lst xs)/\xs.length<sizeLine/\Q .non (upd H l (.lst (xs++[y])))
def zej:MtM X "list.append" zfG:=by intro pins s σ H x vs v Y Q I J O h;obtain⟨l,xs,y,rfl,rfl,B,Z,q⟩:=h;cases J;obtain⟨u,rfl,U⟩:=O.one;obtain⟨z,its,n,r,hl,e⟩:=I.lstM (.inl B);refine call_meets F.slot_list_append ⟨_,e,rfl⟩ F.entry_list_append (F.args_list_append_2 _ _) (PySem.list_append l its.toArray n u (by grind)) ⟨e,?_⟩;refine⟨.non,_,I.lset (its':=its++[u]) B e (by simp) (r.append (.cons U .nil)) ?_,rfl,q⟩;rw[aq,List.length_singleton];lia
def zoS:V->List V->Hp->VK->Prop:=λx vs H Q=>∃l b xs zs,x = .ref l/\vs=[.ref b]/\H l=some (.lst xs)/\Rd H b (.lst zs)/\xs.length+zs.length<=sizeLine/\Q .non (upd H l (.lst (xs++zs)))
def zjb:MtM X "list.extend" zoS:=by
 intro pins s σ H x vs v us Q I U Y h;obtain⟨l,b,xs,zs,rfl,rfl,O,Z,hz,q⟩:=h;cases U;obtain⟨u,rfl,ru⟩:=Y.one;cases ru;obtain⟨z,its,n,r,hl,e⟩:=I.lstM (.inl O);obtain⟨z2,B,n2,r2,ac,e2⟩:=I.lstM Z;have hsz:its.toArray.size+B.toArray.size<=sizeLine:=by rw[aU,aU];lia
 have J:¬ (!its.toArray.isEmpty&&Builtin.List.listTooLong (its.toArray.size+B.toArray.size))=true:=by
  rw[zlc hsz,Bool.and_false]
  grind
 refine call_meets F.slot_list_extend ⟨_,e,rfl⟩ F.entry_list_extend (F.args_list_extend_2 _ _)
  (AutoSeq1.list_extend_list_list_0 l its.toArray n b B.toArray n2 J (by lia) (by lia)) ⟨e,e2,?_⟩
 refine⟨.non,_,I.lset (its':=its++B) O e (by simp) (r.append r2) ?_,rfl,q⟩
 simp_all
def rCat:R2:=λx y H Q=>∃l b xs zs,x = .ref l/\y = .ref b/\Rd H l (.lst xs)/\Rd H b (.lst zs)/\xs.length+zs.length<=sizeLine/\∀p,H p=none->Q (.ref p) (upd H p (.lst (xs++zs)))
def zqF:OpR X (binaryOp .Add) rCat:=by
 intro pins s σ H x y v u Q I F J h;obtain⟨l,b,xs,zs,rfl,rfl,O,U,hz,q⟩:=h;cases F;cases J;obtain⟨z,its,n,r,hl,e⟩:=I.lstM O;obtain⟨z2,B,n2,Y,Z,e2⟩:=I.lstM U;refine PySem.P.add_list e e2 ?_ (by simp_all);have ea:its.toArray++B.toArray=(its++B).toArray:=by simp
 rw[ea];exact⟨.ref _,_,I.lnew (t':=s.toks) (r.append Y) (by simp_all),rfl,q _ I.fresh⟩
end
section
variable {prog:Program}{w:World}{A:Around}{E:Value->Shared->Prop}{s:Shared}
end
section
variable {X:Cx}
end
end L2
namespace Att
open PySem PySem.W PySem.Calls PyProof.Rows
def zbF:∀ (ns:List Int) (vs:List Value),WellAll P h vs (ns.map WData.int)->IntsAre vs ns:=by
 intro ns
 induction ns with
 | nil=>
  intro vs w;rw[List.map_nil] at w;cases w;exact .nil
 | cons n ns q=>
  intro vs w;rw[List.map_cons] at w
  cases w with
  | cons a b=>
   cases a;exact .cons _ _ (q _ b)
def zjV{l:OpenLaw}(hn:l.most=some n){P:Params}{h:Heap}{q:List Value}(B:l.row.toRowW.claim.pre args=true)(J:WellAll P h q args) :
  ∃a vs ns,q=[Value.ref a]/\args=[WData.list (ns.map WData.int)]/\h.get? a=some { cls:=.type "list",data:=.seq vs.toArray }/\IntsAre vs ns/\ns.length<=n:=by
 have O:WShape.hasAll [] args [.list .int]=true:=(pre_splitW B).1;have U:l.pre.holds [] { args:=args }=true:=(pre_splitW B).2;obtain⟨d,r,rfl,h1,h2⟩:=hasAllW_cons O;obtain rfl:=hasAllW_nil h2;obtain⟨xs,rfl,Z⟩:=hasW_list h1;obtain⟨ns,rfl⟩:=items_int Z
 have F:ns.length<=n:=by
  unfold OpenLaw.pre at U
  have Y:(WTm.not (.lt (.lit (.int (n:Int))) (.len (.arg 0)))).holds [] { args:=[.list (ns.map .int)] }=true:=by
   have Y:=(holds_andW U).1
   simp_all
  have h5:=condW_of Y (w_not (w_lt w_lit (w_len_list (w_arg rfl))))
  grind
 cases J with
 | cons w1 w2=>
  cases w2
  cases w1 with
  | list ho I=>exact⟨_,_,ns,rfl,rfl,ho,zbF ns _ I,F⟩
def zjv (l:OpenLaw)(args:List WData):l.row.toRowW.claim.post args (.bool true) args=true:=
 postW_of (r:=l.row.toRowW) (X:=(true==true))
  (show WShape.has [] (.bool true) .bool=true by first | rfl | decide | simp[WShape.has,WShape.arms,WShape.armsAll])
  (show (WTm.eq .res (.lit (.bool true))).value [] { args:=args,res:=some (.bool true),after:=args }=some (.bool (true==true)) from w_eq_bool (w_res rfl) w_lit) rfl
def attach_call{l:OpenLaw}{q:Program}{F:List Str}{XP:(Str->Option Value)->Heap->Prop}{YP:World->Heap->Prop}{d:DefRec}(hn:l.most=some n)(ag:d.params.defaults=[])(U:∀ (w:World) (I B:Shared) (mg mb:Str->Option Value) (fa:Addr) (o:Obj) (pm cd J:Value) (a:Addr) (vs:List Value) (ns:List Int),
   Ground q F [] XP w I mg mb B.heap->YP w B.heap->
   B.heap.get? fa=some o->o.data = .func (docDef d.name d.params d.body d.scope pm cd J)->B.heap.CodeRec cd d.name->mg d.name=some (.ref fa)->
   B.heap.get? a=some { cls:=.type "list",data:=.seq vs.toArray }->IntsAre vs ns->ns.length<=n->B.gens = #[]->
   codeAny (model l.prog w) callerA (.call (.ref fa) ⟨[.ref a],[]⟩) (λr s'=>r = .ok (.ret (.bool true))/\OldK B.heap s'.heap/\s'.os=B.os/\AllBare s'.gens) B) :
  WalkO q F XP YP l.row.toRowW d [] (λf vs=>PySem.call f vs):=by
 intro w I B mg mb G Y fa o pm cd J dV kV ho hd al hD an hg args a1 as Z a2 a3 a0 a4;obtain rfl:dV = .none:=Dflts.none hD ag;obtain rfl:kV = .none:=Dflts.noKw hD;obtain⟨a,vs,ns,rfl,rfl,ac,O,ad⟩:=zjV hn Z a0;refine enter_call (codeAny_mono (U w I B mg mb fa o pm cd J a vs ns G Y ho (fd_plain hd) al an ac O ad hg) λr s' hq=>?_);obtain⟨rfl,h2,h3,h4⟩:=hq;exact⟨.inl ⟨.bool true,.bool true,[],rfl,λ_=>rfl,.bool true,zjv l _,λ_=>⟨List.Pairwise.nil,λ_ hm=>(nomatch hm)⟩⟩,h2,h3,h4⟩
section
variable {prog:Program}{w:World}{A:Around}{E:Value->Shared->Prop}{s:Shared}{K:Frag}
def ledger (h:Heap)(L d:Addr):List (Addr×Obj):=(List.range h.objs.size).filterMap λa=>if a=L\/a=d then none else (h.get? a).map λo=>(a,o)
end
end Att
namespace L2
open PySem PySem.Spec PyProof.Rows
def zeL:∀ {vs:List Value} {ns:List Int},IntsAre vs ns->yn (ns.map V.int) vs
 | _,_,.nil=>.nil
 | _,_,.cons n t h=>.cons ⟨t,rfl⟩ (zeL h)
def zsD (H:Hp):Prop:=∀b,H b=none\/∃o xs,H b=some (.frz o (.lst xs))
def zk2{P:Program}{w:World}{K:PySem.W.Frag}{mg mb:Str->Option Value}{CX:CXT}{fa a:Addr}{fd:FuncData}{sp:Sp}{B:Shared}{vs:List Value}{ns:List Int}(KX:K.In B.heap)(Z:B.heap.Ns mainGlobals mg)(J:B.heap.Ns builtinsNs mb)(as:∀x:Str,x ≠ "__name__" -> mb x=bootBuiltins x)(ac:B.heap.NoLimit)(hg:B.gens = #[])(ha:B.heap.get? a=some { cls:=.type "list",data:=.seq vs.toArray })(hi:IntsAre vs ns)(hl:ns.length<=sizeLine)(hr:Room k callerA)(F:∀base:Heap,K.In base->base.Ns mainGlobals mg->FnOk P w K mg base CX k fa fd [x] sp)(Y:∀ (s:Shared) (u:Value),BindsTo s fd ⟨[u],[]⟩ [(x,u)])(a0:∀H:Hp,zsD H->SqL K H a (ns.map V.int)->sp [.ref a] H (λv _=>v = .bl true) λ_ _ _=>False)(a1:∀H e s',CX [] H B (λ_ _ _=>False) e s'->False) :
  codeAny (model P w) callerA (.call (.ref fa) ⟨[.ref a],[]⟩) (λr s'=>r = .ok (.ret (.bool true))/\OldK B.heap s'.heap/\s'.os=B.os/\AllBare s'.gens) B:=by
 have rv:=zeL hi;have a3:=hi.length
 have U:∀H:Hp,zsD H->SqL K H a (ns.map V.int)->HOk P w H B.heap->(∀b,H b≠none->b=a)->(H a≠none->K.lookup a=none)->
   codeAny (model P w) callerA (.call (.ref fa) ⟨[.ref a],[]⟩) (λr s'=>r = .ok (.ret (.bool true))/\OldK B.heap s'.heap/\s'.os=B.os/\AllBare s'.gens) B:=by
  intro H hO hS ad hA hK;have I:∀ {b:Addr} {o:Obj},B.heap.get? b=some o->H b=none->(zkI B.heap H).get? b=some o:=λe n=>zkJ e n
  have a2:∀ {b:Addr} {o:Obj} {es:Array DictEntry} {ep:Nat},B.heap.get? b=some o->o.data = .dict es ep->H b=none:=λ{b o es ep} e d=>by grind
  have O:∀ {b:Addr} {m:Str->Option Value},B.heap.Ns b m->(zkI B.heap H).Ns b m:=λ{b m} ⟨o,es,ep,e,d,r⟩=>⟨o,es,ep,I e (a2 e d),d,r⟩;have ag:K.In (zkI B.heap H):=λb o e=>I (KX b o e) (by grind);have hM:Mod K mg (zkI B.heap H):=⟨ag,O Z,⟨mb,O J,as⟩,let ⟨mc,h1,h2⟩:=ac;⟨mc,O h1,h2⟩⟩;have e0:Env0 P w K mg (zkI B.heap H) callerA [] B H:=⟨rfl,hM,λb o e=>zn3 e,Nat.le_of_eq (zir _ _),trivial,λb J=>absurd (show b∈([]:List Addr) from J) (by simp),ad,.of_eq hg⟩;refine eG ((F _ ag (O Z)).run callerA [] B H ⟨[.ref a],[]⟩ [.ref a] [.ref a] _ _ hr e0 (Y B (.ref a)) (.cons rfl .nil) (a0 H hO hS)) λr s' h=>?_
  cases r with
  | error e=>exact (a1 H e s' h).elim
  | ok fl=>
   cases fl with
   | next=>exact False.elim h
   | brk=>exact False.elim h
   | cont=>exact False.elim h
   | ret u=>
    obtain⟨v,H',os,al,un,an,r',q⟩:=h;have q':v = .bl true:=q;subst q';obtain rfl:u=Value.bool true:=r';refine⟨rfl,OldK.of_keep λb o e=>?_,os,al⟩
    cases q:H b with
    | none=>exact un.keep b o e q (by intro z;exact absurd (show b∈([]:List Addr) from z) (by simp)) (by simp)
    | some u=>
     rcases hO b with z | ⟨ob,xs,z⟩
     ·grind
     ·have z2:=un.frzs b ob _ z;obtain⟨e1,_⟩:=ad b _ z;obtain⟨e2,_⟩:=an b _ z2
      grind
 cases hk:K.lookup a with
 | some o=>
  have e:=KX a o hk;rw[ha] at e;cases e;refine U (λ_=>none) (λ_=>.inl rfl) (.inr ⟨_,vs.toArray,_,hk,rfl,rfl,rfl,by simp_all,by simpa using rv⟩) (λb u z=>by lia) (by grind) λz=>absurd rfl z
 | none=>
  refine U (λb=>if b=a then some (.frz { cls:=.type "list",data:=.seq vs.toArray } (.lst (ns.map V.int))) else none) (λb=>?_) (.inl (.inr ⟨{ cls:=.type "list",data:=.seq vs.toArray },if_pos rfl⟩)) (λb u z=>?_) (λb z=>?_) λ_=>hk
  ·by_cases J:b=a
   ·exact .inr ⟨_,_,if_pos J⟩
   ·exact .inl (if_neg J)
  ·by_cases J:b=a
   ·have z':=(if_pos J).symm.trans z;cases z';subst J;exact⟨ha,by simp_all,vs,_,rv,ha⟩
   ·simp_all
  ·grind
def zpo{l:PySem.W.OpenLaw}{q:Program}{I:List Str}{XP:(Str->Option Value)->Heap->Prop}{YP:World->Heap->Prop}{d:DefRec}{K:Params->PySem.W.Frag}{CX:World->CXT}{sp:World->Sp}(hn:l.most=some n)(Z:n<=sizeLine)(ac:d.params.defaults=[])(hr:Room k callerA)(hY:∀ (w:World) (h:Heap),YP w h->(K w.params).In h)(F:∀ (w:World) (mg:Str->Option Value) (fa:Addr) (h:Heap),(K w.params).In h->h.Ns mainGlobals mg->mg d.name=some (.ref fa)->
   ∃fd:FuncData,(∀ (s:Shared) (u:Value),BindsTo s fd ⟨[u],[]⟩ [(x,u)])/\
    ∀base:Heap,(K w.params).In base->base.Ns mainGlobals mg->FnOk l.prog w (K w.params) mg base (CX w) k fa fd [x] (sp w))(ad:∀ (w:World) (H:Hp) (a:Addr) (ns:List Int),ns.length<=n->zsD H->SqL (K w.params) H a (ns.map V.int)->sp w [.ref a] H (λv _=>v = .bl true) λ_ _ _=>False)(ag:∀ (w:World) (H:Hp) (s:Shared) (e:Value) (s':Shared),CX w [] H s (λ_ _ _=>False) e s'->False) :
  PySem.W.WalkO q I XP YP l.row.toRowW d [] (λf vs=>PySem.call f vs):=by
 refine Att.attach_call hn ac λw an O mg mb fa o pm cd as a vs ns G Y ho hd a0 al U J B hg=>?_;have KX:=hY w _ Y;obtain⟨fd,hb,hF⟩:=F w mg fa _ KX G.T.g al;exact zk2 KX G.T.g G.T.b G.T.builtins G.T.nolimit hg U J (az B Z) hr hF hb (λH hO hS=>ad w H a ns B hO hS) λH e s'=>ag w H O e s'
def yw (s:Stmt):Arguments:=match s with
 | .FunctionDef _ a _ _ _ _ _ _ _ _=>a
 | _=>{ posonlyargs:=[],args:=[],vararg:=none,kwonlyargs:=[],kw_defaults:=[],kwarg:=none,defaults:=[] }
def zE (s:Stmt):List Stmt:=match s with
 | .FunctionDef _ _ b _ _ _ _ _ _ _=>b
 | _=>[]
def zb (s:Stmt):Scope:=match s with
 | .FunctionDef _ _ _ _ _ _ q _ _ _=>q
 | _=>{ kind:=.function,names:=[],isGenerator:=false,isCoroutine:=false }
abbrev CX0:CXT:=λ_ _ _ _ _ _=>False
abbrev E0:XK:=λ_ _ _=>False
def zqQ:zhC CX0 X E0:=λ_ _ _ _ _ _ _ h=>h.elim
structure Fun (K:PySem.W.Frag)(x qual:Str)(st:Stmt)(f:Addr)(fd:FuncData):Prop where
 ex:∃ (oc:Value) (od:Option Addr) (kV doc pm:Value) (an:Option Addr) (cdv ct:Value) (osl:Array (Option Value)),
  fd=PySem.W.fnOf x qual (yw st) (zE st) (zb st) .none kV doc pm an cdv ct/\K.lookup f=some ⟨oc,od,.func fd,osl⟩/\PySem.W.codeIn K cdv qual=true
 kp:PySem.W.keepIn K (.ref f)=true
section
variable {P:Program}{w:World}{K:PySem.W.Frag}{mg:Str->Option Value}{base:Heap}
def Fun.ok{x qual:Str}{st:Stmt}{f:Addr}{fd:FuncData}{N ps:List Str}{sp:Sp}(F:Fun K x qual st f fd)(S:FnScope N ps (zb st))(J:∀vs H Q E,sp vs H Q E->vs.length=ps.length)(I:∀ (B:Value) (A:Around) (outer:List Env) (s:Shared) (H:Hp) (vs:List V) (Q:VK) (E:XK),Room k (A.deeper (envOfC qual (zb st) s.heap.objs.size f B))->sp vs H Q E->
   ∃t,PSs (zdE CX0 P w K mg base N qual (zb st) f B A outer s H E).nox (zE st) t/\t { nx:=λ_ H'=>Q .non H',rt:=Q } (xg N vs) H):FnOk P w K mg base CX0 (k+1) f fd ps sp:=by
 obtain⟨oc,od,kV,Y,pm,an,B,ct,Z,rfl,lk,O⟩:=F.ex;refine zp7 lk O S J λA outer s H vs Q E hr U=>?_;obtain⟨t,h,q⟩:=I B A outer s H vs Q E hr U;exact⟨t,h.nox,q⟩
def Fun.binds {x qual:Str}{st:Stmt}{f:Addr}{fd:FuncData}{ps:List Str}(F:Fun K x qual st f fd)
  (h:∀ (kV q I:Value) (J:Option Addr) (B ct:Value) (O:List Value),O.length=ps.length->bindArgs (PySem.W.fnOf x qual (yw st) (zE st) (zb st) .none kV q I J B ct) ⟨O,[]⟩=pure (ps.zip O)):zcK K fd ps []:=by
 obtain⟨Z,od,kV,q,I,J,B,ct,U,rfl,lk,Y⟩:=F.ex;exact .all (h kV q I J B ct)
def zmm{x qual:Str}{st:Stmt}{f:Addr}{U I:Option Addr}{F:Array (Option Value)}{kV B J q ct:Value}(l:K.lookup f=some ⟨O,U,.func (PySem.W.fnOf x qual (yw st) (zE st) (zb st) .none kV B J I q ct),F⟩)(c:PySem.W.codeIn K q qual=true)(k:PySem.W.keepIn K (.ref f)=true):Fun K x qual st f (PySem.W.fnOf x qual (yw st) (zE st) (zb st) .none kV B J I q ct):=⟨⟨O,U,kV,B,J,I,q,ct,F,rfl,l,c⟩,k⟩
end
def zg6(q:Room k A):A.units+1<cLine:=bC (Nat.add_le_add_left (by decide:1<=64) _) q.units
def zeD(h:n<=1000):n<sizeLine:=bC h (by decide)
section
variable {X:Cx}
def pv (i:Nat){x:Str}{pos:Pos}(B:X.N[i]?=some x:=by rfl)(F:Vis X.env.scope x:=by walk_at "v")(I:(x==("__debug__" : Str))=false:=by decide)
  (q:(x==("__classdict__" : Str))=false:=by decide):PE X (.Name x pos) (zlR i):=zmD B F I q
end
def iteF {A B:Prop}(h:B):if false=true then A else B:=by grind
def zsj {c A B:Prop}[Decidable c](h1:c->A)(h2:¬ c->B):if c then A else B:=by grind
def yM (H H':Hp):Prop:=∀b o,H b=some o->H' b=some o
def yM.seq{K:PySem.W.Frag}{H H':Hp}{a:Addr}(e:yM H H')(h:SqL K H a xs):SqL K H' a xs:=by
 rcases h with (h | ⟨o,h⟩) | h
 ·exact .inl (.inl (e _ _ h))
 ·exact .inl (.inr ⟨o,e _ _ h⟩)
 ·exact .inr h
section
variable {κ:Type}[DecidableEq κ]
end
section
variable {X:Cx}
def zjE (K:PySem.W.Frag):R2:=λx y H Q=>∃a b xs ys,x = .ref a/\y = .ref b/\H a=some (.tup xs)/\H b=some (.tup ys)/\xs.length+ys.length<=sizeLine/\
 ∀p H',H' p=some (.tup (xs++ys))->yM H H'->Q (.ref p) H'
def zn9:OpR X (binaryOp .Add) (zjE X.K):=by
 intro pins s σ H x y v u Q I rx ry h;obtain⟨a,b,xs,ys,rfl,rfl,ha,U,hz,q⟩:=h;by_cases hx:xs=[]
 ·subst hx;cases rx;cases ry;obtain⟨its,r1,p1,_⟩:=I.tuple (.of ha);obtain⟨B,r2,p2,_⟩:=I.tuple (.of U);obtain⟨⟨cls,dd,data,sl⟩,ho,hc,n,hd⟩:=id p1;obtain⟨⟨ad,Y,Z,ac⟩,F,J,n2,O⟩:=id p2;simp only at hc hd J O;subst hc hd J O;have hi:its=[]:=r1.nil_iff.mpr rfl
  exact concat_meets ⟨_,ho,rfl⟩ ⟨_,F,rfl⟩ gb seq_tuple_add en dR (dO _ _)
   (tuple_addW0 a b its.toArray B.toArray n n2 dd Y sl ac (by simp[hi])) ⟨ho,F,⟨.ref b,H,I,rfl,q b H U λ_ _ e=>e⟩⟩
 ·refine zoa pins s σ H _ _ v u Q I rx ry ⟨a,b,xs,ys,rfl,rfl,.of ha,.of U,hx,hz,λe=>?_,λe p hp=>?_⟩
  ·subst e;exact q a H (by simp_all) λ_ _ e=>e
  ·exact q p _ zf λc o e=>by rw[zd (zg e hp)];exact e
end
section
variable {X:Cx}
end
end L2
namespace HT
open PySem PySem.Spec PyProof.Rows
section
variable {prog:Program}{w:World}{A:Around}{E:Value->Shared->Prop}{s:Shared}
def getItem_tuple_whole{lo hi:Option Int}(B:IsTup s.heap t q)(hs:s.heap.IsSliceOf I Y Z .none)(pl:IsPart Y lo)(pu:IsPart Z hi)(hw:sIx q.size 0 lo=0/\sIx q.size q.size hi=q.size)(h:Q (.ref t) s)(hsz:q.size<=sizeLine):wpAny (model prog w) A (getItem (.ref t) (.ref I)) Q E s:=by
 obtain⟨os,J,O,ac⟩:=id hs;have U:s.TypeIs (.ref I) "slice" := ⟨os,J,O⟩;unfold getItem;try with_reducible refine wpAny_holding ?_
 first | refine wpAny_bind (wpAny_pure ?_) | skip
 refine wpAny_bind (wpAny_sequenceKey B.typeIs (by decide) ?_)
 refine wpAny_bind (wpAny_callSpecial?_slot (name:=Str.ofString "__getitem__") B.typeIs PyProof.Rows.slot_tuple_getitem
  (wpAny_call_entry PyProof.Rows.slot_tuple_getitem B.typeIs entry_tuple_getitem ?_ (args_tuple_getitem _ _)))
 show wpAny _ _ (Builtin.Tuple.tupleItemsOf (.ref t) >>= _) _ _ s;refine wpAny_bind (tupleItemsOf_ B ?_);refine wpAny_bind (wpAny_typeOf U ?_);rw[if_pos (by decide)];refine wpAny_bind (uk hs pl pu ?_)
 have F:(((sIx q.size 0 lo:Nat):Int)==0&&(1:Int)==1&&(sIx q.size q.size hi - sIx q.size 0 lo)==q.size)=true:=by simp_all
 show wpAny _ _ (if (((sIx q.size 0 lo:Nat):Int)==0&&(1:Int)==1&&(sIx q.size q.size hi - sIx q.size 0 lo)==q.size)=true then _ else _) _ _ s;rw[if_pos F];unfold Builtin.Tuple.tupleIsExact;refine wpAny_bind (wpAny_bind (wpAny_typeOf B.typeIs ?_));refine wpAny_pure ?_;rw[if_pos (by decide)];refine wpAny_bind (wpAny_rule ?_);exact wpAny_pure ⟨_,rfl,wpAny_pure h⟩
end
end HT
namespace L2
open PySem PySem.Spec PyProof.Rows
section
variable {X:Cx}
def rSlA:V->Option Int->Option Int->Hp->VK->Prop:=λx lo hi H Q=>∃a xs,x = .ref a/\H a=some (.tup xs)/\∀p H',H' p=some (.tup (zcb xs lo hi))->yM H H'->Q (.ref p) H'
def zo8:SlR X rSlA:=by
 intro pins s σ H x v Z vu lo hi sl Q I F hs pl J h;obtain⟨a,xs,rfl,O,q⟩:=h;by_cases U:HT.sIx xs.length 0 lo=0/\HT.sIx xs.length xs.length hi=xs.length
 ·cases F;obtain⟨its,r,Y,hz⟩:=I.tuple (.of O);have B:its.toArray.size=xs.length:=by rw[aU];exact r.length.symm
  refine⟨"tuple",_,PyProof.Rows.slot_tuple_getitem.lookup,Y.typeIs,?_⟩;refine HT.getItem_tuple_whole Y hs pl J (by rw[B];exact U) ⟨.ref a,H,I,rfl,q a H ?_ λ_ _ e=>e⟩ (by rw[B];exact hz);unfold zcb
  grind
 ·exact zrI pins s σ H _ v Z vu lo hi sl Q I F hs pl J ⟨a,xs,rfl,.of O,U,λp hp=>q p _ zf λc o e=>by rw[zd (zg e hp)];exact e⟩
inductive Dt where
 | non | bl (b:Bool) | int (i:Int) | str (x:Str) | tup (l:List Dt) | lst (l:List Dt) | dct
mutual
def Is (H:Hp):Dt->V->Prop
 | .non,v=>v = .non
 | .bl b,v=>v = .bl b
 | .int i,v=>v = .int i
 | .str x,v=>v = .str x
 | .tup l,v=>∃a xs,v = .ref a/\H a=some (.tup xs)/\IsL H l xs
 | .lst l,v=>∃a xs,v = .ref a/\Rd H a (.lst xs)/\IsL H l xs
 | .dct,v=>∃a kvs,v = .ref a/\H a=some (.dK kvs)/\kvs=[]
def IsL (H:Hp):List Dt->List V->Prop
 | [],xs=>xs=[]
 | d::ds,xs=>∃x r,xs=x::r/\Is H d x/\IsL H ds r
end
def kO (d:Addr)(ob:Obj):HO:=.ext λh=>h.get? d=some ob
open Classical in
@[reducible] noncomputable def pnK:HO->Option (List (Key×V))
 | .dK kvs=>some kvs
 | .ext q=>if (∃d ob,(∃h:Heap,h.get? d=some ob)/\q=λh=>h.get? d=some ob) then some [(Sum.inr "at",.non)] else none
 | _=>none
def zl (H H':Hp):Prop:=∀b o,H b=some o->(∀kvs,pnK o=some kvs->zaE kvs (Sum.inr "at" : Key)=none)->H' b=some o
def zl.refl (H:Hp):zl H H:=λ_ _ e _=>e
def zl.trans(a:zl H H1)(b:zl H1 H2):zl H H2:=λc o e n=>b c o (a c o e n) n
def zl.same(a:yM H H1):zl H H1:=λc o e _=>a c o e
def zl.upd(h:H p=none):zl H (upd H p o):=λc u e _=>by rw[zd (zg e h)];exact e
def yM.upd(h:H p=none):yM H (upd H p o):=λc u e=>by rw[zd (zg e h)];exact e
def zl.tup(a:zl H H1)(h:H p=some (.tup xs)):H1 p=some (.tup xs):=a _ _ h λ_ e=>by cases e
def zl.rdl(a:zl H H1)(h:Rd H p (.lst xs)):Rd H1 p (.lst xs):=h.imp (λh=>a _ _ h λ_ e=>by cases e) λ⟨o,h⟩=>⟨o,a _ _ h λ_ e=>by cases e⟩
def Rd.same {H H1:Hp}{u:HO}{p:Addr}(h:Rd H p u)(a:yM H H1):Rd H1 p u:=h.imp (a _ _) λ⟨o,h⟩=>⟨o,a _ _ h⟩
def zl.lst(a:zl H H1)(h:H p=some (.lst xs)):H1 p=some (.lst xs):=a _ _ h λ_ e=>by cases e
mutual
def Is.stay {H H1:Hp}(a:zl H H1):∀ {d:Dt} {v:V},Is H d v->Is H1 d v
 | .non,_,h=>h
 | .bl _,_,h=>h
 | .int _,_,h=>h
 | .str _,_,h=>h
 | .tup l,v,h=>by obtain⟨p,xs,e,hp,hl⟩:=h;exact⟨p,xs,e,a.tup hp,IsL.stay a hl⟩
 | .lst l,v,h=>by obtain⟨p,xs,e,hp,hl⟩:=h;exact⟨p,xs,e,a.rdl hp,IsL.stay a hl⟩
 | .dct,v,h=>by obtain⟨p,kvs,e,hp,hl⟩:=h;exact⟨p,kvs,e,a _ _ hp λkvs' e=>by cases e;subst hl;rfl,hl⟩
def IsL.stay {H H1:Hp}(a:zl H H1):∀ {ds:List Dt} {xs:List V},IsL H ds xs->IsL H1 ds xs
 | [],_,h=>h
 | d::ds,xs,h=>by obtain⟨x,r,e,h1,h2⟩:=h;exact⟨x,r,e,Is.stay a h1,IsL.stay a h2⟩
end
def IsL.length:∀ {ds:List Dt} {xs:List V},IsL H ds xs->xs.length=ds.length
 | [],_,h=>by cases h;rfl
 | d::ds,xs,h=>by obtain⟨x,r,rfl,_,h2⟩:=h;rw[aT,aT,IsL.length h2]
def IsL.get:∀ {ds:List Dt} {xs:List V} {i:Nat} {x:V},IsL H ds xs->xs[i]?=some x->∃d,ds[i]?=some d/\Is H d x
 | [],_,_,_,h,e=>by cases h;simp at e
 | d::ds,xs,i,x,h,e=>by
  obtain⟨y,r,rfl,h1,h2⟩:=h
  cases i with
  | zero=>simp at e;subst e;exact⟨d,rfl,h1⟩
  | succ i=>
   obtain⟨d',q,B⟩:=IsL.get (i:=i) (x:=x) h2 (by simpa using e)
   simp_all
def IsL.getD:∀ {ds:List Dt} {xs:List V} {i:Nat} {d:Dt},IsL H ds xs->ds[i]?=some d->∃x,xs[i]?=some x/\Is H d x
 | [],_,_,_,_,e=>by simp at e
 | d::ds,xs,i,x,h,e=>by
  obtain⟨y,r,rfl,h1,h2⟩:=h
  cases i with
  | zero=>simp at e;subst e;exact⟨y,rfl,h1⟩
  | succ i=>
   obtain⟨d',q,B⟩:=IsL.getD (i:=i) (d:=x) h2 (by simpa using e)
   simp_all
def IsL.append:∀ {ds es:List Dt} {xs ys:List V},IsL H ds xs->IsL H es ys->IsL H (ds++es) (xs++ys)
 | [],_,_,_,h,k=>by cases h;exact k
 | d::ds,es,xs,ys,h,k=>by obtain⟨y,r,rfl,h1,h2⟩:=h;exact⟨y,r++ys,rfl,h1,IsL.append h2 k⟩
def IsL.take:∀ {ds:List Dt} {xs:List V} (n:Nat),IsL H ds xs->IsL H (ds.take n) (xs.take n)
 | _,_,0,_=>by simp[IsL]
 | [],_,n+1,h=>by cases h;simp[IsL]
 | d::ds,xs,n+1,h=>by obtain⟨y,r,rfl,h1,h2⟩:=h;exact⟨y,r.take n,rfl,h1,IsL.take n h2⟩
def IsL.drop:∀ {ds:List Dt} {xs:List V} (n:Nat),IsL H ds xs->IsL H (ds.drop n) (xs.drop n)
 | _,_,0,h=>h
 | [],_,n+1,h=>by cases h;simp[IsL]
 | d::ds,xs,n+1,h=>by obtain⟨y,r,rfl,h1,h2⟩:=h;exact IsL.drop n h2
def IsL.one(h:Is H d x):IsL H [d] [x]:=⟨x,[],rfl,h,rfl⟩
def IsL.ints:∀ {ns:List Int},IsL H (ns.map .int) (ns.map .int)
 | []=>rfl
 | n::ns=>⟨_,_,rfl,rfl,IsL.ints⟩
def IsL.of_ints:∀ {ns:List Int} {xs:List V},IsL H (ns.map .int) xs->xs=ns.map .int
 | [],_,h=>h
 | n::ns,xs,h=>by obtain⟨y,r,rfl,h1,h2⟩:=h;cases h1;rw[IsL.of_ints h2];rfl
@[reducible] def Dt.isTup:Dt->Bool
 | .tup _=>true | _=>false
@[reducible] def Dt.isLst:Dt->Bool
 | .lst _=>true | _=>false
@[reducible] def Dt.isInt:Dt->Bool
 | .int _=>true | .bl _=>true | _=>false
@[reducible] def Dt.isBl:Dt->Bool
 | .bl _=>true | _=>false
def Dt.isWhole:Dt->Bool
 | .int _=>true | _=>false
end
open PySem PySem.Spec PyProof.Rows
def zgW (env:Env):List (Str×NameKind)->List (Str×Addr)->List (Str×Addr)
 | [],cs=>cs
 | x::r,cs=>zgW env r (if (x.2==NameKind.free)=true then (x.1,(env.cells.lookup x.1).getD 0)::cs else cs)
def zgX(h:∀x∈scope.names,x.2 = .free->∃c,env.cells.lookup x.1=some c):closureFor scope env=pure (zgW env scope.names []):=by
 have gen:∀ (names:List (Str×NameKind)) (cs:List (Str×Addr)),(∀x∈names,x.2 = .free->∃c,env.cells.lookup x.1=some c)->
   (forIn names cs (λx r=>match x with
    | (name,kind)=>if (kind==NameKind.free)=true then do let a <- cellOf env name;pure (ForInStep.yield ((name,a)::r)) else pure (ForInStep.yield r)):Sem (List (Str×Addr)))=pure (zgW env names cs):=by
  intro names
  induction names with
  | nil=>intro cs _;rfl
  | cons x r ih=>
   intro cs hh;obtain⟨n,k⟩:=x;rw[List.forIn_cons];by_cases hk:(k==NameKind.free)=true
   ·obtain⟨c,hc⟩:=hh (n,k) ak (b7 hk);have hc':env.cells.lookup n=some c:=hc;have e:cellOf env n=pure c:=by unfold cellOf;rw[hc']
    simp only[hk,if_true,e,pure_bind];rw[ih _ λy hy=>hh y (ai _ hy)];show pure _=pure (zgW env r (if (k==NameKind.free)=true then (n,(env.cells.lookup n).getD 0)::cs else cs))
    simp_all
   ·simp only[hk,pure_bind]
    have e2:zgW env ((n,k)::r) cs=zgW env r cs:=by show zgW env r (if (k==NameKind.free)=true then _ else cs)=_;rw[if_neg hk]
    simp_all
 unfold closureFor;have:=gen scope.names [] h;simpa using this
def zby:∀ {names:List (Str×NameKind)} {cs:List (Str×Addr)} {x:Str} {c:Addr},(∀y∈names,y.2 = .free->∃c,env.cells.lookup y.1=some c)->(zgW env names cs).lookup x=some c->env.cells.lookup x=some c\/cs.lookup x=some c
 | [],_,_,_,_,h=>.inr h
 | (n,k)::r,cs,x,c,B,h=>by
  have q:=zby (names:=r) (x:=x) (c:=c) (λy F=>B y (ai _ F)) h;rcases q with q | q
  ·exact .inl q
  ·by_cases I:(k==NameKind.free)=true
   ·obtain⟨J,O⟩:=B (n,k) ak (b7 I)
    grind
   ·simp_all
def zcp:∀ {names:List (Str×NameKind)} {cs:List (Str×Addr)} {x:Str},(∃c,cs.lookup x=some c)->∃c,(zgW env names cs).lookup x=some c
 | [],_,_,h=>h
 | (n,k)::r,cs,x,h=>by
  refine zcp (names:=r) ?_
  grind
def zbo:∀ {names:List (Str×NameKind)} {cs:List (Str×Addr)} {x:Str},names.lookup x=some .free->∃c,(zgW env names cs).lookup x=some c
 | [],_,_,h=>by simp at h
 | (n,k)::r,cs,x,h=>by
  rw[List.lookup_cons] at h
  cases e:x==n with
  | true=>
   rw[e] at h;have h':some k=some NameKind.free:=h;cases h';refine zcp (names:=r) ?_
   simp_all
  | false=>
   rw[e] at h;exact zbo (names:=r) h
def yu {env:Env}:∀ {names:List (Str×NameKind)} {x:Str} {k:NameKind},(∀y∈names,y.2≠.cell)->
  (names.map λ(n,k)=>if (k==NameKind.free&&env.scope.kind==.function&&env.kindOf n==some .cell) then (n,NameKind.cell) else (n,k)).lookup x=some k->(k = .cell\/k = .free)->names.lookup x=some .free
 | [],_,_,_,h,_=>by simp at h
 | (n,k)::r,x,q,B,h,I=>by
  have J:=@yu env r x q (λy F=>B y (ai _ F))
  grind
def y9 {env:Env}:∀ {names:List (Str×NameKind)} {x:Str},names.lookup x=some .free->
  (names.map λ(n,k)=>if (k==NameKind.free&&env.scope.kind==.function&&env.kindOf n==some .cell) then (n,NameKind.cell) else (n,k)).lookup x=some .cell\/
  (names.map λ(n,k)=>if (k==NameKind.free&&env.scope.kind==.function&&env.kindOf n==some .cell) then (n,NameKind.cell) else (n,k)).lookup x=some .free
 | [],_,h=>by simp at h
 | (n,k)::r,x,h=>by
  have q:=@y9 env r x
  grind
def zj (X:Cx)(scope:Scope)(N:List Str)(C:Addr)(s:Shared)(H:Hp)(ex:List Addr):Cx where
 prog:=X.prog
 w:=X.w
 K:=X.K
 mg:=X.mg
 base:=X.base
 A:=X.A
 N:=N
 s₀:=s
 H₀:=H
 env:=compEnvC scope (zgW X.env scope.names []) C X.env
 outer:=X.stack
 stack:=X.stack
 ex:=ex
 fn:=λ_=>false
 calm:=X.calm
 pn:=[]
 xe:=λ_ _=>False
def caps (XN:List Str)(Xnames names:List (Str×NameKind))(N:List Str)(cix:List (Option Nat)):Bool:=
 N.length==cix.length&&(names.all λy=>y.2 != .cell)&&((N.zip cix).all λp=>match p.2 with
  | none=>true
  | some i=>XN[i]?==some p.1&&names.lookup p.1==some .free&&(Xnames.lookup p.1==some .cell || Xnames.lookup p.1==some .free)) &&
 (names.all λy=>y.2 != .free || (Xnames.lookup y.1==some .cell || Xnames.lookup y.1==some .free))
def xA (σ:St)(cix:List (Option Nat)):St:=cix.map λo=>match o with
 | none=>none
 | some i=>(σ[i]?).join
structure CompOk (X:Cx)(scope:Scope)(N:List Str)(cix:List (Option Nat)):Prop where
 kind:scope.kind = .function
 names:∀x∈scope.names,x.2 = .local->scope.names.lookup x.1=some .local
 caps:caps X.N X.env.scope.names scope.names N cix=true
section
variable {X:Cx}{pins:List (Addr×Obj)}{σ:St}{H:Hp}{s:Shared}{scope:Scope}{N:List Str}{cix:List (Option Nat)}
def CompOk.cell (c:CompOk X scope N cix):∀y∈scope.names,y.2≠.cell:=λy q e=>by
 have h:=c.caps;unfold L2.caps at h;rw[aJ,aJ,aJ] at h;have:=bJ.mp h.1.1.2 y q
 simp_all
def CompOk.len (c:CompOk X scope N cix):N.length=cix.length:=by
 have h:=c.caps;unfold L2.caps at h
 simp_all
def CompOk.cells (c:CompOk X scope N cix)(B:X.Ok):∀x∈scope.names,x.2 = .free->∃a,X.env.cells.lookup x.1=some a:=λx F e=>by
 have h:=c.caps;unfold L2.caps at h;rw[aJ] at h;have q:=bJ.mp h.2 x F;rw[e] at q;have I:(X.env.scope.names.lookup x.1==some NameKind.cell || X.env.scope.names.lookup x.1==some NameKind.free)=true:=by simpa using q
 rcases Bool.or_eq_true_iff.mp I with q | q
 ·exact B.has _ (.inl (b7 q))
 ·exact B.has _ (.inr (b7 q))
def CompOk.cap (c:CompOk X scope N cix){j i:Nat}{x:Str}(h1:N[j]?=some x)(h2:cix[j]?=some (some i)):X.N[i]?=some x/\scope.names.lookup x=some .free/\(X.env.scope.names.lookup x=some .cell\/X.env.scope.names.lookup x=some .free):=by
 have h:=c.caps;unfold L2.caps at h;rw[aJ,aJ] at h
 have B:(x,some i)∈N.zip cix:=by refine aA (i:=j) ?_;rw[List.getElem?_zip_eq_some];exact⟨h1,h2⟩
 have q:=bJ.mp h.1.2 _ B
 grind
def zkM {fp:List Addr}{h':Heap}{tk:Nat}{m:Str->Option Value}(I:Inv X pins σ H s)(c:CompOk X scope N cix)(Z:∀b∈fp,zeS X pins H b)(ac:∀b∈fp,b<s.heap.objs.size)
  (hn:h'.Ns s.heap.objs.size m) (hk:∀b o,s.heap.get? b=some o->h'.get? b=some o) :
  Inv (zj X scope N s.heap.objs.size s H fp) [] (xA σ cix) H { s with heap:=h',toks:=tk }:=by
 have ad:=c.cells I.ok
 have B:∀x a,(zgW X.env scope.names []).lookup x=some a->X.env.cells.lookup x=some a:=λx a e=>by
  rcases zby ad e with z | z
  ·exact z
  ·simp at z
 refine⟨⟨I.mod,c.kind,I.ok.glob,I.ok.blt,ah _,λx y a e1 e2=>I.ok.inj x y a (B x a e1) (B y a e2),λx hx=>?_,λx a z _=>absurd (show (false:Bool)=true from z) (by decide),I.ok.hd,I.ok.frames,.inl rfl,
  λb J=>⟨a6 (ac b J),λx a e=>(Z b J).2.2.2.2.1 x a (B x a e)⟩,I.bs,az I.ok.bsz I.sz,λb o e J=>?_,λb J z=>?_,I.stack,I.stkFree⟩,
  I.os ▸ rfl,I.bare,Un.kept hk,⟨m,hn,λj x v h1 h2 h3=>?_⟩,λx a e=>?_,I.hok.fresh (ah _),λx a e=>I.freeC x a (B x a e),λp hp=>absurd (show p∈([]:List (Addr×Obj)) from hp) (by simp),I.hok.kept hk,?_⟩
 ·have ag:((relabel scope X.env).names.lookup x=some .cell\/(relabel scope X.env).names.lookup x=some .free):=hx;rcases ag with z | z
  ·exact zbo (yu c.cell z (.inl rfl))
  ·exact zbo (yu c.cell z (.inr rfl))
 ·rcases (Z b J).2.2.2.1 with z | z
  ·exact I.ok.noex b o e z
  ·exact absurd (aV (aH e) (az I.ok.bsz z)) (cT _)
 ·rcases ay.mp (I.stkSub b z) with e | e
  ·exact (Z b J).2.1 e
  ·exact (Z b J).2.2.1 e
 ·have al:N[j]?=some x:=h1;unfold xA at h2;rw[aE] at h2
  cases e:cix[j]? with
  | none=>rw[e] at h2;cases h2
  | some o=>
   rw[e] at h2
   cases o with
   | none=>cases h2
   | some i=>
    have F:(σ[i]?).join=some v:=cj h2
    have U:σ[i]?=some (some v):=by
     cases q:σ[i]? with
     | none=>rw[q] at F;cases F
     | some z=>rw[q] at F;have:z=some v:=F;rw[this]
    obtain⟨q1,q2,q3⟩:=c.cap al e;obtain⟨m0,as,an⟩:=I.loc;obtain⟨u,ru,hu⟩:=an i x v q1 U (q3.elim (λz=>.inr (.inl z)) λz=>.inr (.inr z));refine⟨u,ru,.inr ⟨y9 q2,?_⟩⟩;rcases hu with ⟨z,_⟩ | ⟨_,a,ha,hcell⟩
    ·have z':X.env.scope.names.lookup x=some .local:=z
     simp_all
    ·obtain⟨a',Y⟩:=zbo (env:=X.env) (cs:=[]) q2;have:a'=a:=by have:=(B x a' Y).symm.trans ha;exact cj this
     subst this;obtain⟨oc,O,hd⟩:=hcell;exact⟨a',Y,oc,hk _ _ O,hd⟩
 ·obtain⟨v,oc,O,hd⟩:=I.cell x a (B x a e);exact⟨v,oc,hk _ _ O,hd⟩
 ·show (xA σ cix).length=N.length;unfold xA;rw[ab,c.len]
def zff(x:HOk P w H h)(B:H a=none)(hs:Heap.SameBut a h h'):HOk P w H h':=λb o e=>by
 refine (x b o e).stay (λc u F q=>(hs.2 c ?_).trans q) (λ_ q=>q) λ_ _ q=>q
 grind
def zg8{Y:St}{H':Hp}{s':Shared}(I:Inv X pins σ H s)(O:∀b∈U,zeS X pins H b)(I':Inv (zj X scope N s.heap.objs.size s H U) [] Y H' s')(hs:Heap.SameBut s.heap.objs.size s'.heap F) :
  Inv X pins σ H' { s' with heap:=F }:=by
 have Z:∀b o,s.heap.get? b=some o->b≠s.heap.objs.size:=λb o e=>a6 (aH e);have u:=I'.base;refine Inv.call' (ch:=U) I I'.os ⟨λb o e n B J=>?_,λb o e n B J=>?_,u.free,λb o e J=>?_,u.tups,u.frzs,u.tbls⟩ (zff I'.hok I'.free hs) I'.bare λb B=>⟨(O b B).2.2.2.1,(O b B).2.1,(O b B).2.2.2.2.1,(O b B).2.2.2.2.2⟩
 ·exact (hs.2 b (Z b o e)).trans (u.keep b o e n B J)
 ·obtain⟨sl,q⟩:=u.slot b o e n B J;exact⟨sl,(hs.2 b (Z b o e)).trans q⟩
 ·obtain⟨o',q⟩:=u.there b o e J;exact⟨o',(hs.2 b (Z b o e)).trans q⟩
end
section
variable {prog:Program}{w:World}{A:Around}{R:Result->Shared->Prop}{s:Shared}
def zcU(I:Nat->Shared->Prop)(turn:∀n s,I n s->wpAny (model prog w) A (pyNext it) (λr s₁=>match r with
   | none=>R (.ok .next) s₁
   | some v=>wpAny (model prog w) A (letOwnedTupleGo target it v) (λ_ s₂=>wpAny (model prog w) A (assign target env v) (λ_ s₃=>
     wpAny (model prog w) A (forIn ifs true λc r=>if r=true then do let ok <- isTrue c env (eval c env);pure (ForInStep.yield ok) else pure (ForInStep.yield r)) (λok s₄=>
      if ok=true then wpAny (model prog w) A (eval elt env) (λx s₅=>
       wpAny (model prog w) A (call (.builtin "list.append") [acc,x]) (λ_ s₆=>∃m,m<n/\I m s₆) (λ_ _=>False) s₅) (λ_ _=>False) s₄
      else ∃m,m<n/\I m s₄) (λ_ _=>False) s₃) (λ_ _=>False) s₂) (λ_ _=>False) s₁) (λ_ _=>False) s)(n:Nat)(h:I n s) :
  codeAny (model prog w) A (.compLoop (.ListComp elt [⟨target,iter,ifs,0⟩] scope pos) 0 it acc env) R s:=by
 refine dj rfl I (λn s hI=>?_) n h;show wpAny _ A ((compTurn (.ListComp elt [⟨target,iter,ifs,0⟩] scope pos) 0 it acc env).onRaise (λx=>do noteFrame x env;theTreesLotGoes x)) _ _ s;refine dJ ?_;rw[compTurn_list];refine aa (bp (aa (aC (turn n s hI) (λr s₁ h₁=>?_) λ_ _ h'=>h'.elim)))
 cases r with
 | none=>exact ae h₁
 | some v=>
  refine aa (aC h₁ (λ_ s₂ h₂=>?_) λ_ _ h'=>h'.elim);refine aa (aC h₂ (λ_ s₃ h₃=>aa (aC h₃ (λok s₄ h₄=>?_) λ_ _ h'=>h'.elim)) λ_ _ h'=>h'.elim)
  cases ok with
  | false=>exact ae ⟨rfl,h₄⟩
  | true=>
   exact aa (aa (aC h₄ (λx s₅ h₅=>aa (aC h₅ (λ_ s₆ h₆=>ae (ae ⟨rfl,h₆⟩)) λ_ _ h'=>h'.elim)) λ_ _ h'=>h'.elim))
end
def PTs (X:Cx)(ifs:List Expr)(t:TT):Prop:=
 ∀ (pins:List (Addr×Obj)) (s:Shared) (σ:St) (H:Hp) (Q:Bool->Hp->Prop),Inv X pins σ H s->t σ H Q->
  wpAny (model X.prog X.w) X.A (forIn ifs true λc r=>if r=true then do let ok <- isTrue c X.env (eval c X.env);pure (ForInStep.yield ok) else pure (ForInStep.yield r)) (TP X pins σ Q) X.xe s
def zaW:TT:=λ_ H Q=>Q true H
def zoz:PTs X [] zaW:=λpins s σ H Q I h=>wpAny_tests_nil ⟨H,I,h⟩
def zoA(h:PT X c t):PTs X [c] t:=λpins s σ H Q I q=>wpAny_tests_one (h pins s σ H Q I q)
def zuc (wi:TI)(g:TG)(ti:TT)(te:TE)(cix:List (Option Nat)):TE:=λσ H Q=>wi σ H λJ H1=>∀acc,H1 acc=none->∃W:Nat->Nat->St->Hp->Prop,(∃m,W 0 m (xA σ cix) (upd H1 acc (.lst [])))/\
 ∀i m B H',W i m B H'->(J.stop i H'/\Q (.ref acc) H')\/(J.go i H'/\∃N:St->Hp->Prop,(∀ F H2,N F H2->∃I,I<m/\W (i+1) I F H2)/\
  ∀x H2,J.yld i H' x H2->g x B H2 λq H3=>ti q H3 λO H4=>if O=true then te q H4 λv H5=>∃xs,H5 acc=some (.lst xs)/\xs.length<sizeLine/\N q (upd H5 acc (.lst (xs++[v]))) else N q H4)
def zhR (g:TG)(ti:TT)(te:TE)(acc:Addr)(N:St->Hp->Prop)(x:V)(σ:St)(H:Hp):Prop:=
 g x σ H λq H3=>ti q H3 λB H4=>if B=true then te q H4 λv H5=>∃xs,H5 acc=some (.lst xs)/\xs.length<sizeLine/\N q (upd H5 acc (.lst (xs++[v]))) else N q H4
def zhB (M:Model)(A:Around)(e:Expr)(k:Nat)(tg:Expr)(ifs:List Expr)(it acc:Value)(env:Env)(B:(Shared->Prop)->Shared->Prop):Prop:=
 ∀ (R:Result->Shared->Prop) (s:Shared) (I:Nat->Shared->Prop),(∀n s,I n s->wpAny M A (pyNext it) (λr s₁=>match r with
   | none=>R (.ok .next) s₁
   | some v=>wpAny M A (letOwnedTupleGo tg it v) (λ_ s₂=>wpAny M A (assign tg env v) (λ_ s₃=>
     wpAny M A (forIn ifs true λc r=>if r=true then do let ok <- isTrue c env (eval c env);pure (ForInStep.yield ok) else pure (ForInStep.yield r)) (λok s₄=>
      if ok=true then B (λs'=>∃m,m<n/\I m s') s₄ else ∃m,m<n/\I m s₄) (λ_ _=>False) s₃) (λ_ _=>False) s₂) (λ_ _=>False) s₁) (λ_ _=>False) s)->
  ∀n,I n s->codeAny M A (.compLoop e k it acc env) R s
def zbL{X:Cx}{ifs:List Expr}{it acc:Addr}{I:List Addr}{tn:Nat->Heap->Prop}{J:It}{g:TG}{ti:TT}{tb:(St->Hp->Prop)->St->Hp->Prop}{B:(Shared->Prop)->Shared->Prop}{pl:List (Addr×Obj)}{Fin:St->Hp->Prop}{R:Result->Shared->Prop}{W:Nat->Nat->St->Hp->Prop}{σ0:St}{H0:Hp}{s0:Shared}(L:zhB (model X.prog X.w) X.A e k tg ifs (.ref it) (.ref acc) X.env B)(hc:X.calm=true)(xX:X.xe=λ_ _=>False)(T:Turn X.prog X.w X.K tg J I it tn)(f4:∀ {H':Hp},(∀b∈I,H' b=none)->∀b∈I,zeS X pl H' b)(hg:PG X tg g)(ht:PTs X ifs ti)(O:∀pl' s σ H (Nx:St->Hp->Prop) (P:Shared->Prop),Inv X (pl++pl') σ H s->tb Nx σ H->(∀ q H' s',Inv X (pl++pl') q H' s'->Nx q H'->P s')->B P s)(Z:∀i n σ H,W i n σ H->(J.stop i H/\Fin σ H)\/(J.go i H/\∃Nx:St->Hp->Prop,(∀ q H',Nx q H'->∃m,m<n/\W (i+1) m q H')/\∀x H',J.yld i H x H'->g x σ H' λU H2=>ti U H2 λb H3=>if b=true then tb Nx U H3 else Nx U H3))(fin:∀ σ H s,Inv X pl σ H s->Fin σ H->R (.ok .next) s)(I0:Inv X pl σ0 H0 s0)(an:tn 0 s0.heap)(as:∀b∈I,H0 b=none)(w0:W 0 m0 σ0 H0) :
  codeAny (model X.prog X.w) X.A (.compLoop e k (.ref it) (.ref acc) X.env) R s0:=by
 refine L R s0 (λn s'=>∃i q H',Inv X pl q H' s'/\tn i s'.heap/\(∀b∈I,H' b=none)/\W i n q H') ?_ m0 ⟨0,σ0,H0,I0,an,as,w0⟩;rintro n s5 ⟨i,F,H5,I5,ac,ad,w5⟩;rcases Z i n F H5 w5 with ⟨stop,qn⟩ | ⟨go,Nx,hN,step⟩
 ·refine thn (T.done X rfl rfl rfl hc i pl s5 F H5 (λ_ _=>False) I5 (f4 ad) ac stop) ?_;rintro r s6 ⟨hr,I6⟩;subst hr;exact fin F H5 s6 I6 qn
 ·refine thn (T.item X rfl rfl rfl hc i pl s5 F H5 (λ_ _=>False) I5 (f4 ad) ac go) ?_;rintro r s6 ⟨u,hr,h6⟩;subst hr;refine thn h6 ?_;rintro _ s7 ⟨x,H7,I7,r7,y7,Y,a0⟩;have I7':=I7.pinned (f4 a0) (T.obj _ _ Y);have a7:=hg _ s7 F H7 x u _ I7' r7 (step x H7 y7);rw[xX] at a7;refine thn a7 ?_;rintro _ s8 ⟨al,H8,I8,q8⟩;have t8:=ht _ s8 al H8 _ I8 q8;rw[xX] at t8;refine thn t8 ?_;rintro ok s9 ⟨H9,I9,q9⟩
  have ag:∀ q H' s',Inv X (pl++zew I s7.heap) q H' s'->Nx q H'->∃m,m<n/\∃i q H',Inv X pl q H' s'/\tn i s'.heap/\(∀b∈I,H' b=none)/\W i m q H':=λq H' s' J' n'=>by
   obtain⟨m',hm,w'⟩:=hN q H' n'
   have pn:∀b∈I,∀o,s7.heap.get? b=some o->s'.heap.get? b=some o/\H' b=none:=λb O o e=>by
    have:=J'.pin (b,o) (aW _ (aW _ (zaR O e)))
    simp_all
   refine⟨m',hm,i+1,q,H',J'.unpinned,T.keep _ _ _ Y λb O o e=>(pn b O o e).1,λb O=>?_,w'⟩;obtain⟨o,e,_⟩:=T.obj _ _ Y b O
   simp_all
  cases ok with
  | false=>exact ag _ _ _ I9 q9
  | true=>exact O _ s9 al H9 _ _ I9 q9 ag
structure Inn (X X':Cx)(pins:List (Addr×Obj))(σ:St)(fp:List Addr)(C:Addr):Prop where
 pX:X'.prog=X.prog
 wX:X'.w=X.w
 KX:X'.K=X.K
 AX:X'.A=X.A
 cX:X'.calm=X.calm
 xX:X'.xe=λ_ _=>False
 lX:X'.env.locals=C
 f4:∀ {H':Hp},(∀b∈fp,H' b=none)->∀b∈fp,zeS X' [] H' b
 back:∀ {σ':St} {H':Hp} {s':Shared} {h'':Heap},Inv X' [] σ' H' s'->Heap.SameBut C s'.heap h''->Inv X pins σ H' { s' with heap:=h'' }
structure Opn (X:Cx)(scope:Scope)(cix:List (Option Nat))(Fam:Cx->Prop):Prop where
 kind:scope.kind = .function
 names:∀x∈scope.names,x.2 = .local->scope.names.lookup x.1=some .local
 cells:X.Ok->∀x∈scope.names,x.2 = .free->∃a,X.env.cells.lookup x.1=some a
 run:∀ (pins:List (Addr×Obj)) (σ:St) (H3:Hp) (s3:Shared) (fp:List Addr) (Q:Env->Shared->Prop),Inv X pins σ H3 s3->(∀b∈fp,zeS X pins H3 b)->(∀b∈fp,b<s3.heap.objs.size)->
  (∀X' cenv s4,Fam X'->Inn X X' pins σ fp s3.heap.objs.size->cenv.locals=s3.heap.objs.size->X'.env={ cenv with scope:=relabel scope X.env }->Inv X' [] (xA σ cix) H3 s4->(∀b o,s3.heap.get? b=some o->s4.heap.get? b=some o)->Q cenv s4)->
  wpAny (model X.prog X.w) X.A (newFunctionEnv scope X.env.globals (zgW X.env scope.names []) [] X.env.qual none .none (some X.env)) Q X.xe s3
def uu{X:Cx}{Fam:Cx->Prop}{scope:Scope}{cix:List (Option Nat)}{use:Option (Value->Sem Unit)}{Qp:Value->Shared->Prop}{ifs:List Expr}{pos:Pos}{U:Sem Value}{o0:Addr->HO}{B:Cx->Addr->(Shared->Prop)->Shared->Prop}{tb:Addr->(St->Hp->Prop)->St->Hp->Prop}{Fin:Addr->Hp->Prop}{wi:TI}{g:TG}{ti:TT}{Kk:It->Hp->Prop}{pins:List (Addr×Obj)}{σ:St}{H:Hp}{s:Shared}(O:Opn X scope cix Fam)(hc:X.calm=true)(a7:clausesOf e=⟨tg,iter,ifs,0⟩::gs)(hs:∀x,foldedSetIterable iter X.env x=pure x)(bb:∀ (R:Result->Shared->Prop) (s:Shared) (it acc:Value) (env:Env),codeAny (model X.prog X.w) X.A (.compLoop e 0 it acc env) R s->wpAny (model X.prog X.w) X.A (pyIter it) (λbc s'=>codeAny (model X.prog X.w) X.A (.compLoop e 0 bc acc env) R s') (notedBy (model X.prog X.w) X.A env λx s'=>R (.error x) s') s->codeAny (model X.prog X.w) X.A (.compStart e 0 it acc env) R s)(hL:∀X',Fam X'->∀it acc,zhB (model X'.prog X'.w) X'.A e 0 tg ifs it (.ref acc) X'.env (B X' acc))(an:∀ (s:Shared) (Q:Value->Shared->Prop),Q (.ref s.heap.objs.size) { s with heap:=s.heap.push ob }->wpAny (model X.prog X.w) X.A U Q X.xe s)(bd:∀ {pins σ H s},Inv X pins σ H s->∀H',z8 X.prog X.w H' (s.heap.push ob) s.heap.objs.size (o0 s.heap.objs.size))(hi:PI X tg iter wi)(hg:∀X',Fam X'->PG X' tg g)(ht:∀X',Fam X'->PTs X' ifs ti)(Y:∀X',Fam X'->X'.prog=X.prog->X'.w=X.w->X'.A=X.A->X'.calm=true->X'.xe=(λ_ _=>False)->∀acc pl s σ H (Nx:St->Hp->Prop) (P:Shared->Prop),Inv X' pl σ H s->tb acc Nx σ H->(∀ Z H' s',Inv X' pl Z H' s'->Nx Z H'->P s')->B X' acc P s)(I:Inv X pins σ H s)(h:wi σ H Kk)(hK:∀J H1 acc,Kk J H1->H1 acc=none->∃W:Nat->Nat->St->Hp->Prop,(∃m,W 0 m (xA σ cix) (upd H1 acc (o0 acc)))/\∀i n σ H,W i n σ H->(J.stop i H/\Fin acc H)\/(J.go i H/\∃Nx:St->Hp->Prop,(∀ Z H',Nx Z H'->∃m,m<n/\W (i+1) m Z H')/\∀x H',J.yld i H x H'->g x σ H' λad H2=>ti ad H2 λb H3=>if b=true then tb acc Nx ad H3 else Nx ad H3))(as:∀acc C H5 s6,zeS X pins H5 C->(∃m,s6.heap.Ns C m)->(∀ag,Heap.SameBut C s6.heap ag->Inv X pins σ H5 { s6 with heap:=ag })->Fin acc H5->compPost (model X.prog X.w) X.A X.xe use Qp (.ref acc) C (.ok .next) s6) :
  wpAny (model X.prog X.w) X.A (comprehension e scope X.env pos U false (eval iter X.env) use) Qp X.xe s:=by
 refine wpAny_comprehension_free (use:=use) a7 hs (zgX (O.cells I.ok)) O.kind O.names (thn (hi pins s σ H _ I h) λxv s1 h1=>thn h1 λbs F h2=>?_);obtain⟨it,fp,tn,J,H2,e,I2,T,a0,f2,q2⟩:=h2;subst e;refine an F _ ?_;have al:=I2.hok.fresh (ah F.heap.objs.size);obtain⟨W,⟨m0,w0⟩,a1⟩:=hK J H2 F.heap.objs.size q2 al;have a2:∀b o,F.heap.get? b=some o->(F.heap.push ob).get? b=some o:=λb u e=>am _ e;have I3:Inv X pins σ (upd H2 F.heap.objs.size (o0 F.heap.objs.size)) { F with heap:=F.heap.push ob,toks:=F.toks }:=I2.laid (t':=F.toks) a2 (ah _) (bd I2 _)
 have a3:∀b∈fp,b<F.heap.objs.size:=λb Y=>by obtain⟨o,ho,_⟩:=T.obj _ _ a0 b Y;exact aH ho
 have fn:∀b∈fp,upd H2 F.heap.objs.size (o0 F.heap.objs.size) b=none:=λb Y=>by rw[zd (a6 (a3 b Y))];exact (f2 b Y).1
 refine O.run pins σ _ _ fp _ I3 (λb Y=>⟨fn b Y,(f2 b Y).2⟩) (λb Y=>Nat.lt_trans (a3 b Y) (by simp)) λX' bo s4 hF N hl hE I4 kp=>?_;rw[<- hE,hl];have a4:tn 0 s4.heap:=T.keep _ _ _ a0 λb Y o e=>kp b o (a2 b o e);have cX:=N.cX.trans hc;have ac:=zbL (X:=X') (R:=compPost (model X.prog X.w) X.A X.xe use Qp (.ref F.heap.objs.size) (F.heap.push ob).objs.size) (Fin:=λ_ H=>Fin F.heap.objs.size H) (pl:=[]) (hL X' hF (.ref it) F.heap.objs.size) cX N.xX (by rw[N.pX,N.wX,N.KX];exact T) N.f4 (hg X' hF) (ht X' hF) (Y X' hF N.pX N.wX N.AX cX N.xX F.heap.objs.size) a1 (λbx H5 s6 I6 q=>?_) I4 a4 fn w0
 ·rw[N.pX,N.wX,N.AX] at ac;exact bb _ _ _ _ _ ac (T.self X.A 0 _ _ _ a4 ac)
 ·have bl:H5 (F.heap.push ob).objs.size=none:=by have:=I6.free;rwa[N.lX] at this
  obtain⟨m6,a5,_⟩:=I6.loc;rw[N.lX] at a5;exact as _ _ H5 s6 (I3.fpOk (ah _) bl) ⟨m6,a5⟩ (λag hs=>N.back I6 hs) q
section
variable {X:Cx}{scope:Scope}{N:List Str}{cix:List (Option Nat)}{z:Str}
def uB (c:CompOk X scope N cix):Opn X scope cix (λX'=>∃C s H ex,X'=zj X scope N C s H ex) where
 kind:=c.kind
 names:=c.names
 cells:=c.cells
 run:=λpins σ H3 O U Q I3 f3 B k=>by
  refine wpAny_newFunctionEnv c.cell (by simp) (λY F J=>?_) c.kind;have kp:∀b o,O.heap.get? b=some o->Y.get? b=some o:=λb o e=>J.extBut b o (a6 (aH e)) (am _ e);refine k (zj X scope N O.heap.objs.size O H3 U) _ _ ⟨_,_,_,_,rfl⟩ ⟨rfl,rfl,rfl,rfl,rfl,rfl,rfl,λ{H'} Z b q=>⟨Z b q,a6 (B b q),λy=>?_,.inl q,λx a e=>?_,λp hp=>?_⟩,λI' hs=>zg8 I3 f3 I' hs⟩ rfl rfl (zkM I3 c f3 B F kp) kp
  ·rcases ay.mp (I3.stkSub b y) with e | e
   ·exact (f3 b q).2.1 e
   ·exact (f3 b q).2.2.1 e
  ·rcases zby (c.cells I3.ok) e with y | y
   ·exact (f3 b q).2.2.2.2.1 x a y
   ·simp at y
  ·exact absurd (show p∈([]:List (Addr×Obj))++[] from hp) (by simp)
def zcZ {pins:List (Addr×Obj)}{σ:St}{Q:VK}{acc C:Addr}{H5:Hp}{F:Shared}(J:∃m,F.heap.Ns C m)(O:∀B,Heap.SameBut C F.heap B->Inv X pins σ H5 { F with heap:=B })(q:Q (.ref acc) H5):compPost (model X.prog X.w) X.A X.xe none (EP X pins σ Q) (.ref acc) C (.ok .next) F:=
 let ⟨m,hn⟩:=J;⟨m,hn,λU I=>⟨.ref acc,H5,O U I,rfl,q⟩⟩
def zfZ{pos spos px:Pos}{nx:Str}{B first:Sem Value}{D:Ends}{pins:List (Addr×Obj)}{σ:St}{s:Shared}(Y:X.N.Nodup)(Z:X.N[ix]?=some nx)(J:X.env.scope.names.lookup nx=some .local)(ac:swapsWithSole [.Name nx px] e spos.line X.env=pure true)(ad:(assignEach [.Name nx px] X.env).map (·.2)=[assign (.Name nx px) X.env])(ag:∀U,evalThenUse e X.env U=comprehension e scope X.env pos B false first (some U) >>= λ_=>pure ())(h:∀ (U:Value->Sem Unit) (Qp:Value->Shared->Prop),(∀acc C H5 I,zeS X pins H5 C->(∃m,I.heap.Ns C m)->(∀O,Heap.SameBut C I.heap O->Inv X pins σ H5 { I with heap:=O })->D.nx (σ.set ix (some (.ref acc))) H5->compPost (model X.prog X.w) X.A X.xe (some U) Qp (.ref acc) C (.ok .next) I)->wpAny (model X.prog X.w) X.A (comprehension e scope X.env pos B false first (some U)) Qp X.xe s) :
  wpAny (model X.prog X.w) X.A (exec (.Assign [.Name nx px] e spos) X.env) (SP X pins D) X.xe s:=by
 rw[exec_Assign_arm];refine aa (bp ?_);rw[ac];refine aa (ae ?_);rw[if_pos rfl];refine aa ?_;rw[ag];refine aa ?_;refine h _ _ λacc C H5 I F hm al q=>?_;have IX:=al _ ⟨rfl,λ_ _=>rfl⟩;show wpAny _ _ (assignAll _ ((assignEach [.Name nx px] X.env).map (·.2))) _ _ I;rw[ad];refine wpAny_assign_Name (x:=nx) (pos:=px) ?_;refine zeE IX Y Z (Or.inl J) (v:=.ref acc) rfl (λs7 I7 ⟨a7,an,as⟩=>?_) (.inr J)
 have a0:C≠a7:=by
  intro z;rcases as with e | e
  ·exact F.2.1 (z.trans e)
  ·exact F.2.2.2.2.1 nx a7 e z.symm
 obtain⟨m6,oC,a1,a2,a3,rC⟩:=hm;refine⟨m6,⟨oC,a1,a2,(an.2 _ a0).trans a3,rC⟩,λh8 a4=>ae (ae ?_)⟩;exact⟨_,H5,I7.turned (t':=s7.toks) (λb o hb e=>(a4.2 b hb).trans e) F.1 F.2.1 F.2.2.2.1 F.2.2.2.2.1 F.2.2.2.2.2,q⟩
end
section
variable {X:Cx}{Fam:Cx->Prop}{scope:Scope}{N:List Str}{cix:List (Option Nat)}{z:Str}{use:Option (Value->Sem Unit)}{Qp:Value->Shared->Prop}{elt tg iter:Expr}{ifs:List Expr}{pos ipos spos px:Pos}{wi:TI}{g:TG}{ti:TT}{te:TE}{pins:List (Addr×Obj)}{σ:St}{H:Hp}{s:Shared}{Fin:Addr->Hp->Prop}
def zcO {P:Shared->Prop}{acc:Addr}{Nx:St->Hp->Prop}(he:PE X elt te)(xX:X.xe=λ_ _=>False)(I:Inv X pins σ H s)(q:te σ H λv H'=>∃xs,H' acc=some (.lst xs)/\xs.length<sizeLine/\Nx σ (upd H' acc (.lst (xs++[v]))))(k:∀ B H' s',Inv X pins B H' s'->Nx B H'->P s') :
  wpAny (model X.prog X.w) X.A (eval elt X.env) (λx s5=>wpAny (model X.prog X.w) X.A (call (.builtin "list.append") [.ref acc,x]) (λ_ s6=>P s6) (λ_ _=>False) s5) (λ_ _=>False) s:=by
 have e9:=he pins s σ H _ I q;rw[xX] at e9;refine thn e9 ?_;rintro u2 J ⟨v,H10,I10,O,xs,U,Y,nx⟩;have F:=zej (X:=X) _ J σ H10 (.ref acc) [v] (.ref acc) [u2] (λ_ H'=>Nx σ H') I10 rfl (.cons O .nil) ⟨_,xs,v,rfl,rfl,U,Y,nx⟩;rw[xX] at F;refine thn F (by rintro _ ac ⟨_,H11,I11,_,Z⟩;exact k _ _ _ I11 Z)
def zi0 (O:Opn X scope cix Fam)(hc:X.calm=true)(hi:PI X tg iter wi)(hg:∀X',Fam X'->PG X' tg g)(ht:∀X',Fam X'->PTs X' ifs ti)(he:∀X',Fam X'->PE X' elt te)(hs:∀x,foldedSetIterable iter X.env x=pure x)(I:Inv X pins σ H s)
  (h:wi σ H λJ H1=>∀acc,H1 acc=none->∃W:Nat->Nat->St->Hp->Prop,(∃m,W 0 m (xA σ cix) (upd H1 acc (.lst [])))/\∀i n σ H,W i n σ H->(J.stop i H/\Fin acc H)\/(J.go i H/\∃Nx:St->Hp->Prop,(∀ U H',Nx U H'->∃m,m<n/\W (i+1) m U H')/\∀x H',J.yld i H x H'->zhR g ti te acc Nx x σ H'))
  (Y:∀acc C H5 F,zeS X pins H5 C->(∃m,F.heap.Ns C m)->(∀Z,Heap.SameBut C F.heap Z->Inv X pins σ H5 { F with heap:=Z })->Fin acc H5->compPost (model X.prog X.w) X.A X.xe use Qp (.ref acc) C (.ok .next) F) :
  wpAny (model X.prog X.w) X.A (comprehension (.ListComp elt [⟨tg,iter,ifs,0⟩] scope pos) scope X.env ipos (newList []) false (eval iter X.env) use) Qp X.xe s:=
 uu (ob:={ cls:=.type "list",dict:=none,data:=.seq ([]:List Value).toArray }) (o0:=λ_=>.lst []) (B:=λX' acc P s=>wpAny (model X'.prog X'.w) X'.A (eval elt X'.env) (λx s5=>wpAny (model X'.prog X'.w) X'.A (call (.builtin "list.append") [.ref acc,x]) (λ_ F=>P F) (λ_ _=>False) s5) (λ_ _=>False) s) (tb:=λacc Nx σ H=>te σ H λv H'=>∃xs,H' acc=some (.lst xs)/\xs.length<sizeLine/\Nx σ (upd H' acc (.lst (xs++[v])))) O hc rfl hs (λ_ _ _ _ _ h0 h1=>er h0 h1) (λ_ _ _ _ _ _ I ac n h=>zcU I ac n h) (λs Q h=>bi h) (λ_ _=>⟨aN _,[],0,.nil,aw _ rfl⟩) hi hg ht (λX' hF _ _ _ _ xX _ _ _ _ _ _ _ I q k=>zcO (he X' hF) xX I q k) I h (λJ H1 acc q hn=>q acc hn) Y
end
section
variable {X:Cx}{scope:Scope}{N:List Str}{z:Str}
def zaC {P:Cx->Prop}(h:∀C s H ex,P (zj X scope N C s H ex)):∀X',(∃C s H ex,X'=zj X scope N C s H ex)->P X':=by simp_all
abbrev zr7 (X:Cx)(pins:List (Addr×Obj))(σ:St)(use:Option (Value->Sem Unit))(Qp:Value->Shared->Prop)(Q:VK):Prop:=∀acc C H5 B,zeS X pins H5 C->(∃m,B.heap.Ns C m)->(∀q,Heap.SameBut C B.heap q->Inv X pins σ H5 { B with heap:=q })->Q (.ref acc) H5->compPost (model X.prog X.w) X.A X.xe use Qp (.ref acc) C (.ok .next) B
end
structure Dfn (K:PySem.W.Frag)(mg:Str->Option Value)(x:Str)(st:Stmt)(ps:List Str)(f:Addr)(fd:FuncData):Prop where
 F:Fun K x x st f fd
 b:zcK K fd ps []
 m:mg x=some (.ref f)
section
variable {X:Cx}
def ztT{x:Str}{st:Stmt}{ps:List Str}{f:Addr}{fd:FuncData}{sp:Sp}{es:List Expr}{p pos:Pos}(D:Dfn X.K X.mg x st ps f fd)(G:FnOk X.prog X.w X.K X.mg X.base CX0 j f fd ps sp)(J:Room k X.A)(O:PA X (e::es) t)(q:j<=k:=by decide)(U:Gl X x:=by rfl)(B:(x==("__debug__" : Str))=false:=by decide)(Y:starEach (e::es) X.env=(false,eval e X.env)::starEach es X.env:=by rfl)(I:(backTo pos (starEach es X.env)).any (·.1)=false:=by rfl) :
  PE X (.Call (.Name x p) (e::es) [] pos) (zeG sp [] E0 t):=
 zjq G (J.mono q) U D.m D.F.kp D.b .nil zqQ O B Y I
def zjH {q:List Bool}:((List.range q.length).all λi=>q.getD i true)=q.all id:=by
 rw[bA,bJ,bJ];constructor
 ·intro h b F;obtain⟨i,hi,e⟩:=b5.mp F
  simp_all
 ·intro h i hi;have B:=aQ.mp hi;have:=h q[i] (a9 B)
  simp_all
def zkm (hc:X.calm=true):zdG X (.builtin "all") (λxs H Q=>∃ (p:Addr) (B:List Bool),xs=[.ref p]/\Rd H p (.lst (B.map V.bl))/\Q (.bl (B.all id)) H):=by
 intro pins s σ H xs us Q I r h;obtain⟨p,B,rfl,hp,q⟩:=h;obtain⟨u,rfl,ru⟩:=zcm r;cases ru;obtain⟨its,Y,pl,hz⟩:=I.list (.inl hp);have F:=Y.length;rw[ab] at F
 have W:Walks X.prog X.w X.A.in1 s.heap.objs.size [s.heap.objs.size,p] [s.heap.objs.size] its.toArray.size (λi v=>its.toArray[i]?=some v) (λi h=>h.IsListIter s.heap.objs.size p i/\h.IsList p its.toArray):=by refine Walks.list (A:=X.A.in1) (I.ok.hd hc) s.heap.objs.size p ?_ its.toArray;obtain⟨o,_,ho,_⟩:=pl;exact a6 (aH ho)
 refine call_all_walk (wpAny_pyIter_list pl.isList ⟨s.heap.objs.size,_,_,_,_,_,λi=>B.getD i true,rfl,W,⟨?_,?_⟩,?_,?_⟩)
 ·exact⟨_,aw _ rfl,rfl,rfl⟩
 ·exact pl.isList.at λo e=>am _ e
 ·intro i v s' Q' E' hP O;have U:its[i]?=some v:=by simpa using hP
  have hi:i<B.length:=by grind
  have hb:(B.map V.bl)[i]?=some (V.bl B[i]):=by simp[hi]
  obtain⟨u',J,rb⟩:=Y.get hb;rw[U] at J;cases J;cases rb;have:B.getD i true=B[i]:=by simp[hi]
  dsimp only at O;rw[this] at O;exact eu O
 ·intro h' tk hk
  have e:(List.range its.toArray.size).all (λi=>B.getD i true)=B.all id:=by rw[aU,<- F];exact zjH
  rw[e];exact⟨.bl _,H,I.kept (t':=tk) λb o Z=>hk b o (by simp;exact a6 (aH Z)) (am _ Z),rfl,q⟩
end
structure QE (X:Cx)(e:Expr)(t:TE):Prop where
 run:PE X e t
structure QT (X:Cx)(e:Expr)(t:TT):Prop where
 run:PT X e t
structure QW (X:Cx)(e:Expr)(t:TT):Prop where
 run:PW X e t
structure QC (X:Cx)(op:CmpOp)(a b:Expr)(t:TE):Prop where
 run:PC X op a b t
structure QA (X:Cx)(es:List Expr)(t:TA):Prop where
 run:PA X es t
structure QS (X:Cx)(s:Stmt)(t:TS):Prop where
 run:PS X s t
structure QSs (X:Cx)(s:List Stmt)(t:TS):Prop where
 run:PSs X s t
structure QG (X:Cx)(e:Expr)(t:TG):Prop where
 run:PG X e t
structure QGs (X:Cx)(es:List Expr)(t:TGs):Prop where
 run:PGs X es t
structure QI (X:Cx)(tg e:Expr)(t:TI):Prop where
 run:PI X tg e t
structure QO (X:Cx)(e:Option Expr)(t:TO):Prop where
 run:PO X e t
structure QP (X:Cx)(pos:Pos)(ks:List (Option Expr))(vs:List Expr)(t:List (TE×TE)):Prop where
 run:PPs X pos ks vs t
structure QTs (X:Cx)(es:List Expr)(t:TT):Prop where
 run:PTs X es t
structure OpQ (X:Cx)(f:Value->Value->Sem Value)(r:R2):Prop where
 run:OpR X f r
structure CallQ (X:Cx)(f:Value)(r:List V->Hp->VK->Prop):Prop where
 run:zdG X f r
structure IxQ (X:Cx)(r:R2):Prop where
 run:IxR X r
structure SlQ (X:Cx)(r:V->Option Int->Option Int->Hp->VK->Prop):Prop where
 run:SlR X r
section
variable {X:Cx}{e a b c:Expr}{es:List Expr}{te ta tb tc:TE}{t u:TT}{pos p:Pos}
def qv(i:Nat)(B:X.N[i]?=some x:=by rfl)(F:Vis X.env.scope x:=by walk_at "v")(I:(x==("__debug__" : Str))=false:=by decide)(q:(x==("__classdict__" : Str))=false:=by decide):QE X (.Name x pos) (zlR i):=⟨zmD B F I q⟩
def ym{i:Int}:QE X (.Constant (.int i) j pos) (tC (.int i)):=⟨zqT⟩
def zt0:QE X (.Constant (.bool k) j pos) (tC (.bl k)):=⟨ztS⟩
def xn:QE X (.Constant (.str x) j pos) (tC (.str x)):=⟨zqU⟩
def zlt(q:Gl X x)(h:∃w,yr v w/\X.mg x=some w)(B:(x==("__debug__" : Str))=false:=by decide):QE X (.Name x pos) (tC v):=by obtain⟨w,r,F⟩:=h;exact⟨zoj q F r B⟩
def yq:OpQ X (binaryOp .Add) (rI0 λi j=>.int (i+j)):=⟨zqE⟩
def zmC:OpQ X (binaryOp .Sub) (rI0 λi j=>.int (i - j)):=⟨zqL⟩
def zbT:OpQ X (binaryOp .Mult) (rI zl5 λi j=>.int (i * j)):=⟨zqI⟩
def zfA:OpQ X (binaryOp .FloorDiv) (rI CDiv λi j=>.int (i / j)):=⟨zob⟩
def zat:OpQ X (binaryOp .Mod) (rI (λ_ j=>0<j) λi j=>.int (i % j)):=⟨zqH⟩
def zjo:OpQ X (binaryOp .Pow) (rI CPow λi j=>.int (i ^ j.toNat)):=⟨zqK⟩
def yO:OpQ X (binaryOp .Add) (zjE X.K):=⟨zn9⟩
def zqM:OpQ X (binaryOp .Add) rCat:=⟨zqF⟩
def zoc:OpQ X (compareOp .Lt) (rI0 λi j=>.bl (decide (i<j))):=⟨ztP⟩
def zqN:OpQ X (compareOp .LtE) (rI0 λi j=>.bl (decide (i<=j))):=⟨ztO⟩
def zlf:OpQ X (compareOp .Gt) (rI0 λi j=>.bl (decide (j<i))):=⟨ztN⟩
def ztR:OpQ X (compareOp .GtE) (rI0 λi j=>.bl (decide (j<=i))):=⟨ztM⟩
def zhg:OpQ X (compareOp .Eq) rEq:=⟨ztL⟩
def zod:OpQ X (compareOp .NotEq) rNe:=⟨ztQ⟩
def zet:OpQ X (compareOp .NotIn) (rIn X.K true):=⟨zes⟩
def yI(q:OpQ X (binaryOp op) r)(B:QE X a ta)(F:QE X b tb):QE X (.BinOp a op b pos) (tOp r ta tb):=⟨ztV q.run B.run F.run⟩
def zoE(q:OpQ X (compareOp op) r)(B:QE X a ta)(F:QE X b tb)(I:behindInMarks op b=false):QE X (.Compare a [op] [b] pos) (tOp r ta tb):=⟨zof q.run B.run F.run I⟩
def zbZ(q:OpQ X (compareOp op) r)(B:QE X a ta)(F:QE X b tb)(I:behindInMarks op b=false):QT X (.Compare a [op] [b] pos) (zpg (tOp r ta tb)):=⟨zoy q.run B.run F.run I⟩
def zrc(q:QE X a ta):QC X .Is a (.Constant .none j pos') (zug ta):=⟨zqR q.run⟩
def zrj(h:QC X op a b te)(h1:behindInMarks op b=false:=by first | exact zgA _ (by decide) (by decide) | rfl):QT X (.Compare a [op] [b] pos) (tB te):=⟨zq7 h.run h1⟩
def zrl (h:QE X e te)(he:∀whole,isTrue e X.env whole=(do let v <- whole;standAt e.pos;holding [v] (truthy v)):=by intro _;rfl):QT X e (tB te):=⟨zq9 h.run he⟩
def zrk (h:QT X a t):QT X (.UnaryOp .Not a pos) (tNot t):=⟨zq8 h.run⟩
def zjD (h:QT X a t):QW X (.BoolOp .And [a] pos) t:=⟨zoD h.run⟩
def zrm (h:QT X a t):QW X (.BoolOp .Or [a] pos) t:=⟨zrb h.run⟩
def zmH {zw:List Expr}(h:QT X a t)(h':QW X (.BoolOp .And (b::zw) pos) u):QW X (.BoolOp .And (a::b::zw) pos) (zub t u):=⟨zra h.run h'.run⟩
def zt1 {zw:List Expr}(h:QT X a t)(h':QW X (.BoolOp .Or (b::zw) pos) u):QW X (.BoolOp .Or (a::b::zw) pos) (tOr t u):=⟨ztZ h.run h'.run⟩
def QW.pt (h:QW X e t):QT X e t:=⟨h.run.pt⟩
def zlu (q:QT X c t)(B:QE X a ta)(F:QE X b tb):QE X (.IfExp c a b pos) (tIf t ta tb):=⟨zlk q.run B.run F.run⟩
def yP:QA X [] zpx:=⟨zqO⟩
def yf(q:QE X e te)(B:QA X es ts)(hs:starEach (e::es) X.env=(false,eval e X.env)::starEach es X.env:=by rfl):QA X (e::es) (zho te ts):=⟨zoe q.run B.run hs⟩
def zoO:QP X pos [] [] []:=⟨zot⟩
def zdp(B:QE X k tk)(F:QE X v tv)(I:QP X pos ks vs q):QP X pos (some k::ks) (v::vs) ((tk,tv)::q):=⟨zlp B.run F.run I.run⟩
def zoG(h:QP X pos q B F)(I:q.all (·.isSome)=true)(O:q.length=B.length)(U:q≠[])(J:q.length<=15):QE X (.Dict q B pos) (zrL F):=⟨zoh h.run I O U J⟩
def zjA:QO X none zj5:=⟨zor⟩
def zjB (h:QE X e te):QO X (some e) (zrO te):=⟨zos h.run⟩
def zpb:SlQ X rSlA:=⟨zo8⟩
def zj2:SlQ X (rSlL X.K):=⟨zo7⟩
def zdn{r:V->Option Int->Option Int->Hp->VK->Prop}{lo hi:Option Expr}{tl th:TO}(q:SlQ X r)(B:QE X e te)(F:QO X lo tl)(I:QO X hi th):QE X (.Subscript e (.Slice lo hi none p2) pos) (tSl r te tl th):=⟨zll q.run B.run F.run I.run⟩
def zaY:IxQ X (zsw X.K):=⟨znE⟩
def xo:IxQ X (zsx X.K):=⟨zqd⟩
def zrg(q:IxQ X r)(B:QE X a ta)(F:QE X b tb)(hs:zeT b):QE X (.Subscript a b pos) (tOp r ta tb):=⟨ztU q.run B.run F.run hs⟩
def xZ (q:X.A.units+1<cLine)(B:QE X a ta)(F:QE X b tb)(hs:zsd b):QE X (.Subscript a b pos) (zrK ta tb):=⟨zog q B.run F.run hs⟩
def xB:CallQ X (.builtin "len") (λxs H Q=>∃x n,xs=[x]/\zsa X.K x H n/\Q (.int n) H):=⟨zkn⟩
def zhU:CallQ X (.builtin "abs") (λxs H Q=>∃i,xs=[.int i]/\Q (.int (if i<0 then -i else i)) H):=⟨zkl⟩
def zpO (B:X.calm=true):CallQ X (.builtin "all") (λxs H Q=>∃ (p:Addr) (q:List Bool),xs=[.ref p]/\Rd H p (.lst (q.map V.bl))/\Q (.bl (q.all id)) H):=⟨zkm B⟩
def zg1:CallQ X (.type "list") (λxs H Q=>∃p ys,xs=[.ref p]/\(SqL X.K H p ys\/SqT X.K H p ys)/\∀l,H l=none->Q (.ref l) (upd H l (.lst ys))):=⟨zdQ⟩
def ze2:CallQ X (.type "tuple") (λxs H Q=>∃p ys,xs=[.ref p]/\((SqL X.K H p ys/\∀l,H l=none->Q (.ref l) (upd H l (.tup ys)))\/(SqT X.K H p ys/\Q (.ref p) H))):=⟨zcS⟩
def xm {id:String}{r:List V->Hp->VK->Prop}{x:Str}{ts:TA}(F:CallQ X (.builtin id) r)(I:Gl X x)(J:X.mg x=none)(O:bootBuiltins x=some (.builtin id))(U:QA X (e::es) ts)(Y:x ≠ "__name__" := by decide)(q:(x==("__debug__" : Str))=false:=by decide)
  (Z:starEach (e::es) X.env=(false,eval e X.env)::starEach es X.env:=by rfl) (B:(backTo pos (starEach es X.env)).any (·.1)=false:=by rfl):QE X (.Call (.Name x p) (e::es) [] pos) (tCB r ts):=⟨zlj F.run I J O U.run Y q Z B⟩
def zbX(F:CallQ X (.type T) r)(I:Gl X x)(J:X.mg x=none)(O:bootBuiltins x=some (.type T))(U:QA X (e::es) ts)(Y:x ≠ "__name__" := by decide)(q:(x==("__debug__" : Str))=false:=by decide)(Z:starEach (e::es) X.env=(false,eval e X.env)::starEach es X.env:=by rfl)(B:(backTo pos (starEach es X.env)).any (·.1)=false:=by rfl):QE X (.Call (.Name x p) (e::es) [] pos) (tCB r ts):=⟨zjr F.run I J O U.run Y q Z B⟩
def zoH{x:Str}{st:Stmt}{ps:List Str}{f:Addr}{fd:FuncData}{sp:Sp}(D:Dfn X.K X.mg x st ps f fd)(G:FnOk X.prog X.w X.K X.mg X.base CX0 j f fd ps sp)(I:Room k X.A)(J:QA X (e::es) ts)(q:j<=k:=by decide)(O:Gl X x:=by rfl)(B:(x==("__debug__" : Str))=false:=by decide)(U:starEach (e::es) X.env=(false,eval e X.env)::starEach es X.env:=by rfl)(F:(backTo pos (starEach es X.env)).any (·.1)=false:=by rfl) :
  QE X (.Call (.Name x p) (e::es) [] pos) (zeG sp [] E0 ts):=⟨ztT D G I J.run q O B U F⟩
def zbY(q:X.N.Nodup)(hi:X.N[i]?=some x)(B:Loc X.env.scope x)(F:X.fn x=true\/X.env.scope.names.lookup x=some .local:=by walk_at "l"):QG X (.Name x pos) (zbl i):=⟨zon q hi B F⟩
def zoL:QGs X [] gNil:=⟨zoo⟩
def zlv(h1:QG X e g)(h2:QGs X es gs)(hs:(assignEach (e::es) X.env).map (·.2)=assign e X.env::(assignEach es X.env).map (·.2):=by rfl):QGs X (e::es) (zp8 g gs):=⟨zln h1.run h2.run hs⟩
def zrh {k:Nat}{gs:TGs}{n:Nat}(B:X.calm=true)(h:QGs X es gs)(F:(assignEach es X.env).length=n:=by rfl)(q:(assignEach es X.env).findIdx? (·.1)=none:=by rfl):QG X (.Tuple es k pos) (zta X.K n gs):=⟨zq1 B h.run F q⟩
def zfD(q:QE X e te):QI X tg e (znz X.K te):=⟨zoq q.run⟩
def zmG(q:QE X e te):QI X tg e (ztc X.K te):=⟨zq2 q.run⟩
def zjz(q:Gl X "range")(B:X.mg "range" = none)(F:QA X [a] ts)(hs:starEach [a] X.env=[(false,eval a X.env)]:=by rfl):QI X tg (.Call (.Name "range" p) [a] [] pos) (zqb ts):=⟨zju q B F.run hs⟩
def zfF:QTs X [] zaW:=⟨zoz⟩
def zoQ (h:QT X c t):QTs X [c] t:=⟨zoA h.run⟩
def zoF(B:X.calm=true)(c:CompOk X scope N cix)(hi:QI X tg iter wi)(F:∀C s H ex,QG (zj X scope N C s H ex) tg g)(J:∀C s H ex,QTs (zj X scope N C s H ex) ifs ti)(O:∀C s H ex,QE (zj X scope N C s H ex) elt te)(hs:∀x,foldedSetIterable iter X.env x=pure x:=by intro _;rfl):QE X (.ListComp elt [⟨tg,iter,ifs,0⟩] scope pos) (zuc wi g ti te cix):=⟨λpins s σ H Q I h=>by
 rw[eval_ListComp];exact zi0 (Fin:=λacc H=>Q (.ref acc) H) (uB c) B hi.run (zaC λC s H ex=>(F C s H ex).run) (zaC λC s H ex=>(J C s H ex).run) (zaC λC s H ex=>(O C s H ex).run) hs I h λ_ _ _ _ _ U Y q=>zcZ U Y q⟩
end
section
variable {X:Cx}{st:Stmt}{sts body a b:List Stmt}{t u:TS}{e o i:Expr}{te td ty tv:TE}{pos:Pos}
def zdr:QSs X [] zrN:=⟨zow⟩
def zS (h1:QS X st t)(h2:QSs X sts u):QSs X (st::sts) (zui t u):=⟨zlq h1.run h2.run⟩
def xw (h1:QS X st t):QSs X [st] t:=⟨zox h1.run⟩
def zdq (q:QE X e te)(hs:swapsWith e none pos.line X.env=pure false:=by rfl):QS X (.Expr e pos) (zpe te):=⟨zov q.run hs⟩
def za9 (q:QE X e te):QS X (.Return (some e) pos) (zsz te):=⟨zq5 q.run⟩
def zlx(q:QT X c tc)(B:QSs X a t)(F:QSs X b u):QS X (.If c a b pos) (tIfS tc t u):=⟨ztY q.run B.run F.run⟩
def xG {i:Nat}{x:Str}{pos':Pos}(q:X.N.Nodup)(hi:X.N[i]?=some x)(B:Loc X.env.scope x)(F:QE X e te)(hs:swapsWith e (some (.Name x pos')) pos.line X.env=pure false:=by rfl)(I:X.fn x=true\/X.env.scope.names.lookup x=some .local:=by walk_at "l") :
  QS X (.Assign [.Name x pos'] e pos) (zhx te (zbl i)):=⟨zq6 q hi B F.run hs I⟩
def zri(q:QE X e te)(B:QG X tg g)(hs:swapsWithSole [tg] e pos.line X.env=pure false:=by rfl)(F:swappedStores [tg] e X.env=pure none:=by rfl)(h1:(assignEach [tg] X.env).map (·.2)=[assign tg X.env]:=by rfl):QS X (.Assign [tg] e pos) (zhx te g):=⟨zq3 q.run B.run hs F h1⟩
def zfE(q:X.A.units+1<cLine)(B:QE X o td)(hi:QE X i ty)(F:QE X e tv)(hs:swapsWith e (some (.Subscript o i pos')) pos.line X.env=pure false):QS X (.Assign [.Subscript o i pos'] e pos) (zrF td ty tv):=⟨zou q B.run hi.run F.run hs⟩
def zjC(hp:PassesOwn (model X.prog X.w) X.A X.env X.xe)(q:X.calm=true)(hi:QI X tg iter wi)(B:QG X tg g)(F:QSs X body t)(hs:∀x,foldedSetIterable iter X.env x=pure x:=by intro _;rfl):QS X (.For tg iter body [] pos) (zud wi g t):=⟨zq4 hp q hi.run B.run F.run hs⟩
end
def Fun.okQ{P:Program}{w:World}{K:PySem.W.Frag}{mg:Str->Option Value}{base:Heap}{x qual:Str}{st:Stmt}{f:Addr}{fd:FuncData}{N ps:List Str}{sp:Sp}(F:Fun K x qual st f fd)(S:FnScope N ps (zb st))(I:∀vs H Q E,sp vs H Q E->vs.length=ps.length)(B:∀ (q:Value) (A:Around) (outer:List Env) (s:Shared) (H:Hp) (vs:List V) (Q:VK) (E:XK),Room k (A.deeper (envOfC qual (zb st) s.heap.objs.size f q))->sp vs H Q E->
   ∃t,QSs (zdE CX0 P w K mg base N qual (zb st) f q A outer s H E).nox (zE st) t/\t { nx:=λ_ H'=>Q .non H',rt:=Q } (xg N vs) H):FnOk P w K mg base CX0 (k+1) f fd ps sp:=
 F.ok S I λq A outer s H vs Q E J h=>by obtain⟨t,h1,h2⟩:=B q A outer s H vs Q E J h;exact⟨t,h1.run,h2⟩
def s_ca:¬ (("cells" : Str) = "at"):=by decide +kernel
def s_cl:¬ (("cells" : Str) = "rest"):=by decide +kernel
def s_al:¬ (("at" : Str) = "rest"):=by decide +kernel
def ztk:¬ (Sum.inr "cells" : Key)=(Sum.inr "at" : Key):=λz=>s_ca (Sum.inr.inj z)
def ztl:¬ (Sum.inr "cells" : Key)=(Sum.inr "rest" : Key):=λz=>s_cl (Sum.inr.inj z)
def zsk:¬ (Sum.inr "at" : Key)=(Sum.inr "rest" : Key):=λz=>s_al (Sum.inr.inj z)
def zaD (c:Addr)(a l:Int):List (Key×V):=[(Sum.inr "cells",.ref c),(Sum.inr "at",.int a),(Sum.inr "rest",.int l)]
def ztW (c:Addr)(a l:Int):zaE (zaD c a l) (Sum.inr "cells" : Key)=some (.ref c):=yW rfl
def zom (c:Addr)(a l:Int):zaE (zaD c a l) (Sum.inr "at" : Key)=some (.int a):=by unfold zaD;rw[yU ztk,yW rfl]
def ztX (c:Addr)(a l:Int):zaE (zaD c a l) (Sum.inr "rest" : Key)=some (.int l):=by unfold zaD;rw[yU ztl,yU zsk,yW rfl]
def zqY (c:Addr)(a l b:Int):uQ (zaD c a l) (Sum.inr "at" : Key) (.int b)=zaD c b l:=by unfold uQ zaD;have q:=ztk;have B:¬ (Sum.inr "rest" : Key)=(Sum.inr "at" : Key):=λz=>zsk z.symm;simp[q,B]
def zqZ (c:Addr)(a l b:Int):uQ (zaD c a l) (Sum.inr "rest" : Key) (.int b)=zaD c a b:=by unfold uQ zaD;have q:=ztl;have B:=zsk;simp[q,B]
def zqX (c:Addr)(a l:Int):zbM [] (zaD c a l)=zaD c a l:=by unfold zbM zaD;have q:=ztk;have B:=ztl;have F:=zsk;simp[uQ,q,B,F]
structure Pen (H:Hp)(p c:Addr)(ns:List Int)(n:Nat):Prop where
 ob:∃a l:Int,H p=some (.dK (zaD c a l))/\0<=a/\a<=n/\0<=l
 ls:∃ob,H c=some (.frz ob (.lst (ns.map V.int)))
 len:ns.length<=63
def Pen.same{ns:List Int}(P:Pen H p c ns n)(h:yM H H'):Pen H' p c ns n:=by obtain⟨⟨a,l,h1,h2,q,B⟩,F,I⟩:=P;exact⟨⟨a,l,h _ _ h1,h2,q,B⟩,let ⟨ob,e⟩:=F;⟨ob,h _ _ e⟩,I⟩
section
variable {H:Hp}{p c:Addr}{a l:Int}
def zgF (h:H p=some (.dK (zaD c a l))):zfT H p (.str "cells") (some (.ref c)):=by have:=zfT.k (k:=(Sum.inr "cells" : Key)) h;rw[ztW] at this;exact this
def zqW (h:H p=some (.dK (zaD c a l))):zfT H p (.str "at") (some (.int a)):=by have:=zfT.k (k:=(Sum.inr "at" : Key)) h;rw[zom] at this;exact this
def zjs (h:H p=some (.dK (zaD c a l))):zfT H p (.str "rest") (some (.int l)):=by have:=zfT.k (k:=(Sum.inr "rest" : Key)) h;rw[ztX] at this;exact this
def zq0 (h:H p=some (.dK (zaD c a l)))(b:Int):zdH H p (.str "at") (.int b) (upd H p (.dK (zaD c b l))):=by have:=zdH.k (k:=(Sum.inr "at" : Key)) (v:=.int b) h (by show 3<sizeLine;decide);rw[zqY] at this;exact this
def zmE (h:H p=some (.dK (zaD c a l)))(b:Int):zdH H p (.str "rest") (.int b) (upd H p (.dK (zaD c a b))):=by have:=zdH.k (k:=(Sum.inr "rest" : Key)) (v:=.int b) h (by show 3<sizeLine;decide);rw[zqZ] at this;exact this
end
def zpJ (ns:List Int)(a:Int)(h:0<((ns.map V.int).length:Int)):∃z,atI (ns.map V.int) (a % ((ns.map V.int).length:Int))=some (.int z):=by
 have q:=cA a (show ((ns.map V.int).length:Int)≠0 by lia);have h1:=bW a h;generalize F:a % ((ns.map V.int).length:Int)=m at q h1;obtain⟨j,rfl⟩:∃j:Nat,m=j:=⟨m.toNat,by lia⟩;have B:j<ns.length:=by rw[ab] at h1;lia
 exact⟨ns[j],zm3 (by simp[B])⟩
def zlQ {a:Int}{n:Nat}(q:0<=a)(h1:a<=n)(h2:n<=1000000):0<=60013 * a * a/\60013 * a * a<=60013000000000000:=by have e:60013 * a * a=60013 * (a * a):=Int.mul_assoc _ _ _;have m0:0<=a * a:=Int.mul_nonneg q q;have B:a * a<=1000000 * 1000000:=Int.mul_le_mul (by lia) (by lia) q (by lia);rw[e];lia
def meet {α:Type}{G:Prop}(P:α->Prop)(h:(∀a,P a)->G)(r:∀a,P a):G:=h r
def ztD {G:Prop}(P:Prop)(h:P->G)(r:P):G:=h r
def zlP (K:PySem.W.Frag):Sp:=λvs H Q _=>∃ (a:Addr) (ns:List Int),vs=[.ref a]/\SqL K H a (ns.map V.int)/\ns.length<=63/\∀ (p c:Addr) (H':Hp),Pen H' p c ns 0->yM H H'->Q (.ref p) H'
def yS (ns:List Int):Int:=ns.foldl (· * ·) 1
def xF (ns:List Int)(n:Int):yS (ns++[n])=yS ns * n:=by unfold yS;rw[List.foldl_append];rfl
def zi{α:Type}{l:List α}{x:α}(h:l[i]?=some x):l.take (i+1)=l.take i++[x]:=by rw[List.take_succ,h];rfl
def zmQ:Sp:=λvs H Q _=>∃ (a:Addr) (ns:List Int),vs=[.ref a]/\H a=some (.tup (ns.map V.int))/\(∀n∈ns,2<=n/\n<=4)/\Q (.int (yS ns)) H
def Dt.inBox:Dt->Bool
 | .int i=>decide (2<=i)&&decide (i<=4)
 | _=>false
def Dt.val:Dt->Int
 | .int i=>i
 | _=>0
def x8:∀ (ns:List Int),(ns.map Dt.int).map Dt.val=ns
 | []=>rfl
 | n::ns=>by simp only[au,x8 ns];rfl
def zj1 (K:PySem.W.Frag):Sp:=λvs H Q _=>∃ (a:Addr) (ns:List Int),vs=[.ref a]/\SqL K H a (ns.map V.int)/\ns.length<=63/\∀H',Q (.bl true) H'
def zmy {g:TG}{x:V}{σ:St}{H:Hp}{A B:St->Hp->Prop}(h:g x σ H A):g x σ H λq H3=>zaW q H3 λF H4=>if F=true then A q H4 else B q H4:=by
 have e:(λq H3=>zaW q H3 λF H4=>if F=true then A q H4 else B q H4)=A:=by funext q H3;show (if true=true then A q H3 else B q H3)=A q H3;rw[if_pos rfl]
 rw[e];exact h
section
variable {prog:Program}{w:World}{A:Around}{E:Value->Shared->Prop}{s:Shared}
def zaS{items}(q:s.heap.IsTupleIter it t i)(O:s.heap.IsTuple t items)(U:items[i]?=some x)(Y:∀h',h'.IsTupleIter it t (i+1)->Heap.SameBut it s.heap h'->Q x { s with heap:=h' }):wpAny (model prog w) A (Builtin.SmallTypes.nextOf (.ref it)) Q E s:=by
 obtain⟨o,F,Z,B⟩:=id q;obtain⟨ol,I,_,nl,J⟩:=O;unfold Builtin.SmallTypes.nextOf
 refine aa (wpAny_callSpecial?_slot (name:=Str.ofString "__next__") q.typeIs cB
  (aX cB q.typeIs fg ?_ (eX _)))
 show wpAny _ _ (field (.ref it) 0 >>= _) _ _ s;refine aa (dH F B (x:=.ref t) rfl ?_);show wpAny _ _ (if (Value.ref t==Value.none)=true then _ else _) _ _ s;rw[if_neg (by grind)];show wpAny _ _ (field (.ref it) 1 >>= _) _ _ s;refine aa (dH F B (x:=.int i 0) rfl ?_);show wpAny _ _ (seqItems? (.ref t) >>= _) _ _ s;refine aa (eE I J ?_);simp only[bq,U];refine aa (cJ F B (by simp) (ae ⟨x,rfl,ae (Y _ ?_ (ba ..))⟩))
 exact⟨_,cI _ F (dq (bX B _)),(ev ..).trans Z,by
  rw[bX B];simp[rawInt]⟩
def uh{items}(O:A.handled=none)(q:s.heap.IsTupleIter it t i)(U:s.heap.IsTuple t items)(Y:items[i]?=none)(Z:∀h' e,Heap.ExtBut it s.heap h'->(∃o,h'.get? e=some o/\o.cls = .type "StopIteration")->E (.ref e) { s with heap:=h' }):wpAny (model prog w) A (Builtin.SmallTypes.nextOf (.ref it)) Q E s:=by
 obtain⟨o,B,hc,F⟩:=id q;obtain⟨ol,I,_,nl,J⟩:=U;unfold Builtin.SmallTypes.nextOf
 refine aa (wpAny_callSpecial?_slot (name:=Str.ofString "__next__") q.typeIs cB
  (aX cB q.typeIs fg ?_ (eX _)))
 show wpAny _ _ (field (.ref it) 0 >>= _) _ _ s;refine aa (dH B F (x:=.ref t) rfl ?_);show wpAny _ _ (if (Value.ref t==Value.none)=true then _ else _) _ _ s;rw[if_neg (by grind)];show wpAny _ _ (field (.ref it) 1 >>= _) _ _ s;refine aa (dH B F (x:=.int i 0) rfl ?_);show wpAny _ _ (seqItems? (.ref t) >>= _) _ _ s;refine aa (eE I J ?_);simp only[bq,Y];refine aa (ck (aa (cJ B F (by simp) ?_)));show wpAny _ _ (newExc (.type "StopIteration") [] >>= _) _ _ _;refine aa ?_;simp only[newExc,newTuple];refine aa (bi ?_ (by size_fits));refine aa (m:=firstArgMember _ _) (wpAny_of_eq (a:=Value.none) (by first | rfl | (simp only[firstArgMember];rfl)) ?_);refine bi ?_ (by size_fits);simp only[raiseNew];refine aa (fY ?_)
 first | rw[show A.in1.handled=none from O] | rw[O]
 refine aa (ae (wpAny_throw ?_));exact Z _ _ (((ba ..).extBut.push _).push _) ⟨_,aw _ rfl,rfl⟩
def ze5 (O:A.handled=none)(it l:Addr)(I:l≠it)(q:Array Value) :
  Draws prog w A it [it,l] q.size (λi v=>q[i]?=some v) (λi h=>h.IsTupleIter it l i/\h.IsTuple l q) where
 live:=λ_ _ st=>let ⟨o,ho,_⟩:=st.1;⟨o,ho⟩
 frame:=λ_ _ _ st J=>⟨let ⟨o,ho,r⟩:=st.1;⟨o,J it (by simp) o ho,r⟩,let ⟨o,ho,r⟩:=st.2;⟨o,J l (by simp) o ho,r⟩⟩
 item:=λi s Q E hi st U=>by refine zaS st.1 st.2 (x:=q[i]) (by simp[hi]) λh' B F=>?_;exact U _ h' s.toks (by simp[hi]) ⟨B,st.2.extBut F.extBut I⟩ F
 done:=λs Q E st Y=>uh O st.1 st.2 (by simp) Y
def uN (l:Addr)(q:Array Value)(n:Nat)(F:Option Addr)(O:Array (Option Value)) :
  Meets (Builtin.«enumerate.__new__» ⟨[.type "enumerate",.ref l],[]⟩) (λ_ R s=>s.heap.get? l=some { cls:=.type "tuple",dict:=F,data:=.seq q n,slots:=O }/\
   R (.ok (.ret (.ref (s.heap.push { cls:=.type "tuple_iterator",data:=.fields #[.ref l,.int 0 0] }).objs.size)))
    { s with heap:=(s.heap.push { cls:=.type "tuple_iterator",data:=.fields #[.ref l,.int 0 0] }).push { cls:=.type "enumerate",data:=.fields #[.none,.bool false,.ref s.heap.objs.size,rawInt 0,.none,.none] } }):=
 .of_wp λprog w A R s h=>by
  obtain⟨hp,g,d,tk,U⟩:=s;obtain⟨B,h⟩:=h;have J:=sub_enumerate;have I:Heap.IsTuple (Shared.heap ⟨hp,g,d,tk,U⟩) l q:=⟨_,B,rfl,n,rfl⟩
  wp_walk using cN B
  refine wpAny_stack_any λst=>ae ?_;split
  ·rename_i c _ _ _ _ _;cases (c==Value.type "enumerate")
   ·wp_walk using cN B,dP I
    exact⟨_,rfl,h⟩
   ·wp_walk using cN B,dP I
    exact⟨_,rfl,h⟩
  ·wp_walk using cN B,dP I
   exact⟨_,rfl,h⟩
def uM(Z:s.heap.IsTuple l q)(h:∀h',IsEnum h' (s.heap.objs.size+1) s.heap.objs.size 0 .none->h'.IsTupleIter s.heap.objs.size l 0->h'.objs.size=s.heap.objs.size+2->
   (∀b o,s.heap.get? b=some o->h'.get? b=some o)->Q (.ref (s.heap.objs.size+1)) { s with heap:=h' }) :
  wpAny (model prog w) A (call (.type "enumerate") [.ref l]) Q E s:=by
 obtain⟨⟨c,B,dt,sl⟩,hl,I,n,J⟩:=Z
 replace I:c = .type "tuple" := I
 replace J:dt = .seq q n:=J
 subst I J
 refine callType_new F.called_enumerate (by decide) (F.typeCall_enumerate_1 _) (F.newCall_enumerate_1 _) (λO=>F.args_object_init_2 O _) F.entry_enumerate_new
  (uN l q n B sl) ⟨hl,?_⟩
 have U:(s.heap.push { cls:=.type "tuple_iterator",data:=.fields #[.ref l,.int 0 0] }).objs.size=s.heap.objs.size+1:=Heap.size_push ..;show _/\_;rw[U]
 have Y:IsEnum ((s.heap.push { cls:=.type "tuple_iterator",data:=.fields #[.ref l,.int 0 0] }).push
   { cls:=.type "enumerate",data:=.fields #[.none,.bool false,.ref s.heap.objs.size,rawInt 0,.none,.none] }) (s.heap.objs.size+1) s.heap.objs.size 0 .none:=by
  have:=aw (s.heap.push { cls:=.type "tuple_iterator",data:=.fields #[.ref l,.int 0 0] })
   (o:={ cls:=.type "enumerate",data:=.fields #[.none,.bool false,.ref s.heap.objs.size,rawInt 0,.none,.none] }) rfl
  rw[U] at this;exact this
 refine⟨⟨_,Y,rfl⟩,h _ Y ⟨_,am _ (aw _ rfl),rfl,rfl⟩ (by simp) λb o x=>am _ (am _ x)⟩
end
def Ite (K:PySem.W.Frag)(a:Addr):It:=
 ⟨λi H=>∃xs x,SqT K H a xs/\xs[i]?=some x,λi H v H'=>∃T x,v = .ref T/\H T=none/\H'=upd H T (.tup [.int i,x])/\∀xs,SqT K H a xs->xs[i]?=some x,λi H=>∃xs,SqT K H a xs/\xs.length<=i⟩
def zka{P:Program}{w:World}{K:PySem.W.Frag}{al:List Expr}{x1}(a it e:Addr)(ac:e≠it) :
  Turn P w K (.Tuple al x1 tpos) (Ite K a) [e,it] e (λi h=>(∃U,IsEnum h e it i U)/\h.IsTupleIter it a i) where
 mem:=by simp
 obj:=λi h st b J=>by
  rcases ay.mp J with rfl | J
  ·grind
  ·rw[ao.mp J];obtain⟨_,o,e,c,d⟩:=st
   simp_all
 keep:=λi h h' st k=>by obtain⟨⟨U,he⟩,o,ho,r⟩:=st;exact⟨⟨U,k e (by simp) _ he⟩,o,k it (by simp) _ ho,r⟩
 item:=by
  intro X hP hw hK hc i pins s σ H E I hf st hg;subst hP hw hK;obtain⟨xs,x,hq,hx⟩:=hg;obtain⟨its,rv,p,hz⟩:=I.tuple hq;obtain⟨u,hu,ru⟩:=rv.get hx;obtain⟨f0,f1,f2,f3,f4,f5⟩:=hf e (by simp);obtain⟨g0,g1,g2,g3,g4,g5⟩:=hf it (by simp);obtain⟨⟨U,he⟩,Y⟩:=st
  have hsz:i<its.toArray.size:=by have:=(af.mp hu).1;simpa using this
  have a4:a≠it:=by
   intro z;obtain⟨o,ho,a5,_⟩:=p;obtain⟨o',b3,b0,_⟩:=Y
   grind
  have a7:e≠a:=by
   intro z;obtain⟨o,ho,a5,_⟩:=p
   grind
  refine wpAny_pyNext_enum_itemD (ze5 (A:=X.A.in1) (I.ok.hd hc) it a a4 its.toArray) he ⟨Y,p⟩ hsz ac (by simp[ac,a7]) λy h' tk hy ho an hT b1 hk=>?_
  have bb:y=u:=by simp_all
  subst bb;refine⟨_,rfl,?_⟩;refine wpAny_letOwnedTupleGo_enum ho λZ ad O=>?_;have as:s.heap.objs.size≠e:=Nat.ne_of_gt (aH he)
  have bc:s.heap.objs.size≠it:=by obtain⟨o,a0,_⟩:=Y;exact Nat.ne_of_gt (aH a0)
  have B:=I.hok.fresh (ah s.heap.objs.size);have kp:∀b o,b≠e->b≠it->s.heap.get? b=some o->Z.get? b=some o:=λb o h1 h2 J=>(O.2 b h1).trans (hk b o h1 h2 J);have a1:Z.get? s.heap.objs.size=some { cls:=.type "tuple",data:=.seq #[.int i tk,y] }:=(O.2 _ as).trans hT;obtain⟨oe,b4⟩:∃o,Z.get? e=some o:=⟨_,ad⟩
  obtain⟨oi,a0⟩:∃o,Z.get? it=some o:=by obtain⟨⟨o,ag,_⟩,_⟩:=an;exact⟨o,(O.2 it (Ne.symm ac)).trans ag⟩
  have b2:∀b u',H b=some u'->b≠e/\b≠it:=λb u' J=>⟨zg J f0,zg J g0⟩
  have a2:HOk X.prog X.w (upd H s.heap.objs.size (.tup [.int i,x])) Z:=by
   intro b u' J;by_cases a3:b=s.heap.objs.size
   ·subst a3;rw[zf] at J;cases J;exact⟨by show 2<=sizeLine;decide,[.int i tk,y],.cons ⟨tk,rfl⟩ (.cons ru .nil),_,a1,rfl,⟨0,rfl⟩,rfl⟩
   ·rw[zd a3] at J;refine (I.hok b u' J).stay (λc v ca q=>?_) (λc q=>?_) (λc ys q=>?_)
    ·refine kp c v ?_ ?_ q
     all_goals grind
    ·rw[zd (zg q B)];exact q
    ·rw[zd (zg q B)];exact q
  have I1:Inv X pins σ (upd H s.heap.objs.size (.tup [.int i,x])) { s with heap:=Z,toks:=tk+1 }:=by
   refine Inv.step (ch:=[e,it]) (g':=s.gens) (d':=s.drawn) (t':=tk+1) I (λb J=>?_) (λb o h1 h2 h3 h4 h5=>?_) (λb o h1 h2 h3 h4 h5=>?_) (λb o h3 h4 h5=>?_) (λb o h3 h4=>?_) (λb ys q=>?_) (λb o u' q=>?_) (λb ps q=>?_) (λm hm=>?_) a2 I.bare
   ·rcases ay.mp J with rfl | J
    ·exact⟨f3,f1,f4,f5⟩
    ·rw[ao.mp J];exact⟨g3,g1,g4,g5⟩
   ·simp_all
   ·exact⟨o.slots,kp b o (λz=>h3 (by simp[z])) (λz=>h3 (by simp[z])) h4⟩
   ·rw[zd (a6 (aH h4))];exact h5
   ·simp_all
   ·rw[zd (zg q B)];exact q
   ·rw[zd (zg q B)];exact q
   ·exact⟨#[],by rw[zd (zg q B),Array.append_empty];exact q⟩
   ·obtain⟨o,es,ep,bd,r1⟩:=hm;exact⟨o,es,ep,kp _ o (Ne.symm f1) (Ne.symm g1) bd,r1⟩
  refine⟨.ref s.heap.objs.size,_,I1,rfl,⟨s.heap.objs.size,x,rfl,B,rfl,λys bl=>by rw[I.tuple_inj bl hq];exact hx⟩,⟨⟨y,by have:=ad;push_cast;exact this⟩,?_⟩,λb J=>?_⟩
  ·obtain⟨⟨o,ag,r2⟩,_⟩:=an;exact⟨o,(O.2 it (Ne.symm ac)).trans ag,r2⟩
  ·rcases ay.mp J with rfl | J
   ·rw[zd (Ne.symm as)];exact f0
   ·rw[ao.mp J,zd (Ne.symm bc)];exact g0
 done:=by
  intro X hP hw hK hc i pins s σ H E I hf st hg;subst hP hw hK;obtain⟨xs,hq,hx⟩:=hg;obtain⟨its,rv,p,hz⟩:=I.tuple hq;obtain⟨f0,f1,f2,f3,f4,f5⟩:=hf it (by simp);obtain⟨⟨U,he⟩,Y⟩:=st;have hl:=rv.length;have hT:s.TypeIs (.ref e) "enumerate" := ⟨_,he,rfl⟩;unfold pyNext
  refine aa (dS (wpAny_callSpecial?_slot (name:=Str.ofString "__next__") hT F.slot_enumerate_next
   (aX F.slot_enumerate_next hT F.entry_enumerate_next ?_ (F.args_enumerate_next_1 _))))
  show wpAny _ _ (field (.ref e) 2 >>= _) _ _ _;refine aa (dH he rfl (x:=.ref it) rfl ?_);refine aa (uh (A:=X.A.in1) (I.ok.hd hc) Y p (by simp;lia) λh' x bo bs=>?_);obtain⟨o,ho,bx⟩:=bs;refine aa (cE (T := "StopIteration") (b:=true) ⟨o,ho,bx⟩ fN ?_);exact ae ⟨rfl,I.turned (t':=s.toks) (λb o J e=>bo b o J e) f0 f1 f3 f4 f5⟩
 self:=λA i s Q E st h=>by obtain⟨⟨U,he⟩,Y⟩:=st;exact wpAny_pyIter_enum he h
def zqa (K:PySem.W.Frag)(ta:TA):TI:=λσ H R=>ta σ H λvs H1=>∃a,vs=[.ref a]/\(∃xs,SqT K H1 a xs)/\R (Ite K a) H1
def zop{x1}(Y:Gl X "enumerate")(Z:X.mg "enumerate" = none)(ha:PA X [a] ta)(hs:starEach [a] X.env=[(false,eval a X.env)]:=by rfl) :
  PI X (.Tuple F x1 tpos) (.Call (.Name "enumerate" p) [a] [] pos) (zqa X.K ta):=by
 intro pins s σ H R I h;refine Call_ (zgq I Y Z boot_enumerate (dh (thn (ha pos pins s σ H _ I h) λus B ⟨vs,H1,I1,r1,q1⟩=>?_) hs rfl));obtain⟨b,rfl,⟨xs,hq⟩,q⟩:=q1;obtain⟨u,rfl,ru⟩:=zcm r1;cases ru;obtain⟨its,rv,pt,hz⟩:=I1.tuple hq;refine uM (show B.heap.IsTuple b its.toArray from pt) λh' U J hsz hk=>?_;have I2:Inv X pins σ H1 { B with heap:=h',toks:=B.toks }:=I1.kept (t':=B.toks) hk;refine wpAny_pyIter_enum U ?_;refine⟨B.heap.objs.size+1,[B.heap.objs.size+1,B.heap.objs.size],_,_,H1,rfl,I2,zka b B.heap.objs.size (B.heap.objs.size+1) (Nat.succ_ne_self _),⟨⟨_,U⟩,J⟩,λc O=>?_,q⟩;rcases ay.mp O with rfl | O
 ·exact I1.fpOk (Nat.le_succ _) (I1.hok.fresh (Nat.le_succ _))
 ·rw[ao.mp O];exact I1.fpOk (ah _) (I1.hok.fresh (ah _))
def zoM{x1}(B:Gl X "enumerate")(F:X.mg "enumerate" = none)(I:QA X [a] ta)(hs:starEach [a] X.env=[(false,eval a X.env)]:=by rfl) :
  QI X (.Tuple q x1 tpos) (.Call (.Name "enumerate" p) [a] [] pos) (zqa X.K ta):=⟨zop B F I.run hs⟩
mutual
def Dt.toW:Dt->PySem.W.Dat
 | .non=>.none
 | .bl b=>.bool b
 | .int i=>.int i
 | .str x=>.str x
 | .tup l=>.tuple (Dt.toWs l)
 | .lst l=>.list (Dt.toWs l)
 | .dct=>.bytes #[]
def Dt.toWs:List Dt->List PySem.W.Dat
 | []=>[]
 | d::ds=>d.toW::Dt.toWs ds
end
mutual
def zb8:∀ {d e:Dt},d.toW=e.toW->d=e
 | .non,e,h=>by cases e <;> simp[Dt.toW] at h ⊢
 | .bl b,e,h=>by cases e <;> simp[Dt.toW] at h ⊢;exact h
 | .int b,e,h=>by cases e <;> simp[Dt.toW] at h ⊢;exact h
 | .str b,e,h=>by cases e <;> simp[Dt.toW] at h ⊢;exact h
 | .tup l,e,h=>by
  cases e with
  | tup m=>simp only[Dt.toW,PySem.W.Dat.tuple.injEq] at h;rw[zdB h]
  | _=>simp[Dt.toW] at h
 | .lst l,e,h=>by
  cases e with
  | lst m=>simp only[Dt.toW,PySem.W.Dat.list.injEq] at h;rw[zdB h]
  | _=>simp[Dt.toW] at h
 | .dct,e,h=>by cases e <;> simp[Dt.toW] at h ⊢
def zdB:∀ {l m:List Dt},Dt.toWs l=Dt.toWs m->l=m
 | [],m,h=>by cases m <;> simp[Dt.toWs] at h ⊢
 | d::l,m,h=>by
  cases m with
  | nil=>simp[Dt.toWs] at h
  | cons e m=>
   simp only[Dt.toWs,dU] at h;rw[zb8 h.1,zdB h.2]
end
def Dt.eqOk (d:Dt):Prop:=PySem.W.kqdOk 8 d.toW=true
section
variable {P:Program}{w:World}{H:Hp}{h:Heap}
mutual
def yR (ok:HOk P w H h):∀ (n:Nat) {d:Dt} {v:V} {u:Value},Is H d v->yr v u->PySem.W.kqdOk n d.toW=true->∃as,Reads h u (PySem.W.kqdP d.toW) as
 | _,.non,_,_,h1,r,_=>by cases h1;cases r;exact⟨_,Reads.none⟩
 | n,.bl b,_,_,_,_,k=>by cases n <;> simp[Dt.toW,PySem.W.kqdOk] at k
 | _,.int i,_,_,h1,r,_=>by cases h1;obtain⟨t,rfl⟩:=r;exact⟨_,Reads.int i t⟩
 | _,.str x,_,_,h1,r,_=>by cases h1;obtain⟨t,rfl⟩:=r;exact⟨_,Reads.str x t⟩
 | 0,.tup l,_,_,_,_,k=>by simp[Dt.toW,PySem.W.kqdOk] at k
 | n+1,.tup l,_,_,h1,r,k=>by obtain⟨a,xs,rfl,ha,hl⟩:=h1;cases r;obtain⟨_,its,rv,o,ho,hc,⟨m,hd⟩,_⟩:=ok a _ ha;obtain⟨as,q⟩:=uU ok n hl rv (by simpa [Dt.toW,PySem.W.kqdOk] using k);exact⟨as,reads_tuple_at ho hc hd (by simpa using q)⟩
 | 0,.lst l,_,_,_,_,k=>by simp[Dt.toW,PySem.W.kqdOk] at k
 | n+1,.lst l,_,_,h1,r,k=>by obtain⟨a,xs,rfl,ha,hl⟩:=h1;cases r;obtain⟨_,its,m,rv,e⟩:=(show z8 P w H h a (.lst xs) from zoU ok ha);obtain⟨as,q⟩:=uU ok n hl rv (by simpa [Dt.toW,PySem.W.kqdOk] using k);exact⟨_,reads_list_at e rfl rfl (by simpa using q)⟩
 | n,.dct,_,_,_,_,k=>by cases n <;> simp[Dt.toW,PySem.W.kqdOk] at k
def uU (ok:HOk P w H h):∀ (n:Nat) {ds:List Dt} {xs:List V} {us:List Value},IsL H ds xs->yn xs us->(∀d∈Dt.toWs ds,PySem.W.kqdOk n d=true)->∃as,ReadsAll h us (PySem.W.kqdPs (Dt.toWs ds)) as
 | _,[],_,_,h1,r,_=>by cases h1;cases r;exact⟨_,ReadsAll.nil⟩
 | n,d::ds,_,_,h1,r,k=>by
  obtain⟨x,xr,rfl,hd,hr⟩:=h1
  cases r with
  | cons rx rr=>
   obtain⟨as,q⟩:=yR ok n hd rx (k _ (by simp[Dt.toWs]));obtain⟨bs,q2⟩:=uU ok n hr rr λe he=>k e (by simp[Dt.toWs,he]);exact⟨_,ReadsAll.cons q q2⟩
end
end
def xL {d:Dt}(h:d.eqOk):SeqAt.shaped (PySem.W.kqdP d.toW)=true:=by
 have l:=cO 8 _ h;unfold SeqAt.shaped
 grind
def zsv:R2:=λx y H Q=>∃d e,Is H d x/\Is H e y/\d.eqOk/\e.eqOk/\∀b:Bool,(b=true↔d=e)->Q (.bl b) H
def zsy:R2:=λx y H Q=>∃d e,Is H d x/\Is H e y/\d.eqOk/\e.eqOk/\∀b:Bool,(b=true↔d=e)->Q (.bl (!b)) H
section
variable {X:Cx}
def zif {d e:Dt}(h1:d.eqOk)(h2:e.eqOk):PyData.eqv (PySem.W.kqdP d.toW) (PySem.W.kqdP e.toW)=true↔d=e:=
 (du 8 d.toW e.toW 8 h1 h2).trans ⟨zb8,λz=>by rw[z]⟩
def zqG (F:X.A.units+64<cLine):OpR X (compareOp .Eq) zsv:=by intro pins s σ H x y v u Q I J O h;obtain⟨d,e,U,Y,B,ke,q⟩:=h;obtain⟨as,ra⟩:=yR I.hok 8 U J B;obtain⟨Z,rb⟩:=yR I.hok 8 Y O ke;exact eq_dataH ra rb (xL B) (xL ke) F ⟨.bl _,H,I,rfl,q _ (zif B ke)⟩
def zqJ (F:X.A.units+64<cLine):OpR X (compareOp .NotEq) zsy:=by intro pins s σ H x y v u Q I J O h;obtain⟨d,e,U,Y,B,ke,q⟩:=h;obtain⟨as,ra⟩:=yR I.hok 8 U J B;obtain⟨Z,rb⟩:=yR I.hok 8 Y O ke;exact ne_dataH ra rb (xL B) (xL ke) F ⟨.bl _,H,I,rfl,q _ (zif B ke)⟩
def zmB (q:X.A.units+64<cLine):OpQ X (compareOp .Eq) zsv:=⟨zqG q⟩
def za6 (q:X.A.units+64<cLine):OpQ X (compareOp .NotEq) zsy:=⟨zqJ q⟩
def zrd{to:TE}{t:TA}{apos cpos:Pos}(O:QE X o to)(U:QA X [e] t)(B:attributeBase o "append" X.env (eval o X.env)=eval o X.env:=by rfl)(J:((backTo cpos (starEach [e] X.env)).all (λx=>!x.1)&&(backToKw cpos (keywordEach [] X.env)).all (λx=>x.1.isSome)&&decide (([e]:List Expr).length+([]:List Keyword).length+(if ([]:List Keyword).isEmpty then 0 else 1)<30))=true:=by rfl)(I:(apos.endLine==cpos.line)=true:=by rfl)(hs:starEach [e] X.env=(false,eval e X.env)::starEach [] X.env:=by rfl)(q:(backTo cpos (starEach [] X.env)).any (·.1)=false:=by rfl) :
  QE X (.Call (.Attribute o "append" apos) [e] [] cpos) (tBM X.K "list" zfG to t):=⟨zqS dW PySem.F.slot_list_append PySem.F.type_list_append zej O.run U.run B J I hs q⟩
end
def yX {ns:List Int}:(Dt.tup (ns.map .int)).eqOk:=by
 have e:∀ns:List Int,(Dt.toWs (ns.map .int)).all (PySem.W.kqdOk 7)=true:=by
  intro ns
  induction ns with
  | nil=>rfl
  | cons n ns q=>simp only[au,Dt.toWs,cg,q,bM];rfl
 exact e ns
def zB (rm:List Int)(i:Int):Int:=rm.getD i.toNat 0
@[reducible] def ye (q:Int×Int):Dt:=.tup [.int q.1,.int q.2]
structure Giv (rm:List Int)(g:List (Int×Int)):Prop where
 ok:∀q∈g,0<=q.1/\q.1<rm.length/\0<=q.2/\q.2<zB rm q.1
 up:g.Pairwise λa b=>a.1<b.1
def zcr {g:List (Int×Int)}:(Dt.tup (g.map ye)).eqOk/\(Dt.lst (g.map ye)).eqOk:=by
 have e:∀g:List (Int×Int),(Dt.toWs (g.map ye)).all (PySem.W.kqdOk 7)=true:=by
  intro g
  induction g with
  | nil=>rfl
  | cons n ns q=>simp only[au,Dt.toWs,cg,q,bM];rfl
 exact⟨e g,e g⟩
def zdK (H H':Hp):Prop:=∀b xs,H b=some (.tup xs)->H' b=some (.tup xs)
def zdK.app {H:Hp}{a:Addr}{xs ys:List V}(h:H a=some (.lst xs)):zdK H (upd H a (.lst ys)):=λb zs e=>by
 by_cases q:b=a
 ·grind
 ·rw[zd q];exact e
mutual
def Dt.noL:Dt->Bool
 | .tup l=>Dt.noLs l
 | .lst _=>false
 | .dct=>false
 | _=>true
def Dt.noLs:List Dt->Bool
 | []=>true
 | d::ds=>d.noL&&Dt.noLs ds
end
mutual
def Is.stayT {H H1:Hp}(a:zdK H H1):∀ {d:Dt} {v:V},d.noL=true->Is H d v->Is H1 d v
 | .non,_,_,h=>h
 | .bl _,_,_,h=>h
 | .int _,_,_,h=>h
 | .str _,_,_,h=>h
 | .tup l,_,n,h=>by obtain⟨p,xs,e,hp,hl⟩:=h;exact⟨p,xs,e,a _ _ hp,IsL.stayT a (by simpa [Dt.noL] using n) hl⟩
 | .lst l,_,n,_=>by simp[Dt.noL] at n
 | .dct,_,n,_=>by simp[Dt.noL] at n
def IsL.stayT {H H1:Hp}(a:zdK H H1):∀ {ds:List Dt} {xs:List V},Dt.noLs ds=true->IsL H ds xs->IsL H1 ds xs
 | [],_,_,h=>h
 | d::ds,_,n,h=>by
  obtain⟨x,r,e,hd,hr⟩:=h;have n':d.noL=true/\Dt.noLs ds=true:=by simpa [Dt.noLs] using n
  exact⟨x,r,e,Is.stayT a n'.1 hd,IsL.stayT a n'.2 hr⟩
end
def zek:∀g:List (Int×Int),Dt.noLs (g.map ye)=true
 | []=>rfl
 | q::g=>by show (Dt.noL (ye q)&&Dt.noLs (g.map ye))=true;rw[zek g];rfl
def Giv.snoc {rm:List Int}{g:List (Int×Int)}{i w:Int}(h:Giv rm g)(B:∀q∈g,q.1<i)(O:0<=i)(h1:i<rm.length)(h2:0<=w)(U:w<zB rm i):Giv rm (g++[(i,w)]):=by
 refine⟨λq F=>?_,bh.mpr ⟨h.up,dX _ _,λa I b J=>?_⟩⟩
 ·rcases av.mp F with z | z
  ·exact h.ok q z
  ·simp_all
 ·rw[ao.mp J];exact B a I
def New (H:Hp)(o:HO)(R:V->Hp->Prop):Prop:=∀ (p:Addr) (H':Hp),H p=none->H' p=some o->yM H H'->R (.ref p) H'
def New.at(h:New H o R)(hp:H p=none):R (.ref p) (upd H p o):=h p _ hp zf (yM.upd hp)
def zrP (t:TA):TE:=λσ H Q=>t σ H λxs H1=>xs.length<=sizeLine/\New H1 (.tup xs) Q
def zrM (t:TA):TE:=λσ H Q=>t σ H λxs H1=>xs.length<=sizeLine/\New H1 (.lst xs) Q
section
variable {X:Cx}{es:List Expr}{t:TA}{pos:Pos}
def zol {x1}(h:PA X es t):PE X (.Tuple es x1 pos) (zrP t):=by intro pins s σ H Q I F;refine wpAny_Tuple_spliced (thn (h pos pins s σ H _ I F) λJ B ⟨xs,H1,I1,r,z,q⟩=>⟨by rw[<- r.length];exact z,?_⟩);have O:H1 B.heap.objs.size=none:=I1.hok.fresh (ah _);refine⟨.ref B.heap.objs.size,upd H1 B.heap.objs.size (.tup xs),I1.laid (t':=B.toks) (λb u e=>am _ e) (ah _) ?_,rfl,q.at O⟩;exact⟨z,J,r,⟨_,aw _ rfl,rfl,⟨_,rfl⟩,rfl⟩⟩
def zok (h:PA X es t):PE X (.List es pos) (zrM t):=by intro pins s σ H Q I F;refine wpAny_List_spliced (thn (h pos pins s σ H _ I F) λJ B ⟨xs,H1,I1,r,z,q⟩=>⟨by rw[<- r.length];exact z,?_⟩);have O:H1 B.heap.objs.size=none:=I1.hok.fresh (ah _);refine⟨.ref B.heap.objs.size,upd H1 B.heap.objs.size (.lst xs),I1.laid (t':=B.toks) (λb u e=>am _ e) (ah _) ?_,rfl,q.at O⟩;exact⟨z,J,0,r,aw _ rfl⟩
def zfC {x1}(h:QA X es t):QE X (.Tuple es x1 pos) (zrP t):=⟨zol h.run⟩
def zjy (h:QA X es t):QE X (.List es pos) (zrM t):=⟨zok h.run⟩
def CallQ.weak(h:CallQ X f r)(k:∀xs H Q,q xs H Q->r xs H Q):CallQ X f q:=⟨λpins s σ H xs B Q I F z=>h.run pins s σ H xs B Q I F (k _ _ _ z)⟩
def OpQ.weak(h:OpQ X f r)(k:∀x y H Q,q x y H Q->r x y H Q):OpQ X f q:=⟨λpins s σ H x y v u Q I B F z=>h.run pins s σ H x y v u Q I B F (k _ _ _ _ z)⟩
def zjF (K:PySem.W.Frag):List V->Hp->VK->Prop:=λxs H Q=>∃p ys,xs=[.ref p]/\(SqL K H p ys\/SqT K H p ys)/\New H (.lst ys) Q
def zfH (K:PySem.W.Frag):List V->Hp->VK->Prop:=λxs H Q=>∃p ys,xs=[.ref p]/\((SqL K H p ys/\New H (.tup ys) Q)\/(SqT K H p ys/\Q (.ref p) H))
def zbA:CallQ X (.type "list") (zjF X.K):=zg1.weak <| by rintro xs H Q ⟨p,ys,e,h,n⟩;exact⟨p,ys,e,h,λl q=>n.at q⟩
def yF:CallQ X (.type "tuple") (zfH X.K):=ze2.weak <| by rintro xs H Q ⟨p,ys,e,h⟩;exact⟨p,ys,e,h.elim (by rintro⟨a,n⟩;exact .inl ⟨a,λl q=>n.at q⟩) .inr⟩
def zoR:R2:=λx y H Q=>∃l b xs zs,x = .ref l/\y = .ref b/\Rd H l (.lst xs)/\Rd H b (.lst zs)/\xs.length+zs.length<=sizeLine/\New H (.lst (xs++zs)) Q
def zjl:OpQ X (binaryOp .Add) zoR:=zqM.weak <| by rintro x y H Q ⟨l,b,xs,zs,q,B,h1,h2,z,n⟩;exact⟨l,b,xs,zs,q,B,h1,h2,z,λp hp=>n.at hp⟩
end
def zsK (J:It)(g:TG)(ti:TT)(te:TE)(acc:Addr)(Q:VK)(σ:St)(H:Hp):Prop:=∃W:Nat->Nat->St->Hp->Prop,(∃m,W 0 m σ H)/\
 ∀i m q H',W i m q H'->(J.stop i H'/\Q (.ref acc) H')\/(J.go i H'/\∃N:St->Hp->Prop,(∀ B H2,N B H2->∃F,F<m/\W (i+1) F B H2)/\∀x H2,J.yld i H' x H2->zhR g ti te acc N x q H2)
def zj3 (wi:TI)(g:TG)(ti:TT)(te:TE)(cix:List (Option Nat)):TE:=λσ H Q=>wi σ H λJ H1=>∀acc,H1 acc=none->zsK J g ti te acc Q (xA σ cix) (upd H1 acc (.lst []))
def zgI(q:X.calm=true)(c:CompOk X scope N cix)(hi:QI X tg iter wi)(B:∀C s H ex,QG (zj X scope N C s H ex) tg g)(F:∀C s H ex,QTs (zj X scope N C s H ex) ifs ti)(I:∀C s H ex,QE (zj X scope N C s H ex) elt te)(hs:∀x,foldedSetIterable iter X.env x=pure x:=by intro _;rfl):QE X (.ListComp elt [⟨tg,iter,ifs,0⟩] scope pos) (zj3 wi g ti te cix):=zoF q c hi B F I hs
section
variable {K:PySem.W.Frag}{a acc:Addr}{xs:List V}{g:TG}{ti:TT}{te:TE}{σ:St}{H:Hp}{Q:VK}
end
def zpN(h:g x σ H λq H3=>te q H3 λv H5=>∃xs,H5 acc=some (.lst xs)/\xs.length<sizeLine/\N q (upd H5 acc (.lst (xs++[v])))):zhR g zaW te acc N x σ H:=zmy h
def zlJ(h:H acc=none)(s:yM H H1):yM H (upd H1 acc o):=λb u e=>by rw[zd (zg e h)];exact s b u e
section
variable {X:Cx}(K:PySem.W.Frag)(h:X.K=K)
include h
def zle:OpQ X (binaryOp .Add) (zjE K):=h ▸ yO
end
def zoK {X:Cx}(K:PySem.W.Frag)(B:X.K=K){es:List Expr}{pos:Pos}{k:Nat}{gs:TGs}{n:Nat}(F:X.calm=true)(h:QGs X es gs)(I:(assignEach es X.env).length=n:=by rfl)(q:(assignEach es X.env).findIdx? (·.1)=none:=by rfl):QG X (.Tuple es k pos) (zta K n gs):=B ▸ zrh F h I q
def zoN(K:PySem.W.Frag)(q:X.K=K)(B:QE X e te):QI X tg e (ztc K te):=q ▸ zmG B
def zdo(K:PySem.W.Frag)(q:X.K=K)(B:QE X e te):QI X tg e (znz K te):=q ▸ zfD B
structure Wi where
 g:List (Int×Int)
 b:Int
 r:Int
 w:Int
@[reducible] def zV (x:Wi):Dt:=.tup [.tup (x.g.map ye),.int x.b,.int x.r,.int x.w]
structure WishOk (rm:List Int)(x:Wi):Prop where
 giv:Giv rm x.g
 b0:0<=x.b
 b1:x.b<rm.length
 apart:∀q∈x.g,q.1≠x.b
 r0:0<=x.r
 r1:x.r<zB rm x.b
 w0:0<=x.w
 w1:x.w<zB rm x.b
 ne:x.r≠x.w
section
variable {H H':Hp}{R:Dt->Prop}{xs ys:List V}
end
def zl8 (rm:List Int)(d:Dt):Prop:=∃x,d=zV x/\WishOk rm x
def zgz (x:Wi):(zV x).noL=true:=by show Dt.noLs [.tup (x.g.map ye),.int x.b,.int x.r,.int x.w]=true;show (Dt.noLs (x.g.map ye)&&_)=true;rw[zek];rfl
def zgo (x:Wi):PySem.W.kqdOk 7 (zV x).toW=true:=by
 have e:∀g:List (Int×Int),(Dt.toWs (g.map ye)).all (PySem.W.kqdOk 5)=true:=by
  intro g
  induction g with
  | nil=>rfl
  | cons n ns q=>simp only[au,Dt.toWs,cg,q,bM];rfl
 show ((Dt.toWs (x.g.map ye)).all (PySem.W.kqdOk 5)&&_)=true;rw[e];rfl
def ze7{rm:List Int}(h:∀d∈ds,zl8 rm d):(Dt.tup ds).eqOk/\(Dt.lst ds).eqOk:=by
 have e:∀ds:List Dt,(∀d∈ds,zl8 rm d)->(Dt.toWs ds).all (PySem.W.kqdOk 7)=true:=by
  intro ds
  induction ds with
  | nil=>intro _;rfl
  | cons n ns q=>
   intro h;obtain⟨x,rfl,_⟩:=h n ak;simp only[Dt.toWs,cg,q λd B=>h d (ai _ B),zgo x,bM]
 exact⟨e ds h,e ds h⟩
def zkK (b:Int)(ns:List Int):inV (.int b) (ns.map V.int)=ns.contains b:=by
 unfold inV
 induction ns with
 | nil=>rfl
 | cons n ns q=>
  rw[au,cH,q,List.contains_cons];show ((n==b) || _)=((b==n) || _);rw[show (n==b)=(b==n) from BEq.comm]
def zik (ns:List Int):(ns.map V.int).all zc1=true:=by rw[bJ];intro x q;obtain⟨n,_,rfl⟩:=aG.mp q;rfl
def zfb {m:Int}:∀ {g:List (Int×Int)} {lo:Int},(∀q∈g,lo<=q.1/\q.1<m)->(g.Pairwise λa b=>a.1<b.1)->lo<=m->(g.length:Int)<=m - lo
 | [],lo,_,_,h=>by simp;lia
 | q::g,lo,h,hp,I=>by
  have h1:=h q ak;have B:=aS.mp hp;have J:=zfb (g:=g) (lo:=q.1+1) (λx F=>⟨by have:=B.1 x F;lia,(h x (ai _ F)).2⟩) B.2 (by lia)
  grind
def zio {rm:List Int}{g:List (Int×Int)}(h:Giv rm g)(F:rm.length<=8):g.length<=100:=by have:=zfb (g:=g) (lo:=0) (m:=rm.length) (λq B=>⟨(h.ok q B).1,(h.ok q B).2.1⟩) h.up (by lia);lia
def zhX (xs:List V)(k:Nat):zcb xs none (some (k:Int))=xs.take k:=by
 have e:HT.sIx xs.length xs.length (some (k:Int))=min k xs.length:=by simp[HT.sIx];try lia
 unfold zcb;rw[e,show HT.sIx xs.length 0 none=0 from rfl,dE,gg]
 grind
def zhW (xs:List V)(k:Nat):zcb xs (some (k:Int)) none=xs.drop k:=by
 have e:HT.sIx xs.length 0 (some (k:Int))=min k xs.length:=by simp[HT.sIx];try lia
 unfold zcb;rw[e,show HT.sIx xs.length xs.length none=xs.length from rfl];by_cases h:k<=xs.length
 ·rw[dY h,a8 (by simp)]
 ·rw[Nat.min_eq_right (by lia),List.drop_eq_nil_of_le (as:=xs) (i:=xs.length) (by lia),List.drop_eq_nil_of_le (as:=xs) (i:=k) (by lia),List.take_nil]
def WishOk.turn{rm:List Int}(h:WishOk rm x):WishOk rm { x with r:=x.w,w:=x.r }:=
 ⟨h.giv,h.b0,h.b1,h.apart,h.w0,h.w1,h.r0,h.r1,λe=>h.ne e.symm⟩
section
variable {rm:List Int}{g b r w:Dt}
end
end L2
namespace HT
open PySem PySem.Spec PyProof.Rows
section
variable {prog:Program}{w:World}{A:Around}{E:Value->Shared->Prop}{s:Shared}
def xM {α q:Type}{f g:α->Option q}:∀ {l:List α},(∀m∈l,f m=g m)->l.filterMap f=l.filterMap g
 | [],_=>rfl
 | a::l,h=>by rw[List.filterMap_cons,List.filterMap_cons,h a List.mem_cons_self,xM λm B=>h m (List.mem_cons_of_mem _ B)]
end
end HT
namespace L2
open PySem PySem.Spec PyProof.Rows
section
variable {X:Cx}{e:Expr}{te:TE}{pos p2 p3 p4:Pos}{j:Nat}
end
section
variable {X:Cx}
end
def chg (st:List Int)(b w:Int):List Int:=st.take b.toNat++[w]++st.drop (b.toNat+1)
def zm9 (st:List Int){b w:Int}(q:0<=b):zcb (st.map V.int) none (some b)++[.int w]++zcb (st.map V.int) (some (b+1)) none=(chg st b w).map V.int:=by
 obtain⟨j,rfl⟩:∃j:Nat,b=j:=⟨b.toNat,by lia⟩;rw[zhX,show ((j:Int)+1)=((j+1:Nat):Int) by lia,zhW];unfold chg
 simp_all
def zcT {st:List Int}{b w:Int}(q:0<=b)(h1:b<st.length):(chg st b w).length=st.length:=by
 unfold chg
 grind
def uS {st:List Int}{b w c:Int}(B:0<=b)(h1:b<st.length)(F:0<=c):zB (chg st b w) c=if c=b then w else zB st c:=by
 obtain⟨j,rfl⟩:∃j:Nat,b=j:=⟨b.toNat,by lia⟩;obtain⟨k,rfl⟩:∃k:Nat,c=k:=⟨c.toNat,by lia⟩;have I:j<st.length:=by lia
 unfold zB chg;simp only[bq,bg];have q:(st.take j).length=j:=by rw[bn];lia
 rcases cz k j with h | h | h
 ·rw[if_neg (by lia),ax,bt (by rw[q];exact h),bT h]
 ·simp_all
 ·rw[if_neg (by lia),ax,bf (by rw[q];lia),q];obtain⟨m,rfl⟩:∃m,k=j+1+m:=⟨k - (j+1),by lia⟩;rw[show j+1+m - j=m+1 by lia]
  simp_all
def zkz {s t:List Int}(q:s.length=t.length)(h:∀c:Int,0<=c->c<s.length->zB s c=zB t c):s=t:=by
 refine eO q λi h1 h2=>?_;have:=h (i:Int) (by lia) (by lia);unfold zB at this
 simp_all
def yz (st:List Int)(g:List (Int×Int)):Bool:=g.all λq=>decide (zB st q.1=q.2)
def xC (st:List Int)(x:Wi):Bool:=decide (zB st x.b=x.w)&&yz st x.g
def zfd (B q:List Int)(x:Wi):Bool:=xC B x&&decide (chg B x.b x.r=q)
def zmX (B q:List Int):Nat->List Wi->Option Nat
 | _,[]=>none
 | i,x::r=>if zfd B q x then some i else zmX B q (i+1) r
def xh (x:Wi):Wi:={ x with r:=x.w,w:=x.r }
def zg9 {rm st:List Int}{x:Wi}{w:Int}(B:WishOk rm x)(I:st.length=rm.length)(h:yz st x.g=true):yz (chg st x.b w) x.g=true:=by unfold yz at h ⊢;rw[bJ] at h ⊢;intro q F;have h1:=h q F;have J:=B.b1;rw[uS B.b0 (by lia) (B.giv.ok q F).1,if_neg (B.apart q F)];exact h1
def zd5 {rm q B:List Int}{x:Wi}(J:WishOk rm x)(h1:q.length=rm.length)(h:zfd q B x=true):zfd B q (xh x)=true:=by
 unfold zfd xC at h;rw[aJ,aJ] at h;have Z:zB q x.b=x.w:=bj h.1.1;have Y:chg q x.b x.r=B:=bj h.2;have b1:=J.b1;have I:=J.b0;subst Y;have F:(chg q x.b x.r).length=q.length:=zcT I (by lia);unfold zfd xC;rw[aJ,aJ];refine⟨⟨aD ?_,zg9 (x:=xh x) J.turn h1 h.1.2⟩,aD ?_⟩
 ·show zB (chg q x.b x.r) x.b=x.r;rw[uS I (by lia) I,if_pos rfl]
 ·show chg (chg q x.b x.r) x.b x.w=q;refine zkz (by rw[zcT I (by rw[F];lia),F]) λc O c1=>?_;rw[uS I (by rw[F];lia) O];by_cases U:c=x.b
  ·simp_all
  ·rw[if_neg U,uS I (by lia) O,if_neg U]
def zd6{rm B q:List Int}(F:WishOk rm x)(h1:B.length=rm.length)(h2:q.length=rm.length):zfd q B (xh x)=zfd B q x:=by rw[bA];exact⟨λh=>zd5 (x:=xh x) F.turn h2 h,λh=>zd5 F h1 h⟩
def zeP {rm B q:List Int}(h1:B.length=rm.length)(h2:q.length=rm.length):∀ {bk:List Wi} (i:Nat),(∀x∈bk,WishOk rm x)->zmX q B i (bk.map xh)=zmX B q i bk
 | [],_,_=>rfl
 | x::bk,i,h=>by rw[au];show (if zfd q B (xh x) then some i else zmX q B (i+1) (bk.map xh))=(if zfd B q x then some i else zmX B q (i+1) bk);rw[zd6 (h x ak) h1 h2,zeP h1 h2 (i+1) λy F=>h y (ai _ F)]
def zcy:∀bk:List Wi,Dt.noLs (bk.map zV)=true
 | []=>rfl
 | x::bk=>by show ((zV x).noL&&Dt.noLs (bk.map zV))=true;rw[zgz,zcy bk];rfl
def xV (st:List Int)(j:Nat):zB st (j:Int)=st.getD j 0:=by unfold zB;simp
def za3 {st:List Int}{r b:Int}(B:0<=b)(h1:b<st.length):zB (st++[r]) b=zB st b:=by
 obtain⟨j,rfl⟩:∃j:Nat,b=j:=⟨b.toNat,by lia⟩;have q:j<st.length:=by lia
 rw[xV,xV,bg,bg,bt q]
def za2 {st:List Int}{r:Int}:zB (st++[r]) (st.length:Int)=r:=by rw[xV,bg,bf (ah _),Nat.sub_self];rfl
def zfu {st:List Int}{i:Nat}{m:Int}(h:st[i]?=some m):zB st (i:Int)=m:=by rw[xV,bg,h];rfl
def zav {rm:List Int}(B:∀r∈rm,2<=r/\r<=4){b:Int}(F:0<=b)(h1:b<rm.length):2<=zB rm b/\zB rm b<=4:=by
 obtain⟨j,rfl⟩:∃j:Nat,b=j:=⟨b.toNat,by lia⟩;have q:j<rm.length:=by lia
 rw[zfu (aj q)]
 simp_all
def IsSt (n:Nat)(d:Dt):Prop:=∃st:List Int,d = .tup (st.map .int)/\st.length=n
def zel:∀st:List Int,Dt.noLs (st.map .int)=true
 | []=>rfl
 | _::st=>by show (true&&Dt.noLs (st.map .int))=true;rw[zel st];rfl
def zkZ (st:List Int):PySem.W.kqdOk 7 (Dt.tup (st.map .int)).toW=true:=by
 have e:∀ns:List Int,(Dt.toWs (ns.map .int)).all (PySem.W.kqdOk 6)=true:=by
  intro ns
  induction ns with
  | nil=>rfl
  | cons n ns q=>simp only[au,Dt.toWs,cg,q,bM];rfl
 exact e st
def zky(h:∀d∈ds,IsSt n d):(Dt.lst ds).eqOk:=by
 have e:∀ds:List Dt,(∀d∈ds,IsSt n d)->(Dt.toWs ds).all (PySem.W.kqdOk 7)=true:=by
  intro ds
  induction ds with
  | nil=>intro _;rfl
  | cons m F q=>
   intro h;obtain⟨x,rfl,_⟩:=h m ak;simp only[Dt.toWs,cg,q λd B=>h d (ai _ B),zkZ x,bM]
 exact e ds h
end L2
namespace L2
open PySem PySem.Spec PyProof.Rows
section
variable {prog:Program}{w:World}{A:Around}{E:Value->Shared->Prop}{s:Shared}
end
section
variable {X:Cx}
end
section
variable {prog:Program}{w:World}{A:Around}{R:Result->Shared->Prop}{s:Shared}
def zbj(I:Nat->Shared->Prop)(turn:∀n s,I n s->wpAny (model prog w) A (pyNext it) (λr s₁=>match r with
   | none=>R (.ok .next) s₁
   | some v=>wpAny (model prog w) A (letOwnedTupleGo target it v) (λ_ s₂=>wpAny (model prog w) A (assign target env v) (λ_ s₃=>
     wpAny (model prog w) A (forIn ifs true λc r=>if r=true then do let ok <- isTrue c env (eval c env);pure (ForInStep.yield ok) else pure (ForInStep.yield r)) (λok s₄=>
      if ok=true then wpAny (model prog w) A (eval elt env) (λx s₅=>
       wpAny (model prog w) A (call (.builtin "list.append") [acc,x]) (λ_ s₆=>∃m,m<n/\I m s₆) (λ_ _=>False) s₅) (λ_ _=>False) s₄
      else ∃m,m<n/\I m s₄) (λ_ _=>False) s₃) (λ_ _=>False) s₂) (λ_ _=>False) s₁) (λ_ _=>False) s)(n:Nat)(h:I n s) :
  codeAny (model prog w) A (.compLoop (.ListComp elt [c1,⟨target,iter,ifs,0⟩] scope pos) 1 it acc env) R s:=by
 refine dj rfl I (λn s hI=>?_) n h;show wpAny _ A ((compTurn (.ListComp elt [c1,⟨target,iter,ifs,0⟩] scope pos) 1 it acc env).onRaise (λx=>do noteFrame x env;theTreesLotGoes x)) _ _ s;refine dJ ?_;unfold compTurn;refine aa (bp (aa (aC (turn n s hI) (λr s₁ h₁=>?_) λ_ _ h'=>h'.elim)))
 cases r with
 | none=>exact ae h₁
 | some v=>
  refine aa (aC h₁ (λ_ s₂ h₂=>?_) λ_ _ h'=>h'.elim);refine aa (aC h₂ (λ_ s₃ h₃=>aa (aC h₃ (λok s₄ h₄=>?_) λ_ _ h'=>h'.elim)) λ_ _ h'=>h'.elim)
  cases ok with
  | false=>exact ae ⟨rfl,h₄⟩
  | true=>
   exact aa (aa (aC h₄ (λx s₅ h₅=>aa (aC h₅ (λ_ s₆ h₆=>ae (ae ⟨rfl,h₆⟩)) λ_ _ h'=>h'.elim)) λ_ _ h'=>h'.elim))
def uT(h1:codeAny (model prog w) A (.compLoop (.ListComp elt [c1,⟨target,iter,ifs,0⟩] scope pos) 1 it acc env) R s)(h2:wpAny (model prog w) A (pyIter it) (λit' s'=>codeAny (model prog w) A (.compLoop (.ListComp elt [c1,⟨target,iter,ifs,0⟩] scope pos) 1 it' acc env) R s') (λ_ _=>False) s) :
  codeAny (model prog w) A (.compStart (.ListComp elt [c1,⟨target,iter,ifs,0⟩] scope pos) 1 it acc env) R s:=by
 refine dZ ?_;show wpAny _ A ((compStart (.ListComp elt [c1,⟨target,iter,ifs,0⟩] scope pos) 1 it acc env).onRaise (λx=>do noteFrame x env;standAt theWindowsPlace)) _ _ s;refine wpAny_onRaise ?_;unfold compStart;rw[if_neg (by show ¬ ((0 != 0)=true);decide)];refine aa (br ?_);split
 ·exact ae ⟨rfl,h1⟩
 ·refine aa (ck ?_);refine aa (bp ?_);refine aa (aC h2 (λit' s' h'=>ae ⟨rfl,h'⟩) λ_ _ h'=>h'.elim)
def zaI(hf:∀x,foldedSetIterable it2 env x=pure x)(I:Nat->Shared->Prop)(turn:∀n s,I n s->wpAny (model prog w) A (pyNext it) (λr s₁=>match r with
   | none=>R (.ok .next) s₁
   | some v=>wpAny (model prog w) A (letOwnedTupleGo target it v) (λ_ s₂=>wpAny (model prog w) A (assign target env v) (λ_ s₃=>
     wpAny (model prog w) A (forIn ifs true λc r=>if r=true then do let ok <- isTrue c env (eval c env);pure (ForInStep.yield ok) else pure (ForInStep.yield r)) (λok s₄=>
      if ok=true then wpAny (model prog w) A (eval it2 env) (λx s₅=>wpAny (model prog w) A (pyIter x) (λiv s₆=>
       codeAny (model prog w) A (.compStart (.ListComp elt [⟨target,iter,ifs,0⟩,⟨t2,it2,ifs2,0⟩] scope pos) 1 iv acc env) (λr s₇=>match r with
        | .ok _=>∃m,m<n/\I m s₇
        | .error _=>False) s₆) (λ_ _=>False) s₅) (λ_ _=>False) s₄
      else ∃m,m<n/\I m s₄) (λ_ _=>False) s₃) (λ_ _=>False) s₂) (λ_ _=>False) s₁) (λ_ _=>False) s)(n:Nat)(h:I n s) :
  codeAny (model prog w) A (.compLoop (.ListComp elt [⟨target,iter,ifs,0⟩,⟨t2,it2,ifs2,0⟩] scope pos) 0 it acc env) R s:=by
 refine dj rfl I (λn s hI=>?_) n h;show wpAny _ A ((compTurn (.ListComp elt [⟨target,iter,ifs,0⟩,⟨t2,it2,ifs2,0⟩] scope pos) 0 it acc env).onRaise (λx=>do noteFrame x env;theTreesLotGoes x)) _ _ s;refine dJ ?_;unfold compTurn;refine aa (bp (aa (aC (turn n s hI) (λr s₁ h₁=>?_) λ_ _ h'=>h'.elim)))
 cases r with
 | none=>exact ae h₁
 | some v=>
  refine aa (aC h₁ (λ_ s₂ h₂=>?_) λ_ _ h'=>h'.elim);refine aa (aC h₂ (λ_ s₃ h₃=>aa (aC h₃ (λok s₄ h₄=>?_) λ_ _ h'=>h'.elim)) λ_ _ h'=>h'.elim)
  cases ok with
  | false=>exact ae ⟨rfl,h₄⟩
  | true=>
   refine aa (aC h₄ (λx s₅ h₅=>?_) λ_ _ h'=>h'.elim);refine aa (bp ?_);show wpAny _ _ (foldedSetIterable it2 env x >>= _) _ _ _;rw[hf];refine aa (ae ?_);show wpAny _ _ (holding [x] (pyIter x) >>= _) _ _ _;refine aa (bL (aC h₅ (λiv s₆ h₆=>?_) λ_ _ h'=>h'.elim));refine aa (wpAny_runOwn (h:=none) ?_);refine eG (show codeAny (model prog w) (A.mark none) _ _ s₆ from h₆) λr s₇ h₇=>?_
   cases r with
   | ok f=>exact ae ⟨rfl,h₇⟩
   | error e=>exact h₇.elim
end
def zis (J:It)(g:TG)(ti:TT)(te:TE)(acc:Addr)(N:St->Hp->Prop)(σ:St)(H:Hp):Prop:=∃W:Nat->Nat->St->Hp->Prop,(∃m,W 0 m σ H)/\
 ∀i m q H',W i m q H'->(J.stop i H'/\N q H')\/(J.go i H'/\∃N2:St->Hp->Prop,(∀ B H2,N2 B H2->∃F,F<m/\W (i+1) F B H2)/\∀x H2,J.yld i H' x H2->zhR g ti te acc N2 x q H2)
def zhP (g:TG)(ti:TT)(wi2:TI)(g2:TG)(ti2:TT)(te:TE)(acc:Addr)(N:St->Hp->Prop)(x:V)(σ:St)(H:Hp):Prop:=
 g x σ H λq H3=>ti q H3 λB H4=>if B=true then wi2 q H4 λJ2 H5=>zis J2 g2 ti2 te acc N q H5 else N q H4
def zme (J:It)(g:TG)(ti:TT)(wi2:TI)(g2:TG)(ti2:TT)(te:TE)(acc:Addr)(Q:VK)(σ:St)(H:Hp):Prop:=∃W:Nat->Nat->St->Hp->Prop,(∃m,W 0 m σ H)/\
 ∀i m q H',W i m q H'->(J.stop i H'/\Q (.ref acc) H')\/(J.go i H'/\∃N:St->Hp->Prop,(∀ B H2,N B H2->∃F,F<m/\W (i+1) F B H2)/\∀x H2,J.yld i H' x H2->zhP g ti wi2 g2 ti2 te acc N x q H2)
def zmS (wi:TI)(g:TG)(ti:TT)(wi2:TI)(g2:TG)(ti2:TT)(te:TE)(cix:List (Option Nat)):TE:=λσ H Q=>wi σ H λJ H1=>∀acc,H1 acc=none->zme J g ti wi2 g2 ti2 te acc Q (xA σ cix) (upd H1 acc (.lst []))
section
variable {X:Cx}{Fam:Cx->Prop}{scope:Scope}{N:List Str}{cix:List (Option Nat)}{z:Str}{use:Option (Value->Sem Unit)}{Qp:Value->Shared->Prop}{elt ke ve tg iter tg2 iter2:Expr}{ifs ifs2:List Expr}{pos ipos spos px:Pos}{wi wi2:TI}{g g2:TG}{ti ti2:TT}{te tk tv:TE}{pins:List (Addr×Obj)}{σ:St}{H:Hp}{s:Shared}{Q:VK}{o0:HO}
def zgY (O:Opn X scope cix Fam)(hc:X.calm=true)(hi:PI X tg iter wi)(hg:∀X',Fam X'->PG X' tg g)(ht:∀X',Fam X'->PTs X' ifs ti)(ad:∀X',Fam X'->PI X' tg2 iter2 wi2)(ag:∀X',Fam X'->PG X' tg2 g2)(al:∀X',Fam X'->PTs X' ifs2 ti2)(he:∀X',Fam X'->PE X' elt te)
  (hs:∀x,foldedSetIterable iter X.env x=pure x) (an:∀X',Fam X'->∀x,foldedSetIterable iter2 X'.env x=pure x) (I:Inv X pins σ H s) (h:zmS wi g ti wi2 g2 ti2 te cix σ H Q) (Z:zr7 X pins σ use Qp Q) :
  wpAny (model X.prog X.w) X.A (comprehension (.ListComp elt [⟨tg,iter,ifs,0⟩,⟨tg2,iter2,ifs2,0⟩] scope pos) scope X.env ipos (newList []) false (eval iter X.env) use) Qp X.xe s:=
 uu (ob:={ cls:=.type "list",dict:=none,data:=.seq ([]:List Value).toArray }) (o0:=λ_=>.lst []) (Fin:=λacc H=>Q (.ref acc) H)
  (B:=λX' acc P s=>wpAny (model X'.prog X'.w) X'.A (eval iter2 X'.env) (λx s5=>wpAny (model X'.prog X'.w) X'.A (pyIter x) (λiv s6=>codeAny (model X'.prog X'.w) X'.A (.compStart (.ListComp elt [⟨tg,iter,ifs,0⟩,⟨tg2,iter2,ifs2,0⟩] scope pos) 1 iv (.ref acc) X'.env) (λr s7=>match r with | .ok _=>P s7 | .error _=>False) s6) (λ_ _=>False) s5) (λ_ _=>False) s) (tb:=λacc Nx σ H=>wi2 σ H λJ2 H5=>zis J2 g2 ti2 te acc Nx σ H5)
  O hc rfl hs (λ_ _ _ _ _ h0 h1=>er h0 h1) (λX' Y _ _ _ _ I F n h=>zaI (an X' Y) I F n h) (λs Q h=>bi h) (λ_ _=>⟨aN _,[],0,.nil,aw _ rfl⟩) hi hg ht (λX' Y pX wX AX cX xX acc pl s σ H Nx P I q k=>by
  have e9:=ad X' Y pl s σ H _ I q;rw[xX] at e9;refine thn e9 λxv s1 h1=>thn h1 λa0 s2 h2=>?_;obtain⟨it,fp,tn,J,H2,e,I2,T,ac,f2,W,⟨m0,w0⟩,F⟩:=h2;subst e
  have U:=zbL (X:=X') (e:=.ListComp elt [⟨tg,iter,ifs,0⟩,⟨tg2,iter2,ifs2,0⟩] scope pos) (pl:=pl) (R:=λr s7=>match r with | .ok _=>P s7 | .error _=>False) (k:=1) (B:=λP s=>wpAny (model X'.prog X'.w) X'.A (eval elt X'.env) (λx s5=>wpAny (model X'.prog X'.w) X'.A (call (.builtin "list.append") [.ref acc,x]) (λ_ s6=>P s6) (λ_ _=>False) s5) (λ_ _=>False) s) (tb:=λNx σ H=>te σ H λv H'=>∃xs,H' acc=some (.lst xs)/\xs.length<sizeLine/\Nx σ (upd H' acc (.lst (xs++[v]))))
   (λ_ _ I F n h=>zbj I F n h) cX xX T (λhn b hb=>⟨hn b hb,(f2 b hb).2⟩) (ag X' Y) (al X' Y) (λ_ _ _ _ _ _ I q k=>zcO (he X' Y) xX I q k) F (λas H' s' I' q'=>k as H' s' I' q') I2 ac (λb hb=>(f2 b hb).1) w0
  exact uT U (T.self X'.A 0 _ _ _ ac U)) I h (λJ H1 acc q hn=>q acc hn) Z
end
def zly{X:Cx}{ifs ifs2:List Expr}{scope:Scope}{pos spos:Pos}{wi wi2:TI}{g g2:TG}{ti ti2:TT}{te:TE}{N:List Str}{nx:Str}(q:X.N.Nodup)(B:X.N[ix]?=some nx)(F:X.env.scope.names.lookup nx=some .local)(hc:X.calm=true)(c:CompOk X scope N cix)(hi:QI X tg iter wi)(hg:∀C s H ex,QG (zj X scope N C s H ex) tg g)(ht:∀C s H ex,QTs (zj X scope N C s H ex) ifs ti)(J:∀C s H ex,QI (zj X scope N C s H ex) tg2 iter2 wi2)(O:∀C s H ex,QG (zj X scope N C s H ex) tg2 g2)(Y:∀C s H ex,QTs (zj X scope N C s H ex) ifs2 ti2)(he:∀C s H ex,QE (zj X scope N C s H ex) elt te)(Z:swapsWithSole [.Name nx px] (.ListComp elt [⟨tg,iter,ifs,0⟩,⟨tg2,iter2,ifs2,0⟩] scope pos) spos.line X.env=pure true:=by rfl)(hs:∀x,foldedSetIterable iter X.env x=pure x:=by intro _;rfl)(ac:∀C s H ex x,foldedSetIterable iter2 (zj X scope N C s H ex).env x=pure x:=by intro _ _ _ _ _;rfl)(ad:(assignEach [.Name nx px] X.env).map (·.2)=[assign (.Name nx px) X.env]:=by rfl):QS X (.Assign [.Name nx px] (.ListComp elt [⟨tg,iter,ifs,0⟩,⟨tg2,iter2,ifs2,0⟩] scope pos) spos) (zhx (zmS wi g ti wi2 g2 ti2 te cix) (zbl ix)):=⟨λpins s σ H D I h=>zfZ q B F Z ad (λ_=>rfl) λU Qp hf=>zgY (Q:=λv H=>D.nx (σ.set ix (some v)) H) (uB c) hc hi.run (zaC λC s H ex=>(hg C s H ex).run) (zaC λC s H ex=>(ht C s H ex).run) (zaC λC s H ex=>(J C s H ex).run) (zaC λC s H ex=>(O C s H ex).run) (zaC λC s H ex=>(Y C s H ex).run) (zaC λC s H ex=>(he C s H ex).run) hs (zaC λC s H ex=>ac C s H ex) I h hf⟩
section
variable {K:PySem.W.Frag}{a acc:Addr}{xs:List V}{g:TG}{ti:TT}{wi2:TI}{g2:TG}{ti2:TT}{te:TE}{σ:St}{H:Hp}{Q:VK}{N:St->Hp->Prop}
def zgZ (B:H acc=none)(Pv:Nat->St->Hp->Prop)(I:∀H',H' acc=some (.lst [])->yM H H'->Pv 0 σ H')(J:∀i σ H,i<=xs.length->Pv i σ H->SqL K H a xs)
  (hs:∀i x σ H,xs[i]?=some x->Pv i σ H->zhP g ti wi2 g2 ti2 te acc (Pv (i+1)) x σ H) (O:∀ σ H,Pv xs.length σ H->Q (.ref acc) H):zme (Itl K a) g ti wi2 g2 ti2 te acc Q σ (upd H acc (.lst [])):=by
 refine⟨λi m σ H=>m=xs.length - i/\i<=xs.length/\Pv i σ H,⟨xs.length,by simp,aN _,I _ zf (yM.upd B)⟩,?_⟩;rintro i m σ H ⟨rfl,hi,p⟩;have q:=J i σ H hi p;by_cases F:i<xs.length
 ·refine .inr ⟨⟨xs,xs[i],q,by simp[F]⟩,Pv (i+1),λU H' Y=>⟨xs.length - (i+1),by lia,rfl,F,Y⟩,λx H' y=>?_⟩;obtain⟨e,y⟩:=y;subst e;exact hs i x σ _ (y xs q) p
 ·have e:i=xs.length:=by lia
  subst e;exact .inl ⟨⟨xs,q,ah _⟩,O σ H p⟩
def zg7 (Pv:Nat->St->Hp->Prop)(F:Pv 0 σ H)(I:∀i σ H,i<=xs.length->Pv i σ H->SqL K H a xs)
  (hs:∀i x σ H,xs[i]?=some x->Pv i σ H->zhR g ti te acc (Pv (i+1)) x σ H) (J:∀ σ H,Pv xs.length σ H->N σ H):zis (Itl K a) g ti te acc N σ H:=by
 refine⟨λi m σ H=>m=xs.length - i/\i<=xs.length/\Pv i σ H,⟨xs.length,by simp,aN _,F⟩,?_⟩;rintro i m σ H ⟨rfl,hi,p⟩;have q:=I i σ H hi p;by_cases B:i<xs.length
 ·refine .inr ⟨⟨xs,xs[i],q,by simp[B]⟩,Pv (i+1),λO H' U=>⟨xs.length - (i+1),by lia,rfl,B,U⟩,λx H' y=>?_⟩;obtain⟨e,y⟩:=y;subst e;exact hs i x σ _ (y xs q) p
 ·have e:i=xs.length:=by lia
  subst e;exact .inl ⟨⟨xs,q,ah _⟩,J σ H p⟩
end
section
variable {X:Cx}
def zks:CallQ X (.type "range") (λxs H Q=>∃n,xs=[.int n]/\New H (.rng 0 n) Q):=⟨by
 intro pins s σ H xs F Q I r h;obtain⟨n,rfl,q⟩:=h;obtain⟨u,rfl,B⟩:=zcm r;obtain⟨t,rfl⟩:=B;refine call_range_1 ?_;refine⟨.ref s.heap.objs.size,_,I.laid (t':=s.toks+1+1) (o:=.rng 0 n) (λb ob q=>am _ q) (ah _) ?_,rfl,q.at (I.hok.fresh (ah _))⟩;exact⟨_,_,_,aw _ rfl⟩⟩
def zgM (n:Nat):Builtin.Range.rangeSize 0 (n:Int) 1=n:=by
 unfold Builtin.Range.rangeSize
 grind
def zkf:∀ {xs:List V} {q:List Value},xs.length=q.length->(∀ (i:Nat) x u,xs[i]?=some x->q[i]?=some u->yr x u)->yn xs q
 | [],[],_,_=>.nil
 | [],_::_,h,_=>by simp at h
 | _::_,[],h,_=>by simp at h
 | x::xs,u::q,h,k=>.cons (k 0 x u rfl rfl) (zkf (by simpa using h) λi y v B F=>k (i+1) y v B F)
def ze1 (Y:X.calm=true):CallQ X (.type "list") (λxs H Q=>∃ (p:Addr) (n:Nat),xs=[.ref p]/\H p=some (.rng 0 n)/\n<=1000/\New H (.lst ((List.range n).map λi:Nat=>V.int i)) Q):=⟨by
 intro pins s σ H xs us Q I r h;obtain⟨p,n,rfl,hp,O,q⟩:=h;obtain⟨u,rfl,Z⟩:=zcm r;cases Z;obtain⟨t,u,v,ho⟩:=I.hok p _ hp;have J:n<sizeLine:=zeD O;refine call_list_range (a:=0) (b:=n) (c:=1) (n:=n) (I.ok.hd Y) ho ?_ ?_ (az O (by decide)) λh' tk B c' kp hg F=>?_
 ·have e:=zgM n;unfold Builtin.Range.small;rw[e];simp[Builtin.Range.rangeFitsLong];lia
 ·exact zgM n
 ·have hv:yn ((List.range n).map λi:Nat=>V.int i) B.toList:=by
   refine zkf (by rw[ab,bm,aK,F.1]) λj x u U hu=>?_;rw[aE] at U;obtain⟨k,hk,rfl⟩:=aF.mp U;obtain⟨ac,e⟩:=af.mp hk;have:k=j:=by simpa using e.symm
   subst this;obtain⟨t',rfl⟩:=F.2 k u (by simpa using hu);exact⟨t',by lia⟩
  refine⟨.ref s.heap.objs.size,_,I.laid (t':=tk) (o:=.lst ((List.range n).map λi:Nat=>V.int i)) kp (ah _) ?_,rfl,q.at (I.hok.fresh (ah _))⟩;exact⟨by rw[ab,bm];exact cR J,B.toList,c',hv,by simpa using hg⟩⟩
end
def zh (m:Int):List Int:=(List.range m.toNat).map λi:Nat=>(i:Int)
def ue (q:List (List Int))(B:List Int):List (List Int):=q.flatMap λr=>B.map λw=>r++[w]
def z0 (cs:List (List Int)):List (List Int):=cs.foldl ue [[]]
def yv (cs:List (List Int))(c:List Int):z0 (cs++[c])=ue (z0 cs) c:=by
 unfold z0
 simp_all
@[reducible] def stD (st:List Int):Dt:=.tup (st.map .int)
def uJ:∀sts:List (List Int),Dt.noLs (sts.map stD)=true
 | []=>rfl
 | st::sts=>by show ((stD st).noL&&Dt.noLs (sts.map stD))=true;rw[uJ sts,show (stD st).noL=true from zel st];rfl
def zpE (H:Hp)(xs:List V)(cs:List (List Int)):Prop:=xs.length=cs.length/\∀ (i:Nat) c,cs[i]?=some c->∃a,xs[i]?=some (.ref a)/\Rd H a (.lst (c.map V.int))
def zcJ (K:PySem.W.Frag):Sp:=λvs H Q _=>∃ (q:Addr) (xs:List V) (cs:List (List Int)),vs=[.ref q]/\Rd H q (.lst xs)/\zpE H xs cs/\cs.length<=8/\(∀c∈cs,c.length<=4)/\
 ∀ (a:Addr) (ys:List V) (H':Hp),H a=none->H' a=some (.lst ys)->IsL H' ((z0 cs).map stD) ys->yM H H'->Q (.ref a) H'
def ze3 (q:List (List Int))(r B:List Int):ue (q++[r]) B=ue q B++B.map λw=>r++[w]:=by
 unfold ue
 simp_all
def uH (q:List (List Int))(B:List Int):(ue q B).length=q.length * B.length:=by
 unfold ue;rw[List.length_flatMap]
 induction q with
 | nil=>simp
 | cons r q F=>rw[au,List.sum_cons,F,ab,aT,Nat.succ_mul,Nat.add_comm]
def zcN:∀ (cs:List (List Int)) (q:List Int),q∈z0 cs->q.length=cs.length:=by
 intro cs
 have:∀ (n:Nat) (cs:List (List Int)),cs.length=n->∀q,q∈z0 cs->q.length=cs.length:=by
  intro n
  induction n with
  | zero=>
   intro cs h q B;have:cs=[]:=aY h;subst this;have:q=[]:=by simpa [z0] using B
   simp_all
  | succ n I=>
   intro cs h q B;have F:cs≠[]:=by intro z;rw[z] at h;simp at h
   rw[<- bv F,yv] at B;unfold ue at B
   grind
 exact this cs.length cs rfl
def zmZ:∀ (n:Nat) (cs:List (List Int)),cs.length=n->(∀c∈cs,c.length<=4)->(z0 cs).length<=4 ^ n:=by
 intro n
 induction n with
 | zero=>
  intro cs h _;have:cs=[]:=aY h;subst this;exact ah _
 | succ n F=>
  intro cs h B;have q:cs≠[]:=by intro z;rw[z] at h;simp at h
  rw[<- bv q,yv,uH,Nat.pow_succ];exact Nat.mul_le_mul (F cs.dropLast (by grind) λc I=>B c ((List.dropLast_sublist cs).subset I)) (B _ (List.getLast_mem q))
def zfW {cs:List (List Int)}(F:cs.length<=8)(q:∀c∈cs,c.length<=4)(k:Nat):(z0 (cs.take k)).length<=65536:=by
 refine az (zmZ _ (cs.take k) rfl λc B=>q c (bw B)) ?_;have:(cs.take k).length<=8:=by rw[bn];lia
 exact az (eU (by decide) this) (by decide)
def xH (m:Int):(zh m).length=m.toNat:=by unfold zh;rw[ab,bm]
section
variable {X:Cx}{o:Expr}{to:TE}{apos cpos:Pos}
end
open PySem PySem.Spec PyProof.Rows PySem.W
inductive Run (ans:Nat->Nat->Bool) (n:Nat):{α:Type}->KasT α->α->Prop
 | ret {α:Type} (a:α):Run ans n (.ret a) a
 | ask {α:Type} {i j:Nat} {k:Bool->KasT α} {a:α} (hi:i<n) (hj:j<n) (h:Run ans n (k (ans i j)) a):Run ans n (.ask i j k) a
def Run.bind{α B:Type}{t:KasT α}{f:α->KasT B}{a:α}{b:B}(h:Run q n t a)(k:Run q n (f a) b):Run q n (t.bind f) b:=by
 induction h with
 | ret a=>exact k
 | ask hi F _ I=>exact .ask hi F (I k)
def Run.wp{q:Nat->Nat->Bool}{α:Type}{t:KasT α}{a:α}(h:Run q n t a){B:Nat->Nat->(Bool->Shared->Prop)->Shared->Prop}{S:Shared->Prop}{Q:α->Shared->Prop}(I:∀i j C s,i<n->j<n->S s->(∀s',S s'->C (q i j) s')->B i j C s)(F:∀s,S s->Q a s):∀s,S s->KasT.kasWp B t Q s:=by
 induction h with
 | ret a=>intro s hs;rw[KasT.kasWp.eq_1];exact F s hs
 | ask hi J _ O=>
  intro s hs;rw[KasT.kasWp.eq_2]
  simp_all
section
variable {n:Nat}{f:Nat->Int}
def zdL (f:Nat->Int)(i j:Nat):Bool:=decide (f i<f j)
def key (f:Nat->Int)(p:Array Nat)(k:Nat):Int:=f (p.getD k 0)
structure Up (n:Nat)(f:Nat->Int)(p:Array Nat)(m:Nat):Prop where
 perm:p.Perm (List.range n).toArray
 le:m<=n
 up:∀k,k+1<m->key f p k<key f p (k+1)
def xE {p:Array Nat}(h:p.Perm (List.range n).toArray):p.size=n:=by have:=h.size_eq;simpa using this
def z7{p:Array Nat}(h:p.Perm (List.range n).toArray)(B:k<n):p.getD k 0<n:=by
 have hs:=xE h
 have q:p.getD k 0∈p:=by simp_all
 have:=(h.mem_iff).mp q;simpa using this
def Up.lt_of(h:Up n f p m):∀ {i j:Nat},i<j->j<m->key f p i<key f p j:=by
 intro i j
 induction j with
 | zero=>intro F;lia
 | succ j I=>
  intro q B;have h1:=h.up j B
  grind
def zeV (p:Array Nat)(hp:p.Perm (List.range n).toArray):∀ (g x:Nat),1<=x->x+g<=n->∃m,Run (zdL f) n (kas_asc p g x) m/\x<=m/\m<=x+g/\(∀k,x<=k->k<m->¬ key f p k<key f p (k - 1))/\(m<x+g->key f p m<key f p (m - 1))
 | 0,x,_,_=>⟨x,by rw[kas_asc.eq_1];exact .ret _,ah _,ah _,by grind,λh=>by lia⟩
 | g+1,x,I,J=>by
  rw[kas_asc.eq_2];by_cases q:key f p x<key f p (x - 1)
  ·refine⟨x,.ask (z7 hp (by lia)) (z7 hp (by lia)) ?_,ah _,by lia,by grind,λ_=>q⟩;rw[show zdL f (p.getD x 0) (p.getD (x - 1) 0)=true from aD q,if_pos rfl];exact .ret _
  ·obtain⟨m,h1,h2,O,B,F⟩:=zeV p hp g (x+1) (by lia) (by lia);refine⟨m,.ask (z7 hp (by lia)) (z7 hp (by lia)) ?_,by lia,by lia,λk k1 k2=>?_,λh=>F (by lia)⟩
   ·rw[show zdL f (p.getD x 0) (p.getD (x - 1) 0)=false from aO q,if_neg ar];exact h1
   ·by_cases e:k=x
    ·subst e;exact q
    ·exact B k (by lia) k2
def zaZ (n:Nat)(f:Nat->Int):Prop:=∀i j,i<n->j<n->f i=f j->i=j
def zgm (I:zaZ n f){p:Array Nat}(hp:p.Perm (List.range n).toArray){i j:Nat}(hi:i<n)(J:j<n)(q:i≠j):key f p i≠key f p j:=by
 intro e;have F:=I _ _ (z7 hp hi) (z7 hp J) e;have hs:=xE hp
 have B:p.toList.Nodup:=by
  have:p.toList.Perm (List.range n):=by have:=hp.toList;simpa using this
  exact this.nodup_iff.mpr eP
 rw[bY,bY,aR (by lia),aR (by lia)] at F;have O:p.toList[i]'(by simp_all)=p.toList[j]'(by simp_all):=by simpa using F
 exact q ((cD B).mp O)
def zf8 (F:zaZ n f)(p:Array Nat)(hp:p.Perm (List.range n).toArray):∀ (g x:Nat),1<=x->x+g<=n->∃m,Run (zdL f) n (kas_desc g p x 0) (p,m,0)/\x<=m/\m<=x+g/\(∀k,x<=k->k<m->key f p k<key f p (k - 1))
 | 0,x,_,_=>⟨x,by rw[kas_desc.eq_1];exact .ret _,ah _,ah _,by grind⟩
 | g+1,x,O,U=>by
  rw[kas_desc.eq_2];by_cases q:key f p x<key f p (x - 1)
  ·obtain⟨m,h1,h2,Y,I⟩:=zf8 F p hp g (x+1) (by lia) (by lia);refine⟨m,.ask (z7 hp (by lia)) (z7 hp (by lia)) ?_,by lia,by lia,λk k1 k2=>?_⟩
   ·rw[show zdL f (p.getD x 0) (p.getD (x - 1) 0)=true from aD q,if_pos rfl,if_neg (by lia)];exact h1
   ·by_cases e:k=x
    ·subst e;exact q
    ·exact I k (by lia) k2
  ·have J:=zgm F hp (i:=x) (j:=x - 1) (by lia) (by lia) (by lia);have B:key f p (x - 1)<key f p x:=by lia
   refine⟨x,.ask (z7 hp (by lia)) (z7 hp (by lia)) ?_,ah _,by lia,by grind⟩;rw[show zdL f (p.getD x 0) (p.getD (x - 1) 0)=false from aO q,if_neg ar];refine .ask (z7 hp (by lia)) (z7 hp (by lia)) ?_;rw[show zdL f (p.getD (x - 1) 0) (p.getD x 0)=true from aD B,if_pos rfl];exact .ret _
def ziM(q:j<=p.size)(k:Nat):key f (kas_rev p 0 j) k=if k<j then key f p (j - 1 - k) else key f p k:=by
 unfold key kas_rev;rw[bY,getElem?_mirror_all q];by_cases h:k<j
 ·simp_all
 ·rw[if_neg (λz=>h z.2),if_neg h,bY]
def zlH(hp:p.Perm (List.range n).toArray)(j:Nat):(kas_rev p 0 j).Perm (List.range n).toArray:=(mirror_perm p 0 j _).trans hp
def zhT (J:zaZ n f)(hn:2<=n)(p:Array Nat)(hp:p.Perm (List.range n).toArray):∃ (m:Nat) (q:Array Nat),Run (zdL f) n (kas_count n p) (m,q)/\1<=m/\Up n f q m:=by
 have hs:=xE hp;obtain⟨m,h1,h2,h3,h4,h5⟩:=zeV (f:=f) p hp (n - 1) 1 (ah _) (by lia)
 have B:Up n f p m:=⟨hp,by lia,λk O=>by have U:=h4 (k+1) (by lia) O;rw[fF] at U;have:=zgm J hp (i:=k) (j:=k+1) (by lia) (by lia) (by lia);lia⟩
 unfold kas_count;by_cases ad:m=n
 ·refine⟨m,p,h1.bind ?_,h2,B⟩;rw[if_pos (by simp_all)];exact .ret _
 ·by_cases I:m > 1
  ·refine⟨m,p,h1.bind ?_,h2,B⟩;rw[if_neg (by simp_all),if_pos I];refine .ask (z7 hp (by lia)) (z7 hp (by lia)) ?_;have Y:key f p 0<key f p (m - 1):=B.lt_of (by lia) (by lia);rw[show zdL f (p.getD 0 0) (p.getD (m - 1) 0)=true from aD Y,if_pos rfl];exact .ret _
  ·have em:m=1:=by lia
   subst em;have Z:=h5 (by lia);obtain⟨d,g1,g2,g3,g4⟩:=zf8 J p hp (n - 2) 2 (by lia) (by lia);have F:=zlH hp d;obtain⟨m2,a1,a2,a3,a4,_⟩:=zeV (f:=f) (kas_rev p 0 d) F (n - d) d (by lia) (by lia);refine⟨m2,kas_rev p 0 d,h1.bind ?_,by lia,⟨F,by lia,λk O=>?_⟩⟩
   ·rw[if_neg (by simp_all),if_neg I];unfold kas_descPart;refine Run.bind (a:=(p,d,0)) g1 ?_;rw[if_neg (by simp)];unfold kas_tail3;exact Run.bind a1 (.ret _)
   ·by_cases ac:k+1<d
    ·rw[ziM (by lia),ziM (by lia),if_pos (by lia),if_pos ac];have e:d - 1 - k=(d - 1 - (k+1))+1:=by lia
     rw[e];by_cases e0:d - 1 - (k+1)=0
     ·rw[e0];exact Z
     ·have:=g4 (d - 1 - (k+1)+1) (by lia) (by lia)
      simp_all
    ·have U:=a4 (k+1) (by lia) O;rw[fF] at U;have:=zgm J F (i:=k) (j:=k+1) (by lia) (by lia) (by lia);lia
def zbW (p:Array Nat)(hp:p.Perm (List.range n).toArray)(k:Nat)(F:k<n):∀ (g l r:Nat),r<=k->l<=r->r - l<=g->(∀i,i<l->¬ key f p k<key f p i)->(∀i,r<=i->i<k->key f p k<key f p i)->
  (∀i j,i<j->j<k->key f p i<key f p j)->
  ∃m,Run (zdL f) n (kas_place p k g l r) m/\m<=k/\(∀i,i<m->¬ key f p k<key f p i)/\(∀i,m<=i->i<k->key f p k<key f p i)
 | 0,l,r,h1,h2,Z,I,J,_=>⟨l,by rw[kas_place.eq_1];exact .ret _,by lia,I,λi hi=>J i (by lia)⟩
 | g+1,l,r,h1,h2,Z,I,J,q=>by
  rw[kas_place.eq_2];by_cases B:l ≥ r
  ·refine⟨l,?_,by lia,I,λi hi=>J i (by lia)⟩;rw[if_pos B];exact .ret _
  ·rw[if_neg B];by_cases O:key f p k<key f p ((l+r) / 2)
   ·obtain⟨m,g1,g2,g3,U⟩:=zbW p hp k F g l ((l+r) / 2) (by lia) (by lia) (by lia) I (λi hi Y=>by
     by_cases e:i=(l+r) / 2
     ·rw[e];exact O
     ·have:=q ((l+r) / 2) i (by lia) Y;lia) q
    refine⟨m,.ask (z7 hp F) (z7 hp (by lia)) ?_,g2,g3,U⟩;rw[show zdL f (p.getD k 0) (p.getD ((l+r) / 2) 0)=true from aD O,if_pos rfl];exact g1
   ·obtain⟨m,g1,g2,g3,U⟩:=zbW p hp k F g ((l+r) / 2+1) r h1 (by lia) (by lia) (λi hi=>by
     by_cases e:i=(l+r) / 2
     ·rw[e];exact O
     ·have:=q i ((l+r) / 2) (by lia) (by lia);lia) J q
    refine⟨m,.ask (z7 hp F) (z7 hp (by lia)) ?_,g2,g3,U⟩;rw[show zdL f (p.getD k 0) (p.getD ((l+r) / 2) 0)=false from aO O,if_neg ar];exact g1
def zcv {p:Array Nat}{q d:Nat}(h1:q<p.size)(h2:d<=q)(k:Nat):key f (bubble p q d) k=if k=q - d then key f p q else if q - d<k/\k<=q then key f p (k - 1) else key f p k:=by
 unfold key;simp only[bY];rw[getElem?_bubble h1 d h2]
 grind
def zhJ (J:zaZ n f):∀ (g k:Nat) (p:Array Nat),k+g=n->Up n f p k->∃q,Run (zdL f) n (kas_bin g p k) q/\Up n f q n
 | 0,k,p,U,h=>by
  have e:k=n:=by lia
  rw[e] at h;exact⟨p,by rw[kas_bin.eq_1];exact .ret _,h⟩
 | g+1,k,p,U,h=>by
  have hs:=xE h.perm;obtain⟨l,Y,r2,Z,r4⟩:=zbW (f:=f) p h.perm k (by lia) k 0 k (ah _) (aN _) (by lia) (λi hi=>by lia) (λi h1 h2=>by lia) (λi j B hj=>h.lt_of B hj)
  have F:Up n f (bubble p k (k - l)) (k+1):=by
   refine⟨(bubble_perm p k (k - l)).trans h.perm,by lia,λi hi=>?_⟩;rw[zcv (by lia) (by lia),zcv (by lia) (by lia)];have I:k - (k - l)=l:=by lia
   rw[I];by_cases e1:i=l
   ·grind
   ·rw[if_neg e1];by_cases e2:l<i
    ·rw[if_pos (by lia),if_neg (by lia),if_pos (by lia),fF];exact h.lt_of (by lia) (by lia)
    ·rw[if_neg (by lia)];by_cases O:i+1=l
     ·rw[if_pos O];have h1:=Z i (by lia);have h2:=zgm J h.perm (i:=i) (j:=k) (by lia) (by lia) (by lia);lia
     ·rw[if_neg O,if_neg (by lia)];exact h.lt_of (by lia) (by lia)
  obtain⟨q,q1,q2⟩:=zhJ J g (k+1) (bubble p k (k - l)) (by lia) F;refine⟨q,?_,q2⟩;rw[kas_bin.eq_2];exact Run.bind Y q1
def zlO (B:zaZ n f)(I:2<=n):∃q,Run (zdL f) n (kas_sort n) q/\Up n f q n:=by
 obtain⟨m,p,h1,h2,F⟩:=zhT B I (List.range n).toArray (Array.Perm.refl _);unfold kas_sort;by_cases J:m<n
 ·obtain⟨q,U,O⟩:=zhJ B (n - m) m p (by lia) F;refine⟨q,Run.bind h1 ?_,O⟩
  grind
 ·have e:m=n:=by have:=F.le;lia
  refine⟨p,Run.bind h1 ?_,by lia⟩;rw[if_neg J];exact .ret _
end
open PySem PySem.Spec PyProof.Rows
def zgl {prog:Program}{w:World}{A:Around}{s:Shared}{b:Bool}{Q:Bool->Shared->Prop}:∀ {ns B:List Int} {xs ys:List Value} (i:Nat),yn (ns.map V.int) xs->yn (B.map V.int) ys->ns.length=B.length->Q (HT.lexLt ns B) s->W.KatLex prog w A b false Q (xs.zip ys) i s
 | [],[],_,_,i,I,J,_,q=>by cases I;cases J;exact W.kat_nil q
 | [],_::_,_,_,_,_,_,h,_=>by simp at h
 | _::_,[],_,_,_,_,_,h,_=>by simp at h
 | a::ns,c::B,_,_,i,I,J,Y,q=>by
  cases I with
  | cons Z O=>
   cases J with
   | cons r2 U=>
    obtain⟨t,rfl⟩:=Z;obtain⟨u,rfl⟩:=r2;rw[fG];have F:Q (if a=c then HT.lexLt ns B else decide (a<c)) s:=q;refine W.kat_cons (wpAny_eqBool_int ?_);by_cases e:a=c
    ·rw[show (a==c)=true from by lia];rw[if_pos e] at F;exact W.kat_yes (zgl (i+1) O U (by simpa using Y) F)
    ·rw[show (a==c)=false from beq_false_of_ne e];rw[if_neg e] at F;refine W.kat_no ?_
     cases (b&&i==0) with
     | true=>exact oneLt_int F
     | false=>exact W.kat_one _ _ (P.lt_int F)
def zQ:∀s:List Int,HT.lexLt s s=false
 | []=>rfl
 | a::s=>by show (if a=a then HT.lexLt s s else _)=false;rw[if_pos rfl];exact zQ s
def zao:∀ {a b c:List Int},a.length=b.length->b.length=c.length->HT.lexLt a b=true->HT.lexLt b c=true->HT.lexLt a c=true
 | [],[],[],_,_,h,_=>h
 | x::a,y::b,z::c,h1,h2,J,O=>by
  have q:(if x=y then HT.lexLt a b else decide (x<y))=true:=J;have B:(if y=z then HT.lexLt b c else decide (y<z))=true:=O;show (if x=z then HT.lexLt a c else decide (x<z))=true;by_cases F:x=y
  ·by_cases I:y=z
   ·rw[if_pos F] at q;rw[if_pos I] at B;rw[if_pos (F.trans I)];exact zao (by simpa using h1) (by simpa using h2) q B
   ·grind
  ·grind
 | [],_::_,_,h,_,_,_=>by simp at h
 | _::_,[],_,h,_,_,_=>by simp at h
 | [],[],_::_,_,h,_,_=>by simp at h
 | _::_,_::_,[],_,h,_,_=>by simp at h
def zan:∀ {a b:List Int},a.length=b.length->a=b\/HT.lexLt a b=true\/HT.lexLt b a=true
 | [],[],_=>.inl rfl
 | [],_::_,h=>by simp at h
 | _::_,[],h=>by simp at h
 | x::a,y::b,h=>by
  show _\/(if x=y then HT.lexLt a b else decide (x<y))=true\/(if y=x then HT.lexLt b a else decide (y<x))=true;by_cases e:x=y
  ·subst e;rw[if_pos rfl,if_pos rfl];rcases zan (a:=a) (b:=b) (by simpa using h) with h1 | h1 | h1
   all_goals simp_all
  ·rw[if_neg e,if_neg (Ne.symm e)];rcases Int.lt_or_gt_of_ne e with h1 | h1
   all_goals simp_all
def zcW {α:Type}{p q:α->Bool}:∀ {l:List α},(∀x∈l,p x=true->q x=true)->(∃x∈l,p x=false/\q x=true)->l.countP p<l.countP q
 | [],_,h=>by simp_all
 | y::l,h,k=>by
  have I:l.countP p<=l.countP q:=List.countP_mono_left λx B hp=>h x (ai _ B) hp;rw[List.countP_cons,List.countP_cons];obtain⟨x,B,hp,F⟩:=k;rcases ay.mp B with rfl | B
  ·rw[hp,F];simp;lia
  ·have O:=zcW (l:=l) (λz J=>h z (ai _ J)) ⟨x,B,hp,F⟩
   grind
def xj (sts:List (List Int))(i:Nat):Int:=(sts.countP λc=>HT.lexLt c (sts.getD i [])  : Nat)
def zam{sts:List (List Int)}(q:∀st∈sts,st.length=m)(hi:i<sts.length)(I:j<sts.length):decide (xj sts i<xj sts j)=HT.lexLt (sts.getD i []) (sts.getD j []):=by
 have J:sts.getD i []∈sts:=by rw[bg,aj hi];exact a9 hi
 have O:sts.getD j []∈sts:=by rw[bg,aj I];exact a9 I
 have U:∀ {a b:List Int},a∈sts->b∈sts->HT.lexLt a b=true->(sts.countP λc=>HT.lexLt c a)<(sts.countP λc=>HT.lexLt c b):=λ{a b} F Y B=>
  zcW (λx Z hp=>zao ((q x Z).trans (q a F).symm) ((q a F).trans (q b Y).symm) hp B) ⟨a,F,zQ a,B⟩
 unfold xj;generalize sts.getD i []=a at J;generalize sts.getD j []=b at O;rcases zan (a:=a) (b:=b) ((q a J).trans (q b O).symm) with h | h | h
 ·subst h;rw[zQ]
  simp_all
 all_goals grind
def uR (h:Heap)(L:Addr):List (Addr×Obj):=(List.range h.objs.size).filterMap λb=>if b=L then none else (h.get? b).map λo=>(b,o)
def yj:(b,o)∈uR h L↔b≠L/\h.get? b=some o:=by
 unfold uR;rw[c8];constructor
 ·rintro⟨c,F,e⟩;by_cases q:c=L
  ·simp_all
  ·rw[if_neg q] at e;obtain⟨o',B,I⟩:=aF.mp e
   grind
 ·rintro⟨q,B⟩;exact⟨b,aQ.mpr (aH B),by simp_all⟩
def zqu {h:Heap}{L:Addr}{m q:Str->Option Value}(a:h.Ns L m)(b:h.Ns L q):m=q:=by
 obtain⟨o,es,ep,U,Y,Z,hf⟩:=a;obtain⟨o',es',B,F,I,J,O⟩:=b
 grind
section
variable {X:Cx}
def zem(x:z8 P w H h a o):∃u,h.get? a=some u:=by
 cases o with
 | lst xs=>obtain⟨_,_,_,_,e⟩:=x;exact⟨_,e⟩
 | tup xs=>obtain⟨_,_,_,p⟩:=x;obtain⟨o,e,_⟩:=p;exact⟨o,e⟩
 | dK kvs=>obtain⟨_,_,_,_,o,_,_,e,_⟩:=x;exact⟨_,e⟩
 | dT kvs=>obtain⟨_,_,_,_,o,_,_,e,_⟩:=x;exact⟨_,e⟩
 | set S n=>obtain⟨o,_,_,_,e,_⟩:=x;exact⟨_,e⟩
 | ins C dx fs=>obtain⟨_,_,_,e,_⟩:=x;exact⟨_,e⟩
 | own y=>exact x
 | xd fs=>obtain⟨_,⟨_,_,_,e,_⟩,_⟩:=x;exact⟨_,e⟩
 | met f y=>exact⟨_,x⟩
 | rng lo hi=>obtain⟨_,_,_,e⟩:=x;exact⟨_,e⟩
 | frz o u=>obtain⟨e,_⟩:=x;exact⟨_,e⟩
 | tbl ps=>exact⟨_,x⟩
 | ext q=>obtain⟨_,e,_⟩:=x;exact e
def zix{pins:List (Addr×Obj)}{σ:St}{H:Hp}{s:Shared}(I:Inv X pins σ H s)(hm:s.heap.Ns X.env.locals m){h':Heap}{D:Addr}{ys:List V}{its:List Value}(kp:∀b o,b≠X.env.locals->s.heap.get? b=some o->h'.get? b=some o)(J:h'.Ns X.env.locals m)(Y:s.heap.get? D=none)(O:H D=none)(ho:h'.get? D=some { cls:=.type "list",data:=.seq its.toArray c })(hv:yn ys its)(hz:ys.length<=sizeLine)(tk:Nat):Inv X pins σ (upd H D (.lst ys)) { s with heap:=h',toks:=tk }:=by
 have nD:∀b o,s.heap.get? b=some o->b≠D:=λb o e z=>by rw[z,Y] at e;cases e
 have nL:∀b u,H b=some u->b≠X.env.locals:=λb u e=>zg e I.free;refine Inv.step (ch:=[]) (g':=s.gens) (d':=s.drawn) (t':=tk) I (λb F=>by simp at F) (λb o h1 _ _ B _=>kp b o h1 B) (λb o h1 _ _ B _=>⟨o.slots,kp b o h1 B⟩) (λb o _ B h5=>by rw[zd (nD b o B)];exact h5) (λb o _ B=>?_) (λb ys q=>by rw[zd (zg q O)];exact q) (λb o u q=>by rw[zd (zg q O)];exact q) (λb ps q=>⟨#[],by rw[zd (zg q O),Array.append_empty];exact q⟩) (λm' Z=>by rw[<- zqu hm Z];exact J) (λb u F=>?_) I.bare
 ·by_cases hL:b=X.env.locals
  ·obtain⟨o',_,_,h1,_⟩:=J
   simp_all
  ·exact⟨o,kp b o hL B⟩
 ·by_cases U:b=D
  ·subst U;rw[zf] at F;cases F;exact⟨hz,its,c,hv,ho⟩
  ·rw[zd U] at F;refine (I.hok b u F).stay (λc v ac q=>kp c v ?_ q) (λc q=>by rw[zd (zg q O)];exact q) (λc ys q=>by rw[zd (zg q O)];exact q)
   grind
def zeM(h:yn vs its):∀ (p:List Nat),(∀i∈p,i<vs.length)->yn (p.map λi=>vs.getD i .non) (p.map λi=>its.getD i .none)
 | [],_=>.nil
 | i::p,hp=>by
  have hi:=hp i ak;obtain⟨u,B,F⟩:=h.get (i:=i) (x:=vs[i]) (aj hi);refine .cons ?_ (zeM h p λj q=>hp j (ai _ q))
  simp_all
def uK {α:Type}(d:α)(l:List α):(List.range l.length).map (λi=>l.getD i d)=l:=by refine eO (by simp) λi h1 h2=>?_;simp[h2]
end
open PySem PySem.Spec PySem.Calls PyProof.Rows PySem.W
def uE {prog:Program}{w:World}{A:Around}{E:Value->Shared->Prop}{s:Shared}{a:Addr}{vs:List Value}{n:Nat}{P:PySem.Fin->Shared->Prop}(ho:s.heap.get? a=some (seqObj "list" vs.toArray n))(h2:vs.length<2)
  (h:∀h' c,(∀b o,b≠a->s.heap.get? b=some o->h'.get? b=some o)->h'.get? a=some (seqObj "list" vs.toArray c)->P (.done (.ret .none)) { s with heap:=h' }) :
  wpAny (model prog w) A (Builtin.«list.sort» ⟨[.ref a],[]⟩) P E s:=by
 obtain⟨e1,ho1⟩:∃e1,(s.heap.update a (Obj.mapSeq λ_=>(#[]:Array Value))).get? a=some (seqObj "list" #[] e1):=⟨_,get?_update_seq ho λ_=>#[]⟩;rw[list_sort_plain];refine aa (gh ho rfl ?_);refine aa (eY ho rfl ?_ (by rw[aU,b9];lia) (aN _));refine aa (seqEpoch_at ho1 rfl ?_);refine aa (wpAny_newTuple ?_ (by show vs.length<=_;rw[b9];lia));refine aa (fZ ?_ (aN _));refine bL ?_;show wpAny (model prog w) A _ P E { s with heap:=((s.heap.update a (Obj.mapSeq λ_=>(#[]:Array Value))).push (seqObj "tuple" vs.toArray 0)).push (seqObj "list" #[] 0) };dsimp only;have hn2:vs.toArray.size<2:=by rw[aU];lia
 rw[if_pos hn2,if_pos hn2];refine aa (ae ?_);refine aa (m:=(pure ():StateT SortSt _ _).run _) (ae ?_)
 have hsnd:(arrOf (SortSt.mk' general' (vs.toArray.zip vs.toArray) #[] 7 none)).map (λx=>x.snd)=vs.toArray:=by show (vs.toArray.zip vs.toArray).map (λx=>x.snd)=vs.toArray;apply eQ.mp;rw[ge,Array.toList_zip];exact List.map_snd_zip (ah _)
 have ha:a<s.heap.objs.size:=aH ho;have g3:(((s.heap.update a (Obj.mapSeq λ_=>(#[]:Array Value))).push (seqObj "tuple" vs.toArray 0)).push (seqObj "list" #[] 0)).get? a=some (seqObj "list" #[] e1):=am _ (am _ ho1);refine aa (seqEpoch_at g3 rfl ?_);refine aa (eY g3 rfl ?_ (aN _) ?_)
 ·show wpAny _ _ _ _ _ _;dsimp only;rw[hsnd];simp only[fQ,aL,if_false];refine ae (h _ _ (λb o hb e=>?_) (get?_update_seq g3 λ_=>vs.toArray));rw[fj _ _ _ _ hb];refine am _ (am _ ?_);rw[fj _ _ _ _ hb];exact e
 ·dsimp only;rw[hsnd,aU,b9];lia
section
variable {X:Cx}
end
open PySem
def Ris (xs:Array Nat):Prop:=∀i j:Nat,i<j->j<xs.size->xs.getD i 0<xs.getD j 0
def zcP {xs:Array Nat}(F:Ris xs){j:Nat}:∀ (B lo hi:Nat),lo<=hi->hi<=xs.size->hi - lo<=B->(∀i,i<lo->xs.getD i 0<j)->(∀i,hi<=i->i<xs.size->j<=xs.getD i 0)->
  ∃p,SetTable.below.go xs j B lo hi=p/\p<=xs.size/\(∀i,i<p->xs.getD i 0<j)/\(∀i,p<=i->i<xs.size->j<=xs.getD i 0)
 | 0,lo,hi,h1,h2,h3,I,J=>by
  have:lo=hi:=by lia
  subst this;exact⟨lo,rfl,h2,I,J⟩
 | B+1,lo,hi,h1,h2,h3,I,J=>by
  show ∃p,(if lo<hi then if xs.getD ((lo+hi) / 2) j<j then SetTable.below.go xs j B ((lo+hi) / 2+1) hi else SetTable.below.go xs j B lo ((lo+hi) / 2) else lo)=p/\_;by_cases Y:lo<hi
  ·rw[if_pos Y];have Z:(lo+hi) / 2<xs.size:=by lia
   have e:xs.getD ((lo+hi) / 2) j=xs.getD ((lo+hi) / 2) 0:=by simp[Z]
   rw[e];by_cases O:xs.getD ((lo+hi) / 2) 0<j
   ·rw[if_pos O];refine zcP F B _ hi (by lia) h2 (by lia) (λi U=>?_) J;by_cases q:i=(lo+hi) / 2
    ·rw[q];exact O
    ·have:=F i ((lo+hi) / 2) (by lia) Z;lia
   ·rw[if_neg O];refine zcP F B lo _ (by lia) (by lia) (by lia) I (λi U hs=>?_);by_cases q:i=(lo+hi) / 2
    ·rw[q];lia
    ·have:=F ((lo+hi) / 2) i (by lia) hs;lia
  ·rw[if_neg Y];have:lo=hi:=by lia
   subst this;exact⟨lo,rfl,h2,I,J⟩
def xy(q:Ris xs)(j:Nat):SetTable.below xs j<=xs.size/\(∀i,i<SetTable.below xs j->xs.getD i 0<j)/\(∀i,SetTable.below xs j<=i->i<xs.size->j<=xs.getD i 0):=by obtain⟨p,e,h⟩:=zcP q (j:=j) xs.size 0 xs.size (aN _) (ah _) (ah _) (λi h=>absurd h (cP _)) (λi h1 h2=>by lia);have B:SetTable.below xs j=p:=e;rw[B];exact h
def xu{xs:Array Nat}(h:xs[i]?=some j):i<xs.size/\xs.getD i 0=j:=by
 obtain⟨h1,h2⟩:=cC.mp h
 simp_all
def zfa{xs:Array Nat}(h:i<xs.size):xs[i]?=some (xs.getD i 0):=by simp[h]
def zkk(B:Ris xs)(h:xs[i]?=some j):SetTable.below xs j=i:=by
 obtain⟨h1,h2⟩:=xu h;obtain⟨J,F,I⟩:=xy B j;rcases cz (SetTable.below xs j) i with q | q | q
 ·have:=I _ (ah _) (by lia);have:=B _ i q h1;lia
 ·exact q
 ·have:=F i q;lia
def zay{t:SetTable}(q:Ris t.place)(h:t.place[i]?=some j):t.slot j = .live i:=by unfold SetTable.slot;rw[zkk q h];simp[h]
def zjZ {t:SetTable}(q:t.dummies = #[]){j:Nat}(h:∀i:Nat,t.place[i]?≠some j):t.slot j = .empty:=by
 unfold SetTable.slot
 have e:(t.place[SetTable.below t.place j]?==some j)=false:=by grind
 have B:SetTable.has t.dummies j=false:=by rw[q];rfl
 simp_all
def zo9 {t:SetTable}(q:Ris t.place)(B:t.dummies = #[])(j:Nat):(t.slot j = .empty/\∀i:Nat,t.place[i]?≠some j)\/∃i,t.slot j = .live i/\t.place[i]?=some j:=by
 by_cases h:∃i:Nat,t.place[i]?=some j
 ·obtain⟨i,hi⟩:=h;exact .inr ⟨i,zay q hi,hi⟩
 ·have h':∀i:Nat,t.place[i]?≠some j:=λi e=>h ⟨i,e⟩;exact .inl ⟨zjZ B h',h'⟩
def tm (q:Nat):SetTable:=⟨q,#[],#[],0,true,0,true⟩
def stp (q:Nat)(h:Int):Nat->SetTable.Probe
 | 0=>(tm q).probeStart h
 | n+1=>(tm q).advance (stp q h n)
def wk (q:Nat)(h:Int)(n:Nat):Nat:=(stp q h n).j
def zhE (q:Nat)(p:SetTable.Probe):((tm q).advance p).dummy=p.dummy:=by unfold SetTable.advance;split <;> rfl
def zeF (q:Nat)(h:Int):∀n,(stp q h n).dummy=none
 | 0=>rfl
 | n+1=>by show ((tm q).advance _).dummy=none;rw[zhE,zeF q h n]
def zfV (q:Nat)(p:SetTable.Probe)(h:0<p.more):(tm q).advance p={ p with j:=p.j+1,more:=p.more - 1 }:=by unfold SetTable.advance;rw[if_pos h]
def zcM (q:Nat)(p:SetTable.Probe)(h:p.more=0):(tm q).advance p={ p with j:=(p.i * 5+1+p.perturb / 32) % (q+1),more:=SetTable.runEnd q ((p.i * 5+1+p.perturb / 32) % (q+1)) - (p.i * 5+1+p.perturb / 32) % (q+1),i:=(p.i * 5+1+p.perturb / 32) % (q+1),perturb:=p.perturb / 32 }:=by unfold SetTable.advance;rw[if_neg (by lia)];rfl
def lp (q:Nat)(h:Int):Nat->Nat×Nat
 | 0=>(SetTable.bits h % (q+1),SetTable.bits h)
 | n+1=>SetTable.leap q (lp q h n).1 (lp q h n).2
def zmL (q i:Nat):SetTable.runEnd q i - i<=9:=by unfold SetTable.runEnd;split <;> lia
def zdz (B:Nat)(h:Int){T i q:Nat}(e:stp B h T=⟨i,SetTable.runEnd B i - i,i,q,none⟩):∀k,k<=SetTable.runEnd B i - i->stp B h (T+k)=⟨i+k,SetTable.runEnd B i - i - k,i,q,none⟩
 | 0,_=>e
 | k+1,F=>by
  show (tm B).advance (stp B h (T+k))=_;rw[zdz B h e k (by lia),zfV B _ (by lia)]
  grind
def ziQ (q:Nat)(h:Int):∀k,∃T,T<=10 * k/\stp q h T=⟨(lp q h k).1,SetTable.runEnd q (lp q h k).1 - (lp q h k).1,(lp q h k).1,(lp q h k).2,none⟩
 | 0=>⟨0,ah _,rfl⟩
 | k+1=>by obtain⟨T,B,e⟩:=ziQ q h k;have F:=zmL q (lp q h k).1;refine⟨T+(SetTable.runEnd q (lp q h k).1 - (lp q h k).1)+1,by lia,?_⟩;show (tm q).advance (stp q h (T+_))=_;rw[zdz q h e _ (ah _),zcM q _ (Nat.sub_self _)];rfl
def zcw (q:Nat)(h:Int):∀k,(lp q h k).2=SetTable.bits h / 32 ^ k
 | 0=>by show SetTable.bits h=_;simp
 | k+1=>by show (lp q h k).2 / 32=_;rw[zcw q h k,Nat.div_div_eq_div_mul,Nat.pow_succ]
def zm7 (h:Int):SetTable.bits h<2 ^ 64:=by
 unfold SetTable.bits
 grind
def lcg (m i:Nat):Nat:=(i * 5+1) % m
def orb (m:Nat):Nat->Nat->Nat
 | 0,i=>i
 | k+1,i=>lcg m (orb m k i)
def zi4 (q:Nat)(h:Int):∀k,(lp q h (13+k)).1=orb (q+1) k (lp q h 13).1
 | 0=>rfl
 | k+1=>by
  show ((lp q h (13+k)).1 * 5+1+(lp q h (13+k)).2 / 32) % (q+1)=lcg (q+1) (orb (q+1) k _);rw[<- zi4 q h k,zcw];have B:=zm7 h
  have e:SetTable.bits h / 32 ^ (13+k)=0:=by
   refine Nat.div_eq_of_lt (aV B ?_)
   calc 2 ^ 64<=32 ^ 13:=by decide
    _<=32 ^ (13+k):=eU (by decide) (by lia)
  rw[e];rfl
def zbU (m:Nat)(a:Nat):∀ (b i:Nat),orb m (a+b) i=orb m b (orb m a i)
 | 0,i=>rfl
 | b+1,i=>by show lcg m (orb m (a+b) i)=lcg m (orb m b _);rw[zbU m a b i]
def zpw (m:Nat):Nat->Nat->List Nat
 | 0,_=>[]
 | n+1,i=>i::zpw m n (lcg m i)
def zlg (m:Nat)(k i:Nat):orb m (k+1) i=orb m k (lcg m i):=by rw[Nat.add_comm,zbU];rfl
def zdk (m:Nat):∀ (n i k:Nat),k<n->(zpw m n i)[k]?=some (orb m k i)
 | n+1,i,0,_=>rfl
 | n+1,i,k+1,h=>by rw[zlg];exact zdk m n (lcg m i) k (by lia)
def zgE (m:Nat):∀ (n i:Nat),(zpw m n i).length=n
 | 0,_=>rfl
 | n+1,i=>by show (zpw m n _).length+1=n+1;rw[zgE m n]
structure Ring (m:Nat):Prop where
 pos:0<m
 all:∀v,v<m->v∈zpw m m 0
 back:orb m m 0=0
def Ring.reach(r:Ring m)(hi:i<m)(J:j<m):∃k,k<m/\orb m k i=j:=by
 obtain⟨a,F,U⟩:=b5.mp (r.all i hi);obtain⟨b,I,Y⟩:=b5.mp (r.all j J);rw[zgE] at F I
 have q:orb m a 0=i:=by
  have:=zdk m m 0 a F
  simp_all
 have B:orb m b 0=j:=by
  have:=zdk m m 0 b I
  simp_all
 by_cases O:a<=b
 ·refine⟨b - a,by lia,?_⟩;rw[<- q,<- zbU,show a+(b - a)=b by lia];exact B
 ·refine⟨b+m - a,by lia,?_⟩;rw[<- q,<- zbU,show a+(b+m - a)=m+b by lia,zbU,r.back];exact B
def zrw (m:Nat):Bool:=((List.range m).all λv=>(zpw m m 0).contains v)&&orb m m 0==0
def zdt(q:0<m)(h:zrw m=true):Ring m:=by
 unfold zrw at h;rw[aJ] at h;refine⟨q,λv B=>?_,b7 h.2⟩
 simp_all
def zt6:Ring 8:=zdt (by decide) (by decide +kernel)
def zrv:Ring 32:=zdt (by decide) (by decide +kernel)
def zoW:Ring 128:=zdt (by decide) (by decide +kernel)
def zoX:Ring 512:=zdt (by decide) (by decide +kernel)
def zl3(r:Ring (q+1))(h:Int)(B:j<=q):∃n,n<10 * SetTable.turns q/\wk q h n=j:=by have F:(lp q h 13).1<q+1:=fR _ (fH _);obtain⟨k,J,e⟩:=r.reach F (fS B);obtain⟨T,O,I⟩:=ziQ q h (13+k);refine⟨T,by unfold SetTable.turns;lia,?_⟩;show (stp q h T).j=j;rw[I];show (lp q h (13+k)).1=j;rw[zi4,e]
open PySem PySem.Spec PyProof.Rows
def zoZ {xs:Array Nat}(B:Ris xs){i j a b:Nat}(hi:xs[i]?=some a)(F:xs[j]?=some b)(h:a<b):i<j:=by
 obtain⟨h1,h2⟩:=xu hi;obtain⟨I,J⟩:=xu F;rcases cz i j with q | q | q
 ·exact q
 ·subst q;lia
 ·have:=B j i q h1;lia
def zgK(q:Ris xs):∀ (M:Nat),(∀j,j<M->∃i:Nat,xs[i]?=some j)->∀ (j i:Nat),j<M->xs[i]?=some j->j<=i
 | _,_,0,_,_,_=>aN _
 | M,h,j+1,i,I,e=>by obtain⟨F,B⟩:=h j (by lia);have h1:=zoZ q B e (Nat.lt_succ_self j);have h2:=zgK q M h j F (by lia) B;lia
def zoY(q:Ris xs)(h:xs.size<M):∃j,j<M/\∀i:Nat,xs[i]?≠some j:=by refine ci λB=>?_;have all:∀j,j<M->∃i:Nat,xs[i]?=some j:=λj F=>ci λI=>B ⟨j,F,λi e=>I ⟨i,e⟩⟩;obtain⟨i,e⟩:=all (M - 1) (by lia);have h1:=zgK q M all (M - 1) i (by lia) e;have h2:=(xu e).1;lia
section
variable {t:SetTable}{hashAt:Nat->Int}{h:Int}
def zgH (F:Ris t.place)(I:t.dummies = #[]):∀ (q n:Nat),(∃N,n<=N/\N<n+q/\∀i:Nat,t.place[i]?≠some (wk t.mask h N))->
  ∃N,n<=N/\(∀m,n<=m->m<N->∃i,t.place[i]?=some (wk t.mask h m)/\hashAt i≠h)/\
   (((∀i:Nat,t.place[i]?≠some (wk t.mask h N))/\SetTable.probe.go t hashAt h q (stp t.mask h n)=some (.empty (wk t.mask h N) none))\/
    ∃i,t.place[i]?=some (wk t.mask h N)/\hashAt i=h/\SetTable.probe.go t hashAt h q (stp t.mask h n)=some (.candidate (wk t.mask h N) i (stp t.mask h (N+1))))
 | 0,n,⟨N,h1,h2,_⟩=>by lia
 | q+1,n,⟨N,h1,h2,J⟩=>by
  rcases zo9 F I (wk t.mask h n) with ⟨e,hn⟩ | ⟨i,e,hi⟩
  ·refine⟨n,ah _,λm a b=>by lia,.inl ⟨hn,?_⟩⟩;show (match t.slot (wk t.mask h n) with | .empty=>some (SetTable.Met.empty (wk t.mask h n) (stp t.mask h n).dummy) | .dummy=>_ | .live i=>_)=_;rw[e,zeF]
  ·by_cases B:hashAt i=h
   ·refine⟨n,ah _,λm a b=>by lia,.inr ⟨i,hi,B,?_⟩⟩;show (match t.slot (wk t.mask h n) with | .empty=>_ | .dummy=>_ | .live i=>if hashAt i==h then some (SetTable.Met.candidate (wk t.mask h n) i (t.advance (stp t.mask h n))) else _)=_;rw[e];show (if (hashAt i==h)=true then _ else _)=_;rw[if_pos (beq_iff_eq.mpr B)];rfl
   ·have Z:n≠N:=λz=>by subst z;exact J i hi
    obtain⟨N',a1,O,a3⟩:=zgH F I q (n+1) ⟨N,by lia,by lia,J⟩
    have e2:SetTable.probe.go t hashAt h (q+1) (stp t.mask h n)=SetTable.probe.go t hashAt h q (stp t.mask h (n+1)):=by show (match t.slot (wk t.mask h n) with | .empty=>_ | .dummy=>_ | .live i=>if hashAt i==h then _ else SetTable.probe.go t hashAt h q (t.advance (stp t.mask h n)))=_;rw[e];show (if (hashAt i==h)=true then _ else _)=_;rw[if_neg (λz=>B (beq_iff_eq.mp z))];rfl
    refine⟨N',by lia,λm b1 U=>?_,?_⟩
    ·by_cases Y:m=n
     ·subst Y;exact⟨i,hi,B⟩
     ·exact O m (by lia) U
    ·simp_all
end
section
variable {prog:Program}{w:World}
abbrev tk (prog:Program)(w:World):HeapKind prog w (List Key):=tupleKind (zO prog w)
def zsG (t:SetTable)(h:Int)(i:Nat):Prop:=∃n,n<10 * SetTable.turns t.mask/\t.place[i]?=some (wk t.mask h n)/\∀m,m<n->∃q:Nat,t.place[q]?=some (wk t.mask h m)
def uP (m:Nat):Prop:=m=7\/m=31\/m=127\/m=511
def uP.ring(h:uP m):Ring (m+1):=by
 rcases h with rfl | rfl | rfl | rfl
 ·exact zt6
 ·exact zrv
 ·exact zoW
 ·exact zoX
def uP.le(h:uP m):7<=m/\m<=511:=by rcases h with rfl | rfl | rfl | rfl <;> lia
def uP.odd(h:uP m):(m % 2==0)=false:=by rcases h with rfl | rfl | rfl | rfl <;> rfl
structure Tb (prog:Program)(w:World)(t:SetTable)(es:Array (Int×Value))(xs:List (List Key×Addr)):Prop where
 eq:es.toList=xs.map λq=>((tk prog w).hash q.1,Value.ref q.2)
 nd:(xs.map (·.1)).Nodup
 dm:t.dummies = #[]
 ris:Ris t.place
 le:∀ (i j:Nat),t.place[i]?=some j->j<=t.mask
 sz:t.place.size=xs.length
 msk:uP t.mask
 few:xs.length<=t.mask
 plain:t.plain=true
 led:t.led = !w.params.followText "set-order"
 reach:∀ (i:Nat) (q:List Key×Addr),xs[i]?=some q->zsG t ((tk prog w).hash q.1) i
variable {t:SetTable}{es:Array (Int×Value)}{xs:List (List Key×Addr)}
def Tb.size (T:Tb prog w t es xs):es.size=xs.length:=by rw[<- aK,T.eq,ab]
def Tb.get (T:Tb prog w t es xs){i:Nat}{q:List Key×Addr}(h:xs[i]?=some q):es[i]?=some ((tk prog w).hash q.1,Value.ref q.2):=by rw[<- bU,T.eq,aE,h];rfl
def Tb.at' (T:Tb prog w t es xs){i j:Nat}(h:t.place[i]?=some j):∃q,xs[i]?=some q:=by
 have:=(xu h).1;rw[T.sz] at this
 simp_all
def Tb.fits (T:Tb prog w t es xs):t.fits es.size=true:=by unfold SetTable.fits SetTable.fill;rw[T.size,T.sz,T.dm];have:=T.few;simp;lia
def Tb.empty (T:Tb prog w t es xs)(h:Int):∃N,N<10 * SetTable.turns t.mask/\∀i:Nat,t.place[i]?≠some (wk t.mask h N):=by have:=T.few;obtain⟨j,q,B⟩:=zoY T.ris (M:=t.mask+1) (by rw[T.sz];lia);obtain⟨N,h1,h2⟩:=zl3 T.msk.ring h (cQ q);exact⟨N,h1,by rw[h2];exact B⟩
variable {A:Around}{E:Value->Shared->Prop}{s:Shared}
def zeY(h:(zO prog w).is k v=true):(∃i t,v = .int i t)\/∃x t,v = .str x t:=by
 rcases zJ h with ⟨i,t,_,e⟩ | ⟨x,t,_,e⟩
 ·exact .inl ⟨i,t,e⟩
 ·exact .inr ⟨x,t,e⟩
def zbG:∀ {ks:List Key} {vs:List Value},ItemsAre (zO prog w) ks vs->∀v∈vs,(∃i t,v = .int i t)\/∃x t,v = .str x t
 | _,_,.nil,v,h=>by simp at h
 | _,_,.cons h1 h2,v,h=>by
  rcases ay.mp h with rfl | h
  ·exact zeY h1
  ·exact zbG h2 v h
def zcz(O:(tk prog w).is s.heap k b)(h:Q false s):wpAny (model prog w) A (ofAClassStatement 8 (.ref b)) Q E s:=by
 have F:IsTupleKey (zO prog w) s.heap k b:=O;have U:=F.typeIs;obtain⟨o,B,n,Y,_,Z,hi⟩:=F;unfold ofAClassStatement;refine aa (cS U ?_);dsimp only;rw[if_pos (by decide)];refine aa (ae ?_);simp only[cV,aL,if_false];refine aa (eE Y Z ?_);refine aa ?_;show wpAny _ _ (forIn B _ _) _ _ s;rw[<- ee];refine cY _ (λzw r s'=>r.1=none/\s'=s/\∀v∈zw,(∃i t,v=Value.int i t)\/∃x t,v=Value.str x t) _ ?_ ?_ _ _ ⟨rfl,rfl,zbG hi⟩
 ·rintro v zw r s' ⟨I,rfl,q⟩
  have e:ofAClassStatement 7 v=pure false:=by rcases q v ak with ⟨i,t,rfl⟩ | ⟨x,t,rfl⟩ <;> rfl
  rw[e];refine aa (ae ?_);simp only[aL,if_false];exact ae ⟨rfl,rfl,λu J=>q u (ai _ J)⟩
 ·rintro⟨r1,r2⟩ s' ⟨I,rfl,_⟩;simp only at I;subst I;exact ae h
def zrZ(U:(tk prog w).is s.heap k b):∀ (l:List Value),(∀v∈l,∃F q,v = .ref q/\(tk prog w).is s.heap F q)->Q false s->wpAny (model prog w) A (searchCouldBeSeen (.ref b) l) Q E s:=by
 intro l Y h;unfold searchCouldBeSeen;refine aa ?_;refine cY _ (λzw r s'=>r.1=none/\s'=s/\∀v∈zw,∃F q,v=Value.ref q/\(tk prog w).is s.heap F q) _ ?_ ?_ _ _ ⟨rfl,rfl,Y⟩
 ·rintro v zw r s' ⟨J,rfl,B⟩;obtain⟨F,q,rfl,I⟩:=B v ak;have next:∀u∈zw,∃F q,u=Value.ref q/\(tk prog w).is s'.heap F q:=λu O=>B u (ai _ O);dsimp only;split
  ·exact ae ⟨rfl,rfl,next⟩
  ·refine aa ((tk prog w).quiet U ?_);simp only[cV,aL,if_false];refine aa ((tk prog w).quiet I ?_);simp only[cV,aL,if_false];refine aa (zcz U ?_);simp only[aL,if_false];refine aa (zcz I ?_);simp only[aL,if_false];exact ae ⟨rfl,rfl,next⟩
 ·rintro⟨Z,r2⟩ s' ⟨J,rfl,_⟩;simp only at J;subst J;exact ae h
end
section
variable {prog:Program}{w:World}{t:SetTable}{es:Array (Int×Value)}{xs:List (List Key×Addr)}{A:Around}{E:Value->Shared->Prop}{s:Shared}
def zdI (t:SetTable)(xs:List (List Key×Addr))(h:Int)(k:List Key)(n:Nat):Prop:=∀m,m<n->∃ (i:Nat) (q:List Key×Addr),t.place[i]?=some (wk t.mask h m)/\xs[i]?=some q/\q.1≠k
def zeB {a b:Addr}{o:Obj}{ep:Nat}{k:List Key}{adding:Bool}{Q:SetFound->Shared->Prop}(hu:A.units<cLine)(T:Tb prog w t es xs)(hk:(tk prog w).is s.heap k b)(hel:∀q∈xs,(tk prog w).is s.heap q.1 q.2)
  (ho:s.heap.get? a=some o) (hd:o.data = .set es ep t)
  (found:∀r i q,xs[i]?=some q->q.1=k->(r=none/\adding=true\/r=some i)->Q (.there r) s)
  (free:∀N,N<10 * SetTable.turns t.mask->(∀i:Nat,t.place[i]?≠some (wk t.mask ((tk prog w).hash k) N))->zdI t xs ((tk prog w).hash k) k N->Q (.free (wk t.mask ((tk prog w).hash k) N) false) s) :
  ∀ (fuel n:Nat) (stand:Option SetTable.Probe),stand.getD (t.probeStart ((tk prog w).hash k))=stp t.mask ((tk prog w).hash k) n->10 * SetTable.turns t.mask<n+fuel->n<=10 * SetTable.turns t.mask->zdI t xs ((tk prog w).hash k) k n->
   wpAny (model prog w) A (setSearchFrom a (.ref b) ((tk prog w).hash k) adding fuel stand) Q E s
 | 0,n,stand,_,h2,h3,_=>by lia
 | fuel+1,n,stand,h1,h2,h3,h4=>by
  unfold setSearchFrom;refine aa (bE ho hd T.fits ?_);dsimp only;rw[show t.gaveWay=false from T.msk.odd];simp only[aL,if_false];rw[h1];obtain⟨N0,hN0,eN0⟩:=T.empty ((tk prog w).hash k)
  have hn0:n<=N0:=by
   rcases Nat.lt_or_ge N0 n with q | q
   ·obtain⟨i,_,e,_⟩:=h4 N0 q;exact absurd e (eN0 i)
   ·exact q
  have pass:∀N,n<=N->(∀m,n<=m->m<N->∃i:Nat,t.place[i]?=some (wk t.mask ((tk prog w).hash k) m)/\(es[i]?.map (·.1)).getD 0≠(tk prog w).hash k)->zdI t xs ((tk prog w).hash k) k N:=λN hN hh m hm=>by
   rcases Nat.lt_or_ge m n with q | q
   ·exact h4 m q
   ·obtain⟨i,e1,e2⟩:=hh m q hm;obtain⟨q,hq⟩:=T.at' e1;refine⟨i,q,e1,hq,λz=>e2 ?_⟩;rw[T.get hq,<- z];rfl
  obtain⟨N,hN,hp,hc⟩:=zgH (t:=t) (hashAt:=λi=>(es[i]?.map (·.1)).getD 0) (h:=(tk prog w).hash k) T.ris T.dm (10 * SetTable.turns t.mask) n ⟨N0,hn0,by lia,eN0⟩
  have hNle:N<=N0:=by
   rcases Nat.lt_or_ge N0 N with q | q
   ·obtain⟨i,e,_⟩:=hp N0 hn0 q;exact absurd e (eN0 i)
   ·exact q
  rcases hc with ⟨he,hg⟩ | ⟨i,hi,hh,hg⟩
  ·have hg':t.probe (λi=>(es[i]?.map (·.1)).getD 0) ((tk prog w).hash k) (stp t.mask ((tk prog w).hash k) n)=some (.empty (wk t.mask ((tk prog w).hash k) N) none):=hg;have fin:=free N (by lia) he (pass N hN hp);generalize hm:SetTable.probe t _ _ _=met;have:met=some (.empty (wk t.mask ((tk prog w).hash k) N) none):=hm.symm.trans hg';rw[this];dsimp only;exact ae fin
  ·have hg':t.probe (λi=>(es[i]?.map (·.1)).getD 0) ((tk prog w).hash k) (stp t.mask ((tk prog w).hash k) n)=some (.candidate (wk t.mask ((tk prog w).hash k) N) i (stp t.mask ((tk prog w).hash k) (N+1))):=hg;generalize hm:SetTable.probe t _ _ _=met;have:met=some (.candidate (wk t.mask ((tk prog w).hash k) N) i (stp t.mask ((tk prog w).hash k) (N+1))):=hm.symm.trans hg';rw[this];dsimp only;obtain⟨q,hq⟩:=T.at' hi;have hqe:=T.get hq;have hqk:=hel q (aA hq);have stl:t.slot (wk t.mask ((tk prog w).hash k) N) = .live i:=zay T.ris hi
   have core:wpAny (model prog w) A (do
     let some (_,y):=es[i]? | unsupported "internal:set-entry"
     let equal <- holding [y] (eqBool y (.ref b))
     let (es',_,t') <- setState a
     if adding&&equal then return .there none
     let some smem:=t'.sameMemory t.moves t.mask | unsupported "set.changed-during-lookup:is-the-new-block-at-the-old-address"
     let still <- match (if smem then t'.slot (wk t.mask ((tk prog w).hash k) N) else .empty) with
      | .live i'=>match es'[i']? with
       | some (_,y')=>do pure (if <- isSame y' y then some i' else none)
       | none=>pure none
      | _=>pure none
     match still with
     | none=>rule "set.search.anew";setSearchFrom a (.ref b) ((tk prog w).hash k) adding fuel none
     | some i'=>if equal then return .there (some i') else setSearchFrom a (.ref b) ((tk prog w).hash k) adding fuel (some (stp t.mask ((tk prog w).hash k) (N+1)))) Q E s:=by
    rw[hqe];dsimp only;refine aa (bL ((tk prog w).eqBool hu hqk hk ?_));refine aa (bE ho hd T.fits ?_);dsimp only;by_cases hkk:q.1=k
    ·rw[aD hkk]
     cases adding with
     | true=>
      simp only[Bool.and_self,if_true];exact ae (found none i q hq hkk (.inl ⟨rfl,rfl⟩))
     | false=>
      simp only[Bool.false_and,aL,if_false];have e1:t.sameMemory t.moves t.mask=some true:=by unfold SetTable.sameMemory;simp
      rw[e1];dsimp only;simp only[if_true];rw[stl];dsimp only;rw[hqe];dsimp only;refine aa (wpAny_isSame_ref_self (aa (ae ?_)));simp only[if_true];exact ae (found (some i) i q hq hkk (.inr rfl))
    ·rw[aO hkk];simp only[Bool.and_false,aL,if_false];have e1:t.sameMemory t.moves t.mask=some true:=by unfold SetTable.sameMemory;simp
     rw[e1];dsimp only;simp only[if_true];rw[stl];dsimp only;rw[hqe];dsimp only;refine aa (wpAny_isSame_ref_self (aa (ae ?_)));simp only[if_true];refine zeB hu T hk hel ho hd found free fuel (N+1) _ rfl (by lia) (by lia) λm hm=>?_;rcases Nat.lt_succ_iff_lt_or_eq.mp hm with z | z
     ·exact pass N hN hp m z
     ·subst z;exact⟨i,q,hi,hq,hkk⟩
   split
   ·refine aa (zrZ hk _ (λv hv=>?_) ?_)
    ·obtain⟨e,he,rfl⟩:=aG.mp hv
     have he':e∈es.toList:=by have:=b6.mp he;exact b6.mpr (Array.mem_filter.mp this).1
     rw[T.eq] at he';obtain⟨q',hq',rfl⟩:=aG.mp he';exact⟨_,_,rfl,hel q' hq'⟩
    ·simp only[aL,if_false];exact core
   ·exact core
end
def zd7 {α:Type}(l:List α)(p:Nat)(x:α):List α:=l.take p++x::l.drop p
def zfi {α:Type}{l:List α}{p i:Nat}{x:α}(hp:p<=l.length)(h:i<p):(zd7 l p x)[i]?=l[i]?:=by unfold zd7;rw[bt (by grind),bT h]
def zfg{α:Type}{l:List α}{x:α}(hp:p<=l.length):(zd7 l p x)[p]?=some x:=by
 unfold zd7
 simp_all
def zfh {α:Type}{l:List α}{p i:Nat}{x:α}(hp:p<=l.length)(h:p<=i):(zd7 l p x)[i+1]?=l[i]?:=by unfold zd7;rw[bf (by grind),bn,show i+1 - min p l.length=(i - p)+1 by lia,ef,fJ,show p+(i - p)=i by lia]
def zc2 {α:Type}{l:List α}{p:Nat}{x:α}(hp:p<=l.length):(zd7 l p x).length=l.length+1:=by
 unfold zd7
 grind
def zkL {α q:Type}(f:α->q)(l:List α)(p:Nat)(x:α):(zd7 l p x).map f=zd7 (l.map f) p (f x):=by
 unfold zd7
 simp_all
def zit {α:Type}(l:List α)(p:Nat)(x:α):(zd7 l p x).Perm (x::l):=by
 unfold zd7;refine List.perm_middle.trans ?_
 simp_all
def yc{α:Type}(xs:Array α)(x:α):(SetTable.insertAt xs p x).toList=zd7 xs.toList p x:=by
 unfold SetTable.insertAt zd7;rw[be,bN,Array.toList_extract,Array.toList_extract,List.extract_eq_take_drop,List.extract_eq_take_drop];rw[gg,dE,ax];congr 1;show x::_=_;congr 1;show []++List.take _ (List.drop p xs.toList)=_;rw[fq];refine a8 ?_
 simp_all
def zca {α:Type}(xs:Array α)(i:Nat):xs[i]?=xs.toList[i]?:=by simp_all
def zfj{xs:Array Nat}(hp:p<=xs.size)(h:xs[i]?=some v):(SetTable.insertAt xs p j)[if i<p then i else i+1]?=some v:=by
 rw[zca,yc];rw[zca] at h;have q:p<=xs.toList.length:=by rw[aK];exact hp
 split
 ·rename_i hi;rw[zfi q hi,h]
 ·rename_i hi;rw[zfh q (by lia),h]
def zag{xs:Array Nat}(hp:p<=xs.size)(h:(SetTable.insertAt xs p j)[i]?=some v):(i=p/\v=j)\/(i<p/\xs[i]?=some v)\/∃B,i=B+1/\p<=B/\xs[B]?=some v:=by
 rw[zca,yc] at h;have F:p<=xs.toList.length:=by rw[aK];exact hp
 rcases cz i p with q | q | q
 ·rw[zfi F q,<- zca] at h
  simp_all
 ·subst q;rw[zfg F] at h
  simp_all
 ·obtain⟨B,rfl⟩:∃B,i=B+1:=⟨i - 1,by lia⟩;rw[zfh F (by lia),<- zca] at h;exact .inr (.inr ⟨B,rfl,by lia,h⟩)
def zhk(Z:Ris xs)(hn:∀i:Nat,xs[i]?≠some j):Ris (SetTable.insertAt xs (SetTable.below xs j) j):=by
 obtain⟨J,b2,b3⟩:=xy Z j;intro i i2 U h2;have e1:=zfa (xs:=SetTable.insertAt xs (SetTable.below xs j) j) (i:=i) (by lia);have I:=zfa h2;generalize (SetTable.insertAt xs (SetTable.below xs j) j).getD i 0=v at e1;generalize (SetTable.insertAt xs (SetTable.below xs j) j).getD i2 0=O at I
 have Y:∀i v,SetTable.below xs j<=i->xs[i]?=some v->j<v:=λi v h e=>by
  obtain⟨a1,a2⟩:=xu e
  grind
 have F:∀i v,i<SetTable.below xs j->xs[i]?=some v->v<j:=λi v h e=>by obtain⟨a1,a2⟩:=xu e;have:=b2 i h;lia
 have B:∀i i2 v O,i<i2->xs[i]?=some v->xs[i2]?=some O->v<O:=λi i2 v O h e I=>by
  obtain⟨a1,a2⟩:=xu e;obtain⟨a3,a4⟩:=xu I;have:=Z i i2 h a3
  omega
 rcases zag J e1 with ⟨rfl,rfl⟩ | ⟨q,e⟩ | ⟨i',rfl,q,e⟩
 ·rcases zag J I with ⟨rfl,rfl⟩ | ⟨q',e'⟩ | ⟨i'',rfl,q',e'⟩
  ·lia
  ·lia
  ·exact Y _ _ q' e'
 ·rcases zag J I with ⟨rfl,rfl⟩ | ⟨q',e'⟩ | ⟨i'',rfl,q',e'⟩
  ·exact F _ _ q e
  ·exact B _ _ _ _ U e e'
  ·exact B _ _ _ _ (by lia) e e'
 ·rcases zag J I with ⟨rfl,rfl⟩ | ⟨q',e'⟩ | ⟨i'',rfl,q',e'⟩
  ·lia
  ·lia
  ·exact B _ _ _ _ (by lia) e e'
section
variable {prog:Program}{w:World}{t:SetTable}{es:Array (Int×Value)}{xs:List (List Key×Addr)}
def znx:SetTable.has #[] j=false:=rfl
def Tb.put(T:Tb prog w t es xs)(hN:N<10 * SetTable.turns t.mask)(he:∀i:Nat,t.place[i]?≠some (wk t.mask ((tk prog w).hash k) N))(hp:zdI t xs ((tk prog w).hash k) k N)(hk:k∉xs.map (·.1))(hf:xs.length+1<=t.mask)(ac:wk t.mask ((tk prog w).hash k) N<=t.mask) :
  ∃O,Tb prog w (t.put (wk t.mask ((tk prog w).hash k) N)).1 (SetTable.insertAt es (t.put (wk t.mask ((tk prog w).hash k) N)).2 ((tk prog w).hash k,.ref b)) O/\O.Perm ((k,b)::xs):=by
 generalize hj:wk t.mask ((tk prog w).hash k) N=j at *;obtain⟨U,b2,b3⟩:=xy T.ris j;have ad:(t.put j).2=SetTable.below t.place j:=rfl
 have ht:(t.put j).1={ t with place:=SetTable.insertAt t.place (SetTable.below t.place j) j }:=by
  unfold SetTable.put;dsimp only;rw[T.dm,znx]
  grind
 generalize ag:SetTable.below t.place j=p at *;have F:p<=xs.length:=by rw[<- T.sz];exact U
 have B:∀ {i v:Nat},t.place[i]?=some v->∃I:Nat,(SetTable.insertAt t.place p j)[I]?=some v:=λ{i v} h=>⟨_,zfj U h⟩;have Y:=zit xs p (k,b);refine⟨zd7 xs p (k,b),?_,Y⟩;rw[ad,ht];refine⟨?_,?_,T.dm,?_,?_,?_,T.msk,?_,T.plain,T.led,?_⟩
 ·rw[yc,T.eq,zkL]
 ·rw[(Y.map (·.1)).nodup_iff,au,cL];exact⟨hk,T.nd⟩
 ·have:=zhk T.ris he
  simp_all
 ·intro i v e;rcases zag U e with ⟨_,rfl⟩ | ⟨_,e'⟩ | ⟨_,_,_,e'⟩
  ·exact ac
  ·exact T.le _ _ e'
  ·exact T.le _ _ e'
 ·show (SetTable.insertAt t.place p j).size=_;rw[<- aK,yc,zc2 (by simp_all),zc2 F,aK,T.sz]
 ·show (zd7 xs p (k,b)).length<=t.mask;rw[zc2 F];exact hf
 ·intro i q J;rcases cz i p with z | z | z
  ·rw[zfi F z] at J;obtain⟨n,h1,h2,h3⟩:=T.reach i q J;refine⟨n,h1,?_,λm Z=>?_⟩
   ·have:=zfj (j:=j) U h2
    simp_all
   ·obtain⟨I,e⟩:=h3 m Z;exact B e
  ·subst z;rw[zfg F] at J;cases J;refine⟨N,hN,?_,λm Z=>?_⟩
   ·show (SetTable.insertAt t.place i j)[i]?=_;rw[zca,yc,zfg (by simp_all)]
    simp_all
   ·obtain⟨I,q',e,_⟩:=hp m Z;exact B e
  ·obtain⟨I,rfl⟩:∃I,i=I+1:=⟨i - 1,by lia⟩;rw[zfh F (by lia)] at J;obtain⟨n,h1,h2,h3⟩:=T.reach I q J;refine⟨n,h1,?_,λm Z=>?_⟩
   ·have:=zfj (j:=j) U h2;rw[if_neg (by lia)] at this;exact this
   ·obtain⟨I,e⟩:=h3 m Z;exact B e
end
def zdc:∀ (n:Nat) {l:List Nat},l.Nodup->(∀x∈l,x<n)->l.length<=n
 | 0,l,_,h=>by
  cases l with
  | nil=>exact ah _
  | cons a _=>exact absurd (h a ak) (cP _)
 | n+1,l,q,h=>by
  by_cases F:n∈l
  ·have h1:=zdc n (q.erase n) λx B=>by
    grind
   grind
  ·have:=zdc n q λx B=>by
    grind
   lia
def zdm {α:Type}[BEq α][LawfulBEq α]:∀ {l l':List α},l.Nodup->l'.Nodup->(∀x,x∈l↔x∈l')->l.Perm l'
 | [],l',_,_,h=>by
  cases l' with
  | nil=>exact .nil
  | cons a _=>exact absurd ((h a).mpr ak) (by simp)
 | a::l,l',B,q,h=>by grind
def St0 (q:Nat)(h:Int)(K:Nat):SetTable.Probe:=⟨(lp q h K).1,SetTable.runEnd q (lp q h K).1 - (lp q h K).1,(lp q h K).1,(lp q h K).2,none⟩
def ziR {q:Nat}{h:Int}{T K:Nat}(e:stp q h T=St0 q h K):stp q h (T+(SetTable.runEnd q (lp q h K).1 - (lp q h K).1)+1)=St0 q h (K+1):=by show (tm q).advance (stp q h (T+_))=_;rw[zdz q h e _ (ah _),zcM q _ (Nat.sub_self _)];rfl
def zqo (q:Nat)(h:Int):∀K,(lp q h K).1<=q
 | 0=>cQ (fR _ (fH _))
 | K+1=>cQ (fR _ (fH _))
def zb1 {q i:Nat}(h:i<=q):SetTable.runEnd q i<=q/\i<=SetTable.runEnd q i:=by unfold SetTable.runEnd;split <;> lia
def zd1{h:Int}{owner:Array (Option Nat)}(hs:owner.size=q+1):∀ (B K T:Nat),T<=10 * K->stp q h T=St0 q h K->(∀m,m<T->∃F,owner[wk q h m]?=some (some F))->
  (∃K',K<=K'/\K'<K+B/\owner[(lp q h K').1]?=some none)->
  ∃N,SetTable.layClean.free q owner B (lp q h K).1 (lp q h K).2=some (wk q h N)/\N<10 * (K+B)/\wk q h N<=q/\owner[wk q h N]?=some none/\∀m,m<N->∃F,owner[wk q h m]?=some (some F)
 | 0,K,T,_,_,_,⟨K',h1,h2,_⟩=>by lia
 | B+1,K,T,hT,eT,ad,⟨K',h1,h2,h3⟩=>by
  have a0:=zqo q h K;obtain⟨r1,r2⟩:=zb1 a0;have r9:=zmL q (lp q h K).1
  have I:∀k,k<=SetTable.runEnd q (lp q h K).1 - (lp q h K).1->wk q h (T+k)=(lp q h K).1+k:=λk Y=>by show (stp q h (T+k)).j=_;rw[zdz q h eT k Y]
  have inR:∀k,k<=SetTable.runEnd q (lp q h K).1 - (lp q h K).1->∃u,owner[(lp q h K).1+k]?=some u/\owner.getD ((lp q h K).1+k) (some 0)=u:=λk Y=>by
   have a5:(lp q h K).1+k<owner.size:=by lia
   simp_all
  show ∃N,(match (List.range (SetTable.runEnd q (lp q h K).1+1 - (lp q h K).1)).find? λk=>(owner.getD ((lp q h K).1+k) (some 0)).isNone with
   | some k=>some ((lp q h K).1+k)
   | none=>SetTable.layClean.free q owner B (lp q h (K+1)).1 (lp q h (K+1)).2)=some (wk q h N)/\_
  cases hf:(List.range (SetTable.runEnd q (lp q h K).1+1 - (lp q h K).1)).find? λk=>(owner.getD ((lp q h K).1+k) (some 0)).isNone with
  | some k=>
   obtain⟨hp,i,hi,ag,al⟩:=List.find?_eq_some_iff_getElem.mp hf;rw[eh] at ag;subst ag;rw[bm] at hi;have Y:i<=SetTable.runEnd q (lp q h K).1 - (lp q h K).1:=by lia
   obtain⟨u,J,O⟩:=inR i Y;rw[O] at hp
   have a4:u=none:=by
    cases u with
    | none=>rfl
    | some z=>exact absurd hp (by simp)
   subst a4;refine⟨T+i,by rw[I i Y],by lia,by rw[I i Y];lia,by rw[I i Y];exact J,λm hm=>?_⟩;by_cases ac:m<T
   ·exact ad m ac
   ·obtain⟨U,rfl⟩:∃U,m=T+U:=⟨m - T,by lia⟩;obtain⟨u,J,O⟩:=inR U (by lia);have:=al U (by lia);rw[eh,O] at this;rw[I U (by lia),J]
    cases u with
    | none=>simp at this
    | some F=>exact⟨F,rfl⟩
  | none=>
   have an:=List.find?_eq_none.mp hf
   have Z:∀k,k<=SetTable.runEnd q (lp q h K).1 - (lp q h K).1->∃F,owner[(lp q h K).1+k]?=some (some F):=λk Y=>by
    obtain⟨u,J,O⟩:=inR k Y;have:=an k (aQ.mpr (by lia));rw[O] at this
    cases u with
    | none=>simp at this
    | some F=>exact⟨F,J⟩
   have a7:K≠K':=λz=>by
    subst z;obtain⟨F,e⟩:=Z 0 (aN _)
    grind
   have as:∀m,m<T+(SetTable.runEnd q (lp q h K).1 - (lp q h K).1)+1->∃F,owner[wk q h m]?=some (some F):=λm hm=>by
    by_cases ac:m<T
    ·exact ad m ac
    ·obtain⟨U,rfl⟩:∃U,m=T+U:=⟨m - T,by lia⟩;rw[I U (by lia)];exact Z U (by lia)
   obtain⟨N,a1,a2,a3⟩:=zd1 hs B (K+1) _ (by lia) (ziR eT) as ⟨K',by lia,by lia,h3⟩;exact⟨N,a1,by lia,a3⟩
structure Own (mask:Nat)(hs:List Int)(n:Nat)(owner:Array (Option Nat)):Prop where
 size:owner.size=mask+1
 lt:∀ (j i:Nat),owner[j]?=some (some i)->i<n
 inj:∀ (j j' i:Nat),owner[j]?=some (some i)->owner[j']?=some (some i)->j=j'
 reach:∀ (i:Nat) (h:Int),i<n->hs[i]?=some h->∃N,N<10 * SetTable.turns mask/\owner[wk mask h N]?=some (some i)/\∀m,m<N->∃i',owner[wk mask h m]?=some (some i')
def Own.gap{hs:List Int}(o:Own q hs n owner)(hn:n<=q):∃j,j<=q/\owner[j]?=some none:=by
 refine ci λJ=>?_
 have all:∀j,j<q+1->∃i,owner[j]?=some (some i):=λj F=>by
  have O:j<owner.size:=by rw[o.size];exact F
  cases e:owner[j] with
  | none=>exact absurd ⟨j,cQ F,by simp_all⟩ J
  | some i=>exact⟨i,by simp_all⟩
 have U:=zdc n (l:=(List.range (q+1)).map λj=>((owner[j]?).join).getD 0) ?_ ?_
 ·rw[ab,bm] at U;lia
 ·refine bO.mpr (List.Pairwise.imp_of_mem ?_ eP);intro a b Y Z I e;refine I ?_;obtain⟨i,hi⟩:=all a (aQ.mp Y);obtain⟨i',B⟩:=all b (aQ.mp Z);rw[hi,B] at e;have:i=i':=e;subst this;exact o.inj _ _ _ hi B
 ·intro x hx;obtain⟨j,F,rfl⟩:=aG.mp hx;obtain⟨i,hi⟩:=all j (aQ.mp F);rw[hi];exact o.lt _ _ hi
def Own.step{hs:List Int}{h:Int}(o:Own B hs n owner)(hr:Ring (B+1))(hn:n<=B)(hh:hs[n]?=some h) :
  ∃j,SetTable.layClean.free B owner (SetTable.turns B) (SetTable.bits h % (B+1)) (SetTable.bits h)=some j/\Own B hs (n+1) (owner.setIfInBounds j (some n)):=by
 obtain⟨g,hg,eg⟩:=o.gap hn;have hb:(lp B h 13).1<B+1:=fS (zqo B h 13);obtain⟨k,hk,e⟩:=hr.reach hb (fS hg);obtain⟨N,h1,h2,h3,h4,h5⟩:=zd1 o.size (SetTable.turns B) 0 0 (ah _) (h:=h) rfl (λm Y=>absurd Y (cP _)) ⟨13+k,aN _,by unfold SetTable.turns;lia,by rw[zi4,e];exact eg⟩;have hj:wk B h N<owner.size:=by rw[o.size];lia
 have I:(owner.setIfInBounds (wk B h N) (some n))[wk B h N]?=some (some n):=by simp_all
 have F:∀j,j≠wk B h N->(owner.setIfInBounds (wk B h N) (some n))[j]?=owner[j]?:=λj ac=>by rw[Array.getElem?_setIfInBounds];rw[if_neg (λz=>ac z.symm)]
 have J:∀j i,owner[j]?=some (some i)->(owner.setIfInBounds (wk B h N) (some n))[j]?=some (some i):=λj i e=>by
  by_cases q:j=wk B h N
  ·rw[q,h4] at e;cases e
  ·rw[F j q];exact e
 refine⟨wk B h N,h1,by simp[o.size],λj i e=>?_,λj j' i e U=>?_,λi h' hi O=>?_⟩
 ·by_cases q:j=wk B h N
  ·simp_all
  ·rw[F j q] at e;have:=o.lt _ _ e;lia
 ·by_cases q:j=wk B h N
  ·subst q;rw[I] at e;cases e;by_cases Z:j'=wk B h N
   ·exact Z.symm
   ·rw[F j' Z] at U;have:=o.lt _ _ U;lia
  ·rw[F j q] at e;by_cases Z:j'=wk B h N
   ·subst Z;rw[I] at U;cases U;have:=o.lt _ _ e;lia
   ·rw[F j' Z] at U;exact o.inj _ _ _ e U
 ·by_cases q:i=n
  ·subst q;rw[hh] at O;cases O;refine⟨N,by lia,I,λm Y=>?_⟩;obtain⟨i',e⟩:=h5 m Y;exact⟨i',J _ _ e⟩
  ·obtain⟨M,m1,m2,m3⟩:=o.reach i h' (by lia) O;refine⟨M,m1,J _ _ m2,λm Y=>?_⟩;obtain⟨i',e⟩:=m3 m Y;exact⟨i',J _ _ e⟩
def zli (q:Nat)(hs:List Int):Own q hs 0 (Array.replicate (q+1) none):=by
 have B:∀j i,(Array.replicate (q+1) (none:Option Nat))[j]?≠some (some i):=λj i e=>by
  rw[Array.getElem?_replicate] at e
  grind
 exact⟨by simp,λj i e=>absurd e (B j i),λj F i e=>absurd e (B j i),λi h hi=>absurd hi (cP _)⟩
def zge(J:Ring (B+1)):∀ (zw q:List Int) (owner:Array (Option Nat)),(q++zw).length<=B->Own B (q++zw) q.length owner->
  ∃F,zw.foldl (λ(acc:Option (Array (Option Nat)×Nat)) h=>acc.bind λx=>(SetTable.layClean.free B x.1 (SetTable.turns B) (SetTable.bits h % (B+1)) (SetTable.bits h)).bind λj=>some (x.1.setIfInBounds j (some x.2),x.2+1)) (some (owner,q.length))=some (F,(q++zw).length)/\Own B (q++zw) (q++zw).length F
 | [],q,owner,_,o=>by simp_all
 | h::zw,q,owner,I,o=>by
  have U:q.length+(zw.length+1)<=B:=by rw[aq,aT] at I;exact I
  obtain⟨j,e,o'⟩:=o.step J (by lia) (h:=h) (by simp);have O:q++h::zw=(q++[h])++zw:=by rw[ax];rfl
  have Y:q.length+1=(q++[h]).length:=by rw[aq];rfl
  rw[O,Y] at o';obtain⟨F,f1,f2⟩:=zge J zw (q++[h]) _ (by rw[<- O];exact I) o'
  grind
def zeh(B:Ring (q+1))(hs:Array Int)(F:hs.size<=q):∃owner,SetTable.layClean q hs=some owner/\Own q hs.toList hs.size owner:=by
 obtain⟨owner,h1,h2⟩:=zge B hs.toList [] (Array.replicate (q+1) none) (by simp_all) (zli q _);rw[fq,aK] at h2;refine⟨owner,?_,h2⟩;unfold SetTable.layClean
 simp_all
def yH (q:Nat)(owner:Array (Option Nat)):List (Nat×Nat):=(List.range (q+1)).filterMap λj=>(owner.getD j none).map (j,·)
def xk{hs:List Int}(o:Own q hs n owner):(j,i)∈yH q owner↔owner[j]?=some (some i):=by
 unfold yH;rw[c8];constructor
 ·rintro⟨O,F,e⟩;obtain⟨U,I,J⟩:=aF.mp e;cases J;have B:j<owner.size:=by rw[o.size];exact aQ.mp F
  simp_all
 ·intro e;obtain⟨B,I⟩:=cC.mp e;refine⟨j,aQ.mpr (by rw[<- o.size];exact B),?_⟩
  simp_all
def zi2 (q:Nat)(owner:Array (Option Nat)):(yH q owner).Pairwise λa b=>a.1<b.1:=by
 unfold yH;refine List.pairwise_filterMap.mpr ((c7).imp ?_)
 simp_all
def zi1{hs:List Int}(o:Own q hs hs.length owner):((yH q owner).map (·.2)).Perm (List.range hs.length):=by
 refine zdm ?_ eP λi=>?_
 ·refine bO.mpr (List.Pairwise.imp_of_mem ?_ (zi2 q owner));intro a b B F I e;have h1:=(xk o).mp B;have h2:=(xk o).mp F;rw[e] at h1;have:=o.inj _ _ _ h1 h2;lia
 ·rw[aQ];constructor
  ·intro h;obtain⟨⟨j,J⟩,h1,rfl⟩:=aG.mp h;exact o.lt _ _ ((xk o).mp h1)
  ·intro h;obtain⟨N,_,e,_⟩:=o.reach i hs[i] h (aj h);exact aG.mpr ⟨(_,i),(xk o).mpr e,rfl⟩
def zb0 {α:Type}(l:List α):(List.range l.length).filterMap (λi=>l[i]?)=l:=by
 have:∀ (n:Nat) (l:List α),n=l.length->(List.range n).filterMap (λi=>l[i]?)=l:=by
  intro n
  induction n with
  | zero=>intro l h;cases l with | nil=>rfl | cons _ _=>simp at h
  | succ n q=>
   intro l h
   cases l with
   | nil=>simp at h
   | cons a l=>
    rw[List.range_succ_eq_map,b8];show a::_=_;rw[List.filterMap_map];congr 1;exact q l (by simpa using h)
 exact this _ l rfl
section
variable {prog:Program}{w:World}{t:SetTable}{es:Array (Int×Value)}{xs:List (List Key×Addr)}
def Tb.laid(T:Tb prog w t es xs)(hm:uP B)(hl:xs.length<=B)(O Y:Nat) :
  ∃t' F ac,SetTable.laid B O Y t.led true (es.map (·.1))=some (t',F)/\(F.filterMap (es[·]?)).size=es.size/\Tb prog w t' (F.filterMap (es[·]?)) ac/\ac.Perm xs/\t'.mask=B:=by
 obtain⟨owner,e,o⟩:=zeh hm.ring (es.map (·.1)) (by rw[Array.size_map,T.size];exact hl)
 have hh:(es.map (·.1)).toList=xs.map λq=>(tk prog w).hash q.1:=by rw[ge,T.eq,aI];rfl
 have hsz:(es.map (·.1)).size=xs.length:=by rw[Array.size_map,T.size]
 rw[hh,hsz] at o;have o':Own B (xs.map λq=>(tk prog w).hash q.1) (xs.map λq=>(tk prog w).hash q.1).length owner:=by rw[ab];exact o
 have hp:=zi1 o';rw[ab] at hp
 have ad:((((yH B owner).map (·.2)).toArray).filterMap (es[·]?)).toList=((yH B owner).map (·.2)).filterMap (es.toList[·]?):=by simp_all
 have J:(((yH B owner).map (·.2)).filterMap (xs[·]?)).Perm xs:=by have:=hp.filterMap (xs[·]?);rw[zb0] at this;exact this
 have ag:((yH B owner).map (·.2)).filterMap (es.toList[·]?)=(((yH B owner).map (·.2)).filterMap (xs[·]?)).map λq=>((tk prog w).hash q.1,Value.ref q.2):=by rw[List.map_filterMap];congr 1;funext i;rw[T.eq,aE]
 have Z:∀ {c:Nat} {q:List Key×Addr},(((yH B owner).map (·.2)).filterMap (xs[·]?))[c]?=some q->∃j i,(yH B owner)[c]?=some (j,i)/\xs[i]?=some q:=by
  have a0:∀ (l:List (Nat×Nat)),(∀p∈l,p.2<xs.length)->∀ {c:Nat} {q:List Key×Addr},((l.map (·.2)).filterMap (xs[·]?))[c]?=some q->∃j i,l[c]?=some (j,i)/\xs[i]?=some q:=by
   intro l
   induction l with
   | nil=>intro _ c q h;simp at h
   | cons p l ih=>
    intro al c q h;have a1:=al p ak;rw[au,b8,aj a1] at h
    cases c with
    | zero=>
     refine⟨p.1,p.2,rfl,?_⟩
     simp_all
    | succ c=>exact ih (λp' a2=>al p' (ai _ a2)) (by simpa using h)
  intro c q h;refine a0 _ (λp hp=>?_) h;obtain⟨j,i⟩:=p;exact o.lt _ _ ((xk o).mp hp)
 have I:∀ {c j i:Nat},(yH B owner)[c]?=some (j,i)->(((yH B owner).map (·.1)).toArray)[c]?=some j:=λ{c j i} h=>by simp_all
 refine⟨_,_,((yH B owner).map (·.2)).filterMap (xs[·]?),by unfold SetTable.laid;rw[e];rfl,?_,⟨?_,?_,rfl,?_,?_,?_,hm,?_,rfl,by exact T.led,?_⟩,J,rfl⟩
 ·show ((((yH B owner).map (·.2)).toArray).filterMap (es[·]?)).size=es.size;rw[<- aK,ad,ag,ab,J.length_eq,T.size]
 ·exact ad.trans ag
 ·rw[(J.map (·.1)).nodup_iff];exact T.nd
 ·intro i j an hj
  have as:j<(yH B owner).length:=by
   have:(((yH B owner).map (·.1)).toArray).size=(yH B owner).length:=by simp
   rw[<- this];exact hj
  have a3:i<(yH B owner).length:=Nat.lt_trans an as;have:=bR.mp (zi2 B owner) i j a3 as an;show (((yH B owner).map (·.1)).toArray).getD i 0<(((yH B owner).map (·.1)).toArray).getD j 0
  simp_all
 ·intro c j hc;have U:((yH B owner).map (·.1))[c]?=some j:=by rw[zca] at hc;exact hc
  rw[aE] at U;obtain⟨⟨j',i'⟩,h1,rfl⟩:=aF.mp U;have h2:=(xk o).mp (aA h1);have:=(cC.mp h2).1;rw[o.size] at this;show j'<=B;lia
 ·show (((yH B owner).map (·.1)).toArray).size=_;have h1:(((yH B owner).map (·.1)).toArray).size=(yH B owner).length:=by simp
  rw[h1,J.length_eq];have:=hp.length_eq
  grind
 ·rw[J.length_eq];exact hl
 ·intro c q hq;obtain⟨j,i,h1,h2⟩:=Z hq;have hi:=(af.mp h2).1;obtain⟨N,n1,n2,n3⟩:=o.reach i ((tk prog w).hash q.1) hi (by simp_all);have hj:=o.inj _ _ _ ((xk o).mp (aA h1)) n2;subst hj;refine⟨N,n1,I h1,λm a4=>?_⟩;obtain⟨i',e'⟩:=n3 m a4;obtain⟨c',U,a5⟩:=b5.mp ((xk o).mpr e');exact⟨c',I (by rw[aj U,a5])⟩
end
section
variable {prog:Program}{w:World}{t:SetTable}{es:Array (Int×Value)}{xs:List (List Key×Addr)}{A:Around}{E:Value->Shared->Prop}{s:Shared}
def zbx (prog:Program)(w:World)(h:Heap)(a:Addr)(xs:List (List Key×Addr)):Prop:=∃o es ep t,h.get? a=some o/\o.ExactSet/\o.data = .set es ep t/\Tb prog w t es xs/\xs.length * 5<t.mask * 3
def zbm{ns:List Int}(hk:(tk prog w).is s.heap (ns.map Sum.inl) b)(h:Q true s):wpAny (model prog w) A (hashByValue 8 (.ref b)) Q E s:=by
 have J:IsTupleKey (zO prog w) s.heap (ns.map Sum.inl) b:=hk;have hT:=J.typeIs;obtain⟨o,B,n,ho,_,hd,hi⟩:=J
 have I:∀ {ns:List Int} {vs:List Value},ItemsAre (zO prog w) (ns.map Sum.inl) vs->∀v∈vs,∃i t,v=Value.int i t:=by
  intro ns
  induction ns with
  | nil=>intro vs h v O;cases h;simp at O
  | cons n ns ih=>
   intro vs h v O
   cases h with
   | cons h1 h2=>
    rcases ay.mp O with rfl | O
    ·have U:zfn (Sum.inl n) v=true:=h1;rcases zJ U with ⟨i,t,_,e⟩ | ⟨x,t,z,_⟩
     all_goals simp_all
    ·exact ih h2 v O
 unfold hashByValue;refine aa (di hT F.slot_tuple_hash.lookup ?_);dsimp only;refine aa (eE ho hd ?_);refine aa ?_;show wpAny _ _ (forIn B _ _) _ _ s;rw[<- ee];refine cY _ (λzw r s'=>r.1=none/\s'=s/\∀v∈zw,∃i t,v=Value.int i t) _ ?_ ?_ _ _ ⟨rfl,rfl,I hi⟩
 ·rintro v zw r s' ⟨Y,rfl,q⟩;obtain⟨i,t,rfl⟩:=q v ak;have e:hashByValue 7 (Value.int i t)=pure true:=rfl;rw[e];refine aa (ae ?_);simp only[cV,aL,if_false];exact ae ⟨rfl,rfl,λu Z=>q u (ai _ Z)⟩
 ·rintro⟨r1,r2⟩ s' ⟨Y,rfl,_⟩;simp only at Y;subst Y;exact ae h
def zcD{h:Heap}{a:Addr}{o:Obj}{es:Array (Int×Value)}{es':Array (Int×Value)}(B:h.get? a=some o)(q:o.data = .set es ep t) :
  (h.update a (Obj.putSet es' t')).get? a=some { o with data:=.set es' (ep+1) t' }:=by
 have:=cI (Obj.putSet es' t') B (by rw[putSet_of es' t' q];rfl);rw[putSet_of es' t' q] at this;exact this
def zlG(T:Tb prog w t es xs)(ho:s.heap.get? a=some o)(hx:o.ExactSet)(hd:o.data = .set es ep t)(hw:SetTable.sizeAbove wanted=mask+1)(hm:uP mask)(hl:xs.length * 5<mask * 3)(h:∀h' xs',Heap.SameBut a s.heap h'->zbx prog w h' a xs'->xs'.Perm xs->Q () { s with heap:=h' }):wpAny (model prog w) A (setRelay a wanted) Q E s:=by
 unfold setRelay;refine aa (bE ho hd T.fits ?_);dsimp only;have:=hm.le;rw[if_neg (by rw[hw,b9];lia)];obtain⟨t',order,xs',e,hsz,T',hp,hmk⟩:=T.laid hm (by lia) t.finger (t.movedTo mask)
 have e':t.relaid (es.map (·.1)) wanted=some (t',order):=by unfold SetTable.relaid;rw[hw,T.plain];exact e
 have core:∀ {R:Array (Int×Value)×SetTable->Shared->Prop},R (order.filterMap (es[·]?),t') s->wpAny (model prog w) A (do
   let some (t,order):=t.relaid (es.map (·.1)) wanted | unsupported "internal:set-table-without-room"
   let es':=order.filterMap (es[·]?)
   if es'.size != es.size then unsupported "internal:set-table-lost-an-element"
   pure (es',t)) R E s:=λ{R} hR=>by
  rw[e'];dsimp only;rw[hsz];simp only[fQ,aL,if_false]
  first | exact ae hR | exact aa (by grind)
 refine aa (core ?_);refine wpAny_storeSet_of ho hd ?_ (by rw[hsz,T.size,b9];lia);refine h _ xs' (ba _ a _) ⟨_,_,_,t',zcD ho hd,hx,rfl,T',?_⟩ hp;rw[hp.length_eq,hmk];exact hl
def Tb.out(T:Tb prog w t es xs)(Y:N<10 * SetTable.turns t.mask)(J:∀i:Nat,t.place[i]?≠some (wk t.mask ((tk prog w).hash k) N))(hp:zdI t xs ((tk prog w).hash k) k N):k∉xs.map (·.1):=λz=>by
 obtain⟨q,O,B⟩:=aG.mp z;obtain⟨i,hi⟩:=List.mem_iff_getElem?.mp O;obtain⟨n,h1,h2,I⟩:=T.reach i q hi;rw[B] at h2 I;rcases cz N n with z | z | z
 ·obtain⟨F,e⟩:=I N z;exact J F e
 ·simp_all
 ·obtain⟨F,Z,U,e2,e3⟩:=hp n z
  have:F=i:=by
   have a1:=zay T.ris U;have a2:=zay T.ris h2
   simp_all
  grind
def zpF{ns:List Int}(hu:A.units<cLine)(S:zbx prog w s.heap a xs)(hk:(tk prog w).is s.heap (ns.map Sum.inl) b)(a0:∀q∈xs,(tk prog w).is s.heap q.1 q.2)(hn:xs.length<300)(h:∀r h' n U,Heap.SameBut a s.heap h'->zbx prog w h' a U->((ns.map Sum.inl)∈xs.map (·.1)->U=xs)->((ns.map Sum.inl)∉xs.map (·.1)->U.Perm ((ns.map Sum.inl,b)::xs))->Q r { s with heap:=h',toks:=n }) :
  wpAny (model prog w) A (setAdd a (.ref b)) Q E s:=by
 obtain⟨o,es,ep,t,ho,hx,hd,T,B⟩:=S;unfold setAdd;refine bL (aa ((tk prog w).pyHash hu hk ?_));unfold setAddHashed;refine bL ?_;rw[show (100000:Nat)=99999+1 from rfl];unfold setAddHashedIn;refine aa (bE (s:={ s with toks:=s.toks+(tk prog w).draws (ns.map Sum.inl) }) ho hd T.fits ?_);dsimp only;rw[show byScan (.ref b) es=false from rfl];simp only[aL,if_false];unfold setSearch;have hm:=T.msk.le;have bb:t.fill=xs.length:=by unfold SetTable.fill;rw[T.sz,T.dm];rfl
 refine aa (zeB (s:={ s with toks:=s.toks+(tk prog w).draws (ns.map Sum.inl) }) hu T hk a0 ho hd ?found ?free 100000 0 none rfl (by unfold SetTable.turns;lia) (aN _) (λm hm=>absurd hm (cP _)))
 case found=>
  intro r i q hq a1 _;dsimp only;have ad:(ns.map Sum.inl)∈xs.map (·.1):=aG.mpr ⟨q,aA hq,a1⟩;exact ae (h false s.heap _ xs (Heap.SameBut.refl a s.heap) ⟨o,es,ep,t,ho,hx,hd,T,B⟩ (λ_=>rfl) (λz=>absurd ad z))
 case free=>
  intro N hN he hp;have Y:=T.out hN he hp;dsimp only;refine aa (bE (s:={ s with toks:=s.toks+(tk prog w).draws (ns.map Sum.inl) }) ho hd T.fits ?_);dsimp only
  have ag:wk t.mask ((tk prog w).hash (ns.map Sum.inl)) N<=t.mask:=by
   have:∀ (h:Int) (n:Nat),wk t.mask h n<=t.mask/\(stp t.mask h n).j+(stp t.mask h n).more<=t.mask:=by
    intro h n
    induction n with
    | zero=>
     have h0:SetTable.bits h % (t.mask+1)<=t.mask:=cQ (fR _ (fH _));obtain⟨r1,r2⟩:=zb1 h0;refine⟨h0,?_⟩;show SetTable.bits h % (t.mask+1)+(SetTable.runEnd t.mask (SetTable.bits h % (t.mask+1)) - SetTable.bits h % (t.mask+1))<=t.mask;lia
    | succ n ih=>
     show ((tm t.mask).advance (stp t.mask h n)).j<=t.mask/\((tm t.mask).advance (stp t.mask h n)).j+((tm t.mask).advance (stp t.mask h n)).more<=t.mask;by_cases a2:0<(stp t.mask h n).more
     ·rw[zfV _ _ a2]
      grind
     ·rw[zcM _ _ (by lia)];have h0:((stp t.mask h n).i * 5+1+(stp t.mask h n).perturb / 32) % (t.mask+1)<=t.mask:=cQ (fR _ (fH _));obtain⟨r1,r2⟩:=zb1 h0
      grind
   exact (this _ _).1
  obtain⟨a3,T1,Z⟩:=T.put (b:=b) hN he hp Y (by lia) ag;generalize al:t.put (wk t.mask ((tk prog w).hash (ns.map Sum.inl)) N)=tp at T1;obtain⟨t1,p⟩:=tp;dsimp only at T1 ⊢
  have an:t1.mask=t.mask:=by
   have:t1=(t.put (wk t.mask ((tk prog w).hash (ns.map Sum.inl)) N)).1:=by rw[al]
   rw[this];rfl
  rw[T1.plain];simp only[if_true];refine aa (zbm (s:={ s with toks:=s.toks+(tk prog w).draws (ns.map Sum.inl) }) hk ?_);simp only[if_true];have ac:=Z.length_eq;rw[aT] at ac;refine aa (wpAny_storeSet_of (s:={ s with toks:=s.toks+(tk prog w).draws (ns.map Sum.inl) }) ho hd ?_ (by rw[T1.size,b9];lia));have g1:=zcD (es':=SetTable.insertAt es p ((tk prog w).hash (ns.map Sum.inl),.ref b)) (t':=t1) ho hd;have as:=ba s.heap a (Obj.putSet (SetTable.insertAt es p ((tk prog w).hash (ns.map Sum.inl),.ref b)) t1);simp only[Bool.not_false,Bool.true_and];have J:t1.fill=xs.length+1:=by unfold SetTable.fill;rw[T1.sz,T1.dm,ac];rfl
  by_cases O:t1.tooFull=true
  ·rw[if_pos O];unfold SetTable.tooFull at O;rw[J,an] at O;have I:=bj O;rw[T.size]
   have next:∃F,SetTable.sizeAbove (SetTable.grown (xs.length+1))=F+1/\uP F/\(xs.length+1) * 5<F * 3:=by
    rcases T.msk with e | e | e | e
    ·rw[e] at I B;have:xs.length=4:=by lia
     rw[this];exact⟨31,by decide,.inr (.inl rfl),by lia⟩
    ·rw[e] at I B;have:xs.length=18:=by lia
     rw[this];exact⟨127,by decide,.inr (.inr (.inl rfl)),by lia⟩
    ·rw[e] at I B;have:xs.length=76:=by lia
     rw[this];exact⟨511,by decide,.inr (.inr (.inr rfl)),by lia⟩
    ·rw[e] at I B;lia
   obtain⟨F,m1,m2,m3⟩:=next;refine aa (zlG (s:={ s with heap:=s.heap.update a (Obj.putSet (SetTable.insertAt es p ((tk prog w).hash (ns.map Sum.inl),.ref b)) t1),toks:=s.toks+(tk prog w).draws (ns.map Sum.inl) }) T1 g1 hx rfl m1 m2 (by rw[ac];exact m3) λh' a4 a5 S2 a7=>?_);exact ae (h true h' _ a4 (as.trans a5) S2 (λz=>absurd z Y) λ_=>a7.trans Z)
  ·rw[if_neg O];unfold SetTable.tooFull at O;rw[J,an] at O;have I:¬ ((xs.length+1) * 5 ≥ t.mask * 3):=λz=>O (aD z);refine ae (h true _ _ a3 as ⟨_,_,_,t1,g1,hx,rfl,T1,?_⟩ (λz=>absurd z Y) λ_=>Z)
   simp_all
end
open PySem PySem.Spec PyProof.Rows PySem.W
def zG:Slot "set_iterator" "__next__" "set_iterator.__next__" :=
 .of (owner := "set_iterator") (n := "__next__") (by rw[typeLookup_type,builtinLookup_eq_fast];kernel_rfl) (by decide +kernel) (by decide +kernel) (by decide +kernel)
  (by first | exact .inl (by decide +kernel) | exact .inr (by decide +kernel)) (by rw[isSubtype_type];kernel_rfl)
def xI:Slot "set_iterator" "__iter__" "set_iterator.__iter__" :=
 .of (owner := "set_iterator") (n := "__iter__") (by rw[typeLookup_type,builtinLookup_eq_fast];kernel_rfl) (by decide +kernel) (by decide +kernel) (by decide +kernel)
  (by first | exact .inl (by decide +kernel) | exact .inr (by decide +kernel)) (by rw[isSubtype_type];kernel_rfl)
def xi:entryFor table "set_iterator.__next__" = some Builtin.«set_iterator.__next__»:=entryFor_of_tree (by kernel_rfl)
def zaa:entryFor table "set_iterator.__iter__" = some Builtin.«dict_keyiterator.__iter__»:=entryFor_alias (id' := "dict_keyiterator.__iter__") (by kernel_rfl) rfl (by decide +kernel) (by kernel_rfl)
def zcc:entryFor table "set.__iter__" = some Builtin.«frozenset.__iter__»:=entryFor_alias (id' := "frozenset.__iter__") (by kernel_rfl) rfl (by decide +kernel) (by kernel_rfl)
def xx (a:Value):argsOk "set_iterator.__next__" ⟨[a],[]⟩:=by unfold argsOk;kernel_rfl
def zaG (a:Value):argsOk "set_iterator.__iter__" ⟨[a],[]⟩:=by unfold argsOk;kernel_rfl
def ziq {α:Type}(next:Nat->Nat):∀ (n k:Nat) (left:List α) (out:Array α),left.length=n->(pickOrder.go next n k left out).toList.Perm (out.toList++left)
 | 0,k,left,out,h=>by
  have:left=[]:=aY h;subst this;show out.toList.Perm (out.toList++[])
  simp_all
 | n+1,k,left,out,h=>by
  have q:next k % left.length<left.length:=fR _ (by lia)
  show (match left[next k % left.length]? with
   | some x=>pickOrder.go next n (k+1) (left.eraseIdx (next k % left.length)) (out.push x)
   | none=>out).toList.Perm _
  rw[aj q];refine (ziq next n (k+1) _ _ (by grind)).trans ?_;rw[bN,ax];refine eJ _ ?_
  have e:left=left.take (next k % left.length)++left[next k % left.length]::left.drop (next k % left.length+1):=by simp_all
  rw[List.eraseIdx_eq_take_drop_succ];refine List.Perm.trans ?_ (List.Perm.of_eq e.symm);rw[List.singleton_append];exact List.perm_middle.symm
def zev {α:Type}(next:Nat->Nat)(xs:Array α):(pickOrder next xs).toList.Perm xs.toList:=by
 show (pickOrder.go next xs.size 0 xs.toList #[]).toList.Perm _;have:=ziq next xs.size 0 xs.toList #[] (aK)
 grind
section
variable {prog:Program}{w:World}{t:SetTable}{es:Array (Int×Value)}{xs:List (List Key×Addr)}{A:Around}{E:Value->Shared->Prop}{s:Shared}
def zlh (w:World)(a:Addr)(ep:Nat)(es:Array (Int×Value)):Array (Int×Value):=if w.params.followText "set-order" then pickOrder (w.params.setOrder a ep) es else es
def zeu (a:Addr)(ep:Nat):(zlh w a ep es).toList.Perm es.toList:=by
 unfold zlh;split
 ·exact zev _ _
 ·simp_all
def z9 (h:Heap)(it a:Addr)(q i n ep:Nat):Prop:=∃o,h.get? it=some o/\o.cls = .type "set_iterator" /\ o.data = .fields #[.int q 0,.int i 0,.ref a,.int n 0,.int ep 0]
def z9.typeIs(x:z9 s.heap it a q i n ep):s.TypeIs (.ref it) "set_iterator" := let ⟨o,ho,hc,_⟩:=x;⟨o,ho,hc⟩
structure SetIs (prog:Program)(w:World)(h:Heap)(a:Addr)(es:Array (Int×Value))(ep:Nat)(t:SetTable)(xs:List (List Key×Addr)):Prop where
 ob:∃o,h.get? a=some o/\o.ExactSet/\o.data = .set es ep t
 tb:Tb prog w t es xs
def zjh{e:Int×Value}(hit:z9 s.heap it a slot i es.size ep)(S:SetIs prog w s.heap a es ep t xs)(hs:w.params.followText "set-order" = true\/SetTable.below t.place slot=i)(hx:(zlh w a ep es)[i]?=some e)(hQ:∀h' slot',z9 h' it a slot' (i+1) es.size ep->(w.params.followText "set-order" = true\/SetTable.below t.place slot'=i+1)->Heap.SameBut it s.heap h'->Q (some e.2) { s with heap:=h' }):wpAny (model prog w) A (pyNext (.ref it)) Q E s:=by
 obtain⟨o,ho,hc,hd⟩:=id hit;obtain⟨⟨os,hos,_,hds⟩,T⟩:=S;have hf:=T.fits;unfold pyNext
 refine aa (dS (wpAny_callSpecial?_slot (name:=Str.ofString "__next__") hit.typeIs zG
  (aX zG hit.typeIs xi ?_ (xx _))))
 refine aa (ae ?_);refine aa (fO ho hd ?_);dsimp only;refine aa (fw hos hds hf ?_);rw[if_neg (by simp)]
 have upd2:∀slot':Nat,∃h',z9 h' it a slot' (i+1) es.size ep/\Heap.SameBut it s.heap h'/\∀ {A':Around} {E':Value->Shared->Prop} {α:Type} {f:Sem α} {R:α->Shared->Prop},wpAny (model prog w) A' f R E' { s with heap:=h' }->wpAny (model prog w) A' (do setField (.ref it) 0 (rawInt slot');setField (.ref it) 1 (rawInt ((i:Int)+1));f) R E' s:=by
  intro slot';have h1:(s.heap.update it (Obj.mapFields (·.setIfInBounds 0 (rawInt slot')))).get? it=some (Obj.mapFields (·.setIfInBounds 0 (rawInt slot')) o):=cI _ ho (dq (bX hd _));have hd1:(Obj.mapFields (·.setIfInBounds 0 (rawInt slot')) o).data = .fields #[.int slot' 0,.int i 0,.ref a,.int es.size 0,.int ep 0]:=by rw[bX hd];simp[rawInt]
  refine⟨(s.heap.update it (Obj.mapFields (·.setIfInBounds 0 (rawInt slot')))).update it (Obj.mapFields (·.setIfInBounds 1 (rawInt ((i:Int)+1)))),⟨_,cI _ h1 (dq (bX hd1 _)),?_,?_⟩,(ba ..).trans (ba ..),λ{A' E' α f R} hR=>?_⟩
  ·rw[ev,ev];exact hc
  ·rw[bX hd1];simp[rawInt]
  ·exact aa (cJ ho hd (by simp) (aa (cJ (s:={ s with heap:=s.heap.update it (Obj.mapFields (·.setIfInBounds 0 (rawInt slot'))) }) h1 hd1 (by simp) hR)))
 unfold setNext
 cases hb:w.params.followText "set-order" with
 | true=>
  have hx':(pickOrder (w.params.setOrder a ep) es)[i]?=some e:=by
   unfold zlh at hx
   simp_all
  obtain⟨h',hi',sb',step⟩:=upd2 slot;refine aa ?_;refine aa (bE hos hds hf ?_);dsimp only;unfold setsByText;refine aa (aa (br (ae ?_)));rw[show (model prog w).w=w from rfl,hb];simp only[if_true];rw[if_neg (by simp)];unfold setWalk;refine aa ?_;refine aa (bE hos hds hf ?_);dsimp only;unfold setsByText;refine aa (aa (br (ae ?_)));rw[show (model prog w).w=w from rfl,hb];simp only[if_true];refine aa (br (ae ?_));refine ae ?_;rw[show (model prog w).w=w from rfl];simp only[bq];rw[hx'];dsimp only[Option.map];exact step (ae ⟨_,rfl,ae (hQ h' slot hi' (.inl hb) sb')⟩)
 | false=>
  have hx':es[i]?=some e:=by
   unfold zlh at hx
   grind
  have hsl:SetTable.below t.place slot=i:=by grind
  have hi:i<es.size:=(cC.mp hx').1;have hpl:t.place[i]?=some (t.place.getD i 0):=zfa (by rw[T.sz,<- T.size];exact hi);obtain⟨h',hi',sb',step⟩:=upd2 (t.place.getD i 0+1);refine aa ?_;refine aa (bE hos hds hf ?_);dsimp only;unfold setsByText;refine aa (aa (br (ae ?_)));rw[show (model prog w).w=w from rfl,hb];simp only[aL,if_false];rw[if_neg (by show ¬ ((!t.plain&&decide (es.size > 1))=true);rw[T.plain];simp)];refine aa ?_;show wpAny _ _ (if (!t.led&&!es.isEmpty)=true then unsupported "set:maker-not-led" else pure ()) _ _ s;rw[if_neg (by rw[T.led,hb];simp)];refine ae ?_;simp only[bq];rw[hsl,hx',hpl];refine ae ?_;dsimp only;refine step (ae ⟨_,rfl,ae (hQ h' _ hi' (.inr ?_) sb')⟩);obtain⟨b1,b2,b3⟩:=xy T.ris (t.place.getD i 0+1);have hi2:=(xu hpl).1;rcases cz (SetTable.below t.place (t.place.getD i 0+1)) (i+1) with z | z | z
  ·have:=b3 i (by lia) hi2;lia
  ·exact z
  ·have h1:=b2 (i+1) z;have h2:=T.ris i (i+1) (Nat.lt_succ_self i) (by lia);lia
def zla(Z:A.handled=none)(B:z9 s.heap it a q es.size es.size ep)(S:SetIs prog w s.heap a es ep t xs)(hs:w.params.followText "set-order" = true\/SetTable.below t.place q=es.size)(hQ:∀h',Heap.ExtBut it s.heap h'->Q none { s with heap:=h' }):wpAny (model prog w) A (pyNext (.ref it)) Q E s:=by
 obtain⟨o,J,hc,O⟩:=id B;obtain⟨⟨os,F,_,I⟩,T⟩:=S;have U:=T.fits;unfold pyNext
 refine aa (dS (wpAny_callSpecial?_slot (name:=Str.ofString "__next__") B.typeIs zG
  (aX zG B.typeIs xi ?_ (xx _))))
 refine aa (ae ?_);refine aa (fO J O ?_);dsimp only;refine aa (fw F I U ?_);rw[if_neg (by simp)];unfold setNext;refine aa ?_;refine aa (bE F I U ?_);dsimp only;unfold setsByText;refine aa (aa (br (ae ?_)))
 cases hb:w.params.followText "set-order" with
 | true=>
  rw[show (model prog w).w=w from rfl,hb];simp only[if_true];rw[if_neg (by simp)];unfold setWalk;refine aa ?_;refine aa (bE F I U ?_);dsimp only;unfold setsByText;refine aa (aa (br (ae ?_)));rw[show (model prog w).w=w from rfl,hb];simp only[if_true];refine aa (br (ae ?_));refine ae ?_;rw[show (model prog w).w=w from rfl];simp only[bq]
  have hn:(pickOrder (w.params.setOrder a ep) es)[es.size]?=none:=by rw[zca];refine List.getElem?_eq_none ?_;rw[(zev _ es).length_eq,aK];exact ah _
  rw[hn];dsimp only[Option.map];refine aa (cJ J O (by simp) ?_);show wpAny _ _ (newExc (.type "StopIteration") [] >>= _) _ _ _;refine aa ?_;simp only[newExc,newTuple];refine aa (bi ?_ (by size_fits));refine aa (m:=firstArgMember _ _) (wpAny_of_eq (a:=Value.none) (by first | rfl | (simp only[firstArgMember];rfl)) ?_);refine bi ?_ (by size_fits);simp only[raiseNew];refine aa (fY ?_);rw[show A.in1.handled=none from Z];refine aa (ae (wpAny_throw ?_));refine aa (cE (T := "StopIteration") (b:=true) ⟨_,aw _ rfl,rfl⟩ fN ?_);exact ae (hQ _ (((ba ..).extBut.push _).push _))
 | false=>
  have Y:SetTable.below t.place q=es.size:=by grind
  rw[show (model prog w).w=w from rfl,hb];simp only[aL,if_false];rw[if_neg (by show ¬ ((!t.plain&&decide (es.size > 1))=true);rw[T.plain];simp)];refine aa ?_;show wpAny _ _ (if (!t.led&&!es.isEmpty)=true then unsupported "set:maker-not-led" else pure ()) _ _ s;rw[if_neg (by rw[T.led,hb];simp)];refine ae ?_;simp only[bq];rw[Y,Array.getElem?_eq_none (ah _)];refine ae ?_;dsimp only;refine aa (cJ J O (by simp) ?_);show wpAny _ _ (newExc (.type "StopIteration") [] >>= _) _ _ _;refine aa ?_;simp only[newExc,newTuple];refine aa (bi ?_ (by size_fits));refine aa (m:=firstArgMember _ _) (wpAny_of_eq (a:=Value.none) (by first | rfl | (simp only[firstArgMember];rfl)) ?_);refine bi ?_ (by size_fits);simp only[raiseNew];refine aa (fY ?_);rw[show A.in1.handled=none from Z];refine aa (ae (wpAny_throw ?_));refine aa (cE (T := "StopIteration") (b:=true) ⟨_,aw _ rfl,rfl⟩ fN ?_);exact ae (hQ _ (((ba ..).extBut.push _).push _))
def ziC(q:z9 s.heap it a B i n ep)(h:Q (.ref it) s):wpAny (model prog w) A (pyIter (.ref it)) Q E s:=by refine fT q.typeIs xI (aX xI q.typeIs zaa ?_ (zaG _));show wpAny _ _ (ret (.ref it)) _ _ s;exact ae ⟨_,rfl,"set_iterator",_,q.typeIs,zG.lookup,h⟩
def SetIs.typeIs(S:SetIs prog w s.heap a es ep t xs):s.TypeIs (.ref a) "set" := let ⟨o,ho,hc,_⟩:=S.ob;⟨o,ho,hc.1⟩
def zkN(S:SetIs prog w s.heap a es ep t xs)(h:Q (.ref s.heap.objs.size) { s with heap:=s.heap.push { cls:=.type "set_iterator",data:=.fields #[.int 0 0,.int 0 0,.ref a,.int es.size 0,.int ep 0] } }):wpAny (model prog w) A (pyIter (.ref a)) Q E s:=by
 have J:=S.typeIs;obtain⟨⟨O,q,U,B⟩,T⟩:=S;have I:=T.fits;refine fT J F.slot_set_iter (aX F.slot_set_iter J zcc ?_ (F.args_set_iter_1 _));unfold Builtin.«frozenset.__iter__»;refine aa (m:=Builtin.Frozenset.slot0 "__iter__" ⟨[.ref a],[]⟩) (ae ?_);refine aa ?_;unfold Builtin.Frozenset.sizeOf;refine aa (fw q B I (ae ?_));refine aa ?_;unfold setDrawn;refine aa (bE q B I ?_);dsimp only;unfold setsByText;refine aa (aa (br (ae ?_)));refine ae ?_;rw[if_neg (by show ¬ ((!_&&(!t.plain&&decide (es.size > 1)))=true);rw[T.plain];simp)];refine aa (ae ?_);refine aa (wpAny_setEpoch_of q B I ?_);refine aa (bi (ae ⟨_,rfl,"set_iterator",_,⟨_,aw _ rfl,rfl⟩,zG.lookup,?_⟩));simpa [rawInt] using h
end
open PySem PySem.Spec PyProof.Rows PySem.W PySem.Calls
section
variable {prog:Program}{w:World}{t:SetTable}{es:Array (Int×Value)}{xs:List (List Key×Addr)}{A:Around}{E:Value->Shared->Prop}{s:Shared}
def zlM(I:s.TypeIs (.ref r) "set")(h:Q false s):wpAny (model prog w) A (Builtin.List.listLengthHint (.ref r)) Q E s:=by
 unfold Builtin.List.listLengthHint;refine aa (di I PySem.F.slot_set_len.lookup ?_);generalize B:("set.__len__" : String)=id0
 wp_delta
 rw[show splitId id0=some ("set","__len__") from by subst B;decide +kernel];subst B;refine aa (cE (T := "set") (b:=true) I (by rw[isSubtype_type];kernel_rfl) ?_);refine wpAny_ite_split (λq=>absurd q (by decide)) (λ_=>?_);refine wpAny_ite_split (λ_=>?_) (λq=>absurd (by decide +kernel) q);refine aa (cS I ?_);exact ae h
def SetIs.keep(S:SetIs prog w h a es ep t xs)(k:∀o,h.get? a=some o->h'.get? a=some o):SetIs prog w h' a es ep t xs:=let ⟨⟨o,ho,r⟩,T⟩:=S;⟨⟨o,k o ho,r⟩,T⟩
def z9.keep(S:z9 h it a q i n ep)(k:∀o,h.get? it=some o->h'.get? it=some o):z9 h' it a q i n ep:=let ⟨o,ho,r⟩:=S;⟨o,k o ho,r⟩
def SetIs.lt(S:SetIs prog w h a es ep t xs):a<h.objs.size:=let ⟨⟨o,ho,_⟩,_⟩:=S;aH ho
def zjY (hh:A.handled=none)(I a:Addr)(ac:a≠I)(ep:Nat) :
  Walks prog w A I [I,a] [I] es.size (λi v=>∃e,(zlh w a ep es)[i]?=some e/\v=e.2) (λi h=>(∃q,z9 h I a q i es.size ep/\(w.params.followText "set-order" = true\/SetTable.below t.place q=i))/\SetIs prog w h a es ep t xs) where
 sub:=λb J=>by simp at J;simp[J]
 frame:=λ_ _ _ st hk=>⟨let ⟨Z,x,y⟩:=st.1;⟨Z,x.keep λo e=>hk I (by simp) o e,y⟩,st.2.keep λo e=>hk a (by simp) o e⟩
 item:=λi s Q E hi st O=>by
  obtain⟨⟨Z,B,hs⟩,S⟩:=st
  have U:i<(zlh w a ep es).size:=by
   have:=(zeu (w:=w) (es:=es) a ep).length_eq
   grind
  refine zjh B S hs (e:=(zlh w a ep es)[i]) (aR U) λh' F Y ad sb=>?_;exact O _ h' s.toks ⟨_,aR U,rfl⟩ ⟨⟨F,Y,ad⟩,S.keep λo e=>(sb.2 a ac).trans e⟩ λb o J e=>sb.extBut b o (λh=>J (by simp[h])) e
 done:=λs Q E st O=>by obtain⟨⟨Z,B,hs⟩,S⟩:=st;exact zla hh B S hs λh' ag=>O h' s.toks λb o J e=>ag b o (λh=>J (by simp[h])) e
 self:=λ_ _ _ _ st O=>let ⟨Z,x,_⟩:=st.1;ziC x O
def zo5 (a:Addr)(ep:Nat):KdlSrc prog w "set" a a es.size (λi v=>∃e,(zlh w a ep es)[i]?=some e/\v=e.2) (λh=>SetIs prog w h a es ep t xs) where
 type:=λs S=>S.typeIs
 there:=λ_ S=>⟨S.lt,S.lt⟩
 keep:=λ_ _ S B=>S.keep λo e=>B a (.inl rfl) o e
 notList:=by decide
 notTuple:=by decide
 hint:=λ_ _ _ _ S q=>zlM S.typeIs q
 iter:=λA s F S=>⟨_,_,(λ_ _ q=>zkN S q),zjY F _ a (a6 S.lt) ep,⟨⟨0,⟨_,aw _ rfl,rfl,rfl⟩,.inr ?_⟩,S.keep λo e=>am _ e⟩⟩
where finally
 have b:=xy S.tb.ris 0;rcases Nat.eq_zero_or_pos (SetTable.below t.place 0) with z | z
 ·exact z
 ·exact absurd (b.2.1 0 z) (cP _)
end
def zdJ (h:Heap)(L D:Addr)(v:Value)(st:List Int):Prop:=∃ (a:Addr) (q:List Value),v = .ref a/\IsTup h a q.toArray/\yn (st.map V.int) q/\a≠L/\a≠D
def zdJ.keep{st:List Int}(r:zdJ h L D v st)(kp:∀b o,b≠L->b≠D->h.get? b=some o->h'.get? b=some o):zdJ h' L D v st:=by obtain⟨a,q,e,⟨o,B,F⟩,I,h1,h2⟩:=r;exact⟨a,q,e,⟨o,kp a o h1 h2 B,F⟩,I,h1,h2⟩
def zcu:∀ {vs:List Value} {sts:List (List Int)},Paired (zdJ h L D) vs sts->(∀st∈sts,1<=st.length)->∃fs,W.KatTups h vs fs/\fs.length=sts.length/\∀f∈fs,∃a t,f=Value.int a t
 | _,_,.nil,_=>⟨[],trivial,rfl,λ_ h=>by simp at h⟩
 | _,_,.cons (b:=st) r J,h1=>by
  obtain⟨a,q,rfl,⟨o,O,U,n,Y⟩,B,_⟩:=r;obtain⟨fs,f1,f2,f3⟩:=zcu J λz Z=>h1 z (ai _ Z);have F:=h1 st ak
  match st,B,F with
  | z::zs,B,_=>
   cases B with
   | cons q1 qq=>
    obtain⟨t,rfl⟩:=q1;refine⟨_::fs,⟨⟨a,o,_,n,rfl,O,U,Y,rfl⟩,f1⟩,by simp_all,λf I=>?_⟩;rcases ay.mp I with rfl | I
    all_goals simp_all
def yD {α q:Type}{R:α->q->Prop}:∀ {l:List α} {l':List q},Paired R l l'->∀ {i:Nat} (d:α) (d':q),i<l'.length->R (l.getD i d) (l'.getD i d')
 | _,_,.nil,i,_,_,h=>by simp at h
 | _,_,.cons r _,0,_,_,_=>r
 | _,_,.cons _ t,i+1,d,d',h=>by have:=yD t (i:=i) d d' (by simpa using h);simpa using this
def zaU {α q:Type}{R:α->q->Prop}:∀ {l:List α} {l':List q},Paired R l l'->l.length=l'.length
 | _,_,.nil=>rfl
 | _,_,.cons _ t=>by rw[aT,aT,zaU t]
section
variable {prog:Program}{w:World}{A:Around}{E:Value->Shared->Prop}{s:Shared}
def zk5{sts:List (List Int)}(Z:s.heap.Ns L m0)(al:D≠L)(ho:s.heap.get? D=some (seqObj "list" vs.toArray n))(hv:Paired (zdJ s.heap L D) vs sts)(bx:sts.length<64)(an:1<=m)(hm:∀st∈sts,st.length=m)(as:sts.Nodup)(h:∀h' c p,List.Perm p (List.range sts.length)->((p.map λi=>sts.getD i []).Pairwise λa b=>HT.lexLt a b=true)->(∀b o,b≠L->b≠D->s.heap.get? b=some o->h'.get? b=some o)->h'.Ns L m0->
   h'.get? D=some (seqObj "list" (p.map λi=>vs.getD i .none).toArray c)->Q .none { s with heap:=h' }) :
  wpAny (model prog w) A (call (.builtin "list.sort") [.ref D]) Q E s:=by
 have a0:=zaU hv;by_cases h2:2<=sts.length
 ·have B:∀p∈(uR s.heap L).filter (λq=>decide (q.1≠D)),s.heap.get? p.1=some p.2/\p.1≠L/\p.1≠D:=λp hp=>by
   have h1:=bG.mp hp;have h2:=yj.mp (show (p.1,p.2)∈uR s.heap L from h1.1)
   simp_all
  have J:∀b,(⟨#[],{}⟩:Heap).get? b=none:=λb=>by
   cases e:(⟨#[],{}⟩:Heap).get? b with
   | none=>rfl
   | some o'=>
    have:=aH e;simp at this
  refine W.kat_lsort (h₀:=(⟨#[],{}⟩:Heap)) (L:=L) (m:=m0) (D:=D) (its:=vs.toArray) (n:=n) (news:=(D,seqObj "list" vs.toArray n)::(uR s.heap L).filter (λq=>decide (q.1≠D))) (g:=λo=>(D,o)::(uR s.heap L).filter (λq=>decide (q.1≠D))) ⟨Z,λb o e=>?_,aN _⟩ (λp hp=>?_) (W.UpdF.head λq hq=>(B q hq).2.2) (vs:=vs) rfl (by lia) (by lia) λe1 h' F N=>?_
  ·simp_all
  ·rcases ay.mp hp with rfl | hp
   ·simp_all
   ·exact⟨(B p hp).1,(B p hp).2.1,J _⟩
  ·have kp:∀b o,b≠L->b≠D->s.heap.get? b=some o->h'.get? b=some o:=λb o hb hD e=>(N (b,o) (ai _ (bG.mpr ⟨yj.mpr ⟨hb,e⟩,aD hD⟩))).1;have O:Paired (zdJ h' L D) vs sts:=Paired.mapP hv λv st r=>r.keep kp;obtain⟨fs,k1,k2,k3⟩:=zcu O λst a3=>by rw[hm st a3];exact an
   refine W.kat_kind (T:=.type "int") (s:={ s with heap:=h' }) k1 (by lia) (λf hf=>?_) (by decide) ?_
   ·obtain⟨a,t,rfl⟩:=k3 f hf;intro A' Q' E' s' _ hq;exact cS (typeIs_int s' a t) hq
   ·have hu:zaZ sts.length (xj sts):=λi j hi I e=>by
     have e1:=zam hm hi I;have e2:=zam hm I hi;rw[e,aO (ga _)] at e1;rw[e,aO (ga _)] at e2;have gi:sts.getD i []=sts[i]:=by simp[hi]
     have gj:sts.getD j []=sts[j]:=by simp[I]
     rcases zan (a:=sts.getD i []) (b:=sts.getD j []) (by simp_all) with h | h | h
     ·rw[gi,gj] at h;exact (cD as).mp h
     all_goals grind
    obtain⟨p,ac,U⟩:=zlO hu h2;rw[show vs.length=sts.length by lia];refine ac.wp (S:=λs'=>s'={ s with heap:=h' }) (λi j C s' hi I Y hC=>?_) (λs' Y=>?_) _ rfl
    ·subst Y;obtain⟨a1,a4,b1,c1,d1,_⟩:=yD O .none [] hi;obtain⟨a2,a5,b2,c2,d2,_⟩:=yD O .none [] I;obtain⟨o1,a7,_,n1,bb⟩:=c1;obtain⟨o2,bc,_,n2,bd⟩:=c2;show wpAny _ _ (keyLt' _ (vs.getD i .none) (vs.getD j .none)) C _ _;rw[b1,b2]
     have gi:(sts.getD i []).length=m:=by simp_all
     have gj:(sts.getD j []).length=m:=by simp_all
     have l1:=d1.length;have l2:=d2.length;rw[ab] at l1 l2;refine W.kat_lt (s:={ s with heap:=h' }) a7 bb bc bd ?_;rw[show decide (a4.toArray.size<a5.toArray.size)=false from aO (by simp;lia)];refine zgl 0 d1 d2 (by rw[gi,gj]) ?_;have:=hC { s with heap:=h' } rfl;rw[show zdL (xj sts) i j=HT.lexLt (sts.getD i []) (sts.getD j []) from zam hm hi I] at this;exact this
    ·subst Y
     have ad:p.toList.Perm (List.range sts.length):=by have:=U.perm.toList;simpa using this
     have ag:∀i∈p.toList,i<sts.length:=λi hi=>aQ.mp ((ad.mem_iff).mp hi);refine W.KasFin.intro F N (W.UpdF.head λq' bl=>(B q' bl).2.2) λbo c F'' N''=>?_;refine h bo c p.toList ad ?_ (λb o hb hD e=>(N'' (b,o) (ai _ (bG.mpr ⟨yj.mpr ⟨hb,e⟩,aD hD⟩))).1) F''.ns (N'' (D,_) ak).1;have b0:p.size=sts.length:=xE U.perm;rw[bR];intro i j hi I bs;rw[ab,aK] at hi I;have hk:=U.lt_of bs (by lia);rw[cF,cF,dD,dD];have e1:p.getD i 0=p[i]:=by simp[hi]
     have e2:p.getD j 0=p[j]:=by simp[I]
     unfold key at hk;rw[e1,e2] at hk;rw[<- zam hm (ag _ (by simp)) (ag _ (by simp))]
     simp_all
 ·refine aX slot_list_sort ⟨_,ho,rfl⟩ entry_list_sort ?_ (args_list_sort _);refine uE ho (by lia) λh' c kp hD=>⟨_,rfl,?_⟩;refine h h' c (List.range sts.length) (eF _) ?_ (λb o _ hb e=>kp b o hb e) ?_ ?_
  ·grind
  ·obtain⟨o,es,ep,g,k⟩:=Z;exact⟨o,es,ep,kp _ _ (Ne.symm al) g,k⟩
  ·rw[<- a0,uK];exact hD
end
def za7 {α O:Type}{f:α->O}{l m:List O}(h:l.Perm m):∀ {xs:List α},m=xs.map f->∃q:List α,q.Perm xs/\l=q.map f:=by
 induction h with
 | nil=>
  simp_all
 | cons x _ U=>
  intro xs e
  cases xs with
  | nil=>cases e
  | cons y ys=>
   rw[au] at e;injection e with Y F;obtain⟨q,h1,h2⟩:=U F;exact⟨y::q,h1.cons y,by simp_all⟩
 | swap x y l=>
  intro xs e
  match xs,e with
  | [],e=>cases e
  | [_],e=>cases e
  | a::b::r,e=>
   rw[au,au] at e;injection e with Y F;injection F with F e3;exact⟨b::a::r,.swap _ _ _,by grind⟩
 | trans _ _ I J=>
  intro xs e;obtain⟨q,h1,h2⟩:=J e;obtain⟨B,Z,h4⟩:=I h2;exact⟨B,Z.trans h1,h4⟩
def zgQ (P:Program)(w:World)(a:Addr)(xs:List (List Key×Addr)):HO:=.ext λh=>zbx P w h a xs
def ux (xs:List (List Int×Addr)):List (List Key×Addr):=xs.map λq=>(q.1.map Sum.inl,q.2)
def zjX(S:zbx P w h a xs):z8 P w H h a (zgQ P w a xs):=by
 refine⟨S,?_,λh1 h2 q k=>?_⟩
 ·obtain⟨o,_,_,_,B,_⟩:=S;exact⟨o,B⟩
 ·obtain⟨o,es,ep,t,B,r⟩:=q;exact⟨o,es,ep,t,k o B,r⟩
def zjO(h:(⟨Array.replicate (n+1) o,{}⟩:Heap).get? d=some u):u=o:=by
 unfold Heap.get? at h;simp only[Array.getElem?_replicate] at h;split at h
 ·cases h
 ·split at h
  ·exact (cj h).symm
  ·cases h
def zo4(hs:∃h:Heap,h.get? d=some ob):(λh=>zbx P w h a xs)≠λh=>h.get? d=some ob:=λe=>by
 obtain⟨B,F⟩:=hs;have h1:zbx P w B a xs:=by rw[show zbx P w B a xs=_ from congrFun e B];exact F
 obtain⟨o,es,ep,t,O,I,U,T,J⟩:=h1
 have k:∀q:Nat,({ o with data:=.set es q t }:Obj)=ob:=λq=>by have h2:zbx P w (⟨Array.replicate (a+1) { o with data:=.set es q t },{}⟩:Heap) a xs:=⟨{ o with data:=.set es q t },es,q,t,by simp[Heap.get?],I,rfl,T,J⟩;rw[show zbx P w _ a xs=_ from congrFun e _] at h2;exact (zjO h2).symm
 have:=congrArg Obj.data ((k 0).trans (k 1).symm);cases this
def zgy:∀kvs,pnK (zgQ P w a xs)=some kvs->zaE kvs (Sum.inr "at" : Key)=none:=λkvs e=>by
 unfold zgQ pnK at e;dsimp only at e;rw[if_neg] at e
 ·cases e
 ·rintro⟨d,ob,hs,z⟩;exact zo4 hs z
def zfU (P:Program)(w:World)(H:Hp)(a:Addr)(ks:List (List Int)):Prop:=∃xs:List (List Int×Addr),H a=some (zgQ P w a (ux xs))/\(∀q∈xs,H q.2=some (.tup (q.1.map V.int)))/\ks=xs.map (·.1)/\ks.Nodup
def zfU.stay{ks:List (List Int)}(S:zfU P w H a ks)(h:zl H H'):zfU P w H' a ks:=by obtain⟨xs,h1,h2,B,F⟩:=S;exact⟨xs,h _ _ h1 zgy,λq I=>h.tup (h2 q I),B,F⟩
def zfk:∀ns:List Int,(ns.map Sum.inl).map kV=ns.map V.int
 | []=>rfl
 | n::ns=>by rw[au,au,au,zfk ns];rfl
section
variable {X:Cx}
def ziJ{pins:List (Addr×Obj)}{σ:St}{H:Hp}{s:Shared}(I:Inv X pins σ H s){ns:List Int}(h:H b=some (.tup (ns.map V.int))):(tk X.prog X.w).is s.heap (ns.map Sum.inl) b:=by
 obtain⟨its,B,⟨o,F,J,n,O⟩,_⟩:=I.tuple (.of h);refine⟨o,its.toArray,n,F,J,O,?_⟩
 have q:∀ {ns:List Int} {its:List Value},yn (ns.map V.int) its->ItemsAre (zO X.prog X.w) (ns.map Sum.inl) its:=by
  intro ns
  induction ns with
  | nil=>intro its r;cases r;exact .nil
  | cons n ns U=>
   intro its r
   cases r with
   | cons Y Z=>
    obtain⟨t,rfl⟩:=Y;exact .cons (zee n t) (U Z)
 exact q B
def zmI (P:Program)(w:World):List V->Hp->VK->Prop:=λxs H Q=>∃ (a:Addr) (ks:List (List Int)) (m:Nat),xs=[.ref a]/\zfU P w H a ks/\ks.length<64/\1<=m/\(∀st∈ks,st.length=m)/\
 ∀ (ys:List V) (q:List (List Int)),IsL H (q.map stD) ys->q.Perm ks->(q.Pairwise λa b=>HT.lexLt a b=true)->New H (.lst ys) Q
def zgi:∀ {xs:List (List Int×Addr)},(∀q∈xs,H q.2=some (.tup (q.1.map V.int)))->IsL H ((xs.map (·.1)).map stD) (xs.map λq=>V.ref q.2)
 | [],_=>rfl
 | q::xs,h=>⟨_,_,rfl,⟨q.2,_,rfl,h q ak,IsL.ints⟩,zgi λr B=>h r (ai _ B)⟩
def zeN:∀ (xs:List (List Int×Addr)),yn (xs.map λq=>V.ref q.2) (xs.map λq=>Value.ref q.2)
 | []=>.nil
 | q::xs=>.cons rfl (zeN xs)
def zkt (hc:X.calm=true):CallQ X (.builtin "sorted") (zmI X.prog X.w):=⟨by
 intro pins s σ H xs us Q I r h;obtain⟨a,ks,m,rfl,⟨xs,hH,bb,rfl,bc⟩,bd,bl,hm,q⟩:=h;obtain⟨u,rfl,ru⟩:=zcm r;cases ru;obtain⟨⟨o,es,ep,t,ho,hx,hd,T,_⟩,_⟩:=(show z8 X.prog X.w H s.heap a (zgQ X.prog X.w a (ux xs)) from I.hok a _ hH);have S:SetIs X.prog X.w s.heap a es ep t (ux xs):=⟨⟨o,ho,hx,hd⟩,T⟩;obtain⟨m0,an,_⟩:=id I.loc;have hsz:es.size=xs.length:=by rw[T.size];unfold ux;rw[ab]
 rw[ab] at bd
 have bo:∀b,(⟨#[],{}⟩:Heap).get? b=none:=λb=>by
  cases e:(⟨#[],{}⟩:Heap).get? b with
  | none=>rfl
  | some o'=>
   have:=aH e;simp at this
 have as:=zeu (w:=X.w) (es:=es) a ep;have bs:es.toList=xs.map λq=>((tk X.prog X.w).hash (q.1.map Sum.inl),Value.ref q.2):=by rw[T.eq];unfold ux;rw[aI];rfl
 rw[bs] at as;obtain⟨B,O,bx⟩:=za7 as rfl;refine kdu_sorted (h₀:=(⟨#[],{}⟩:Heap)) (L:=X.env.locals) (m:=m0) (news:=uR s.heap X.env.locals) (zo5 (t:=t) (xs:=ux xs) a ep) (I.ok.hd hc) ⟨an,λb o e=>(by simp_all),aN _⟩ (λp hp=>?_) S (by rw[hsz,b9];lia) λD h' a0 vs F N b0 hl hP=>?_
 ·obtain⟨b,o⟩:=p;have:=yj.mp hp
  simp_all
 ·have b1:vs=B.map λq=>Value.ref q.2:=by
   have co:=O.length_eq;refine eO (by simp_all) λj h1 h2=>?_;obtain⟨e,he,hv⟩:=hP j vs[j] (aj h1);rw[zca,bx,aE] at he;rw[ab] at h2;rw[aj h2] at he;rw[hv,cF,<- cj he]
  have kp:∀b o,b≠X.env.locals->s.heap.get? b=some o->h'.get? b=some o:=λb o hb e=>(N (b,o) (ai _ (yj.mpr ⟨hb,e⟩))).1;have a1:D≠X.env.locals:=(N (D,_) ak).2.1
  have b2:s.heap.get? D=none:=by
   cases e:s.heap.get? D with
   | none=>rfl
   | some o=>exact absurd (b0 (D,o) (yj.mpr ⟨a1,e⟩)) (cT _)
  have Y:H D=none:=by
   cases e:H D with
   | none=>rfl
   | some o=>
    obtain⟨o',a2⟩:=zem (I.hok D o e)
    grind
  have U:∀q∈B,H q.2=some (.tup (q.1.map V.int)):=λq Z=>bb q ((O.mem_iff).mp Z)
  have a3:Paired (zdJ h' X.env.locals D) vs (B.map (·.1)):=by
   rw[b1]
   have b3:∀ (l:List (List Int×Addr)),(∀q∈l,H q.2=some (.tup (q.1.map V.int)))->Paired (zdJ h' X.env.locals D) (l.map λq=>Value.ref q.2) (l.map (·.1)):=by
    intro l
    induction l with
    | nil=>intro _;exact .nil
    | cons q l ih=>
     intro hl;have Z:=hl q ak;obtain⟨ac,rv,⟨o',a2,b4⟩,_⟩:=I.tuple (.of Z);have a4:=zg Z I.free;exact .cons ⟨q.2,ac,rfl,⟨o',kp _ _ a4 a2,b4⟩,rv,a4,zg Z Y⟩ (ih λr hr=>hl r (ai _ hr))
   exact b3 B U
  have ad:=O.map (·.1);refine zk5 (s:={ s with heap:=h',toks:=a0 }) F.ns a1 (N (D,_) ak).1 a3 (by simp_all) bl (λst ca=>hm st ((ad.mem_iff).mp ca)) (ad.nodup_iff.mpr bc) λcu c p hp a5 cb cd a7=>?_;have ch:∀i∈p,i<B.length:=λi hi=>by have:=aQ.mp ((hp.mem_iff).mp hi);rwa[ab] at this
  have J:(p.map λi=>(B.map (·.1)).getD i [])=(p.map λi=>B.getD i ([],0)).map (·.1):=by simp_all
  have ag:(p.map λi=>vs.getD i .none)=(p.map λi=>B.getD i ([],0)).map λq=>Value.ref q.2:=by simp_all
  have cn:∀q∈(p.map λi=>B.getD i ([],0)),H q.2=some (.tup (q.1.map V.int)):=λq Z=>by
   obtain⟨i,hi,rfl⟩:=aG.mp Z;have h1:=ch i hi;have:B.getD i ([],0)=B[i]:=by simp[h1]
   rw[this];exact U _ (a9 h1)
  rw[ag] at a7;rw[J] at a5;have al:p.length=xs.length:=by rw[hp.length_eq,bm,ab,O.length_eq]
  have I':=zix I an (ys:=(p.map λi=>B.getD i ([],0)).map λq=>V.ref q.2) (λb o hb e=>cb b o hb (by grind) (kp b o hb e)) cd b2 Y a7 (zeN _) (by rw[ab,ab,al,b9];lia) a0;refine⟨.ref D,_,I',rfl,(q _ ((p.map λi=>B.getD i ([],0)).map (·.1)) (zgi cn) ?_ a5).at Y⟩;refine List.Perm.trans ?_ ad;rw[<- J];have:=hp.map λi=>(B.map (·.1)).getD i [];rwa[uK] at this⟩
end
open PySem PySem.Spec PyProof.Rows
def zdT (elt target iter:Expr)(ifs:List Expr)(scope:Scope)(pos:Pos)(it acc:Value)(env:Env) :
  compTurn (.SetComp elt [⟨target,iter,ifs,0⟩] scope pos) 0 it acc env=(do
   standAt iter.pos
   match <- pyNext it with
   | none=>pure (.done .next)
   | some v=>
    letOwnedTupleGo target it v
    assign target env v
    let mut ok:=true
    for c in ifs do
     if ok then ok <- isTrue c env (eval c env)
    if ok then
     (do let v <- eval elt env;standAt elt.pos;let _ <- call (.builtin "set.add") [acc,v])
    again (.compLoop (.SetComp elt [⟨target,iter,ifs,0⟩] scope pos) 0 it acc env)):=by rfl
section
variable {prog:Program}{w:World}{A:Around}{E:Value->Shared->Prop}{R:Result->Shared->Prop}{s:Shared}
def ut {elt target iter ifs zw scope pos it acc env}
  (h0:codeAny (model prog w) A (.compLoop (.SetComp elt (⟨target,iter,ifs,0⟩::zw) scope pos) 0 it acc env) R s)
  (h:wpAny (model prog w) A (pyIter it) (λit' s'=>codeAny (model prog w) A (.compLoop (.SetComp elt (⟨target,iter,ifs,0⟩::zw) scope pos) 0 it' acc env) R s')
   (notedBy (model prog w) A env λx s'=>R (.error x) s') s) :
  codeAny (model prog w) A (.compStart (.SetComp elt (⟨target,iter,ifs,0⟩::zw) scope pos) 0 it acc env) R s:=by
 refine dZ ?_;show wpAny _ _ ((compStart (.SetComp elt (⟨target,iter,ifs,0⟩::zw) scope pos) 0 it acc env).onRaise (λx=>do noteFrame x env;standAt theWindowsPlace)) _ _ s;refine wpAny_notedAt ?_;unfold compStart;show wpAny _ _ (ask >>= _) _ _ s;refine aa (br (wpAny_ite ?_));split
 ·first
   | exact aa (by grind)
   | exact ae (And.intro rfl h0)
 ·first
   | exact aa (by grind)
   | (refine aa (ck ?_);show wpAny _ _ (standAt iter.pos >>= _) _ _ s;exact aa (bp (aa (aC h (λit' s' h'=>ae (And.intro rfl h')) λ_ _ x=>x))))
def zbk(I:Nat->Shared->Prop)(turn:∀n s,I n s->wpAny (model prog w) A (pyNext it) (λr s₁=>match r with
   | none=>R (.ok .next) s₁
   | some v=>wpAny (model prog w) A (letOwnedTupleGo target it v) (λ_ s₂=>wpAny (model prog w) A (assign target env v) (λ_ s₃=>
     wpAny (model prog w) A (forIn ifs true λc r=>if r=true then do let ok <- isTrue c env (eval c env);pure (ForInStep.yield ok) else pure (ForInStep.yield r)) (λok s₄=>
      if ok=true then wpAny (model prog w) A (eval elt env) (λx s₅=>
       wpAny (model prog w) A (call (.builtin "set.add") [acc,x]) (λ_ s₆=>∃m,m<n/\I m s₆) (λ_ _=>False) s₅) (λ_ _=>False) s₄
      else ∃m,m<n/\I m s₄) (λ_ _=>False) s₃) (λ_ _=>False) s₂) (λ_ _=>False) s₁) (λ_ _=>False) s)(n:Nat)(h:I n s) :
  codeAny (model prog w) A (.compLoop (.SetComp elt [⟨target,iter,ifs,0⟩] scope pos) 0 it acc env) R s:=by
 refine dj rfl I (λn s hI=>?_) n h;show wpAny _ A ((compTurn (.SetComp elt [⟨target,iter,ifs,0⟩] scope pos) 0 it acc env).onRaise (λx=>do noteFrame x env;theTreesLotGoes x)) _ _ s;refine dJ ?_;rw[zdT];refine aa (bp (aa (aC (turn n s hI) (λr s₁ h₁=>?_) λ_ _ h'=>h'.elim)))
 cases r with
 | none=>exact ae h₁
 | some v=>
  refine aa (aC h₁ (λ_ s₂ h₂=>?_) λ_ _ h'=>h'.elim);refine aa (aC h₂ (λ_ s₃ h₃=>aa (aC h₃ (λok s₄ h₄=>?_) λ_ _ h'=>h'.elim)) λ_ _ h'=>h'.elim)
  cases ok with
  | false=>exact ae ⟨rfl,h₄⟩
  | true=>
   exact aa (aa (aC h₄ (λx s₅ h₅=>aa (bp (aa (aC h₅ (λ_ s₆ h₆=>ae (ae ⟨rfl,h₆⟩)) λ_ _ h'=>h'.elim)))) λ_ _ h'=>h'.elim))
def zjf(h:Q (.ref s.heap.objs.size) { s with heap:=s.heap.push { cls:=.type "set",dict:=none,data:=.set #[] 0 (.fresh 0 0 (!w.params.followText "set-order")) } }):wpAny (model prog w) A (newSet (.type "set")) Q E s:=by unfold newSet setsByText;refine aa (aa (br (ae ?_)));dsimp only;simp only[newObj];exact aa (wpAny_alloc (ae h))
def zjW (h:Heap):zbx prog w (h.push { cls:=.type "set",dict:=none,data:=.set #[] 0 (.fresh 0 0 (!w.params.followText "set-order")) }) h.objs.size []:=by
 refine⟨_,#[],0,_,aw _ rfl,⟨rfl,rfl,rfl⟩,rfl,⟨rfl,eD,rfl,λi j _ B=>?_,λi j e=>?_,rfl,.inl rfl,aN _,rfl,rfl,λi q e=>?_⟩,by show 0 * 5<7 * 3;decide⟩
 ·exact absurd B (cP _)
 ·simp[SetTable.fresh] at e
 ·simp at e
end
def xW:∀ {ns q:List Int},ns.map (Sum.inl:Int->Key)=q.map Sum.inl->ns=q
 | [],[],_=>rfl
 | [],_::_,e=>by cases e
 | _::_,[],e=>by cases e
 | n::ns,m::q,e=>by rw[au,au] at e;injection e with B F;rw[Sum.inl.inj B,xW F]
section
variable {X:Cx}
def zhn {pins:List (Addr×Obj)}{σ:St}{H:Hp}{s:Shared}{acc b:Addr}{ns:List Int}{ks:List (List Int)}{Q:Value->Shared->Prop}(hu:X.A.units+1<cLine)(I:Inv X pins σ H s)(S:zfU X.prog X.w H acc ks)(hb:H b=some (.tup (ns.map V.int)))(hn:ks.length<300)
  (h:∀o ks' s',zfU X.prog X.w (upd H acc o) acc ks'->(∀x,x∈ks'↔x=ns\/x∈ks)->ks'.length<=ks.length+1->Inv X pins σ (upd H acc o) s'->Q .none s') :
  wpAny (model X.prog X.w) X.A (call (.builtin "set.add") [.ref acc,.ref b]) Q X.xe s:=by
 obtain⟨xs,hH,hel,rfl,hnd⟩:=S;have hS:=(show z8 X.prog X.w H s.heap acc (zgQ X.prog X.w acc (ux xs)) from I.hok acc _ hH).1;obtain⟨o,es,ep,t,ho,hx,hd,T,hroom⟩:=id hS;refine aX F.slot_set_add ⟨o,ho,hx.1⟩ F.entry_set_add ?_ (F.args_set_add_2 _ _);unfold Builtin.«set.add»;refine aa (m:=Builtin.Frozenset.oneOther "add" ⟨[.ref acc,.ref b],[]⟩) (ae ?_);have hba:b≠acc:=zje hb hH (by intro z;cases z);have hea:∀q∈xs,q.2≠acc:=λq hq=>zje (hel q hq) hH (by intro z;cases z);rw[ab] at hn;refine aa (zpF (A:=X.A.in1) (xs:=ux xs) (ns:=ns) (bC (ah _) hu) hS (ziJ I hb) (λq hq=>?_) (by unfold ux;rw[ab];exact hn) λr h' n xs' sb S' hin hout=>?_)
 ·unfold ux at hq;obtain⟨q',hq',rfl⟩:=aG.mp hq;exact ziJ I (hel q' hq')
 ·
  have mem_key:∀ {l:List (List Int×Addr)},(ns.map Sum.inl)∈(ux l).map (·.1)↔ns∈l.map (·.1):=by
   intro l;unfold ux;rw[aI,aG,aG];constructor
   ·rintro⟨q,hq,e⟩;refine⟨q,hq,?_⟩;have e':q.1.map (Sum.inl:Int->Key)=ns.map Sum.inl:=e;exact xW e'
   ·rintro⟨q,hq,rfl⟩;exact⟨q,hq,rfl⟩
  have fin:∀xs2:List (List Int×Addr),xs'=ux xs2->(∀q∈xs2,q∈xs\/q=(ns,b))->(∀x,x∈xs2.map (·.1)↔x=ns\/x∈xs.map (·.1))->(xs2.map (·.1)).Nodup->xs2.length<=xs.length+1->wpAny (model X.prog X.w) X.A.in1 (do ret .none) (λfin s'=>∃v,fin = .done (.ret v)/\Q v s') X.xe { s with heap:=h',toks:=n }:=by
   rintro xs2 rfl hsub hmem hnd2 hlen
   have hel2:∀q∈xs2,H q.2=some (.tup (q.1.map V.int)):=λq hq=>by
    rcases hsub q hq with z | z
    ·exact hel q z
    ·rw[z];exact hb
   have hea2:∀q∈xs2,q.2≠acc:=λq hq=>zje (hel2 q hq) hH (by intro z;cases z);refine ae ⟨.none,rfl,h (zgQ X.prog X.w acc (ux xs2)) (xs2.map (·.1)) _ ⟨xs2,zf,λq hq=>by rw[zd (hea2 q hq)];exact hel2 q hq,rfl,hnd2⟩ hmem (by simp_all) ?_⟩;refine I.write (e:=acc) (by rw[hH];trivial) (.inl rfl) (λc u hc q=>sb.extBut c u hc q) ?_ (zjX S');obtain⟨o',_,_,_,ho',_⟩:=S';exact⟨o',ho'⟩
  by_cases hm:ns∈xs.map (·.1)
  ·have:=hin (mem_key.mpr hm);refine fin xs this (λq hq=>.inl hq) (λx=>⟨.inr,λz=>z.elim (λe=>e ▸ hm) id⟩) hnd (Nat.le_succ _)
  ·have hp:=hout λz=>hm (mem_key.mp z);have hk:((ns.map Sum.inl,b)::ux xs)=ux ((ns,b)::xs):=rfl;rw[hk] at hp;obtain⟨xs2,hp2,e2⟩:=za7 hp rfl;refine fin xs2 e2 (λq hq=>?_) (λx=>?_) ?_ ?_
   ·grind
   ·rw[(hp2.map (·.1)).mem_iff,au,ay]
   ·rw[(hp2.map (·.1)).nodup_iff,au,cL];exact⟨hm,hnd⟩
   ·rw[hp2.length_eq,aT];exact ah _
end
def zdX(elt gens scope pos):eval (.SetComp elt gens scope pos) env=comprehension (.SetComp elt gens scope pos) scope env (firstIterPos gens pos) (newSet (.type "set")) (firstAsync gens) (firstIter gens env):=rfl
def setT (P:Program)(w:World)(g:TG)(ti:TT)(te:TE)(acc:Addr)(N:St->Hp->Prop)(x:V)(σ:St)(H:Hp):Prop:=
 g x σ H λq H3=>ti q H3 λF H4=>if F=true then te q H4 λv H5=>∃b ns ks,v = .ref b/\H5 b=some (.tup (ns.map V.int))/\zfU P w H5 acc ks/\ks.length<300/\
  (∀o B,zfU P w (upd H5 acc o) acc B->(∀x,x∈B↔x=ns\/x∈ks)->B.length<=ks.length+1->N q (upd H5 acc o)) else N q H4
def setG (P:Program)(w:World)(J:It)(g:TG)(ti:TT)(te:TE)(acc:Addr)(Q:VK)(σ:St)(H:Hp):Prop:=∃W:Nat->Nat->St->Hp->Prop,(∃m,W 0 m σ H)/\
 ∀i m q H',W i m q H'->(J.stop i H'/\Q (.ref acc) H')\/(J.go i H'/\∃N:St->Hp->Prop,(∀ B H2,N B H2->∃F,F<m/\W (i+1) F B H2)/\∀x H2,J.yld i H' x H2->setT P w g ti te acc N x q H2)
def zpf (P:Program)(w:World)(wi:TI)(g:TG)(ti:TT)(te:TE)(cix:List (Option Nat)):TE:=λσ H Q=>wi σ H λJ H1=>∀acc,H1 acc=none->zfU P w (upd H1 acc (zgQ P w acc [])) acc []->setG P w J g ti te acc Q (xA σ cix) (upd H1 acc (zgQ P w acc []))
section
variable {X:Cx}{Fam:Cx->Prop}{scope:Scope}{N:List Str}{cix:List (Option Nat)}{z:Str}{use:Option (Value->Sem Unit)}{Qp:Value->Shared->Prop}{elt ke ve tg iter tg2 iter2:Expr}{ifs ifs2:List Expr}{pos ipos spos px:Pos}{wi wi2:TI}{g g2:TG}{ti ti2:TT}{te tk tv:TE}{pins:List (Addr×Obj)}{σ:St}{H:Hp}{s:Shared}{Q:VK}{o0:HO}
def zlL (hu:X.A.units+1<cLine)(O:Opn X scope cix Fam)(hc:X.calm=true)(hi:PI X tg iter wi)(hg:∀X',Fam X'->PG X' tg g)(ht:∀X',Fam X'->PTs X' ifs ti)(he:∀X',Fam X'->PE X' elt te)(hs:∀x,foldedSetIterable iter X.env x=pure x)(I:Inv X pins σ H s)
  (h:zpf X.prog X.w wi g ti te cix σ H Q) (U:zr7 X pins σ use Qp Q) :
  wpAny (model X.prog X.w) X.A (comprehension (.SetComp elt [⟨tg,iter,ifs,0⟩] scope pos) scope X.env ipos (newSet (.type "set")) false (eval iter X.env) use) Qp X.xe s:=
 uu (ob:={ cls:=.type "set",dict:=none,data:=.set #[] 0 (.fresh 0 0 (!X.w.params.followText "set-order")) }) (o0:=λa=>zgQ X.prog X.w a []) (Fin:=λacc H=>Q (.ref acc) H) (B:=λX' acc P s=>wpAny (model X'.prog X'.w) X'.A (eval elt X'.env) (λx s5=>wpAny (model X'.prog X'.w) X'.A (call (.builtin "set.add") [.ref acc,x]) (λ_ s6=>P s6) (λ_ _=>False) s5) (λ_ _=>False) s) (tb:=λacc Nx σ H=>te σ H λv H5=>∃ (b:Addr) (ns:List Int) (ks:List (List Int)),v = .ref b/\H5 b=some (.tup (ns.map V.int))/\zfU X.prog X.w H5 acc ks/\ks.length<300/\(∀o F,zfU X.prog X.w (upd H5 acc o) acc F->(∀x,x∈F↔x=ns\/x∈ks)->F.length<=ks.length+1->Nx σ (upd H5 acc o))) O hc rfl hs (λ_ _ _ _ _ h0 h1=>ut h0 h1) (λ_ _ _ _ _ _ I Y n h=>zbk I Y n h) (λs Q h=>zjf h) (λ_ _=>zjX (zjW _)) hi hg ht (λX' hF pX wX AX _ xX acc pl s σ H Nx P I q k=>by have e9:=he X' hF pl s σ H _ I q;rw[xX] at e9;refine thn e9 ?_;rintro u2 ad ⟨v,H10,I10,ac,b,ns,ks,rfl,hb,S,hn,nx⟩;cases ac;have Z:=zhn (X:=X') (Q:=λ_ s'=>P s') (by rw[AX];exact hu) I10 (by simp_all) hb hn λo F s' S' hm hl I'=>k _ _ _ I' (nx o F (by simp_all) hm hl);rw[xX] at Z;exact Z) I h (λJ H1 acc q hn=>q acc hn ⟨[],zf,λq hq=>by simp at hq,rfl,eD⟩) U
end
def zhi(B:X.A.units+1<cLine)(F:X.calm=true)(c:CompOk X scope N cix)(hi:QI X tg iter wi)(J:∀C s H ex,QG (zj X scope N C s H ex) tg g)(O:∀C s H ex,QTs (zj X scope N C s H ex) ifs ti)(U:∀C s H ex,QE (zj X scope N C s H ex) elt te)(hs:∀x,foldedSetIterable iter X.env x=pure x:=by intro _;rfl):QE X (.SetComp elt [⟨tg,iter,ifs,0⟩] scope pos) (zpf X.prog X.w wi g ti te cix):=⟨λpins s σ H Q I h=>by
 rw[zdX];exact zlL B (uB c) F hi.run (zaC λC s H ex=>(J C s H ex).run) (zaC λC s H ex=>(O C s H ex).run) (zaC λC s H ex=>(U C s H ex).run) hs I h λ_ _ _ _ _ Y Z q=>zcZ Y Z q⟩
section
variable {P:Program}{w:World}{K:PySem.W.Frag}{a acc:Addr}{xs:List V}{g:TG}{ti:TT}{te:TE}{σ:St}{H:Hp}{Q:VK}
end
open PySem
def zjS (H:Hp):yM H H:=λ_ _ z=>z
open PySem PySem.Spec PyProof.Rows
structure FunD (K:PySem.W.Frag)(x qual:Str)(st:Stmt)(f:Addr)(fd:FuncData):Prop where
 ex:∃ (oc:Value) (od:Option Addr) (dV kV doc pm:Value) (an:Option Addr) (cdv ct:Value) (osl:Array (Option Value)),
  fd=PySem.W.fnOf x qual (yw st) (zE st) (zb st) dV kV doc pm an cdv ct/\K.lookup f=some ⟨oc,od,.func fd,osl⟩/\PySem.W.codeIn K cdv qual=true
 kp:PySem.W.keepIn K (.ref f)=true
def FunD.okQ{P:Program}{w:World}{K:PySem.W.Frag}{mg:Str->Option Value}{base:Heap}{x qual:Str}{st:Stmt}{f:Addr}{fd:FuncData}{N ps:List Str}{sp:Sp}(F:FunD K x qual st f fd)(S:FnScope N ps (zb st))(J:∀vs H Q E,sp vs H Q E->vs.length=ps.length)(I:∀ (B:Value) (A:Around) (outer:List Env) (s:Shared) (H:Hp) (vs:List V) (Q:VK) (E:XK),Room k (A.deeper (envOfC qual (zb st) s.heap.objs.size f B))->sp vs H Q E->
   ∃t,QSs (zdE CX0 P w K mg base N qual (zb st) f B A outer s H E).nox (zE st) t/\t { nx:=λ_ H'=>Q .non H',rt:=Q } (xg N vs) H):FnOk P w K mg base CX0 (k+1) f fd ps sp:=by
 obtain⟨oc,od,dV,kV,Y,pm,an,B,ct,Z,rfl,lk,O⟩:=F.ex;refine zp7 lk O S J λA outer s H vs Q E hr U=>?_;obtain⟨t,h,q⟩:=I B A outer s H vs Q E hr U;exact⟨t,h.run.nox,q⟩
structure DfnD (K:PySem.W.Frag)(mg:Str->Option Value)(x:Str)(st:Stmt)(ps:List Str)(ds:List Value)(f:Addr)(fd:FuncData):Prop where
 F:FunD K x x st f fd
 b:zcK K fd ps []
 bd:zcK K fd ps ds
 m:mg x=some (.ref f)
section
variable {X:Cx}
def zre{x:Str}{st:Stmt}{ps:List Str}{ds:List Value}{dv:List V}{f:Addr}{fd:FuncData}{sp:Sp}{es:List Expr}{p pos:Pos}(D:DfnD X.K X.mg x st ps ds f fd)(J:yn dv ds)(G:FnOk X.prog X.w X.K X.mg X.base CX0 j f fd ps sp)(O:Room k X.A)(U:QA X (e::es) t)(q:j<=k:=by decide)(Y:Gl X x:=by rfl)(B:(x==("__debug__" : Str))=false:=by decide)(Z:starEach (e::es) X.env=(false,eval e X.env)::starEach es X.env:=by rfl)(I:(backTo pos (starEach es X.env)).any (·.1)=false:=by rfl) :
  QE X (.Call (.Name x p) (e::es) [] pos) (zeG sp dv E0 t):=
 ⟨zjq G (O.mono q) Y D.m D.F.kp D.bd J zqQ U.run B Z I⟩
end
def znt{K:PySem.W.Frag}{x qual:Str}{st:Stmt}{f:Addr}{Y I:Option Addr}{F:Array (Option Value)}{J kV B O q ct:Value}(l:K.lookup f=some ⟨U,Y,.func (PySem.W.fnOf x qual (yw st) (zE st) (zb st) J kV B O I q ct),F⟩)(c:PySem.W.codeIn K q qual=true)(k:PySem.W.keepIn K (.ref f)=true):FunD K x qual st f (PySem.W.fnOf x qual (yw st) (zE st) (zb st) J kV B O I q ct):=⟨⟨U,Y,J,kV,B,O,I,q,ct,F,rfl,l,c⟩,k⟩
def zmd{K:PySem.W.Frag}{fd:FuncData}{f:Addr}(l:K.lookup f=some ⟨J,F,.func fd,I⟩){ps:List Str}{O:Value}{q:Array Value}(Z:fd.defaults = .ref T)(ht:K.lookup T=some ⟨O,U,.seq q n,Y⟩)(h:∀B:List Value,(B++ds).length=ps.length->∃k:Option (Array Value)->Sem (List (Str×Value)),bindArgs fd ⟨B,[]⟩=seqItems? fd.defaults >>= k/\k (some q)=pure (ps.zip (B++ds))):zcK K fd ps ds:=λs B KX hl=>by
 obtain⟨k,h1,h2⟩:=h B hl;exact .of_defaults Z (KX _ _ ht) rfl h1 h2
open PySem PySem.Spec PyProof.Rows PySem.W PySem.Calls
section
variable {prog:Program}{w:World}{A:Around}{E:Value->Shared->Prop}{s:Shared}{es:Array DictEntry}
def zcL (h:Heap)(d:Addr)(es:Array DictEntry)(ep:Nat):Prop:=∃o,h.get? d=some o/\o.ExactDict/\o.data = .dict es ep
def zcL.typeIs(x:zcL s.heap d es ep):s.TypeIs (.ref d) "dict" := let ⟨o,ho,hc,_⟩:=x;⟨o,ho,hc.1⟩
def ziB(U:(d==sysModules)=false)(I:zcL s.heap d es ep)(O:Q (.ref s.heap.objs.size) { s with heap:=s.heap.push { cls:=.type "dict_keyiterator",data:=.fields #[.ref d,.int 0 0,.int es.size 0,.int ep 0] } }) :
  wpAny (model prog w) A (pyIter (.ref d)) Q E s:=by
 obtain⟨o,J,Y,q⟩:=id I;have B:=I.typeIs;refine fT B PySem.F.slot_dict_iter (aX PySem.F.slot_dict_iter B PySem.F.entry_dict_iter ?_ (PySem.F.args_dict_iter_1 _));unfold Builtin.«dict.__iter__»;refine aa ?_;unfold Builtin.Dict.dictSlotNone;refine aa (wpAny_notOrdered_dict B ?_);show wpAny _ _ (pure (Value.ref d)) _ _ s;refine ae ?_;show wpAny _ _ (Builtin.Dict.showsAll d >>= _) _ _ s;unfold Builtin.Dict.showsAll;rw[if_neg (by simp_all)];refine aa (ae ?_);refine aa (fU J q ?_);refine aa (wpAny_dictEpoch J q ?_);refine aa (bi (ae ⟨_,rfl,"dict_keyiterator",_,⟨_,aw _ rfl,rfl⟩,PySem.F.slot_dict_keyiterator_next.lookup,?_⟩));simpa [rawInt] using O
def zkW(q:s.heap.IsKeyIter it d i es.size ep)(Y:zcL s.heap d es ep)(Z:es[i]?=some e)(hQ:∀h',h'.IsKeyIter it d (i+1) es.size ep->Heap.SameBut it s.heap h'->Q (.done (.ret e.key)) { s with heap:=h' }):wpAny (model prog w) A (Builtin.«dict_keyiterator.__next__» { pos:=[Value.ref it] }) Q E s:=by
 obtain⟨o,U,hc,O⟩:=id q;obtain⟨od,F,ac,I⟩:=id Y;refine aa (ae ?_);refine aa ?_;refine aa ?_
 first | refine aa (cq q.typeIs (ae ?_)) | refine aa (by grind)
 refine aa (fO U O ?_);have J:Builtin.Dict_items.ownsTuple "dict_keyiterator" = false:=by decide
 simp only[J,aL,if_false];show wpAny _ _ (if (Value.ref d==Value.none)=true then _ else _) _ _ s;rw[if_neg (by grind)];refine aa (ae ?_);refine aa (fU F I ?_);rw[if_neg (by simp)];refine aa (ae ?_);refine aa (wpAny_dictEpoch F I ?_);rw[if_neg (by simp)];refine ae ?_;simp only[show ¬ ((i:Int)<0) from by lia,if_false,bq,Z];refine aa ?_
 first | refine aa (cq q.typeIs (ae ?_)) | refine aa (by grind)
 refine aa (wpAny_isOneOf_keyiter q.typeIs ?_);show wpAny _ _ (setField (.ref it) 1 (rawInt ((i:Int)+1)) >>= _) _ _ s;refine aa (cJ U O (by simp) ?_)
 have B:(s.heap.update it (Obj.mapFields (·.setIfInBounds 1 (rawInt ((i:Int)+1))))).IsKeyIter it d (i+1) es.size ep:=
  ⟨_,cI _ U (dq (bX O _)),(ev ..).trans hc,by rw[bX O];simp[rawInt]⟩
 refine aa (bL ?_);refine aa (wpAny_isOneOf_keyiter (s:={ s with heap:=s.heap.update it (Obj.mapFields (·.setIfInBounds 1 (rawInt ((i:Int)+1)))) }) B.typeIs ?_);show wpAny _ _ (pure e.key) _ _ _;exact ae (ae (hQ _ B (ba ..)))
def zhc(q:s.heap.IsKeyIter it d i es.size ep)(B:zcL s.heap d es ep)(F:es[i]?=some e)(I:∀h',h'.IsKeyIter it d (i+1) es.size ep->Heap.SameBut it s.heap h'->Q (some e.key) { s with heap:=h' }):wpAny (model prog w) A (pyNext (.ref it)) Q E s:=by
 unfold pyNext
 exact aa (dS (wpAny_callSpecial?_slot (name:=Str.ofString "__next__") q.typeIs bV
  (aX bV q.typeIs dL (zkW q B F λh' a b=>⟨_,rfl,ae (I h' a b)⟩) (dF _))))
def znN(U:A.handled=none)(q:s.heap.IsKeyIter it d es.size es.size ep)(Y:zcL s.heap d es ep)(Z:∀h' x,Heap.ExtBut it s.heap h'->(∃o,h'.get? x=some o/\o.cls = .type "StopIteration")->E (.ref x) { s with heap:=h' }):wpAny (model prog w) A (Builtin.«dict_keyiterator.__next__» { pos:=[Value.ref it] }) Q E s:=by
 obtain⟨o,J,hc,O⟩:=id q;obtain⟨od,B,ac,F⟩:=id Y;refine aa (ae ?_);refine aa ?_;refine aa ?_
 first | refine aa (cq q.typeIs (ae ?_)) | refine aa (by grind)
 refine aa (fO J O ?_);have I:Builtin.Dict_items.ownsTuple "dict_keyiterator" = false:=by decide
 simp only[I,aL,if_false];show wpAny _ _ (if (Value.ref d==Value.none)=true then _ else _) _ _ s;rw[if_neg (by grind)];refine aa (ae ?_);refine aa (fU B F ?_);rw[if_neg (by simp)];refine aa (ae ?_);refine aa (wpAny_dictEpoch B F ?_);rw[if_neg (by simp)];refine ae ?_;simp only[show ¬ ((es.size:Int)<0) from by lia,if_false,bq,Array.getElem?_eq_none (ah es.size)];refine aa ?_
 first | refine aa (cq q.typeIs (ae ?_)) | refine aa (by grind)
 show wpAny _ _ (setField (.ref it) 0 .none >>= _) _ _ s;refine aa (cJ J O (by simp) ?_);show wpAny _ _ (newExc (.type "StopIteration") [] >>= _) _ _ _;refine aa ?_;simp only[newExc,newTuple];refine aa (bi ?_ (by size_fits));refine aa (m:=firstArgMember _ _) (wpAny_of_eq (a:=Value.none) (by first | rfl | (simp only[firstArgMember];rfl)) ?_);refine bi ?_ (by size_fits);simp only[raiseNew];refine aa (fY ?_);rw[U];refine aa (ae (wpAny_throw ?_));exact Z _ _ (((ba ..).extBut.push _).push _) ⟨_,aw _ rfl,rfl⟩
def zjg(B:A.handled=none)(q:s.heap.IsKeyIter it d es.size es.size ep)(F:zcL s.heap d es ep)(I:∀h',Heap.ExtBut it s.heap h'->Q none { s with heap:=h' }):wpAny (model prog w) A (pyNext (.ref it)) Q E s:=by
 unfold pyNext
 refine aa (dS (wpAny_callSpecial?_slot (name:=Str.ofString "__next__") q.typeIs bV
  (aX bV q.typeIs dL (znN B q F λh' x a b=>?_) (dF _))))
 exact aa (cE (T := "StopIteration") (b:=true) b fN (ae (I _ a)))
end
section
variable {prog:Program}{w:World}{A:Around}{E:Value->Shared->Prop}{s:Shared}
end
section
variable {X:Cx}
end
def ziL (kvs:List (List Int×V)):List (List Key×V):=kvs.map λq=>(q.1.map Sum.inl,q.2)
def dtO (kvs:List (List Int×V)):HO:=.dT (ziL kvs)
def zkV (kvs:List (List Int×V))(st:List Int):zaE (ziL kvs) (st.map Sum.inl)=zaE kvs st:=by
 unfold ziL
 induction kvs with
 | nil=>rfl
 | cons q r B=>
  rw[au];by_cases e:q.1=st
  ·rw[yW (p:=q) e,yW (p:=(q.1.map Sum.inl,q.2)) (by rw[e])]
  ·rw[yU (p:=q) e,yU (p:=(q.1.map Sum.inl,q.2)) (λz=>e (xW z)),B]
def zkU (kvs:List (List Int×V))(st:List Int)(v:V):uQ (ziL kvs) (st.map Sum.inl) v=ziL (uQ kvs st v):=by
 have B:∀q:List Int×V,decide ((q.1.map (Sum.inl:Int->Key))=st.map Sum.inl)=decide (q.1=st):=λq=>by rw[bA,ce,ce];exact⟨xW,λz=>by rw[z]⟩
 have F:((ziL kvs).any λkv=>decide (kv.1=st.map Sum.inl))=kvs.any λkv=>decide (kv.1=st):=by unfold ziL;rw[gm];congr 1;funext q;exact B q
 unfold uQ;rw[F];by_cases h:(kvs.any λkv=>decide (kv.1=st))=true
 ·rw[if_pos h,if_pos h];unfold ziL;rw[aI,aI];refine dM λq _=>?_
  grind
 ·rw[if_neg h,if_neg h];unfold ziL
  simp_all
def zdH.i{kvs:List (List Int×V)}{st:List Int}(e:H a=some (dtO kvs))(q:H b=some (.tup (st.map V.int)))(B:kvs.length<sizeLine):zdH H a (.ref b) v (upd H a (dtO (uQ kvs st v))):=by have:=zdH.t (k:=st.map Sum.inl) (v:=v) e (by rw[zfk];exact q) (by unfold ziL;rw[ab];exact B);rwa[zkU] at this
section
variable {X:Cx}
end
open PySem PySem.Spec PyProof.Rows
abbrev Up' (l:List (List Int)):Prop:=l.Pairwise λa b=>HT.lexLt a b=true
def znA (x:List Int):List (List Int)->List (List Int)
 | []=>[x]
 | y::r=>if HT.lexLt x y then x::y::r else if x=y then y::r else y::znA x r
def zfO (l:List (List Int)):List (List Int):=l.foldr znA []
def zc3 {x z:List Int}:∀ {l:List (List Int)},z∈znA x l↔z=x\/z∈l
 | []=>by show z∈[x]↔_;simp
 | y::r=>by
  unfold znA;split
  ·simp
  ·split
   ·simp_all
   ·rw[ay,zc3,ay]
    grind
def zZ {z:List Int}:∀ {l:List (List Int)},z∈zfO l↔z∈l
 | []=>Iff.rfl
 | x::l=>by show z∈znA x (zfO l)↔_;rw[zc3,zZ,ay]
def ziu {x:List Int}{m:Nat}(F:x.length=m):∀ {l:List (List Int)},(∀y∈l,y.length=m)->Up' l->Up' (znA x l)
 | [],_,_=>dX _ _
 | y::r,I,B=>by
  have J:=I y ak;rw[Up',aS] at B;unfold znA;split
  ·rename_i h;refine aS.mpr ⟨λz q=>?_,aS.mpr B⟩;rcases ay.mp q with rfl | q
   ·exact h
   ·exact zao (F.trans J.symm) (by grind) h (B.1 z q)
  ·rename_i h;split
   ·exact aS.mpr B
   ·rename_i O;refine aS.mpr ⟨λz q=>?_,ziu F (λz q=>I z (ai _ q)) B.2⟩;rcases zc3.mp q with rfl | q
    ·rcases zan (a:=z) (b:=y) (F.trans J.symm) with e | e | e
     all_goals simp_all
    ·exact B.1 z q
def zj0{l:List (List Int)}(h:∀y∈l,y.length=m):∀y∈zfO l,y.length=m:=λy q=>h y (zZ.mp q)
def zbv:∀ {l:List (List Int)},(∀y∈l,y.length=m)->Up' (zfO l)
 | [],_=>.nil
 | x::l,h=>ziu (h x ak) (zj0 λy q=>h y (ai _ q)) (zbv λy q=>h y (ai _ q))
def zke:∀ {l l':List (List Int)},(∀y∈l,y.length=m)->Up' l->Up' l'->(∀z,z∈l↔z∈l')->l=l'
 | [],[],_,_,_,_=>rfl
 | [],y::r,_,_,_,h=>absurd ((h y).mpr ak) (by simp)
 | x::l,[],_,_,_,h=>absurd ((h x).mp ak) (by simp)
 | x::l,y::r,F,I,q,h=>by
  rw[Up',aS] at I q;have B:∀z∈y::r,z.length=m:=λz J=>F z ((h z).mpr J)
  have e:x=y:=by
   rcases ay.mp ((h x).mp ak) with e | e
   ·exact e
   ·rcases ay.mp ((h y).mpr ak) with O | O
    ·exact O.symm
    ·have h1:=q.1 x e;have h2:=I.1 y O;have Y:=zao ((F x ak).trans (B y ak).symm) ((B y ak).trans (F x ak).symm) h2 h1;rw[zQ] at Y;cases Y
  subst e
  have U:∀ {l:List (List Int)},(∀z∈l,HT.lexLt x z=true)->x∉l:=λZ z=>by have:=Z x z;rw[zQ] at this;cases this
  congr 1;refine zke (λz J=>F z (ai _ J)) I.2 q.2 λz=>?_
  grind
def zlN{l l':List (List Int)}(q:∀y∈l,y.length=m)(B:Up' l')(h:∀z,z∈l'↔z∈l):l'=zfO l:=
 zke (λy F=>q y ((h y).mp F)) B (zbv q) λz=>(h z).trans zZ.symm
def zlX {l:List (List Int)}(h:Up' l):l.Nodup:=h.imp λ{a b} q e=>by subst e;rw[zQ] at q;cases q
def zfc (bk:List Wi)(st hs:List Int):List (List Int):=(bk.filter λx=>xC st x&&!hs.contains x.b).map λx=>chg st x.b x.r
def xz (bk:List Wi)(st hs:List Int):List (List Int):=zfO (zfc bk st hs)
def yG{st hs z:List Int}:z∈zfc bk st hs↔∃x∈bk,xC st x=true/\x.b∉hs/\z=chg st x.b x.r:=by
 unfold zfc
 grind
def zae{rm:List Int}{st hs:List Int}(q:∀x∈bk,WishOk rm x)(F:st.length=rm.length):∀z∈zfc bk st hs,z.length=rm.length:=λz I=>by obtain⟨x,B,_,_,rfl⟩:=yG.mp I;have h1:=(q x B).b1;rw[zcT (q x B).b0 (by lia)];exact F
def zbN {α:Type}[BEq α][LawfulBEq α]:∀ {l l':List α},l.Nodup->(∀x∈l,x∈l')->l.length<=l'.length
 | [],_,_,_=>aN _
 | a::l,l',q,h=>by
  rw[cL] at q;have B:=h a ak
  have:=zbN (l:=l) (l':=l'.erase a) q.2 λx F=>by grind
  grind
def zd2{rm:List Int}{st hs:List Int}{ks:List (List Int)}(q:∀x∈bk,WishOk rm x)(Y:rm.length<=8)(B:∀r∈rm,2<=r/\r<=4)(F:ks.Nodup)(I:∀z∈ks,z∈zfc bk st hs):ks.length<=32:=by
 have:=zbN (l':=(List.range 32).map λc=>chg st ((c / 4:Nat):Int) ((c % 4:Nat):Int)) F λz J=>by obtain⟨x,O,_,_,rfl⟩:=yG.mp (I z J);have o:=q x O;have h1:=o.b1;have h2:=o.b0;have U:=o.r0;have Z:=o.r1;have h5:=(zav B h2 h1).2;refine aG.mpr ⟨4 * x.b.toNat+x.r.toNat,aQ.mpr (by lia),?_⟩;rw[show (4 * x.b.toNat+x.r.toNat) / 4=x.b.toNat by lia,show (4 * x.b.toNat+x.r.toNat) % 4=x.r.toNat by lia,bu h2,bu U]
 simp_all
def zm5{rm:List Int}{st hs:List Int}(q:∀x∈bk,WishOk rm x)(B:rm.length<=8)(F:∀r∈rm,2<=r/\r<=4)(I:st.length=rm.length):(xz bk st hs).length<=32:=
 zd2 (hs:=hs) q B F (zlX (zbv (zae q I))) λz J=>zZ.mp J
open PySem
end L2
namespace L2
open PySem PySem.Spec PyProof.Rows PySem.SeqAt
def uL:∀ds:List Dt,Dt.toWs ds=ds.map Dt.toW
 | []=>rfl
 | d::ds=>by rw[Dt.toWs,au,uL ds]
def zef:∀ds:List PySem.W.Dat,PySem.W.kqdPs ds=ds.map PySem.W.kqdP
 | []=>by simp[PySem.W.kqdPs]
 | d::ds=>by rw[au,<- zef ds];simp[PySem.W.kqdPs]
def zt3 (q:Bool):R2:=λx y H Q=>∃d ds,Is H d x/\(Is H (.lst ds) y\/Is H (.tup ds) y)/\d.eqOk/\(Dt.lst ds).eqOk/\∀b:Bool,(b=true↔d∈ds)->Q (.bl (if q then !b else b)) H
section
variable {X:Cx}
def zc4(h:(Dt.lst ds).eqOk):∀d∈ds,PySem.W.kqdOk 7 d.toW=true:=λd q=>by
 have h':PySem.W.kqdOk 8 (Dt.lst ds).toW=true:=h;simp only[Dt.toW,PySem.W.kqdOk,bJ,uL] at h'
 simp_all
def zhF(q:d.eqOk)(hs:(Dt.lst ds).eqOk):((PySem.W.kqdPs (Dt.toWs ds)).any λy=>PyData.eqv y (PySem.W.kqdP d.toW))=true↔d∈ds:=by
 rw[zef,uL,aI,gm,gf];constructor
 ·rintro⟨e,B,h⟩;have:=(du 7 e.toW d.toW 8 (zc4 hs e B) q).mp h;rw[<- zb8 this];exact B
 ·intro h;exact⟨d,h,(du 7 d.toW d.toW 8 (zc4 hs d h) q).mpr rfl⟩
def zk0(h:PySem.W.kqdOk 7 d=true):PySem.W.kqdOk 8 d=true:=by
 have q:∀ (n:Nat) (d:PySem.W.Dat),PySem.W.kqdOk n d=true->PySem.W.kqdOk (n+1) d=true:=by
  intro n
  induction n with
  | zero=>intro d h;cases d <;> simp_all [PySem.W.kqdOk]
  | succ n B=>
   intro d h;cases d <;> simp_all [PySem.W.kqdOk]
 exact q 7 d h
def zql {d:Dt}{ds:List Dt}{u:Nat}(I:d.eqOk)(hs:(Dt.lst ds).eqOk)(U:u+64<cLine):PyData.canLayAll0 (PySem.W.kqdPs (Dt.toWs ds))=true/\(PySem.W.kqdP d.toW).canLay0=true/\u+1+min (PyData.depthAll (PySem.W.kqdPs (Dt.toWs ds))) (PySem.W.kqdP d.toW).depth<cLine:=by
 have B:=cO 8 _ I
 have J:=PySem.W.kqd_layL (ds:=Dt.toWs ds) λe F=>by rw[uL] at F;obtain⟨O,q,rfl⟩:=aG.mp F;exact zk0 (zc4 hs O q)
 refine⟨J.1,B.1,?_⟩;have:min (PyData.depthAll (PySem.W.kqdPs (Dt.toWs ds))) (PySem.W.kqdP d.toW).depth<=8:=az (gc _ _) B.2;lia
def zjm (Z:X.A.units+64<cLine):OpQ X (compareOp .In) (zt3 false):=⟨by
 intro pins s σ H x y v u Q I rx J h;obtain⟨d,ds,hd,B,F,ks,q⟩:=h;obtain⟨as,ra⟩:=yR I.hok 8 hd rx F;obtain⟨O,U,Y⟩:=zql F ks Z;rcases B with B | B
 ·obtain⟨bs,rb⟩:=yR I.hok 8 B J ks;exact in_list_reads rb ra O U Y ⟨.bl _,H,I,rfl,q _ (zhF F ks)⟩
 ·obtain⟨bs,rb⟩:=yR I.hok 8 B J (show (Dt.tup ds).eqOk from ks);exact in_tuple_reads rb ra O U Y ⟨.bl _,H,I,rfl,q _ (zhF F ks)⟩⟩
end
open PySem PySem.Spec PyProof.Rows
def zqP (bk:List Wi)(q:Int)(st:List Int):List (List Int):=(bk.filter λx=>decide (x.b=q)&&yz st x.g).map λx=>[x.w,x.r]
def lpF (bk:List Wi)(q:Int)(st:List Int):List (List Int):=zfO (zqP bk q st)
def zlU (C:Nat->Nat->Bool)(w j:Nat):List (List Int):=((List.range j).filter (C w)).map λb:Nat=>[(w:Int),(b:Int)]
def zuj (C:Nat->Nat->Bool)(n:Nat):Nat->List (List Int)
 | 0=>[]
 | i+1=>zuj C n i++zlU C i n
def zfP {a b:List Int}(h:stD a=stD b):a=b:=by have:=congrArg (List.map Dt.val) (Dt.tup.inj h);rwa[x8,x8] at this
open PySem PySem.Spec PyProof.Rows PySem.W PySem.Calls
section
variable {prog:Program}{w:World}{A:Around}{E:Value->Shared->Prop}{s:Shared}{R:Result->Shared->Prop}
end
section
variable {X:Cx}
end
open PySem PySem.Spec PyProof.Rows
section
variable {X:Cx}{e st:Expr}{te tk:TE}{pos p2:Pos}
end
def zeO {B q:List Int}:∀ {bk:List Wi} {i:Nat},zmX B q i bk=none↔∀x∈bk,zfd B q x=false
 | [],i=>⟨λ_ _ h=>by simp at h,λ_=>rfl⟩
 | x::bk,i=>by
  show (if zfd B q x then some i else zmX B q (i+1) bk)=none↔_;by_cases h:zfd B q x=true
  ·grind
  ·rw[if_neg h,zeO]
   grind
def zgh {B q:List Int}{x:Wi}:zfd B q x=true↔xC B x=true/\chg B x.b x.r=q:=by
 unfold zfd
 grind
def zeW{B q:List Int}:q∈xz bk B []↔∃x∈bk,zfd B q x=true:=by
 unfold xz;rw[zZ,yG];constructor
 ·rintro⟨x,F,h1,_,h2⟩;exact⟨x,F,zgh.mpr ⟨h1,h2.symm⟩⟩
 ·rintro⟨x,F,h⟩;obtain⟨h1,h2⟩:=zgh.mp h;exact⟨x,F,h1,eR,h2.symm⟩
def zhI{B q:List Int}:q∈xz bk B []↔zmX B q i bk≠none:=by
 rw[zeW,Ne,zeO]
 grind
def zcQ{rm:List Int}{B q:List Int}(F:∀x∈bk,WishOk rm x)(h1:B.length=rm.length)(h2:q.length=rm.length):B∈xz (bk.map xh) q []↔q∈xz bk B []:=by rw[zhI (i:=0),zhI (i:=0),zeP h1 h2 0 F]
def zm6{rm:List Int}{q hs:List Int}(B:∀x∈bk,WishOk rm x)(F:q.length=rm.length):Up' (xz bk q hs):=zbv (zae B F)
def unlike (q z hs:List Int):List Int:=hs.filter λb=>decide (zB q b≠zB z b)
section
variable {X:Cx}{pos:Pos}
end
end L2
namespace L2
open PySem PySem.Spec PyProof.Rows
end L2
namespace L2
open PySem PySem.Spec PyProof.Rows
section
variable {M:Model}{A:Around}{E:Value->Shared->Prop}{s:Shared}
end
section
variable {X:Cx}{pins:List (Addr×Obj)}{σ:St}{H:Hp}{s:Shared}{scope:Scope}{N:List Str}{z:Str}{cix:List (Option Nat)}
end
section
variable {X:Cx}{scope:Scope}{N:List Str}{cix:List (Option Nat)}{z:Str}
end
end L2
namespace L2
open PySem PySem.Spec PyProof.Rows
end L2
namespace L2
open PySem PySem.Spec PyProof.Rows
section
variable {prog:Program}{w:World}{A:Around}{E:Value->Shared->Prop}{s:Shared}{R:Result->Shared->Prop}{Kt:Type}[DecidableEq Kt]{knd:KeyKind prog w Kt}{κ:Int->Kt}
end
end L2
namespace L2
open PySem PySem.Spec PyProof.Rows
end L2
namespace L2
open PySem PySem.Spec PyProof.Rows
@[reducible] def nmS (b:Bool):String:=match b with | true => "tuple" | false => "list"
@[reducible] def nmI (b:Bool):String:=match b with | true => "tuple_iterator" | false => "list_iterator"
@[reducible] def SqV (b:Bool) (K:PySem.W.Frag) (H:Hp) (a:Addr) (xs:List V):Prop:=match b with | true=>SqT K H a xs | false=>SqL K H a xs
section
variable {prog:Program}{w:World}{A:Around}{E:Value->Shared->Prop}{s:Shared}
end
section
variable {X:Cx}
def zoT:V->List V->Hp->VK->Prop:=λx vs H Q=>∃l xs k y,x = .ref l/\vs=[.int k,y]/\H l=some (.lst xs)/\0<=k/\k<=xs.length/\xs.length<sizeLine/\Q .non (upd H l (.lst (xs.take k.toNat++y::xs.drop k.toNat)))
def zjc:MtM X "list.insert" zoT:=by
 intro pins s σ H x vs v us Q I J O h;obtain⟨l,xs,k,y,rfl,rfl,B,h0,h1,U,q⟩:=h;cases J
 cases O with
 | cons Y Z=>
  cases Z with
  | cons r2 rn=>
   cases rn;obtain⟨t,rfl⟩:=Y;obtain⟨z,its,n,r,hl,e⟩:=I.lstM (.inl B)
   have hk:k<2 ^ 63:=by
    have:(xs.length:Int)<=2 ^ 40:=by have h2:xs.length<=2 ^ 40:=az (cR U) (by decide);lia
    lia
   refine call_meets PySem.F.slot_list_insert ⟨_,e,rfl⟩ PySem.F.entry_list_insert (PySem.F.args_list_insert_3 _ _ _)
    (AutoSeq1.list_insert_list_int_val_1 l its.toArray n k t _ (by rw[fitsIndex_both (by lia) hk];decide) (by grind)) ⟨e,?_⟩
   refine⟨.non,_,I.lset (its':=its.take k.toNat++_::its.drop k.toNat) B e ?_ ((r.take _).append (.cons r2 (r.drop _))) ?_,rfl,q⟩
   ·show (its.toArray.extract 0 (if k<0 then (k+(its.toArray.size:Int)).toNat else min k.toNat its.toArray.size)).push _++its.toArray.extract (if k<0 then (k+(its.toArray.size:Int)).toNat else min k.toNat its.toArray.size)=_;rw[if_neg (by lia),aU,dY (by lia)];apply eQ.mp;simp;rw[a8 (by simp)]
   ·grind
def zmF{T:String}{name:Str}{id:String}{r:V->List V->Hp->VK->Prop}{es:List Expr}{to:TE}{t:TA}{apos cpos:Pos}(U:PlainAttrs T)(I:Slot T name id)(O:typeOf (.builtin id)=pure (.type "method_descriptor"))(Y:MtR X id r)(Z:QE X o to)(ha:QA X (e::es) t)(B:attributeBase o name X.env (eval o X.env)=eval o X.env:=by rfl)(J:((backTo cpos (starEach (e::es) X.env)).all (λx=>!x.1)&&(backToKw cpos (keywordEach [] X.env)).all (λx=>x.1.isSome)
   && decide ((e::es).length+([]:List Keyword).length+(if ([]:List Keyword).isEmpty then 0 else 1)<30))=true:=by rfl)(F:(apos.endLine==cpos.line)=true:=by rfl)(hs:starEach (e::es) X.env=(false,eval e X.env)::starEach es X.env:=by rfl)(q:(backTo cpos (starEach es X.env)).any (·.1)=false:=by rfl) :
  QE X (.Call (.Attribute o name apos) (e::es) [] cpos) (tBM X.K T r to t):=⟨zqS U I O Y Z.run ha.run B J F hs q⟩
end
mutual
def Dt.hk:Dt->Bool
 | .int _=>true
 | .tup l=>Dt.hks l
 | _=>false
def Dt.hks:List Dt->Bool
 | []=>true
 | d::ds=>d.hk&&Dt.hks ds
end
def yY:∀ {l:List Dt},Dt.hks l=true↔∀d∈l,d.hk=true
 | []=>by simp[Dt.hks]
 | d::l=>by simp[Dt.hks,yY (l:=l)]
noncomputable instance:DecidableEq Dt:=λa b=>Classical.propDecidable _
section
mutual
def zaf:Dt->Int
 | .int n=>hashInt n
 | .tup l=>reduceHash (Builtin.Tuple.tupleHashOf (zgg l))
 | _=>0
def zgg:List Dt->List Int
 | []=>[]
 | d::ds=>zaf d::zgg ds
end
mutual
def drD:Dt->Nat
 | .tup l=>zga l+1
 | _=>1
def zga:List Dt->Nat
 | []=>0
 | d::ds=>drD d+zga ds
end
def zcs:∀l:List Dt,zgg l=l.map zaf
 | []=>rfl
 | d::l=>by rw[zgg,zcs l,au]
def zgb:∀l m:List Dt,zga (l++m)=zga l+zga m
 | [],m=>by simp[zga]
 | d::l,m=>by rw[cG,zga,zgb l m,zga,el]
end
section
variable {P:Program}{w:World}
def xD(h:PySem.W.kqdOk (n+1) (Dt.tup l).toW=true):∀d∈l,PySem.W.kqdOk n d.toW=true:=λd q=>by
 simp only[Dt.toW,PySem.W.kqdOk,bJ,uL] at h
 simp_all
def zny:∀ (n:Nat) {d:Dt} {A:Around} {v:Value} {as:List Addr} {s:Shared} {Q:Int->Shared->Prop},d.hk=true->PySem.W.kqdOk n d.toW=true->Reads s.heap v (PySem.W.kqdP d.toW) as->A.units+n<cLine->
  Q (zaf d) { s with toks:=s.toks+drD d }->wpAny (model P w) A (pyHash v) Q E s:=by
 intro n
 induction n with
 | zero=>
  intro d A v as s Q U Z J hu q
  cases d with
  | int i=>
   cases J;exact (intKind P w).pyHash (k:=i) (by simp[intKind,Value.isInt]) q
  | tup l=>simp[Dt.toW,PySem.W.kqdOk] at Z
  | _=>cases U
 | succ n ih=>
  intro d A v as s Q U Z J hu q
  cases d with
  | int i=>
   cases J;exact (intKind P w).pyHash (k:=i) (by simp[intKind,Value.isInt]) q
  | tup l=>
   have hi:=xD Z;have ac:=yY.mp (show Dt.hks l=true from U)
   cases J with
   | @tuple a o vs m xs as g hc hd O=>
   have Y:s.TypeIs (.ref a) "tuple" := ⟨o,g,hc⟩;unfold pyHash
   first | unfold pyHashByItsType | skip
   first | refine aa (wpAny_cRoomFor_or (.inr (by lia)) ?_) | skip
   refine aa (di Y F.slot_tuple_hash.lookup ?_);show wpAny _ _ (if (some (Value.builtin "tuple.__hash__")==some Value.none)=true then _ else _) Q E s;rw[if_neg (by rw[beq_builtin_none];exact ar)];refine aa (di Y F.slot_tuple_hash.lookup ?_);show wpAny _ _ (callSpecialIfBoundUnlessNone? (.ref a) "__hash__" _ >>= _) Q E s;refine aa (wpAny_callSpecialIfBoundUnlessNone?_slot Y F.slot_tuple_hash (aX F.slot_tuple_hash Y F.entry_tuple_hash ?_ (F.args_tuple_hash_1 _)));show wpAny _ _ (Builtin.Tuple.tupleItemsOf (.ref a) >>= _) _ _ s;refine aa (fK g hd ?_);refine aa ?_;rw[<- ee]
   refine cY _
    (λzw (b:Array Int) s'=>∃done left bs,l=done++left/\ReadsAll s.heap zw (PySem.W.kqdPs (Dt.toWs left)) bs/\b.toList=done.map zaf/\s'={ s with toks:=s.toks+zga done })
    _ ?_ ?_ _ _ ⟨[],l,_,rfl,O,rfl,rfl⟩
   ·rintro x zw b s' ⟨done,left,bs,rfl,O,hb,rfl⟩
    cases left with
    | nil=>cases O
    | cons y left=>
     simp only[Dt.toWs,PySem.W.kqdPs] at O
     cases O with
     | cons h1 ad=>
     refine aa (ih (s:={ s with toks:=s.toks+zga done }) (ac y (by simp)) (hi y (by simp)) h1 (by show A.units+1+n<cLine;lia) ?_);refine (λz=>?_:∀z,_) (⟨done++[y],left,_,by simp,ad,by simp[hb],by rw[zgb];simp[zga,el]⟩:∃B I ag,done++y::left=B++I/\ReadsAll s.heap zw (PySem.W.kqdPs (Dt.toWs I)) ag/\(b.push (zaf y)).toList=B.map zaf/\({ s with toks:=s.toks+zga done+drD y }:Shared)={ s with toks:=s.toks+zga B })
     first
      | exact ae z
      | exact aa (ae (ae z))
   ·rintro b s' ⟨done,left,bs,rfl,O,hb,rfl⟩
    cases left with
    | cons y left=>simp only[Dt.toWs,PySem.W.kqdPs] at O;cases O
    | nil=>
    rw[bD] at q;have q:Q (reduceHash (Builtin.Tuple.tupleHashOf (done.map zaf))) { s with toks:=s.toks+(zga done+1) }:=by rw[<- zcs];exact q
    show wpAny _ _ (retInt (Builtin.Tuple.tupleHashOf b.toList)) _ _ _;rw[hb];refine wpAny_ret_mkInt ?_;show wpAny _ _ (if (decide (-(2:Int) ^ 63<=Builtin.Tuple.tupleHashOf (done.map zaf))&&decide (Builtin.Tuple.tupleHashOf (done.map zaf)<2 ^ 63))=true then _ else _) Q E _;unfold reduceHash at q;by_cases J:(decide (-(2:Int) ^ 63<=Builtin.Tuple.tupleHashOf (done.map zaf))&&decide (Builtin.Tuple.tupleHashOf (done.map zaf)<2 ^ 63))=true
    ·rw[if_pos J];rw[if_pos J] at q;exact ae (by simpa [el] using q)
    ·rw[if_neg J];rw[if_neg J] at q;exact aa (ck (ae (by simpa [el] using q)))
  | _=>cases U
def zlA:∀ (n:Nat) {d:Dt} {v:Value} {as:List Addr} {Q:Bool->Shared->Prop},d.hk=true->PySem.W.kqdOk n d.toW=true->Reads s.heap v (PySem.W.kqdP d.toW) as->
  Q true s->wpAny (model P w) A (eqIsQuiet n v) Q E s:=by
 intro n
 induction n with
 | zero=>
  intro d v as Q J O B q
  cases d with
  | tup l=>simp[Dt.toW,PySem.W.kqdOk] at O
  | int i=>cases B;rw[eqIsQuiet_byValue _ rfl];exact ae q
  | _=>cases J
 | succ n ih=>
  intro d v as Q J O B q
  cases d with
  | int i=>cases B;rw[eqIsQuiet_byValue _ rfl];exact ae q
  | tup l=>
   have hi:=xD O;have U:=yY.mp (show Dt.hks l=true from J)
   cases B with
   | @tuple a o vs m xs as g hc Y I=>
   have hT:s.TypeIs (.ref a) "tuple" := ⟨o,g,hc⟩;unfold eqIsQuiet;refine aa (di hT F.slot_tuple_eq.lookup ?_);show wpAny _ _ (isInstance (.ref a) (.type "tuple") >>= _) _ _ s;refine aa (cE hT isSubtype_tuple_tuple ?_);simp only[cV,aL,if_false];refine aa (eE g Y ?_);refine aa ?_;show wpAny _ _ (forIn vs _ _) _ _ s;rw[<- ee];refine cY _ (λzw r s'=>r.1=none/\s'=s/\∃left bs,(∀d∈left,d∈l)/\ReadsAll s.heap zw (PySem.W.kqdPs (Dt.toWs left)) bs) _ ?_ ?_ _ _ ⟨rfl,rfl,l,_,λ_ z=>z,I⟩
   ·rintro x zw r s' ⟨B,rfl,left,bs,hs,I⟩
    cases left with
    | nil=>cases I
    | cons y left=>
     simp only[Dt.toWs,PySem.W.kqdPs] at I
     cases I with
     | cons h1 Z=>
     refine aa (ih (U y (hs y (by simp))) (hi y (hs y (by simp))) h1 ?_);simp only[cV,aL,if_false];exact ae ⟨rfl,rfl,left,_,λd Y=>hs d (ai _ Y),Z⟩
   ·rintro⟨r1,r2⟩ s' ⟨B,rfl,_⟩;simp only at B;subst B;exact ae q
  | _=>cases J
mutual
def x4 {h h':Heap}(k:∀b o vs n,h.get? b=some o->o.cls = .type "tuple" -> o.data = .seq vs n->h'.get? b=some o):∀ {d:Dt} {v:Value} {as:List Addr},d.hk=true->Reads h v (PySem.W.kqdP d.toW) as->Reads h' v (PySem.W.kqdP d.toW) as
 | .int i,_,_,_,r=>by cases r;exact .int _ _
 | .str _,_,_,hk,_=>by cases hk
 | .tup l,_,_,hk,r=>by
  cases r with
  | tuple g hc hd hl=>exact .tuple (k _ _ _ _ g hc hd) hc hd (zba k hk hl)
 | .non,_,_,hk,_=>by cases hk
 | .bl _,_,_,hk,_=>by cases hk
 | .lst _,_,_,hk,_=>by cases hk
 | .dct,_,_,hk,_=>by cases hk
def zba {h h':Heap}(k:∀b o vs n,h.get? b=some o->o.cls = .type "tuple" -> o.data = .seq vs n->h'.get? b=some o):∀ {l:List Dt} {vs:List Value} {as:List Addr},Dt.hks l=true->ReadsAll h vs (PySem.W.kqdPs (Dt.toWs l)) as->ReadsAll h' vs (PySem.W.kqdPs (Dt.toWs l)) as
 | [],_,_,_,r=>by simp only[Dt.toWs,PySem.W.kqdPs] at r ⊢;cases r;exact .nil
 | d::l,_,_,hk,r=>by
  simp only[Dt.hks,aJ] at hk;simp only[Dt.toWs,PySem.W.kqdPs] at r ⊢
  cases r with
  | cons r1 r2=>exact .cons (x4 k hk.1 r1) (zba k hk.2 r2)
end
def zpD (h:Heap)(k:Dt)(a:Addr):Prop:=k.hk=true/\k.eqOk/\∃as,Reads h (.ref a) (PySem.W.kqdP k.toW) as
def zmk {x y:Dt}(q:x.eqOk)(B:y.eqOk):PyData.eqv (PySem.W.kqdP x.toW) (PySem.W.kqdP y.toW)=decide (x=y):=by rw[bA,bQ,du 8 _ _ 8 q B];exact⟨λh=>zb8 h,λh=>by rw[h]⟩
noncomputable def zkv (P:Program)(w:World):HeapKind P w Dt where
 is:=zpD
 hash:=zaf
 draws:=drD
 room:=λA=>A.units+9<cLine
 inj:=λ{h a x y} B J=>by obtain⟨_,I,_,O⟩:=B;obtain⟨_,F,_,U⟩:=J;have:=SeqAt.Reads.unique _ _ _ _ _ (cO 8 _ I).1 O U;exact zb8 ((du 8 _ _ 8 I F).mp (by rw[this];exact (du 8 _ _ 8 F F).mpr rfl))
 keeps:=λ{h h' k a d o es ep} B ho hd hs=>by
  obtain⟨h1,h2,_,r⟩:=B;refine⟨h1,h2,_,x4 (λb u vs n e _ Y=>?_) h1 r⟩;by_cases Z:b=d
  ·subst Z;rw[ho] at e;cases e;rw[hd] at Y;cases Y
  ·exact (hs.2 b Z).trans e
 pyHash:=λ{A E s k a Q} hu B q=>by obtain⟨h1,h2,_,r⟩:=B;exact zny 8 h1 h2 r (by lia) q
 eqBool:=λ{A E s x y a b Q} hu B J q=>by obtain⟨h1,I,_,O⟩:=B;obtain⟨h2,F,_,U⟩:=J;have l1:=cO 8 _ I;have l2:=cO 8 _ F;refine SeqAt.eqBoolOverData _ _ _ _ _ _ _ _ _ _ _ _ O U l1.1 l2.1 ?_ (by rw[zmk I F];exact q);have:min (PySem.W.kqdP x.toW).depth (PySem.W.kqdP y.toW).depth<=8:=az (Nat.min_le_left _ _) l1.2;lia
 quiet:=λB q=>by obtain⟨h1,h2,_,r⟩:=B;exact zlA 8 h1 h2 r q
def DDo (h:Heap)(a:Addr)(ks:List (Dt×Addr×V)):Prop:=ks.length<=sizeLine/\(a==sysModules)=false/\∃xs:List (Dt×Addr×Value),
 Paired (λ(p:Dt×Addr×V) (q:Dt×Addr×Value)=>p.1=q.1/\p.2.1=q.2.1/\yr p.2.2 q.2.2) ks xs/\∃o es ep,h.get? a=some o/\o.ExactDict/\o.data = .dict es ep/\es.toList=xs.map (λx=>⟨zaf x.1,.ref x.2.1,x.2.2⟩)/\(xs.map (·.1)).Nodup
def ddO (a:Addr)(ks:List (Dt×Addr×V)):HO:=.ext λh=>DDo h a ks
def zh5(S:DDo h a ks):z8 P w H h a (ddO a ks):=by
 refine⟨S,?_,λh1 h2 q k=>?_⟩
 ·obtain⟨_,_,_,_,o,_,_,B,_⟩:=S;exact⟨o,B⟩
 ·obtain⟨z,lo,xs,r,o,es,ep,B,q⟩:=q;exact⟨z,lo,xs,r,o,es,ep,k o B,q⟩
def zlb:∀kvs,pnK (ddO a ks)=some kvs->zaE kvs (Sum.inr "at" : Key)=none:=λkvs e=>by
 unfold ddO pnK at e;dsimp only at e;rw[if_neg] at e
 ·cases e
 ·rintro⟨d,ob,⟨F,I⟩,z⟩;have h1:DDo F a ks:=by rw[show DDo F a ks=_ from congrFun z F];exact I
  obtain⟨J,lo,xs,r,o,es,ep,Z,⟨O,U,Y⟩,hd,q⟩:=h1
  have k:∀B:Nat,({ o with data:=.dict es B }:Obj)=ob:=λB=>by have h2:DDo (⟨Array.replicate (a+1) { o with data:=.dict es B },{}⟩:Heap) a ks:=⟨J,lo,xs,r,{ o with data:=.dict es B },es,B,by simp[Heap.get?],⟨O,U,Y⟩,rfl,q⟩;rw[show DDo _ a ks=_ from congrFun z _] at h2;exact (zjO h2).symm
  have:=congrArg Obj.data ((k 0).trans (k 1).symm);cases this
noncomputable def zhy (ks:List (Dt×Addr×V))(k:Dt):Option V:=(ks.find? λq=>decide (q.1=k)).map (·.2.2)
noncomputable def zkj (ks:List (Dt×Addr×V))(k:Dt)(b:Addr)(v:V):List (Dt×Addr×V):=if (zhy ks k).isSome then ks.map λq=>if q.1=k then (q.1,q.2.1,v) else q else ks++[(k,b,v)]
def um (H:Hp)(ks:List (Dt×Addr×V)):Prop:=∀q∈ks,q.1.hk=true/\q.1.eqOk/\Is H q.1 (.ref q.2.1)
abbrev PrN (p:Dt×Addr×V)(q:Dt×Addr×Value):Prop:=p.1=q.1/\p.2.1=q.2.1/\yr p.2.2 q.2.2
def zlZ(r:Paired PrN ks xs)(k:Dt):zhD (zhy ks k) ((atKey xs k).map (·.2)):=by
 unfold zhy atKey
 induction r with
 | nil=>trivial
 | cons h _ q=>
  obtain⟨B,F,h⟩:=h;rw[bH,bH,B];split
  ·exact h
  ·exact q
def zlF(r:Paired PrN ks xs):∀ {x},x∈xs->∃p∈ks,PrN p x:=by
 induction r with
 | nil=>intro x B;cases B
 | @cons p q ps J a _ F=>
  intro x B;rcases ay.mp B with rfl | B
  ·exact⟨p,by simp,a⟩
  ·obtain⟨I,h1,h2⟩:=F B;exact⟨I,ai _ h1,h2⟩
end
section
variable {X:Cx}{pins:List (Addr×Obj)}{σ:St}{H:Hp}{s:Shared}
def zbq(I:Inv X pins σ H s)(h1:k.hk=true)(h2:k.eqOk)(h:Is H k (.ref b)):(zkv X.prog X.w).is s.heap k b:=⟨h1,h2,yR I.hok 8 h rfl h2⟩
def zpY(I:Inv X pins σ H s)(h:Rd H a (ddO a ks))(q:um H ks):(a==sysModules)=false/\ks.length<=sizeLine/\∃xs,Paired PrN ks xs/\s.heap.DictOfH (zkv X.prog X.w) a xs:=by obtain⟨⟨z,lo,xs,r,o,es,ep,B,h1,h2,F,J⟩,_⟩:=(show z8 X.prog X.w H s.heap a (ddO a ks) from h.ok I.hok);refine⟨lo,z,xs,r,o,es,ep,B,h1,h2,F,λx O=>?_,J⟩;obtain⟨p,hp,U,Y,_⟩:=zlF r O;obtain⟨k1,k2,k3⟩:=q p hp;rw[<- U,<- Y];exact zbq I k1 k2 k3
end
def zhw (q:Bool)(T:Hp)(a:Addr)(ks:List (Dt×Addr×V)):Prop:=if q=true then ∃ob,T a=some (.frz ob (ddO a ks)) else T a=some (ddO a ks)
def zhw.rd(h:zhw q T a ks):Rd T a (ddO a ks):=by
 cases q with
 | true=>exact .inr (by simpa [zhw] using h)
 | false=>exact .inl (by simpa [zhw] using h)
def zhw.imp(h:zhw q T a ks)(t:∀o,(∀kvs,pnK o=some kvs->zaE kvs (Sum.inr "at" : Key)=none)->T a=some o->T' a=some o):zhw q T' a ks:=by
 cases q with
 | true=>
  obtain⟨ob,e⟩:∃ob,T a=some (.frz ob (ddO a ks)):=by simpa [zhw] using h
  exact (if_pos rfl).mpr ⟨ob,t _ (λ_ z=>by cases z) e⟩
 | false=>exact t _ zlb (by simpa [zhw] using h)
def um.stay(h:um G ks)(s:zl G G'):um G' ks:=λq B=>let ⟨h1,h2,h3⟩:=h q B;⟨h1,h2,h3.stay s⟩
def kvN (ks:List (Dt×Addr×V)):List (Dt×V):=ks.map λq=>(q.1,q.2.2)
end L2
namespace L3
open PySem L2
abbrev zsE:=Addr×Addr×List Int
@[reducible] def imm:HO->Bool
 | .lst _=>false
 | .dK _=>false
 | .dT _=>false
 | .ext _=>false
 | _=>true
def Mt (o:HO):Prop:=imm o=false
def Mt.tup(h:Mt o):∀xs,o≠.tup xs:=λ_ e=>by subst e;cases h
def NP (o:HO):Prop:=∀kvs,pnK o=some kvs->zaE kvs (Sum.inr "at" : Key)=none
def NP.lst:NP (.lst xs):=λ_ e=>by cases e
structure Jv where
 K:(Addr->Prop)->Hp->Prop
 same:∀ {A:Addr->Prop} {H H':Hp},K A H->yM H H'->K A H'
 grow:∀ {A A':Addr->Prop} {H:Hp},K A' H->(∀a,A a->A' a\/∃o,H a=some o/\NP o/\Mt o)->K A H
 upd:∀ {A:Addr->Prop} {H:Hp} {p:Addr} {o:HO},K A H->A p->K A (L2.upd H p o)
 frz:∀ {A:Addr->Prop} {H:Hp} {p:Addr} {o o':HO},K A H->H p=some o->NP o->Mt o->K A (L2.upd H p o')
structure PN where
 pn:Option zsE
 J:Jv
def J0:Jv:=⟨λ_ _=>True,λ_ _=>trivial,λ_ _=>trivial,λ_ _=>trivial,λ_ _ _ _=>trivial⟩
structure CuW where
 at_:Hp->Hp->Addr->Prop
 mv:∀ {T T' G G':Hp} {a:Addr},(∀o,T a=some o->NP o->T' a=some o)->zl G G'->at_ T G a->at_ T' G' a
inductive W where
 | d (x:Dt) | pen (p:Addr) | dk (kvs:List (Key×Dt)) | dt (kvs:List (List Int×Dt)) | ss (P:Program) (w:World) (ks:List (List Int)) | df (kvs:List (List Int×Dt)) | kf (kvs:List (Key×Dt)) | fl (l:List Dt) | ad (a:Addr) (x:Dt) | tz (kvs:List (List Int×Dt)) (x:Dt) | dn (fz:Bool) (kvs:List (Dt×Dt)) | wd (d:Addr) (fs:List (Key×Dt)) (kn:List (List Int×Dt)) | lf (ls:List (List Dt)) | cu (k:CuW)
abbrev Mo (α:Type):=Nat->(α->Nat->Prop)->Prop
abbrev Ev:=List (Option W)
open Classical in
noncomputable def zz (A:Addr->Prop)(H:Hp):Hp:=λb=>if A b then none else H b
section
variable {A A0:Addr->Prop}{H H' G G' T T':Hp}{a b:Addr}{o:HO}
def zI:zz A H b=some o↔¬ A b/\H b=some o:=by
 unfold zz
 grind
def zn (h:¬ A b)(e:H b=some o):zz A H b=some o:=zI.mpr ⟨h,e⟩
def zt:yM (zz A H) H:=λb o e=>(zI.mp e).2
def _root_.L2.Rd.sub(h:Rd (zz A H) b u):Rd H b u:=h.imp (zt b _) λ⟨o,h⟩=>⟨o,zt b _ h⟩
def _root_.L2.Rd.hid(h:Rd H b u)(n:¬ A b):Rd (zz A H) b u:=h.imp (zn n) λ⟨o,h⟩=>⟨o,zn n h⟩
def zp (s:zl H H'):zl (zz A H) (zz A H'):=λb o e n=>zn (zI.mp e).1 (s b o (zI.mp e).2 n)
def zd4 (s:yM H H'):yM (zz A H) (zz A H'):=λb o e=>zn (zI.mp e).1 (s b o (zI.mp e).2)
def yb (h:∀b,A0 b->A b):yM (zz A H) (zz A0 H):=λb o e=>zn (λz=>(zI.mp e).1 (h b z)) (zI.mp e).2
def zC (h:A a):zz A (upd H a o)=zz A H:=by
 funext b;unfold zz;by_cases q:A b
 ·simp[q]
 ·have:b≠a:=λe=>q (e ▸ h);simp[q,zd this]
end
def DAt (T G:Hp):Dt->V->Prop
 | .lst l,v=>∃a xs,v = .ref a/\Rd T a (.lst xs)/\IsL G l xs
 | .dct,v=>∃a kvs,v = .ref a/\T a=some (.dK kvs)/\kvs=[]
 | .non,v=>Is G .non v
 | .bl b,v=>Is G (.bl b) v
 | .int i,v=>Is G (.int i) v
 | .str x,v=>Is G (.str x) v
 | .tup l,v=>Is G (.tup l) v
def DAt.is(h:DAt G G x v):Is G x v:=by cases x <;> exact h
def DAt.of(h:Is G x v):DAt G G x v:=by cases x <;> exact h
def DAt.up(t:zl T T')(g:zl G G')(h:DAt T G x v):DAt T' G' x v:=by
 cases x with
 | lst l=>obtain⟨a,xs,e,h1,h2⟩:=h;exact⟨a,xs,e,t.rdl h1,h2.stay g⟩
 | dct=>obtain⟨a,kvs,e,h1,h2⟩:=h;exact⟨a,kvs,e,t _ _ h1 λk q=>by cases q;subst h2;rfl,h2⟩
 | _=>exact Is.stay g h
def DAt.full(t:yM T H)(g:yM G H)(h:DAt T G x v):Is H x v:=(DAt.up (zl.same t) (zl.same g) h).is
def xp {κ:Type}(G:Hp):List (κ×Dt)->List (κ×V)->Prop
 | [],ks=>ks=[]
 | q::r,ks=>∃v s,ks=(q.1,v)::s/\Is G q.2 v/\xp G r s
def xp.stay {κ:Type}{G G':Hp}(s:zl G G'):∀ {kvs:List (κ×Dt)} {ks:List (κ×V)},xp G kvs ks->xp G' kvs ks
 | [],_,h=>h
 | q::r,ks,⟨v,t,e,h1,h2⟩=>⟨v,t,e,h1.stay s,xp.stay s h2⟩
def SIs (G:Hp)(ks:List (List Int))(xs:List (List Int×Addr)):Prop:=ks=xs.map (·.1)/\(∀q∈xs,G q.2=some (.tup (q.1.map V.int)))/\ks.Nodup
def SIs.stay{ks:List (List Int)}{xs:List (List Int×Addr)}(h:SIs G ks xs)(s:zl G G'):SIs G' ks xs:=⟨h.1,λq B=>s _ _ (h.2.1 q B) (λ_ e=>by cases e),h.2.2⟩
noncomputable def zn8 (a:Addr)(H:Hp):Hp:=zz (λb=>b≠a/\∃xs,H b=some (.lst xs)) H
def zcC(s:zl H H'):zl (zn8 a H) (zn8 a H'):=λb o e n=>by obtain⟨h1,h2⟩:=zI.mp e;have q:=s b o h2 n;refine zn (λz=>h1 ⟨z.1,?_⟩) q;obtain⟨xs,B⟩:=z.2;rw[q] at B;cases B;exact⟨_,h2⟩
def zse (G:Hp)(d:Addr)(fs:List (Key×Dt))(I:List (List Int×Dt))(ks:List (Key×V)):Prop:=zaE ks (Sum.inr "at" : Key)=none/\∃q F ob B,ks=q++([(Sum.inr "known",V.ref F),(Sum.inr "wide",V.ref d)]:List (Key×V))/\xp G fs q/\G F=some (.frz ob (dtO B))/\xp G I B
def zse.stay{I:List (List Int×Dt)}(h:zse G d fs I ks)(s:zl G G'):zse G' d fs I ks:=by obtain⟨J,B,O,ob,F,h1,h2,U,Y⟩:=h;exact⟨J,B,O,ob,F,h1,h2.stay s,s _ _ U (λk q=>by cases q),Y.stay s⟩
def zpu (G:Hp):List (List Dt)->List V->Prop
 | [],xs=>xs=[]
 | l::r,xs=>∃b o ys s,xs = .ref b::s/\G b=some (.frz o (.lst ys))/\IsL G l ys/\zpu G r s
def zpu.stay(s:zl G G'):∀ {B:List (List Dt)} {xs:List V},zpu G B xs->zpu G' B xs
 | [],_,h=>h
 | _::_,_,⟨b,o,ys,t,e,h1,h2,F⟩=>⟨b,o,ys,t,e,s _ _ h1 (λk q=>by cases q),h2.stay s,zpu.stay s F⟩
def WAt (T G:Hp):W->V->Prop
 | .d x,v=>DAt T G x v
 | .pen p,v=>v = .ref p
 | .dk kvs,v=>∃a ks,v = .ref a/\T a=some (.dK ks)/\xp G kvs ks/\zaE ks (Sum.inr "at" : Key)=none
 | .dt kvs,v=>∃a ks,v = .ref a/\T a=some (dtO ks)/\xp G kvs ks
 | .ss P w ks,v=>∃a xs,v = .ref a/\T a=some (zgQ P w a (ux xs))/\SIs G ks xs
 | .dn q kvs,v=>∃a ks,v = .ref a/\zhw q T a ks/\um G ks/\xp G kvs (kvN ks)
 | .wd d fs B,v=>∃a ks,v = .ref a/\T a=some (.dK ks)/\zse G d fs B ks
 | .lf F,v=>∃a xs,v = .ref a/\Rd T a (.lst xs)/\zpu G F xs
 | .cu k,v=>∃a,v = .ref a/\k.at_ T G a
 | .df kvs,v=>∃a ob ks,v = .ref a/\T a=some (.frz ob (dtO ks))/\xp G kvs ks
 | .kf kvs,v=>∃a ob ks,v = .ref a/\T a=some (.frz ob (.dK ks))/\xp G kvs ks
 | .fl l,v=>∃a ob xs,v = .ref a/\T a=some (.frz ob (.lst xs))/\IsL G l xs
 | .ad a x,v=>(∃b,v = .ref b)/\Is (zn8 a G) x v
 | .tz kvs x,v=>∃a b ob ks y,v = .ref a/\G a=some (.tup [.ref b,y])/\G b=some (.frz ob (dtO ks))/\xp G kvs ks/\Is G x y
def WAt.up(t:zl T T')(g:zl G G')(h:WAt T G w v):WAt T' G' w v:=by
 cases w with
 | d x=>exact DAt.up t g h
 | pen p=>exact h
 | dk kvs=>
  obtain⟨a,ks,e,h1,h2,B⟩:=h;exact⟨a,ks,e,t _ _ h1 λk q=>by cases q;exact B,h2.stay g,B⟩
 | dt kvs=>
  obtain⟨a,ks,e,h1,h2⟩:=h;exact⟨a,ks,e,t _ _ h1 (λk q=>by cases q),h2.stay g⟩
 | dn I kvs=>
  obtain⟨a,ks,e,h1,h2,B⟩:=h;exact⟨a,ks,e,h1.imp λo n q=>t a o q n,h2.stay g,B.stay g⟩
 | wd d fs J=>
  obtain⟨a,ks,e,h1,h2⟩:=h;exact⟨a,ks,e,t _ _ h1 (λk q=>by cases q;exact h2.1),h2.stay g⟩
 | cu k=>
  obtain⟨a,e,h1⟩:=h;exact⟨a,e,k.mv (λo z n=>t a o z n) g h1⟩
 | lf O=>
  obtain⟨a,xs,e,h1,h2⟩:=h;exact⟨a,xs,e,t.rdl h1,h2.stay g⟩
 | ss P w kvs=>
  obtain⟨a,ks,e,h1,h2⟩:=h;exact⟨a,ks,e,t _ _ h1 zgy,h2.stay g⟩
 | df kvs=>
  obtain⟨a,ob,ks,e,h1,h2⟩:=h;exact⟨a,ob,ks,e,t _ _ h1 (λk q=>by cases q),h2.stay g⟩
 | kf kvs=>
  obtain⟨a,ob,ks,e,h1,h2⟩:=h;exact⟨a,ob,ks,e,t _ _ h1 (λk q=>by cases q),h2.stay g⟩
 | fl kvs=>
  obtain⟨a,ob,ks,e,h1,h2⟩:=h;exact⟨a,ob,ks,e,t _ _ h1 (λk q=>by cases q),h2.stay g⟩
 | ad a x=>exact⟨h.1,Is.stay (zcC g) h.2⟩
 | tz kvs x=>
  obtain⟨a,b,ob,ks,y,e,h1,h2,B,F⟩:=h;exact⟨a,b,ob,ks,y,e,g.tup h1,g _ _ h2 (λk q=>by cases q),B.stay g,F.stay g⟩
@[reducible] def W.mut:W->Bool
 | .d (.lst _)=>true
 | .d .dct=>true
 | .dk _=>true
 | .dt _=>true
 | .ss _ _ _=>true
 | .dn false _=>true
 | _=>false
abbrev Val (A:Addr->Prop)(H:Hp)(w:W)(v:V):Prop:=WAt (zz A H) (zz A H) w v
abbrev Bor (A:Addr->Prop)(H:Hp)(w:W)(v:V):Prop:=WAt H (zz A H) w v
def Val.bor(h:Val A H w v):Bor A H w v:=WAt.up (zl.same zt) (zl.refl _) h
def Val.stay(h:Val A H w v)(s:zl H H'):Val A H' w v:=WAt.up (zp s) (zp s) h
def Bor.stay(h:Bor A H w v)(s:zl H H'):Bor A H' w v:=WAt.up s (zp s) h
def Bor.is(h:Bor A H (.d x) v):Is H x v:=DAt.full (zjS _) zt h
def Val.is(h:Val A H (.d x) v):Is (zz A H) x v:=DAt.is h
def Val.of(h:Is (zz A H) x v):Val A H (.d x) v:=DAt.of h
mutual
def zmp {A:Addr->Prop}{H:Hp}(hA:∀a xs,A a->H a≠some (.tup xs)):∀ {x:Dt} {v:V},x.noL=true->Is H x v->Is (zz A H) x v
 | .non,_,_,h=>h
 | .bl _,_,_,h=>h
 | .int _,_,_,h=>h
 | .str _,_,_,h=>h
 | .tup l,_,n,h=>by obtain⟨p,xs,e,hp,hl⟩:=h;exact⟨p,xs,e,zn (λz=>hA p xs z hp) hp,xO hA (by simpa [Dt.noL] using n) hl⟩
 | .lst l,_,n,_=>by simp[Dt.noL] at n
 | .dct,_,n,_=>by simp[Dt.noL] at n
def xO {A:Addr->Prop}{H:Hp}(hA:∀a xs,A a->H a≠some (.tup xs)):∀ {ds:List Dt} {xs:List V},Dt.noLs ds=true->IsL H ds xs->IsL (zz A H) ds xs
 | [],_,_,h=>h
 | d::ds,xs,n,h=>by
  obtain⟨x,r,e,h1,h2⟩:=h;have n':(d.noL&&Dt.noLs ds)=true:=by simpa [Dt.noLs] using n
  rw[aJ] at n';exact⟨x,r,e,zmp hA n'.1 h1,xO hA n'.2 h2⟩
end
def yK (Pn:PN)(A:Addr->Prop)(n:Nat)(H:Hp):Prop:=
 (match Pn.pn with
 | none=>True
 | some (p,c,ns)=>Pen H p c ns n/\¬ A c/\¬ A p)/\Pn.J.K A H
def Own (A:Addr->Prop)(H:Hp)(w:W)(v:V):Prop:=∃a,v = .ref a/\A a/\Bor A H w v/\w.mut=true
def Al (A:Addr->Prop)(H:Hp):Prop:=∀a,A a->∃o,H a=some o/\NP o/\Mt o
structure EnvR (A:Addr->Prop)(M:List Nat)(σ:St)(H:Hp)(ρ:Ev):Prop where
 len:σ.length=ρ.length
 val:∀i w,ρ[i]?=some (some w)->∃v,σ[i]?=some (some v)/\(i∉M->Val A H w v)/\(i∈M->Own A H w v)
 dis:∀i j w u a,i∈M->j∈M->i≠j->ρ[i]?=some (some w)->ρ[j]?=some (some u)->σ[i]?=some (some (.ref a))->σ[j]?≠some (some (.ref a))
 al:Al A H
def _root_.L2.Rd.own(h:Rd H a (.lst xs))(q:Al A H)(B:A a):H a=some (.lst xs):=by
 rcases h with h | ⟨o,h⟩
 ·exact h
 ·obtain⟨u,e,_,m⟩:=q a B;rw[h] at e;cases e;cases m
def EnvR.stay(E:EnvR A M σ H ρ)(s:zl H H'):EnvR A M σ H' ρ where
 len:=E.len
 val:=λi w e=>by obtain⟨v,h1,h2,q⟩:=E.val i w e;refine⟨v,h1,λz=>(h2 z).stay s,λz=>?_⟩;obtain⟨a,e,B,F,I⟩:=q z;exact⟨a,e,B,F.stay s,I⟩
 dis:=E.dis
 al:=λa h=>by obtain⟨o,h1,h2,q⟩:=E.al a h;exact⟨o,s _ _ h1 h2,h2,q⟩
def EnvR.new(E:EnvR A M σ H ρ)(h:H p=none):¬ A p:=λz=>by
 obtain⟨o,h1,_⟩:=E.al p z
 grind
def Fr (H:Hp)(a:Addr):Prop:=∀o,H a=some o->¬ NP o
def Fr.of(h:H a=none):Fr H a:=λo e=>by rw[h] at e;cases e
def Fr.back(h:Fr H1 a)(s:zl H H1):Fr H a:=λo e n=>h o (s _ _ e n) n
def FrV (A:Addr->Prop)(H H':Hp)(w:W)(v:V):Prop:=∃a,v = .ref a/\Fr H a/\(∃o,H' a=some o/\Mt o)/\WAt H' (zz (λb=>A b\/b=a) H') w v
def FrV.back(h:FrV A H1 H' w v)(s:zl H H1):FrV A H H' w v:=let ⟨a,e,f,g⟩:=h;⟨a,e,f.back s,g⟩
def FrV.less(h:FrV A H H' w v)(s:∀a,A0 a->A a):FrV A0 H H' w v:=let ⟨a,e,f,m,g⟩:=h;⟨a,e,f,m,WAt.up (zl.refl _) (zl.same (yb λb z=>z.elim (λz=>.inl (s b z)) .inr)) g⟩
def EnvR.newF(E:EnvR A M σ H ρ)(h:Fr H p):¬ A p:=λz=>by obtain⟨o,h1,h2,_⟩:=E.al p z;exact h o h1 h2
def yp(s:zl H H')(n:Fr H p):zl (zz A H) (zz (λb=>A b\/b=p) H'):=λb o e np=>by obtain⟨h1,h2⟩:=zI.mp e;exact zn (λz=>z.elim h1 λz=>by subst z;exact n o h2 np) (s b o h2 np)
structure Go (Pn:PN)(A:Addr->Prop)(H:Hp)(n:Nat)(H':Hp):Prop where
 st:zl H H'
 pn:yK Pn A n H'
def Go.trans(a:Go Pn A H n H1)(b:Go Pn A H1 m H2):Go Pn A H m H2:=⟨a.st.trans b.st,b.pn⟩
structure RE (Pn:PN)(M:List Nat)(fr:Bool)(te:TE)(f:Ev->Mo W):Prop where
 run:∀A σ H ρ n Q R,EnvR A M σ H ρ->yK Pn A n H->f ρ n R->(∀w m v H',R w m->Val A H' w v->Go Pn A H m H'->(fr=true->FrV A H H' w v)->Q v H')->te σ H Q
structure RB (Pn:PN)(M:List Nat)(te:TE)(f:Ev->Mo W):Prop where
 run:∀A σ H ρ n Q R,EnvR A M σ H ρ->yK Pn A n H->f ρ n R->(∀w m v H',R w m->Bor A H' w v->Go Pn A H m H'->Q v H')->te σ H Q
structure RT (Pn:PN)(M:List Nat)(te:TT)(f:Ev->Mo Bool):Prop where
 run:∀A σ H ρ n Q R,EnvR A M σ H ρ->yK Pn A n H->f ρ n R->(∀b m H',R b m->Go Pn A H m H'->Q b H')->te σ H Q
def zpt (A:Addr->Prop)(H:Hp):List W->List V->Prop
 | [],vs=>vs=[]
 | w::q,vs=>∃v r,vs=v::r/\Bor A H w v/\zpt A H q r
def zaF (A:Addr->Prop)(H:Hp):List W->List V->Prop
 | [],vs=>vs=[]
 | w::q,vs=>∃v r,vs=v::r/\Val A H w v/\zaF A H q r
def zaF.bor:∀ {q:List W} {vs:List V},zaF A H q vs->zpt A H q vs
 | [],_,h=>h
 | _::_,_,⟨v,r,e,h1,h2⟩=>⟨v,r,e,h1.bor,zaF.bor h2⟩
structure RA (Pn:PN)(M:List Nat)(ta:TA)(f:Ev->Mo (List W)):Prop where
 run:∀A σ H ρ n Q R,EnvR A M σ H ρ->yK Pn A n H->f ρ n R->(∀ws m vs H',R ws m->zaF A H' ws vs->Go Pn A H m H'->Q vs H')->ta σ H Q
structure RAB (Pn:PN)(M:List Nat)(ta:TA)(f:Ev->Mo (List W)):Prop where
 run:∀A σ H ρ n Q R,EnvR A M σ H ρ->yK Pn A n H->f ρ n R->(∀ws m vs H',R ws m->zpt A H' ws vs->Go Pn A H m H'->Q vs H')->ta σ H Q
structure Kt where
 nx:Ev->Nat->Prop
 rt:W->Nat->Prop
 bk:Ev->Nat->Prop:=λ_ _=>False
 ct:Ev->Nat->Prop:=λ_ _=>False
abbrev Ms:=Ev->Nat->Kt->Prop
def StX (q:Addr->Prop)(H0 H:Hp):Prop:=∀b o,H0 b=some o->NP o->¬ q b->H b=some o
def StX.of(s:zl H0 H):StX q H0 H:=λb o e n _=>s b o e n
def StX.stay(s:StX (λ_=>False) H0 H):zl H0 H:=λb o e n=>s b o e n λz=>z
structure Frm (A0:Addr->Prop)(H0:Hp)(ca:Addr->Prop)(A:Addr->Prop)(H:Hp):Prop where
 sub:∀a,A0 a->A a
 new:∀a,A a->A0 a\/Fr H0 a\/ca a
 st:StX ca H0 H
 al:Al A0 H0
 cn:∀a,ca a->¬ A0 a
 cs:∀a,ca a->∃o,H a=some o/\NP o
def Frm.back(f:Frm A0 H0 q A H)(h:Fr H a)(n:¬ A a):Fr H0 a:=λo e np=>h o (f.st a o e np λz=>let ⟨o2,e2,n2⟩:=f.cs a z;h o2 e2 n2) np
structure Bs where
 ca:Addr->Prop:=λ_=>False
 A0:Addr->Prop
 H0:Hp
 G0:Hp
 σ0:St
def NoL (G:Hp):Prop:=∀a xs,G a≠some (.lst xs)
structure At3 (Pn:PN)(B:Bs)(S M:List Nat)(A:Addr->Prop)(σ:St)(H:Hp)(ρ:Ev)(n:Nat):Prop where
 env:EnvR A M σ H ρ
 frm:Frm B.A0 B.H0 B.ca A H
 pn:yK Pn A n H
 prot:zl B.G0 (zz A H)
 fix:(∀i∈S,σ[i]?=B.σ0[i]?)/\(9999∈S->NoL B.G0/\NoL B.H0)
 mine:∀i w a,i∈M->ρ[i]?=some (some w)->σ[i]?=some (some (.ref a))->Fr B.H0 a\/B.ca a
structure KOk (Pn:PN)(B:Bs)(S M:List Nat)(fr:Bool)(k:Kt)(D:Ends):Prop where
 nx:∀A σ H ρ n,At3 Pn B S M A σ H ρ n->k.nx ρ n->D.nx σ H
 bk:∀A σ H ρ n,At3 Pn B S M A σ H ρ n->k.bk ρ n->D.bk σ H
 ct:∀A σ H ρ n,At3 Pn B S M A σ H ρ n->k.ct ρ n->D.ct σ H
 fc:∀a,¬ B.ca a
 rt:∀w n v H,Val B.A0 H w v->StX B.ca B.H0 H->yK Pn B.A0 n H->(fr=true->FrV B.A0 B.H0 H w v)->k.rt w n->D.rt v H
structure RS (Pn:PN)(S M:List Nat)(fr:Bool)(ts:TS)(fs:Ms):Prop where
 run:∀B A σ H ρ n k D,At3 Pn B S M A σ H ρ n->KOk Pn B S M fr k D->fs ρ n k->ts D σ H
structure RG (S M:List Nat)(g:TG)(mg:W->Ev->(Ev->Prop)->Prop):Prop where
 run:∀A σ H ρ v w Q R,EnvR A M σ H ρ->Val A H w v->mg w ρ R->(∀ σ' ρ',R ρ'->EnvR A M σ' H ρ'->(∀i∈S,σ'[i]?=σ[i]?/\ρ'[i]?=ρ[i]?)->Q σ' H)->g v σ H Q
structure RGs (S M:List Nat)(g:TGs)(mg:List Dt->Ev->(Ev->Prop)->Prop):Prop where
 run:∀A σ H ρ vs ds Q R,EnvR A M σ H ρ->IsL (zz A H) ds vs->mg ds ρ R->(∀ σ' ρ',R ρ'->EnvR A M σ' H ρ'->(∀i∈S,σ'[i]?=σ[i]?/\ρ'[i]?=ρ[i]?)->Q σ' H)->g vs σ H Q
structure ItV (ow:Bool)(A:Addr->Prop)(H:Hp)(J:It)(l:List W):Prop where
 one:∀i w A2 H2,l[i]?=some w->zl (zz A H) (zz A2 H2)->(ow=true->zl H H2)->(∀p,H2 p=none->¬ A2 p)->J.go i H2/\∀x H3,J.yld i H2 x H3->yM H2 H3/\Val A2 H3 w x
 stop:∀A2 H2,zl (zz A H) (zz A2 H2)->(ow=true->zl H H2)->J.stop l.length H2
structure RI (Pn:PN)(M:List Nat)(ow:Bool)(wi:TI)(f:Ev->Mo (List W)):Prop where
 run:∀A σ H ρ n Q R,EnvR A M σ H ρ->yK Pn A n H->f ρ n R->(∀l m J H',R l m->ItV ow A H' J l->Go Pn A H m H'->Q J H')->wi σ H Q
def RE.rb(h:RE Pn M fr te f):RB Pn M te f:=
 ⟨λA σ H ρ n Q R E P q k=>h.run A σ H ρ n Q R E P q λw m v H' r a g _=>k w m v H' r a.bor g⟩
def RA.rab(h:RA Pn M te f):RAB Pn M te f:=
 ⟨λA σ H ρ n Q R E P q k=>h.run A σ H ρ n Q R E P q λw m v H' r a g=>k w m v H' r a.bor g⟩
def yK.same(h:yK Pn A n H)(s:yM H H'):yK Pn A n H':=by
 refine⟨?_,Pn.J.same h.2 s⟩;have h:=h.1;split at h
 ·trivial
 ·exact⟨h.1.same s,h.2⟩
def Go.same(h:yK Pn A n H)(s:yM H H'):Go Pn A H n H':=⟨zl.same s,h.same s⟩
def Go.refl(h:yK Pn A n H):Go Pn A H n H:=⟨zl.refl _,h⟩
open PySem L2
structure JE (X:Cx)(Pn:PN)(M:List Nat)(fr:Bool)(e:Expr)(f:Ev->Mo W):Prop where
 ex:∃te,QE X e te/\RE Pn M fr te f
structure JB (X:Cx)(Pn:PN)(M:List Nat)(e:Expr)(f:Ev->Mo W):Prop where
 ex:∃te,QE X e te/\RB Pn M te f
structure JT (X:Cx)(Pn:PN)(M:List Nat)(e:Expr)(f:Ev->Mo Bool):Prop where
 ex:∃te,QT X e te/\RT Pn M te f
structure JW (X:Cx)(Pn:PN)(M:List Nat)(e:Expr)(f:Ev->Mo Bool):Prop where
 ex:∃te,QW X e te/\RT Pn M te f
structure JA (X:Cx)(Pn:PN)(M:List Nat)(es:List Expr)(f:Ev->Mo (List W)):Prop where
 ex:∃te,QA X es te/\RA Pn M te f
structure JAB (X:Cx)(Pn:PN)(M:List Nat)(es:List Expr)(f:Ev->Mo (List W)):Prop where
 ex:∃te,QA X es te/\RAB Pn M te f
structure JO (X:Cx)(Pn:PN)(M:List Nat)(e:Option Expr)(f:Ev->Mo (Option Int)):Prop where
 ex:∃t,QO X e t/\∀A σ H ρ n Q R,EnvR A M σ H ρ->yK Pn A n H->f ρ n R->(∀o m H',R o m->Go Pn A H m H'->Q o H')->t σ H Q
section
variable {X:Cx}{Pn:PN}{M:List Nat}{fr:Bool}{e a b c:Expr}{es:List Expr}{f fa fb fc:Ev->Mo W}{pos p:Pos}
def zqs (i:Nat):Ev->Mo W:=λρ n Q=>∃w,ρ[i]?=some (some w)/\Q w n
@[reducible] def mC (w:W):Ev->Mo W:=λ_ n Q=>Q w n
@[reducible] def zmv (F:W->W->Mo W) (fa fb:Ev->Mo W):Ev->Mo W:=λρ n Q=>fa ρ n λx n1=>fb ρ n1 λy n2=>F x y n2 Q
@[reducible] def mUn (F:W->Mo W) (fa:Ev->Mo W):Ev->Mo W:=λρ n Q=>fa ρ n λx n1=>F x n1 Q
def znY (fa:Ev->Mo W):Ev->Mo Bool:=λρ n Q=>fa ρ n λx n1=>∃c,x = .d (.bl c)/\Q c n1
def zsn (t u:Ev->Mo Bool):Ev->Mo Bool:=λρ n Q=>t ρ n λc n1=>if c=true then u ρ n1 Q else Q false n1
def mOr (t u:Ev->Mo Bool):Ev->Mo Bool:=λρ n Q=>t ρ n λc n1=>if c=true then Q true n1 else u ρ n1 Q
def ztz (t:Ev->Mo Bool):Ev->Mo Bool:=λρ n Q=>t ρ n λc n1=>Q (!c) n1
def mIf (t:Ev->Mo Bool)(fa fb:Ev->Mo W):Ev->Mo W:=λρ n Q=>t ρ n λc n1=>if c=true then fa ρ n1 Q else fb ρ n1 Q
@[reducible] def zsq:Ev->Mo (List W):=λ_ n Q=>Q [] n
@[reducible] def zfq (fa:Ev->Mo W) (fr:Ev->Mo (List W)):Ev->Mo (List W):=λρ n Q=>fa ρ n λx n1=>fr ρ n1 λxs n2=>Q (x::xs) n2
@[reducible] def zto (F:List W->Mo W) (fa:Ev->Mo (List W)):Ev->Mo W:=λρ n Q=>fa ρ n λxs n1=>F xs n1 Q
def JE.bo (h:JE X Pn M fr e f):JB X Pn M e f:=let ⟨te,h1,h2⟩:=h.ex;⟨te,h1,h2.rb⟩
def JA.bo {f:Ev->Mo (List W)}(h:JA X Pn M es f):JAB X Pn M es f:=let ⟨te,h1,h2⟩:=h.ex;⟨te,h1,h2.rab⟩
def zrt(hi:i∉M):RE Pn M false (zlR i) (zqs i):=⟨λA σ H ρ n Q R E P q k=>by obtain⟨w,e,r⟩:=q;obtain⟨v,h1,h2,_⟩:=E.val i w e;exact⟨v,h1,k w n v H r (h2 hi) (Go.refl P) λz=>by cases z⟩⟩
def zrp:RB Pn M (zlR i) (zqs i):=⟨λA σ H ρ n Q R E P q k=>by
 obtain⟨w,e,r⟩:=q;obtain⟨v,h1,h2,B⟩:=E.val i w e;refine⟨v,h1,k w n v H r ?_ (Go.refl P)⟩;by_cases hi:i∈M
 ·obtain⟨a,_,_,h,_⟩:=B hi;exact h
 ·exact (h2 hi).bor⟩
def ztg (i:Nat){x:Str}(hi:i∉M:=by decide)(B:X.N[i]?=some x:=by rfl)(F:Vis X.env.scope x:=by walk_at "v")(I:(x==("__debug__" : Str))=false:=by decide)
  (q:(x==("__classdict__" : Str))=false:=by decide):JE X Pn M false (.Name x pos) (zqs i):=⟨_,qv i B F I q,zrt hi⟩
def ztd(i:Nat)(B:X.N[i]?=some x:=by rfl)(F:Vis X.env.scope x:=by walk_at "v")(I:(x==("__debug__" : Str))=false:=by decide)(q:(x==("__classdict__" : Str))=false:=by decide):JB X Pn M (.Name x pos) (zqs i):=⟨_,qv i B F I q,zrp⟩
def zt4(h:∀G,Is G x v):RE Pn M false (tC v) (mC (.d x)):=⟨λA σ H ρ n Q R E P q k=>k _ n v H q (Val.of (h _)) (Go.refl P) λz=>by cases z⟩
def zy{i:Int}:JE X Pn M false (.Constant (.int i) j pos) (mC (.d (.int i))):=⟨_,ym,zt4 λ_=>rfl⟩
def zki:JE X Pn M false (.Constant (.bool k) j pos) (mC (.d (.bl k))):=⟨_,zt0,zt4 λ_=>rfl⟩
def znH{i:Int}(q:Gl X x)(h:∃w,yr (.int i) w/\X.mg x=some w)(B:(x==("__debug__" : Str))=false:=by decide):JE X Pn M false (.Name x pos) (mC (.d (.int i))):=⟨_,zlt q h B,zt4 λ_=>rfl⟩
def Al.new {A:Addr->Prop}{H:Hp}(h:Al A H){p:Addr}(e:H p=none):¬ A p:=λz=>by
 obtain⟨o,h1,_⟩:=h p z
 grind
def Al.stay(h:Al A H)(s:zl H H'):Al A H':=λa z=>by obtain⟨o,h1,h2,q⟩:=h a z;exact⟨o,s _ _ h1 h2,h2,q⟩
def Al.noT(h:Al A H):∀a xs,A a->H a≠some (.tup xs):=λa xs z e=>by
 obtain⟨o,h1,_,q⟩:=h a z;have:=q.tup
 grind
def Al.noT' {A:Addr->Prop}{H H':Hp}(h:Al A H)(s:zl H H'){p:Addr}{xs:List V}(e:H' p=some (.tup xs)):¬ A p:=λz=>(h.stay s).noT p xs z e
structure F2 (Pn:PN)(fr:Bool)(r:R2)(F:W->W->Mo W):Prop where
 run:∀A H x y wx wy n Q R,Al A H->Bor A H wx x->Bor A H wy y->yK Pn A n H->F wx wy n R->(∀w m v H',R w m->Val A H' w v->Go Pn A H m H'->(fr=true->FrV A H H' w v)->Q v H')->r x y H Q
structure F1 (Pn:PN)(fr:Bool)(r:V->Hp->VK->Prop)(F:W->Mo W):Prop where
 run:∀A H x wx n Q R,Al A H->Bor A H wx x->yK Pn A n H->F wx n R->(∀w m v H',R w m->Val A H' w v->Go Pn A H m H'->(fr=true->FrV A H H' w v)->Q v H')->r x H Q
structure FL (Pn:PN)(fr:Bool)(r:List V->Hp->VK->Prop)(F:List W->Mo W):Prop where
 run:∀A H xs ws n Q R,Al A H->zpt A H ws xs->yK Pn A n H->F ws n R->(∀w m v H',R w m->Val A H' w v->Go Pn A H m H'->(fr=true->FrV A H H' w v)->Q v H')->r xs H Q
def zlD(q:F2 Pn fr r F)(B:RB Pn M ta fa)(I:RB Pn M tb fb):RE Pn M fr (tOp r ta tb) (zmv F fa fb):=⟨λA σ H ρ n Q R E P J k=>by refine B.run A σ H ρ n _ _ E P J λx n1 O H1 U Y g1=>?_;refine I.run A σ H1 ρ n1 _ _ (E.stay g1.st) g1.pn U λy n2 Z H2 r2 b2 g2=>?_;have g:=g1.trans g2;exact q.run A H2 O Z x y n2 _ _ (E.stay g.st).al (Y.stay g2.st) b2 g2.pn r2 λw m v H' h1 h2 h3 h4=>k w m v H' h1 h2 (g.trans h3) λz=>(h4 z).back g.st⟩
def zrq {r:List V->Hp->VK->Prop}{F:List W->Mo W}{ta:TA}{fa:Ev->Mo (List W)}(q:FL Pn fr r F)(B:RAB Pn M ta fa):RE Pn M fr (tCB r ta) (zto F fa):=⟨λA σ H ρ n Q R E P I k=>by refine B.run A σ H ρ n _ _ E P I λx n1 J H1 O U g1=>?_;exact q.run A H1 J x n1 _ _ (E.stay g1.st).al U g1.pn O λw m v H' h1 h2 Y Z=>k w m v H' h1 h2 (g1.trans Y) λz=>(Z z).back g1.st⟩
def uI(q:OpQ X (binaryOp op) r)(B:F2 Pn fr r F)(I:JB X Pn M a fa)(J:JB X Pn M b fb):JE X Pn M fr (.BinOp a op b pos) (zmv F fa fb):=by obtain⟨ta,O,ra⟩:=I.ex;obtain⟨tb,U,rb⟩:=J.ex;exact⟨_,yI q O U,zlD B ra rb⟩
def zkQ(q:OpQ X (compareOp op) r)(B:F2 Pn fr r F)(I:JB X Pn M a fa)(J:JB X Pn M b fb)(O:behindInMarks op b=false):JE X Pn M fr (.Compare a [op] [b] pos) (zmv F fa fb):=by obtain⟨ta,U,ra⟩:=I.ex;obtain⟨tb,Y,rb⟩:=J.ex;exact⟨_,zoE q U Y O,zlD B ra rb⟩
def zmK(h:RB Pn M ta fa):RT Pn M (zpg ta) (znY fa):=⟨λA σ H ρ n Q R E P B k=>by refine h.run A σ H ρ n _ _ E P B  ?_;rintro x n1 F H1 ⟨c,e,r⟩ I g1;subst e;have q:F = .bl c:=I;exact⟨c,q,k c n1 H1 r g1⟩⟩
def zT(q:OpQ X (compareOp op) r)(B:F2 Pn fr r F)(I:JB X Pn M a fa)(J:JB X Pn M b fb)(O:behindInMarks op b=false):JT X Pn M (.Compare a [op] [b] pos) (znY (zmv F fa fb)):=by obtain⟨ta,U,ra⟩:=I.ex;obtain⟨tb,Y,rb⟩:=J.ex;exact⟨_,zbZ q U Y O,zmK (zlD B ra rb).rb⟩
def zeb (h:JB X Pn M e f)(he:∀whole,isTrue e X.env whole=(do let v <- whole;standAt e.pos;holding [v] (truthy v)):=by intro _;rfl):JT X Pn M e (znY f):=by obtain⟨ta,qa,ra⟩:=h.ex;exact⟨_,zrl qa he,zmK ra⟩
def zmt(h:JT X Pn M a t):JT X Pn M (.UnaryOp .Not a pos) (ztz t):=by obtain⟨ta,q,ra⟩:=h.ex;exact⟨_,zrk q,⟨λA σ H ρ n Q R E P B k=>ra.run A σ H ρ n _ _ E P B λb m H' r g=>k _ m H' r g⟩⟩
def zai(q:op = .And\/op = .Or)(h:JT X Pn M a t):JW X Pn M (.BoolOp op [a] pos) t:=by
 obtain⟨ta,B,ra⟩:=h.ex;rcases q with rfl | rfl
 ·exact⟨_,zjD B,ra⟩
 ·exact⟨_,zrm B,ra⟩
def zrD(h:RT Pn M t ft)(h':RT Pn M u q):RT Pn M (zub t u) (zsn ft q):=⟨λA σ H ρ n Q R E P B k=>by
 refine h.run A σ H ρ n _ _ E P B λc m H1 r g=>?_
 cases c with
 | true=>exact h'.run A σ H1 ρ m _ _ (E.stay g.st) g.pn (by simpa using r) λb F H' I g'=>k b F H' I (g.trans g')
 | false=>exact k false m H1 (by simpa using r) g⟩
def zt7(h:RT Pn M t ft)(h':RT Pn M u q):RT Pn M (tOr t u) (mOr ft q):=⟨λA σ H ρ n Q R E P B k=>by
 refine h.run A σ H ρ n _ _ E P B λc m H1 r g=>?_
 cases c with
 | false=>exact h'.run A σ H1 ρ m _ _ (E.stay g.st) g.pn (by simpa using r) λb F H' I g'=>k b F H' I (g.trans g')
 | true=>exact k true m H1 (by simpa using r) g⟩
def zct {zw:List Expr}{t u:Ev->Mo Bool}(h:JT X Pn M a t)(h':JW X Pn M (.BoolOp .And (b::zw) pos) u):JW X Pn M (.BoolOp .And (a::b::zw) pos) (zsn t u):=by obtain⟨ta,q,ra⟩:=h.ex;obtain⟨tb,B,rb⟩:=h'.ex;exact⟨_,zmH q B,zrD ra rb⟩
def zkT {zw:List Expr}{t u:Ev->Mo Bool}(h:JT X Pn M a t)(h':JW X Pn M (.BoolOp .Or (b::zw) pos) u):JW X Pn M (.BoolOp .Or (a::b::zw) pos) (mOr t u):=by obtain⟨ta,q,ra⟩:=h.ex;obtain⟨tb,B,rb⟩:=h'.ex;exact⟨_,zt1 q B,zt7 ra rb⟩
def JW.t {t:Ev->Mo Bool}(h:JW X Pn M e t):JT X Pn M e t:=let ⟨te,h1,h2⟩:=h.ex;⟨te,h1.pt,h2⟩
def j_if(O:JT X Pn M c t)(U:JE X Pn M fr a fa)(Y:JE X Pn M fr b fb):JE X Pn M fr (.IfExp c a b pos) (mIf t fa fb):=by
 obtain⟨tc,Z,rc⟩:=O.ex;obtain⟨ta,qa,ra⟩:=U.ex;obtain⟨tb,qb,rb⟩:=Y.ex;refine⟨_,zlu Z qa qb,⟨λA σ H ρ n Q R E P hf k=>?_⟩⟩;refine rc.run A σ H ρ n _ _ E P hf λc m H1 r g=>?_
 cases c with
 | true=>
  rw[if_pos rfl] at r ⊢;exact ra.run A σ H1 ρ m _ _ (E.stay g.st) g.pn r λw q B H' F I g' J=>k w q B H' F I (g.trans g') λz=>(J z).back g.st
 | false=>
  rw[if_neg (by decide)] at r ⊢;exact rb.run A σ H1 ρ m _ _ (E.stay g.st) g.pn r λw q B H' F I g' J=>k w q B H' F I (g.trans g') λz=>(J z).back g.st
@[reducible] def isNon:W->Bool
 | .d .non=>true
 | _=>false
def Bor.isNon(h:Bor A H w v):decide (v = .non)=isNon w:=by
 cases w with
 | d x=>
  cases x with
  | non=>have:v = .non:=h;subst this;rfl
  | bl c=>have:v = .bl c:=h;subst this;rfl
  | int c=>have:v = .int c:=h;subst this;rfl
  | str c=>have:v = .str c:=h;subst this;rfl
  | tup l=>obtain⟨a,_,rfl,_⟩:=h;rfl
  | lst l=>obtain⟨a,_,rfl,_⟩:=h;rfl
  | dct=>obtain⟨a,_,rfl,_⟩:=h;rfl
 | pen p=>have:v = .ref p:=h;subst this;rfl
 | dk k=>obtain⟨a,_,rfl,_⟩:=h;rfl
 | dt k=>obtain⟨a,_,rfl,_⟩:=h;rfl
 | ss P w k=>obtain⟨a,_,rfl,_⟩:=h;rfl
 | dn q k=>obtain⟨a,_,rfl,_⟩:=h;rfl
 | wd d fs k=>obtain⟨a,_,rfl,_⟩:=h;rfl
 | lf B=>obtain⟨a,_,rfl,_⟩:=h;rfl
 | cu k=>obtain⟨a,rfl,_⟩:=h;rfl
 | df k=>obtain⟨a,_,_,rfl,_⟩:=h;rfl
 | kf k=>obtain⟨a,_,_,rfl,_⟩:=h;rfl
 | fl k=>obtain⟨a,_,_,rfl,_⟩:=h;rfl
 | ad a x=>obtain⟨⟨b,rfl⟩,_⟩:=h;rfl
 | tz k x=>obtain⟨a,_,_,_,_,rfl,_⟩:=h;rfl
@[reducible] def mIsN (fa:Ev->Mo W):Ev->Mo W:=λρ n Q=>fa ρ n λx n1=>Q (.d (.bl (isNon x))) n1
@[reducible] def mNotN (fa:Ev->Mo W):Ev->Mo W:=λρ n Q=>fa ρ n λx n1=>Q (.d (.bl (!isNon x))) n1
def zrs(h:RB Pn M ta fa):RE Pn M false (zug ta) (mIsN fa):=⟨λA σ H ρ n Q R E P q k=>by refine h.run A σ H ρ n _ _ E P q λx m v H1 r B g=>?_;exact k _ m _ H1 r (Val.of (by rw[B.isNon];rfl)) g λz=>by cases z⟩
def zt8(h:RB Pn M ta fa):RT Pn M (tB ta) (znY fa):=⟨λA σ H ρ n Q R E P B k=>by refine h.run A σ H ρ n _ _ E P B  ?_;rintro x n1 F H1 ⟨c,e,r⟩ I g1;subst e;have q:F = .bl c:=I;exact⟨c,q,k c n1 H1 r g1⟩⟩
def zqg(h:JB X Pn M a fa):JT X Pn M (.Compare a [.Is] [.Constant .none j pos'] pos) (znY (mIsN fa)):=by obtain⟨ta,q,ra⟩:=h.ex;exact⟨_,zrj (zrc q),zt8 (zrs ra).rb⟩
def zc:JA X Pn M [] zsq:=⟨_,yP,⟨λA σ H ρ n Q R E P q k=>k [] n [] H q rfl (Go.refl P)⟩⟩
def za(q:JE X Pn M fr e f)(B:JA X Pn M es fs)(hs:starEach (e::es) X.env=(false,eval e X.env)::starEach es X.env:=by rfl):JA X Pn M (e::es) (zfq f fs):=by obtain⟨ta,F,ra⟩:=q.ex;obtain⟨tb,I,rb⟩:=B.ex;refine⟨_,yf F I hs,⟨λA σ H ρ n Q R E P J k=>?_⟩⟩;refine ra.run A σ H ρ n _ _ E P J λx n1 O H1 U Y g1 _=>?_;exact rb.run A σ H1 ρ n1 _ _ (E.stay g1.st) g1.pn U λxs n2 vs H2 Z b2 g2=>k _ n2 _ H2 Z ⟨O,vs,rfl,Y.stay g2.st,b2⟩ (g1.trans g2)
def zx:JAB X Pn M [] zsq:=zc.bo
def zo(q:JB X Pn M e f)(B:JAB X Pn M es fs)(hs:starEach (e::es) X.env=(false,eval e X.env)::starEach es X.env:=by rfl):JAB X Pn M (e::es) (zfq f fs):=by obtain⟨ta,F,ra⟩:=q.ex;obtain⟨tb,I,rb⟩:=B.ex;refine⟨_,yf F I hs,⟨λA σ H ρ n Q R E P J k=>?_⟩⟩;refine ra.run A σ H ρ n _ _ E P J λx n1 O H1 U Y g1=>?_;exact rb.run A σ H1 ρ n1 _ _ (E.stay g1.st) g1.pn U λxs n2 vs H2 Z b2 g2=>k _ n2 _ H2 Z ⟨O,vs,rfl,Y.stay g2.st,b2⟩ (g1.trans g2)
def lim:Nat:=500000
def zei(h:n<=lim):n<=sizeLine:=az h (by decide)
def zbK(h:n<=lim):n<sizeLine:=bC h (by decide)
def dts:List W->Option (List Dt)
 | []=>some []
 | .d x::r=>(dts r).map (x::·)
 | _::_=>none
def zaF.dts:∀ {q:List W} {vs:List V} {l:List Dt},zaF A H q vs->dts q=some l->IsL (zz A H) l vs
 | [],vs,l,h,e=>by cases e;exact h
 | .d x::q,vs,l,⟨v,r,B,h1,h2⟩,e=>by obtain⟨l',F,rfl⟩:=aF.mp e;exact⟨v,r,B,h1.is,zaF.dts h2 F⟩
 | .pen _::_,_,_,_,e=>by cases e
 | .dk _::_,_,_,_,e=>by cases e
 | .dt _::_,_,_,_,e=>by cases e
 | .ss _ _ _::_,_,_,_,e=>by cases e
 | .dn _ _::_,_,_,_,e=>by cases e
 | .wd _ _ _::_,_,_,_,e=>by cases e
 | .lf _::_,_,_,_,e=>by cases e
 | .cu _::_,_,_,_,e=>by cases e
 | .df _::_,_,_,_,e=>by cases e
 | .kf _::_,_,_,_,e=>by cases e
 | .fl _::_,_,_,_,e=>by cases e
 | .ad _ _::_,_,_,_,e=>by cases e
 | .tz _ _::_,_,_,_,e=>by cases e
def zaF.len:∀ {q:List W} {vs:List V},zaF A H q vs->vs.length=q.length
 | [],_,h=>by cases h;rfl
 | _::q,vs,⟨v,r,e,_,h2⟩=>by rw[e,aT,aT,zaF.len h2]
def zdD {A:Addr->Prop}{H H':Hp}{p:Addr}{xs:List V}{l:List Dt}(q:IsL (zz A H) l xs)(s:zl H H')(n:¬ A p)(g:H' p=some (.tup xs)):Val A H' (.d (.tup l)) (.ref p):=
 Val.of ⟨p,xs,rfl,zn n g,q.stay (zp s)⟩
def zaX {A:Addr->Prop}{H H':Hp}{p:Addr}{xs:List V}{l:List Dt}(q:IsL (zz A H) l xs)(s:zl H H')(n:¬ A p)(g:H' p=some (.lst xs)):Val A H' (.d (.lst l)) (.ref p):=
 Val.of ⟨p,xs,rfl,.inl (zn n g),q.stay (zp s)⟩
def zaL {A:Addr->Prop}{H H':Hp}{p:Addr}{xs:List V}{l:List Dt}(q:IsL (zz A H) l xs)(s:yM H H')(n:H p=none)(g:H' p=some (.lst xs)):FrV A H H' (.d (.lst l)) (.ref p):=
 ⟨p,rfl,.of n,⟨_,g,rfl⟩,p,xs,rfl,.inl g,q.stay (yp (zl.same s) (.of n))⟩
@[reducible] def zst:Nat->List W->(List Dt->Prop)->Prop
 | _,[],P=>P []
 | k+1,.d x::r,P=>zst k r λl=>P (x::l)
 | _,_,_=>False
def zdj:∀ {k:Nat} {l:List W} {P:List Dt->Prop},zst k l P->∃ds,dts l=some ds/\P ds/\l.length<=k
 | 0,[],P,h=>⟨[],rfl,h,aN _⟩
 | k+1,[],P,h=>⟨[],rfl,h,aN _⟩
 | 0,.d x::r,P,h=>h.elim
 | k+1,.d x::r,P,h=>by obtain⟨ds,e,h2,q⟩:=zdj (k:=k) (l:=r) (P:=λl=>P (x::l)) h;exact⟨x::ds,by simp[dts,e],h2,Nat.succ_le_succ q⟩
 | 0,.pen _::r,P,h=>h.elim
 | k+1,.pen _::r,P,h=>h.elim
 | 0,.dk _::r,P,h=>h.elim
 | k+1,.dk _::r,P,h=>h.elim
 | 0,.dt _::r,P,h=>h.elim
 | 0,.ss _ _ _::r,P,h=>h.elim
 | 0,.dn _ _::r,P,h=>h.elim
 | 0,.wd _ _ _::r,P,h=>h.elim
 | 0,.lf _::r,P,h=>h.elim
 | 0,.cu _::r,P,h=>h.elim
 | 0,.df _::r,P,h=>h.elim
 | 0,.kf _::r,P,h=>h.elim
 | 0,.fl _::r,P,h=>h.elim
 | 0,.ad _ _::r,P,h=>h.elim
 | 0,.tz _ _::r,P,h=>h.elim
 | k+1,.dt _::r,P,h=>h.elim
 | k+1,.ss _ _ _::r,P,h=>h.elim
 | k+1,.dn _ _::r,P,h=>h.elim
 | k+1,.wd _ _ _::r,P,h=>h.elim
 | k+1,.lf _::r,P,h=>h.elim
 | k+1,.cu _::r,P,h=>h.elim
 | k+1,.df _::r,P,h=>h.elim
 | k+1,.kf _::r,P,h=>h.elim
 | k+1,.fl _::r,P,h=>h.elim
 | k+1,.ad _ _::r,P,h=>h.elim
 | k+1,.tz _ _::r,P,h=>h.elim
@[reducible] def ztC (fa:Ev->Mo (List W)):Ev->Mo W:=λρ n Q=>fa ρ n λq m=>zst 200 q λl=>Q (.d (.tup l)) m
def yB{x1}(h:JA X Pn M es fs):JE X Pn M false (.Tuple es x1 pos) (ztC fs):=by obtain⟨ta,q,ra⟩:=h.ex;refine⟨_,zfC q,⟨λA σ H ρ n Q R E P B k=>?_⟩⟩;refine ra.run A σ H ρ n _ _ E P B λO m vs H1 F b g=>?_;obtain⟨l,e,r,I⟩:=zdj F;refine⟨zei (by rw[b.len];exact az I (by decide)),λp H2 np J S=>?_⟩;exact k _ m _ H2 r (zdD (b.dts e) (zl.same S) ((E.stay g.st).new np) J) (g.trans (Go.same g.pn S)) λz=>by cases z
@[reducible] def zty (fa:Ev->Mo (List W)):Ev->Mo W:=λρ n Q=>fa ρ n λq m=>zst 200 q λl=>Q (.d (.lst l)) m
def uV(h:JA X Pn M es fs):JE X Pn M true (.List es pos) (zty fs):=by obtain⟨ta,B,ra⟩:=h.ex;refine⟨_,zjy B,⟨λA σ H ρ n Q R E P F k=>?_⟩⟩;refine ra.run A σ H ρ n _ _ E P F λO m vs H1 I b g=>?_;obtain⟨l,e,r,J⟩:=zdj I;refine⟨zei (by rw[b.len];exact az J (by decide)),λp H2 np q S=>?_⟩;exact k _ m _ H2 r (zaX (b.dts e) (zl.same S) ((E.stay g.st).new np) q) (g.trans (Go.same g.pn S)) λ_=>(zaL (b.dts e) S np q).back g.st
def yN {id:String}{r:List V->Hp->VK->Prop}{F:List W->Mo W}{x:Str}{fs:Ev->Mo (List W)}(I:CallQ X (.builtin id) r)(J:FL Pn fr r F)(O:Gl X x)(U:X.mg x=none)(Y:bootBuiltins x=some (.builtin id))(Z:JAB X Pn M (e::es) fs)(hn:x ≠ "__name__" := by decide)(q:(x==("__debug__" : Str))=false:=by decide)
  (he:starEach (e::es) X.env=(false,eval e X.env)::starEach es X.env:=by rfl) (B:(backTo pos (starEach es X.env)).any (·.1)=false:=by rfl):JE X Pn M fr (.Call (.Name x p) (e::es) [] pos) (zto F fs):=by
 obtain⟨ta,qa,ra⟩:=Z.ex;exact⟨_,xm I O U Y qa hn q he B,zrq J ra⟩
def xP(I:CallQ X (.type T) r)(J:FL Pn fr r F)(O:Gl X x)(U:X.mg x=none)(Y:bootBuiltins x=some (.type T))(Z:JAB X Pn M (e::es) fs)(hn:x ≠ "__name__" := by decide)(q:(x==("__debug__" : Str))=false:=by decide)(he:starEach (e::es) X.env=(false,eval e X.env)::starEach es X.env:=by rfl)(B:(backTo pos (starEach es X.env)).any (·.1)=false:=by rfl):JE X Pn M fr (.Call (.Name x p) (e::es) [] pos) (zto F fs):=by
 obtain⟨ta,qa,ra⟩:=Z.ex;exact⟨_,zbX I O U Y qa hn q he B,zrq J ra⟩
end
open PySem L2
section
variable {Pn:PN}{K:PySem.W.Frag}{A:Addr->Prop}{H:Hp}
def xt{i:Int}(h:Bor A H (.d (.int i)) v):v = .int i:=h
def xK(h:Bor A H (.d (.tup l)) v):∃a xs,v = .ref a/\H a=some (.tup xs)/\IsL (zz A H) l xs:=by obtain⟨a,xs,e,h1,h2⟩:=h;exact⟨a,xs,e,zt _ _ h1,h2⟩
def ur(h:Bor A H (.d (.lst l)) v):∃a xs,v = .ref a/\Rd H a (.lst xs)/\IsL (zz A H) l xs:=h
def zhL(h:Bor A H (.d (.lst l)) v\/Bor A H (.d (.tup l)) v):∃a xs,v = .ref a/\(SqL K H a xs\/SqT K H a xs)/\IsL (zz A H) l xs:=by
 rcases h with h | h
 ·obtain⟨a,xs,e,h1,h2⟩:=ur h;exact⟨a,xs,e,.inl (.inl h1),h2⟩
 ·obtain⟨a,xs,e,h1,h2⟩:=xK h;exact⟨a,xs,e,.inr (.of h1),h2⟩
def fI (C:Int->Int->Prop)(g:Int->Int->Dt):W->W->Mo W:=λx y n Q=>∃i j,x = .d (.int i)/\y = .d (.int j)/\C i j/\Q (.d (g i j)) n
def fI0 (g:Int->Int->Dt):W->W->Mo W:=λx y n Q=>∃i j,x = .d (.int i)/\y = .d (.int j)/\Q (.d (g i j)) n
def f2_I {C:Int->Int->Prop}{g:Int->Int->V}{g':Int->Int->Dt}(B:∀i j G,Is G (g' i j) (g i j)):F2 Pn false (rI C g) (fI C g'):=⟨by
 rintro A H x y wx O n Q R U F q P ⟨i,j,I,J,c,r⟩ k;subst I J;exact⟨i,j,xt F,xt q,c,k _ n _ H r (Val.of (B _ _ _)) (Go.refl P) λz=>by cases z⟩⟩
def zij {g:Int->Int->V}{g':Int->Int->Dt}(B:∀i j G,Is G (g' i j) (g i j)):F2 Pn false (rI0 g) (fI0 g'):=⟨by
 rintro A H x y wx O n Q R U F q P ⟨i,j,I,J,r⟩ k;subst I J;exact⟨i,j,xt F,xt q,k _ n _ H r (Val.of (B _ _ _)) (Go.refl P) λz=>by cases z⟩⟩
abbrev fAdd:=fI0 λi j=>.int (i+j)
abbrev fSub:=fI0 λi j=>.int (i - j)
abbrev fMul:=fI zl5 λi j=>.int (i * j)
abbrev fMod:=fI (λ_ j=>0<j) λi j=>.int (i % j)
abbrev fLt:=fI0 λi j=>.bl (decide (i<j))
abbrev fLe:=fI0 λi j=>.bl (decide (i<=j))
abbrev fGt:=fI0 λi j=>.bl (decide (j<i))
def zun:F2 Pn false (rI0 λi j=>.int (i+j)) fAdd:=zij λ_ _ _=>rfl
def zux:F2 Pn false (rI0 λi j=>.int (i - j)) fSub:=zij λ_ _ _=>rfl
def zuv:F2 Pn false (rI zl5 λi j=>.int (i * j)) fMul:=f2_I λ_ _ _=>rfl
def zuu:F2 Pn false (rI (λ_ j=>0<j) λi j=>.int (i % j)) fMod:=f2_I λ_ _ _=>rfl
def v_lt:F2 Pn false (rI0 λi j=>.bl (decide (i<j))) fLt:=zij λ_ _ _=>rfl
def v_le:F2 Pn false (rI0 λi j=>.bl (decide (i<=j))) fLe:=zij λ_ _ _=>rfl
def v_gt:F2 Pn false (rI0 λi j=>.bl (decide (j<i))) fGt:=zij λ_ _ _=>rfl
@[reducible] def sEq:Dt->Dt->Option Bool
 | .int i,.int j=>some (decide (i=j))
 | .bl i,.bl j=>some (decide (i=j))
 | .str i,.str j=>some (decide (i=j))
 | .non,.non=>some true
 | .non,.int _=>some false
 | .int _,.non=>some false
 | .non,.bl _=>some false
 | .bl _,.non=>some false
 | .non,.str _=>some false
 | .str _,.non=>some false
 | .int _,.str _=>some false
 | .str _,.int _=>some false
 | _,_=>none
def plain:Dt->Option V
 | .int i=>some (.int i)
 | .bl i=>some (.bl i)
 | .str i=>some (.str i)
 | .non=>some .non
 | _=>none
def zmM(h:sEq a b=some r):∃x y,plain a=some x/\plain b=some y/\zua x y=true/\decide (x=y)=r:=by cases a <;> cases b <;> cases h <;> refine⟨_,_,rfl,rfl,rfl,?_⟩ <;> first | rfl | exact aO (by lia) | exact decide_eq_decide.mpr (by simp)
def u6(h:Bor A H (.d a) v)(e:plain a=some x):v=x:=by cases a <;> cases e <;> exact h
def fEq:W->W->Mo W:=λx y n Q=>∃a b r,x = .d a/\y = .d b/\sEq a b=some r/\Q (.d (.bl r)) n
def fNe:W->W->Mo W:=λx y n Q=>∃a b r,x = .d a/\y = .d b/\sEq a b=some r/\Q (.d (.bl (!r))) n
def v_eq:F2 Pn false rEq fEq:=⟨by
 rintro A H x y wx J n Q R O B q P ⟨a,b,r,F,I,e,h⟩ k;subst F I;obtain⟨U,Y,p1,p2,s,d⟩:=zmM e;obtain rfl:=u6 B p1;obtain rfl:=u6 q p2;exact⟨s,k _ n _ H h (Val.of (by rw[d];rfl)) (Go.refl P) λz=>by cases z⟩⟩
def v_ne:F2 Pn false rNe fNe:=⟨by
 rintro A H x y wx J n Q R O B q P ⟨a,b,r,F,I,e,h⟩ k;subst F I;obtain⟨U,Y,p1,p2,s,d⟩:=zmM e;obtain rfl:=u6 B p1;obtain rfl:=u6 q p2;exact⟨s,k _ n _ H h (Val.of (by rw[d];rfl)) (Go.refl P) λz=>by cases z⟩⟩
def zs4:W->W->Mo W:=λx y n Q=>∃a b,x = .d a/\y = .d b/\a.eqOk/\b.eqOk/\∀r:Bool,(r=true↔a=b)->Q (.d (.bl r)) n
def zs9:W->W->Mo W:=λx y n Q=>∃a b,x = .d a/\y = .d b/\a.eqOk/\b.eqOk/\∀r:Bool,(r=true↔a=b)->Q (.d (.bl (!r))) n
def zup:F2 Pn false zsv zs4:=⟨by
 rintro A H x y wx Y n Q R Z B q P ⟨a,b,F,I,J,O,h⟩ k;subst F I;exact⟨a,b,B.is,q.is,J,O,λr U=>k _ n _ H (h r U) (Val.of rfl) (Go.refl P) λz=>by cases z⟩⟩
def zuw:F2 Pn false zsy zs9:=⟨by
 rintro A H x y wx Y n Q R Z B q P ⟨a,b,F,I,J,O,h⟩ k;subst F I;exact⟨a,b,B.is,q.is,J,O,λr U=>k _ n _ H (h r U) (Val.of rfl) (Go.refl P) λz=>by cases z⟩⟩
def ze9:W->W->Mo W:=λx y n Q=>∃ (b:Int) (ns:List Int),x = .d (.int b)/\(y = .d (.lst (ns.map .int))\/y = .d (.tup (ns.map .int)))/\Q (.d (.bl (!ns.contains b))) n
def zlY:F2 Pn false (rIn K true) ze9:=⟨by
 rintro A H x y wx O n Q R U q B P ⟨b,ns,F,Y,h⟩ k;subst F
 have I:Bor A H (.d (.lst (ns.map .int))) y\/Bor A H (.d (.tup (ns.map .int))) y:=by grind
 obtain⟨a,xs,e,hs,J⟩:=zhL (K:=K) I;obtain rfl:=J.of_ints;obtain rfl:=xt q;exact⟨a,_,e,hs,rfl,zik ns,k _ n _ H h (Val.of (by rw[zkK];rfl)) (Go.refl P) λz=>by cases z⟩⟩
def zs5 (q:Bool):W->W->Mo W:=λx y n Q=>∃d ds,x = .d d/\(y = .d (.lst ds)\/y = .d (.tup ds))/\d.eqOk/\(Dt.lst ds).eqOk/\∀b:Bool,(b=true↔d∈ds)->Q (.d (.bl (if q then !b else b))) n
def zuq:F2 Pn false (zt3 q) (zs5 q):=⟨by
 rintro A H x y wx Z n Q R al F B P ⟨d,ds,I,J,O,U,h⟩ k;subst I;refine⟨d,ds,F.is,?_,O,U,λb Y=>k _ n _ H (h b Y) (Val.of rfl) (Go.refl P) λz=>by cases z⟩;rcases J with rfl | rfl
 ·exact .inl B.is
 ·exact .inr B.is⟩
def zmo{i:Int}(h:IsL G l xs)(e:atI l i=some d):∃v,atI xs i=some v/\Is G d v:=by
 unfold atI at e ⊢;rw[h.length];obtain⟨j,h1,h2⟩:=Option.bind_eq_some_iff.mp e;obtain⟨v,q,B⟩:=h.getD h2
 simp_all
def zs7:W->W->Mo W:=λx y n Q=>∃l i d,x = .d (.tup l)/\y = .d (.int i)/\atI l i=some d/\Q (.d d) n
def zs6:W->W->Mo W:=λx y n Q=>∃l i d,x = .d (.lst l)/\y = .d (.int i)/\atI l i=some d/\Q (.d d) n
def zus:F2 Pn false (zsx K) zs7:=⟨by
 rintro A H x y wx Y n Q R Z B q P ⟨l,i,d,F,I,e,h⟩ k;subst F I;obtain⟨a,xs,J,O,U⟩:=xK B;obtain⟨v,h1,h2⟩:=zmo U e;exact⟨a,xs,i,v,J,xt q,.of O,h1,k _ n _ H h (Val.of h2) (Go.refl P) λz=>by cases z⟩⟩
def zur:F2 Pn false (zsw K) zs6:=⟨by
 rintro A H x y wx Y n Q R Z B q P ⟨l,i,d,F,I,e,h⟩ k;subst F I;obtain⟨a,xs,J,O,U⟩:=ur B;obtain⟨v,h1,h2⟩:=zmo U e;exact⟨a,xs,i,v,J,xt q,.inl O,h1,k _ n _ H h (Val.of h2) (Go.refl P) λz=>by cases z⟩⟩
def ze8:W->W->Mo W:=λx y n Q=>∃l m,x = .d (.tup l)/\y = .d (.tup m)/\l.length+m.length<=lim/\Q (.d (.tup (l++m))) n
def zr2:F2 Pn false (zjE K) ze8:=⟨by
 rintro A H x y wx wy n Q R I J q P ⟨l,m,O,U,z,h⟩ k;subst O U;obtain⟨a,xs,Y,Z,B⟩:=xK J;obtain⟨b,ys,eb,hb,F⟩:=xK q;refine⟨a,b,xs,ys,Y,eb,Z,hb,zei (by rw[B.length,F.length];exact z),λp H' g S=>?_⟩;exact k _ n _ H' h (zdD (B.append F) (zl.same S) (I.noT' (zl.same S) g) g) (Go.same P S) λz=>by cases z⟩
def znj:W->W->Mo W:=λx y n Q=>∃l m,x = .d (.lst l)/\y = .d (.lst m)/\l.length+m.length<=lim/\Q (.d (.lst (l++m))) n
def zr1:F2 Pn true zoR znj:=⟨by
 rintro A H x y wx wy n Q R I J q P ⟨l,m,O,U,z,h⟩ k;subst O U;obtain⟨a,xs,Y,Z,B⟩:=ur J;obtain⟨b,ys,eb,hb,F⟩:=ur q;refine⟨a,b,xs,ys,Y,eb,Z,hb,zei (by rw[B.length,F.length];exact z),λp H' np g S=>?_⟩;exact k _ n _ H' h (zaX (B.append F) (zl.same S) (I.new np) g) (Go.same P S) λz=>zaL (B.append F) S np g⟩
@[reducible] def lenD:W->Option Nat
 | .d (.lst l)=>some l.length
 | .d (.tup l)=>some l.length
 | _=>none
def zs8:List W->Mo W:=λq n Q=>∃x k,q=[x]/\lenD x=some k/\Q (.d (.int (k:Int))) n
def zcR(h:zpt A H [w] vs):∃v,vs=[v]/\Bor A H w v:=by obtain⟨v,r,e,h1,h2⟩:=h;cases h2;exact⟨v,e,h1⟩
def zut:FL Pn false (λxs H Q=>∃x n,xs=[x]/\zsa K x H n/\Q (.int n) H) zs8:=⟨by
 rintro A H xs O n Q R U b P ⟨x,j,J,q,h⟩ k;subst J;obtain⟨v,rfl,I⟩:=zcR b;refine⟨v,j,rfl,?_,k _ n _ H h (Val.of rfl) (Go.refl P) λz=>by cases z⟩
 cases x with
 | d x=>
  cases x with
  | lst l=>
   cases q;obtain⟨a,ys,rfl,B,F⟩:=ur I;exact .inl ⟨ys,.inl B,F.length.symm⟩
  | tup l=>
   cases q;obtain⟨a,ys,rfl,B,F⟩:=xK I;exact .inr ⟨ys,.of B,F.length.symm⟩
  | _=>cases q
 | _=>cases q⟩
def ziz:∀ {q:List Bool} {xs:List V},IsL G (q.map .bl) xs->xs=q.map V.bl
 | [],_,h=>h
 | b::q,xs,h=>by obtain⟨y,r,rfl,h1,h2⟩:=h;cases h1;rw[ziz h2];rfl
def zs3:List W->Mo W:=λB n Q=>∃q:List Bool,B=[.d (.lst (q.map .bl))]/\Q (.d (.bl (q.all id))) n
def zuo:FL Pn false (λxs H Q=>∃ (p:Addr) (q:List Bool),xs=[.ref p]/\Rd H p (.lst (q.map V.bl))/\Q (.bl (q.all id)) H) zs3:=⟨by
 rintro A H xs O n Q R U b P ⟨q,B,h⟩ k;subst B;obtain⟨v,rfl,F⟩:=zcR b;obtain⟨a,ys,rfl,I,J⟩:=ur F;obtain rfl:=ziz J;exact⟨a,q,rfl,I,k _ n _ H h (Val.of rfl) (Go.refl P) λz=>by cases z⟩⟩
def zp5:List W->Mo W:=λq n Q=>∃l,(q=[.d (.lst l)]\/q=[.d (.tup l)])/\Q (.d (.lst l)) n
def zr3:FL Pn true (zjF K) zp5:=⟨by
 rintro A H xs J n Q R B b P ⟨l,F,h⟩ k
 obtain⟨v,rfl,I⟩:∃v,xs=[v]/\(Bor A H (.d (.lst l)) v\/Bor A H (.d (.tup l)) v):=by
  rcases F with rfl | rfl
  ·obtain⟨v,e,h⟩:=zcR b;exact⟨v,e,.inl h⟩
  ·obtain⟨v,e,h⟩:=zcR b;exact⟨v,e,.inr h⟩
 obtain⟨a,ys,rfl,hs,q⟩:=zhL (K:=K) I;exact⟨a,ys,rfl,hs,λp H' np g S=>k _ n _ H' h (zaX q (zl.same S) (B.new np) g) (Go.same P S) λz=>zaL q S np g⟩⟩
def zml:List W->Mo W:=λq n Q=>∃l,(q=[.d (.lst l)]\/q=[.d (.tup l)])/\Q (.d (.tup l)) n
def zpl:FL Pn false (zfH K) zml:=⟨by
 rintro A H xs O n Q R I b P ⟨l,J,h⟩ k;rcases J with rfl | rfl
 ·obtain⟨v,rfl,B⟩:=zcR b;obtain⟨a,ys,rfl,q,F⟩:=ur B;exact⟨a,ys,rfl,.inl ⟨.inl q,λp H' np g S=>k _ n _ H' h (zdD F (zl.same S) (I.new np) g) (Go.same P S) λz=>by cases z⟩⟩
 ·obtain⟨v,rfl,B⟩:=zcR b;obtain⟨a,ys,e,q,F⟩:=id B;subst e;exact⟨a,ys,rfl,.inr ⟨.of (zt _ _ q),k _ n _ H h (Val.of ⟨a,ys,rfl,q,F⟩) (Go.refl P) λz=>by cases z⟩⟩⟩
def uf {α:Type}(xs:List α)(lo hi:Option Int):List α:=(xs.drop (HT.sIx xs.length 0 lo)).take (HT.sIx xs.length xs.length hi - HT.sIx xs.length 0 lo)
def zfl{lo hi:Option Int}(h:IsL G l xs):IsL G (uf l lo hi) (zcb xs lo hi):=by unfold uf zcb;rw[h.length];exact (h.drop _).take _
def yt {κ:Type}[DecidableEq κ](kvs:List (κ×Dt))(k:κ):Option Dt:=(kvs.find? λq=>decide (q.1=k)).map (·.2)
def xp.look {κ:Type}[DecidableEq κ]{G:Hp}{k:κ}:∀ {kvs:List (κ×Dt)} {ks:List (κ×V)},xp G kvs ks->(yt kvs k=none->zaE ks k=none)/\∀d,yt kvs k=some d->∃v,zaE ks k=some v/\Is G d v
 | [],_,h=>by cases h;exact⟨λ_=>rfl,λd e=>by cases e⟩
 | q::r,ks,⟨v,s,e,h1,h2⟩=>by
  subst e;have F:=xp.look (k:=k) h2;by_cases B:q.1=k
  ·refine⟨λz=>?_,λd z=>?_⟩
   ·simp[yt,bH,B] at z
   ·simp[yt,bH,B] at z;subst z;exact⟨v,yW B,h1⟩
  ·have I:yt (q::r) k=yt r k:=by simp[yt,bH,B]
   rw[I,yU B];exact F
end
open PySem L2
section
variable {X:Cx}{Pn:PN}{M S:List Nat}{fr:Bool}{e a b c:Expr}{es:List Expr}{f fa fb fc:Ev->Mo W}{pos p:Pos}
def zc5(q:IxQ X r)(B:F2 Pn fr r F)(I:JB X Pn M a fa)(J:JB X Pn M b fb)(hs:zeT b):JE X Pn M fr (.Subscript a b pos) (zmv F fa fb):=by obtain⟨ta,O,ra⟩:=I.ex;obtain⟨tb,U,rb⟩:=J.ex;exact⟨_,zrg q O U hs,zlD B ra rb⟩
@[reducible] def znV:Ev->Mo (Option Int):=λ_ n Q=>Q none n
def znW (fa:Ev->Mo W):Ev->Mo (Option Int):=λρ n Q=>fa ρ n λx m=>∃i,x = .d (.int i)/\Q (some i) m
def y4:JO X Pn M none znV:=⟨_,zjA,λA σ H ρ n Q R E P q k=>k none n H q (Go.refl P)⟩
def y6 (h:JB X Pn M e f):JO X Pn M (some e) (znW f):=by obtain⟨te,q,r⟩:=h.ex;refine⟨_,zjB q,λA σ H ρ n Q R E P B k=>?_⟩;refine r.run A σ H ρ n _ _ E P B  ?_;rintro w m v H' ⟨i,e,r⟩ F g;subst e;exact⟨i,xt F,k (some i) m H' r g⟩
def ztB (fa:Ev->Mo W)(fl q:Ev->Mo (Option Int)):Ev->Mo W:=λρ n Q=>fa ρ n λx n1=>fl ρ n1 λlo n2=>q ρ n2 λhi n3=>∃l,x = .d (.tup l)/\Q (.d (.tup (uf l lo hi))) n3
def ztA (fa:Ev->Mo W)(fl q:Ev->Mo (Option Int)):Ev->Mo W:=λρ n Q=>fa ρ n λx n1=>fl ρ n1 λlo n2=>q ρ n2 λhi n3=>∃l,x = .d (.lst l)/\Q (.d (.lst (uf l lo hi))) n3
def zea{fl B:Ev->Mo (Option Int)}(I:JB X Pn M e f)(q:JO X Pn M lo fl)(J:JO X Pn M hi B):JE X Pn M false (.Subscript e (.Slice lo hi none p2) pos) (ztB f fl B):=by obtain⟨te,O,U⟩:=I.ex;obtain⟨tl,Y,Z⟩:=q.ex;obtain⟨th,qh,rh⟩:=J.ex;refine⟨_,zdn zpb O Y qh,⟨λA σ H ρ n Q R E P hf k=>?_⟩⟩;refine U.run A σ H ρ n _ _ E P hf λw m v H1 r1 bb g1=>?_;refine Z A σ H1 ρ m _ _ (E.stay g1.st) g1.pn r1 λo m2 H2 r2 g2=>?_;refine rh A σ H2 ρ m2 _ _ ((E.stay g1.st).stay g2.st) g2.pn r2  ?_;rintro o3 m3 H3 ⟨l,e,r3⟩ g3;subst e;have g:=(g1.trans g2).trans g3;obtain⟨ad,xs,rfl,ha,q⟩:=xK (bb.stay (g2.trans g3).st);exact⟨ad,xs,rfl,ha,λp H' F S=>k _ m3 _ H' r3 (zdD (zfl q) (zl.same S) (Al.noT' (E.stay g.st).al (zl.same S) F) F) (g.trans (Go.same g3.pn S)) λz=>by cases z⟩
def znI{fl B:Ev->Mo (Option Int)}(F:JB X Pn M e f)(q:JO X Pn M lo fl)(I:JO X Pn M hi B):JE X Pn M true (.Subscript e (.Slice lo hi none p2) pos) (ztA f fl B):=by obtain⟨te,J,O⟩:=F.ex;obtain⟨tl,U,Y⟩:=q.ex;obtain⟨th,Z,rh⟩:=I.ex;refine⟨_,zdn zj2 J U Z,⟨λA σ H ρ n Q R E P hf k=>?_⟩⟩;refine O.run A σ H ρ n _ _ E P hf λw m v H1 r1 bb g1=>?_;refine Y A σ H1 ρ m _ _ (E.stay g1.st) g1.pn r1 λo m2 H2 r2 g2=>?_;refine rh A σ H2 ρ m2 _ _ ((E.stay g1.st).stay g2.st) g2.pn r2  ?_;rintro o3 m3 H3 ⟨l,e,r3⟩ g3;subst e;have g:=(g1.trans g2).trans g3;obtain⟨ad,xs,rfl,ha,q⟩:=ur (bb.stay (g2.trans g3).st);refine⟨ad,xs,rfl,.inl ha,λp np=>?_⟩;have S:=yM.upd (o:=.lst (zcb xs o o3)) np;exact k _ m3 _ _ r3 (zaX (zfl q) (zl.same S) ((E.stay g.st).new np) zf) (g.trans (Go.same g3.pn S)) λz=>(zaL (zfl q) S np zf).back g.st
@[reducible] def zsl:W->Option Key
 | .d (.int i)=>some (Sum.inl i)
 | .d (.str x)=>some (Sum.inr x)
 | _=>none
@[reducible] def prD (q:Int×Dt):Dt:=.tup [.int q.1,q.2]
def kvD (q:Int×Dt):Key×Dt:=(Sum.inl q.1,q.2)
def spV (k:Nat)(fr:Bool)(F:PN->List W->Mo W):Sp:=λvs H Q _=>∃Pn A q n R,Al A H/\zaF A H q vs/\q.length=k/\yK Pn A n H/\F Pn q n R/\∀w m v H',R w m->Val A H' w v->Go Pn A H m H'->(fr=true->FrV A H H' w v)->Q v H'
def mFn (k:Nat)(F:List W->Mo W)(fa:Ev->Mo (List W)):Ev->Mo W:=λρ n Q=>fa ρ n λq m=>q.length=k/\F q m Q
def zt5(q:RA Pn M ta fs):RE Pn M fr (zeG (spV k fr F) [] E0 ta) (mFn k (F Pn) fs):=⟨λA σ H ρ n Q R E P B kk=>by refine q.run A σ H ρ n _ _ E P B  ?_;rintro I m vs H1 ⟨J,r⟩ b g;rw[bD];exact⟨Pn,A,I,m,R,(E.stay g.st).al,b,J,g.pn,r,λw O v H' h1 h2 U Y=>kk w O v H' h1 h2 (g.trans U) λz=>(Y z).back g.st⟩⟩
def yA(D:Dfn X.K X.mg x st ps fA fd)(G:FnOk X.prog X.w X.K X.mg X.base CX0 j fA fd ps (spV k fr F))(J:Room kk X.A)(O:JA X Pn M (e::es) fs)(q:j<=kk:=by decide)(U:Gl X x:=by rfl)(B:(x==("__debug__" : Str))=false:=by decide)(Y:starEach (e::es) X.env=(false,eval e X.env)::starEach es X.env:=by rfl)(I:(backTo pos (starEach es X.env)).any (·.1)=false:=by rfl) :
  JE X Pn M fr (.Call (.Name x p) (e::es) [] pos) (mFn k (F Pn) fs):=by
 obtain⟨ta,Z,ra⟩:=O.ex;exact⟨_,zoH D G J Z q U B Y I,zt5 ra⟩
@[reducible] def W.flat (fr:Bool):W->Bool
 | .d (.lst l)=>fr&&Dt.noLs l
 | .d x=>x.noL
 | .pen _=>true
 | .dk _=>false
 | .dt _=>false
 | .ss _ _ _=>false
 | .dn _ _=>false
 | .wd _ _ _=>false
 | .lf _=>false
 | .cu _=>false
 | .df _=>false
 | .kf _=>false
 | .fl _=>false
 | .ad _ _=>false
 | .tz _ _=>false
def zkD(F:Al A H)(s:zl H H')(h:Val A' H' w v)(I:fr=true->FrV A' H H' w v)(fl:w.flat fr=true):Val A H' w v:=by
 have q:=F.stay s
 cases w with
 | d x=>
  cases x with
  | lst l=>
   rw[show W.flat fr (.d (.lst l))=(fr&&Dt.noLs l) from rfl,aJ] at fl;obtain⟨ad,xs,rfl,B,J⟩:=h;obtain⟨a2,O,f2,_⟩:=I fl.1;cases O
   have U:¬ A ad:=λz=>by obtain⟨o,Y,Z,_⟩:=F ad z;exact f2 o Y Z
   exact⟨ad,xs,rfl,B.sub.hid U,xO q.noT fl.2 (J.stay (zl.same zt))⟩
  | dct=>cases fl
  | non=>exact h
  | bl c=>exact h
  | int c=>exact h
  | str c=>exact h
  | tup l=>exact Val.of (zmp q.noT fl ((Val.is h).stay (zl.same zt)))
 | pen p=>exact h
 | dk kvs=>cases fl
 | dt kvs=>cases fl
 | ss P w kvs=>cases fl
 | dn fz kvs=>cases fl
 | wd d fs kn=>cases fl
 | lf ls=>cases fl
 | cu k=>cases fl
 | df kvs=>cases fl
 | kf kvs=>cases fl
 | fl kvs=>cases fl
 | ad a x=>cases fl
 | tz kvs x=>cases fl
def zkC(O:Al A H)(s:zl H H')(h:Val A' H' w v)(U:FrV A' H H' w v)(fl:w.flat true=true):FrV A H H' w v:=by
 obtain⟨I,B,f2,J,h2⟩:=U;refine⟨I,B,f2,J,?_⟩;have F:=O.stay s
 cases w with
 | d x=>
  cases x with
  | lst l=>
   obtain⟨ad,xs,e,q,Y⟩:=h2;rw[B] at e;cases e;refine⟨I,xs,B,q,xO (λb ys z g=>?_) (by lia) (Y.stay (zl.same zt))⟩;rcases z with z | z
   ·exact F.noT b ys z g
   ·obtain⟨o,e,Z⟩:=J;subst z;rw[e] at g;cases g;exact Z.tup ys rfl
  | tup l=>
   obtain⟨ad,xs,e,q,_⟩:=h2;rw[B] at e;cases e;exact absurd rfl (λz=>(zI.mp q).1 (.inr z))
  | dct=>cases fl
  | non=>exact h2
  | bl c=>exact h2
  | int c=>exact h2
  | str c=>exact h2
 | pen p=>exact h2
 | dk kvs=>cases fl
 | dt kvs=>cases fl
 | ss P w kvs=>cases fl
 | dn fz kvs=>cases fl
 | wd d fs kn=>cases fl
 | lf ls=>cases fl
 | cu k=>cases fl
 | df kvs=>cases fl
 | kf kvs=>cases fl
 | fl kvs=>cases fl
 | ad a x=>cases fl
 | tz kvs x=>cases fl
def ztn (A:Addr->Prop)(vs:List V):Addr->Prop:=λb=>A b/\V.ref b∉vs
def zf2 {A:Addr->Prop}{H:Hp}{all:List V}:∀ {J:List W} {vs:List V},(∀v∈vs,v∈all)->zpt A H J vs->zaF (ztn A all) H J vs
 | [],vs,_,h=>h
 | w::J,vs,hs,⟨v,r,e,h1,h2⟩=>by
  subst e;refine⟨v,r,rfl,?_,zf2 (by grind) h2⟩;have I:=hs v ak;have q:yM (zz A H) (zz (ztn A all) H):=yb λb z=>z.1
  cases w with
  | d x=>
   cases x with
   | lst l=>obtain⟨ad,xs,rfl,B,F⟩:=h1;exact⟨ad,xs,rfl,B.hid (λz=>z.2 I),F.stay (zl.same q)⟩
   | dct=>obtain⟨ad,xs,rfl,B,F⟩:=h1;exact⟨ad,xs,rfl,zn (λz=>z.2 I) B,F⟩
   | non=>exact h1
   | bl c=>exact h1
   | int c=>exact h1
   | str c=>exact h1
   | tup l=>exact Is.stay (zl.same q) h1
  | pen p=>exact h1
  | dk kvs=>obtain⟨ad,xs,rfl,B,F,O⟩:=h1;exact⟨ad,xs,rfl,zn (λz=>z.2 I) B,F.stay (zl.same q),O⟩
  | dt kvs=>obtain⟨ad,xs,rfl,B,F⟩:=h1;exact⟨ad,xs,rfl,zn (λz=>z.2 I) B,F.stay (zl.same q)⟩
  | dn fz kvs=>obtain⟨ad,xs,rfl,B,h2,U⟩:=h1;exact⟨ad,xs,rfl,B.imp λo _ e=>zn (λz=>z.2 I) e,h2.stay (zl.same q),U.stay (zl.same q)⟩
  | wd d fs kn=>obtain⟨ad,xs,rfl,B,F⟩:=h1;exact⟨ad,xs,rfl,zn (λz=>z.2 I) B,F.stay (zl.same q)⟩
  | cu k=>obtain⟨ad,rfl,B⟩:=h1;exact⟨ad,rfl,k.mv (λo e _=>zn (λz=>z.2 I) e) (zl.same q) B⟩
  | lf ls=>obtain⟨ad,xs,rfl,B,F⟩:=h1;exact⟨ad,xs,rfl,B.hid (λz=>z.2 I),F.stay (zl.same q)⟩
  | ss P w kvs=>obtain⟨ad,xs,rfl,B,F⟩:=h1;exact⟨ad,xs,rfl,zn (λz=>z.2 I) B,F.stay (zl.same q)⟩
  | df kvs=>obtain⟨ad,ob,xs,rfl,B,F⟩:=h1;exact⟨ad,ob,xs,rfl,zn (λz=>z.2 I) B,F.stay (zl.same q)⟩
  | kf kvs=>obtain⟨ad,ob,xs,rfl,B,F⟩:=h1;exact⟨ad,ob,xs,rfl,zn (λz=>z.2 I) B,F.stay (zl.same q)⟩
  | fl kvs=>obtain⟨ad,ob,xs,rfl,B,F⟩:=h1;exact⟨ad,ob,xs,rfl,zn (λz=>z.2 I) B,F.stay (zl.same q)⟩
  | ad a x=>exact⟨h1.1,Is.stay (zcC (zl.same q)) h1.2⟩
  | tz kvs x=>obtain⟨a,b,ob,ks,y,e,Y,Z,z3,z4⟩:=h1;exact⟨a,b,ob,ks,y,e,q _ _ Y,q _ _ Z,z3.stay (zl.same q),z4.stay (zl.same q)⟩
def yK.more(h:yK Pn A n H)(h':yK Pn A' m H')(q:∀a,A a->A' a\/∃o,H' a=some o/\NP o/\Mt o):yK Pn A m H':=by
 refine⟨?_,Pn.J.grow h'.2 q⟩;have h:=h.1;have h':=h'.1;split at h
 all_goals simp_all
def yK.less(h:yK Pn A n H)(s:∀a,A' a->A a):yK Pn A' n H:=by
 refine⟨?_,Pn.J.grow h.2 λa z=>.inl (s a z)⟩;have h:=h.1;split at h
 ·trivial
 ·exact⟨h.1,λz=>h.2.1 (s _ z),λz=>h.2.2 (s _ z)⟩
def zsp (k:Nat)(fr:Bool)(F:List W->Mo W)(fa:Ev->Mo (List W)):Ev->Mo W:=λρ n Q=>fa ρ n λq m=>q.length=k/\F q m λw B=>w.flat fr=true/\Q w B
def zrr(J:RAB Pn M ta fs):RE Pn M fr (zeG (spV k fr F) [] E0 ta) (zsp k fr (F Pn) fs):=⟨λA σ H ρ n Q R E P O kk=>by refine J.run A σ H ρ n _ _ E P O  ?_;rintro U m vs H1 ⟨Y,r⟩ b g;rw[bD];have B:=(E.stay g.st).al;refine⟨Pn,ztn A vs,U,m,_,λa z=>B a z.1,zf2 (λ_ z=>z) b,Y,g.pn.less λa z=>z.1,r,?_⟩;rintro w Z v H' ⟨fl,h1⟩ h2 q I;refine kk w Z v H' h1 (zkD B q.st h2 I fl) (g.trans ⟨q.st,g.pn.more q.pn λa z=>let ⟨o,o1,o2,o3⟩:=B a z;.inr ⟨o,q.st _ _ o1 o2,o2,o3⟩⟩) λz=>?_;subst z;exact (zkC B q.st h2 (I rfl) fl).back g.st⟩
def znG(D:Dfn X.K X.mg x st ps fA fd)(G:FnOk X.prog X.w X.K X.mg X.base CX0 j fA fd ps (spV k fr F))(J:Room kk X.A)(O:JAB X Pn M (e::es) fs)(q:j<=kk:=by decide)(U:Gl X x:=by rfl)(B:(x==("__debug__" : Str))=false:=by decide)(Y:starEach (e::es) X.env=(false,eval e X.env)::starEach es X.env:=by rfl)(I:(backTo pos (starEach es X.env)).any (·.1)=false:=by rfl) :
  JE X Pn M fr (.Call (.Name x p) (e::es) [] pos) (zsp k fr (F Pn) fs):=by
 obtain⟨ta,Z,ra⟩:=O.ex;exact⟨_,zoH D G J Z q U B Y I,zrr ra⟩
end
open PySem L2
structure JG (X:Cx)(S M:List Nat)(e:Expr)(mg:W->Ev->(Ev->Prop)->Prop):Prop where
 ex:∃g,QG X e g/\RG S M g mg
structure JGs (X:Cx)(S M:List Nat)(es:List Expr)(mg:List Dt->Ev->(Ev->Prop)->Prop):Prop where
 ex:∃g,QGs X es g/\RGs S M g mg
structure JI (X:Cx)(Pn:PN)(M:List Nat)(ow:Bool)(tg e:Expr)(f:Ev->Mo (List W)):Prop where
 ex:∃wi,QI X tg e wi/\RI Pn M ow wi f
structure JTs (X:Cx)(Pn:PN)(M:List Nat)(es:List Expr)(f:Ev->Mo Bool):Prop where
 ex:∃t,QTs X es t/\RT Pn M t f
section
variable {X:Cx}{Pn:PN}{M S:List Nat}{fr:Bool}{e a b c:Expr}{es:List Expr}{f fa fb fc:Ev->Mo W}{pos p:Pos}
def gN (i:Nat):W->Ev->(Ev->Prop)->Prop:=λw ρ Q=>Q (ρ.set i (some w))
def gNl:List Dt->Ev->(Ev->Prop)->Prop:=λds ρ Q=>ds=[]/\Q ρ
def gCn (g:W->Ev->(Ev->Prop)->Prop)(u:List Dt->Ev->(Ev->Prop)->Prop):List Dt->Ev->(Ev->Prop)->Prop:=λds ρ Q=>∃d r,ds=d::r/\g (.d d) ρ λq=>u r q Q
def gTp (n:Nat)(u:List Dt->Ev->(Ev->Prop)->Prop):W->Ev->(Ev->Prop)->Prop:=λw ρ Q=>∃ds,w = .d (.tup ds)/\ds.length=n/\u ds ρ Q
def EnvR.set(E:EnvR A M σ H ρ)(hi:i∉M)(h:Val A H w v):EnvR A M (σ.set i (some v)) H (ρ.set i (some w)) where
 len:=by rw[bS,bS];exact E.len
 val:=λj u e=>by
  by_cases q:j=i
  ·subst q
   have J:j<ρ.length:=by
    have:=(af.mp e).1
    simp_all
   rw[aZ J] at e;cases e;exact⟨v,aZ (by rw[E.len];exact J),λ_=>h,λz=>absurd z hi⟩
  ·rw[aB (Ne.symm q)] at e ⊢;exact E.val j u e
 dis:=λj k u u' ad q O B U Y Z=>by have F:i≠j:=λz=>hi (z ▸ q);have I:i≠k:=λz=>hi (z ▸ O);rw[aB F] at U Z;rw[aB I] at Y ⊢;exact E.dis j k u u' ad q O B U Y Z
 al:=E.al
def zfI(hi:i∉M)(hs:i∉S):RG S M (zbl i) (gN i):=⟨λA σ H ρ v w Q R E h r k=>k _ _ r (E.set hi h) λj q=>⟨aB λ(z:i=j)=>hs (by rw[z];exact q),aB λ(z:i=j)=>hs (by rw[z];exact q)⟩⟩
def zm(q:X.N.Nodup)(B:X.N[i]?=some x:=by rfl)(F:Loc X.env.scope x:=by first | exact Or.inl rfl | exact Or.inr rfl)(hi:i∉M:=by decide)(hs:i∉S:=by decide)(I:X.fn x=true\/X.env.scope.names.lookup x=some .local:=by walk_at "l"):JG X S M (.Name x pos) (gN i):=⟨_,zbY q B F I,zfI hi hs⟩
def xQ:JGs X S M [] gNl:=⟨_,zoL,⟨by
 rintro A σ H ρ vs ds Q R E h ⟨e,r⟩ k;subst e;exact⟨h,k σ ρ r E λ_ _=>⟨rfl,rfl⟩⟩⟩⟩
def zv(h1:JG X S M e g)(h2:JGs X S M es u)(hs:(assignEach (e::es) X.env).map (·.2)=assign e X.env::(assignEach es X.env).map (·.2):=by rfl):JGs X S M (e::es) (gCn g u):=by obtain⟨t1,J,O⟩:=h1.ex;obtain⟨t2,U,Y⟩:=h2.ex;refine⟨_,zlv J U hs,⟨ ?_⟩⟩;rintro A σ H ρ vs ds Q R E h ⟨d,r,e,Z⟩ k;subst e;obtain⟨v,s,rfl,hv,hr⟩:=h;refine⟨v,s,rfl,?_⟩;refine O.run A σ H ρ v _ _ _ E (Val.of hv) Z λq B hu E' f1=>?_;exact Y.run A q H B s _ _ _ E' hr hu λF I hR E2 f2=>k F I hR E2 λi hi=>⟨(f2 i hi).1.trans (f1 i hi).1,(f2 i hi).2.trans (f1 i hi).2⟩
def zah {k n:Nat}{u:List Dt->Ev->(Ev->Prop)->Prop}(K:PySem.W.Frag)(I:X.K=K)(J:X.calm=true)(h:JGs X S M es u)(O:(assignEach es X.env).length=n:=by rfl)(q:(assignEach es X.env).findIdx? (·.1)=none:=by rfl):JG X S M (.Tuple es k pos) (gTp n u):=by obtain⟨t1,U,Y⟩:=h.ex;refine⟨_,zoK K I J U O q,⟨ ?_⟩⟩;rintro A σ H ρ v w Q R E h ⟨ds,e,Z,hu⟩ kk;subst e;obtain⟨ad,xs,rfl,B,F⟩:=h;exact⟨ad,xs,rfl,.of (zt _ _ B),by rw[F.length];exact Z,Y.run A σ H ρ xs ds _ _ E F hu kk⟩
def ztv (fa:Ev->Mo W):Ev->Mo (List W):=λρ n Q=>fa ρ n λx m=>∃l,x = .d (.lst l)/\Q (l.map W.d) m
def ztx (fa:Ev->Mo W):Ev->Mo (List W):=λρ n Q=>fa ρ n λx m=>∃l,x = .d (.tup l)/\Q (l.map W.d) m
def ziD {G G':Hp}{l:List Dt}{xs:List V}{i:Nat}{w:W}(h:IsL G l xs)(e:(l.map W.d)[i]?=some w)(s:zl G G'):∃d x,w = .d d/\xs[i]?=some x/\Is G' d x:=by rw[aE] at e;obtain⟨d,h1,rfl⟩:=aF.mp e;obtain⟨x,h2,q⟩:=h.getD h1;exact⟨d,x,rfl,h2,q.stay s⟩
def zkP(h:Rd (zz A H) q (.lst xs))(B:IsL (zz A H) l xs):ItV false A H (Itl K q) (l.map W.d) where
 one:=λi w A2 H2 e s _ _=>by obtain⟨d,x,rfl,F,I⟩:=ziD B e s;have g:=(s.rdl h).sub;refine⟨⟨xs,x,.inl g,F⟩,?_⟩;rintro y H3 ⟨J,O⟩;subst J;have:=O xs (.inl g);rw[F] at this;cases this;exact⟨λ_ _ z=>z,Val.of I⟩
 stop:=λA2 H2 s _=>⟨xs,.inl (s.rdl h).sub,by rw[ab,B.length];exact ah _⟩
def znC(h:zz A H q=some (.tup xs))(B:IsL (zz A H) l xs):ItV false A H (Itt K q) (l.map W.d) where
 one:=λi w A2 H2 e s _ _=>by obtain⟨d,x,rfl,F,I⟩:=ziD B e s;have g:=zt _ _ (s.tup h);refine⟨⟨xs,x,.of g,F⟩,?_⟩;rintro y H3 ⟨J,O⟩;subst J;have:=O xs (.of g);rw[F] at this;cases this;exact⟨λ_ _ z=>z,Val.of I⟩
 stop:=λA2 H2 s _=>⟨xs,.of (zt _ _ (s.tup h)),by rw[ab,B.length];exact ah _⟩
def uW(K:PySem.W.Frag)(F:X.K=K)(h:JE X Pn M fr e f):JI X Pn M false tg e (ztv f):=by obtain⟨te,q,r⟩:=h.ex;refine⟨_,zdo K F q,⟨λA σ H ρ n Q R E P I k=>?_⟩⟩;refine r.run A σ H ρ n _ _ E P I  ?_;rintro w m v H1 ⟨l,e,r⟩ J g _;subst e;obtain⟨O,xs,rfl,B,U⟩:=J;exact⟨O,rfl,⟨xs,.inl B.sub⟩,k _ m _ H1 r (zkP B U) g⟩
def zbI(K:PySem.W.Frag)(F:X.K=K)(h:JE X Pn M fr e f):JI X Pn M false tg e (ztx f):=by obtain⟨te,q,r⟩:=h.ex;refine⟨_,zoN K F q,⟨λA σ H ρ n Q R E P I k=>?_⟩⟩;refine r.run A σ H ρ n _ _ E P I  ?_;rintro w m v H1 ⟨l,e,r⟩ J g _;subst e;obtain⟨O,xs,rfl,B,U⟩:=J;exact⟨O,rfl,⟨xs,.of (zt _ _ B)⟩,k _ m _ H1 r (znC B U) g⟩
def zhl (lo:Int)(n:Nat):List W:=(List.range n).map λi:Nat=>W.d (.int (lo+i))
def znB{lo:Int}:ItV false A H (Itr lo n) (zhl lo n) where
 one:=λi w A2 H2 e s _ _=>by unfold zhl at e;rw[aE] at e;obtain⟨j,h1,rfl⟩:=aF.mp e;obtain⟨hi,h2⟩:=af.mp h1;rw[eh] at h2;subst h2;rw[bm] at hi;refine⟨hi,?_⟩;rintro y H3 ⟨q,B⟩;subst q B;exact⟨λ_ _ z=>z,Val.of rfl⟩
 stop:=λA2 H2 s _=>by
  show n<=(zhl lo n).length;unfold zhl
  simp_all
def ztw (fa:Ev->Mo (List W)):Ev->Mo (List W):=λρ n Q=>fa ρ n λq m=>∃j:Int,q=[.d (.int j)]/\j<=1000000/\-1000000<=j/\Q (zhl 0 j.toNat) m
def yZ(B:Gl X "range")(F:X.mg "range" = none)(I:JAB X Pn M [a] fs)(hs:starEach [a] X.env=[(false,eval a X.env)]:=by rfl):JI X Pn M false tg (.Call (.Name "range" p) [a] [] pos) (ztw fs):=by obtain⟨te,q,r⟩:=I.ex;refine⟨_,zjz B F q hs,⟨λA σ H ρ n Q R E P J k=>?_⟩⟩;refine r.run A σ H ρ n _ _ E P J  ?_;rintro Y m vs H1 ⟨j,e,j1,j2,r⟩ O g;subst e;obtain⟨v,rfl,U⟩:=zcR O;obtain rfl:=xt U;exact⟨j,rfl,by lia,by lia,k _ m _ H1 r znB g⟩
def enW:Nat->List Dt->List W
 | _,[]=>[]
 | k,x::r=>.d (.tup [.int k,x])::enW (k+1) r
def ze6:∀ (l:List Dt) (k i:Nat),(enW k l)[i]?=(l[i]?).map λx=>W.d (.tup [.int ((k+i:Nat):Int),x])
 | [],_,_=>by simp[enW]
 | x::r,k,0=>by simp[enW]
 | x::r,k,i+1=>by have:=ze6 r (k+1) i;simp only[enW,ef,this];rw[show k+1+i=k+(i+1) by lia]
def zib:∀ (l:List Dt) (k:Nat),(enW k l).length=l.length
 | [],_=>rfl
 | x::r,k=>by rw[enW,aT,aT,zib r]
def ztu (fa:Ev->Mo (List W)):Ev->Mo (List W):=λρ n Q=>fa ρ n λq m=>∃l,q=[.d (.tup l)]/\Q (enW 0 l) m
def zkO(h:zz A H q=some (.tup xs))(B:IsL (zz A H) l xs):ItV false A H (Ite K q) (enW 0 l) where
 one:=λi w A2 H2 e s _ J=>by rw[ze6] at e;obtain⟨d,h1,rfl⟩:=aF.mp e;obtain⟨x,F,O⟩:=B.getD h1;have g:=zt _ _ (s.tup h);refine⟨⟨xs,x,.of g,F⟩,?_⟩;rintro y H3 ⟨T,z,U,I,Y,Z⟩;subst U Y;have:=Z xs (.of g);rw[F] at this;cases this;have S:=yM.upd (o:=.tup [.int i,x]) I;refine⟨S,Val.of ⟨T,_,rfl,zn (J T I) zf,_,_,rfl,?_,_,_,rfl,(O.stay s).stay (zl.same (zd4 S)),rfl⟩⟩;show V.int (i:Int)=V.int ((0+i:Nat):Int);rw[fL]
 stop:=λA2 H2 s _=>⟨xs,.of (zt _ _ (s.tup h)),by rw[zib,B.length];exact ah _⟩
def ziF{x1}(I:Gl X "enumerate")(J:X.mg "enumerate" = none)(O:JA X Pn M [a] fs)(hs:starEach [a] X.env=[(false,eval a X.env)]:=by rfl):JI X Pn M false (.Tuple B x1 tpos) (.Call (.Name "enumerate" p) [a] [] pos) (ztu fs):=by obtain⟨te,q,r⟩:=O.ex;refine⟨_,zoM I J q hs,⟨λA σ H ρ n Q R E P U k=>?_⟩⟩;refine r.run A σ H ρ n _ _ E P U  ?_;rintro ws m vs H1 ⟨l,e,r⟩ Y g;subst e;obtain⟨v,s,rfl,⟨Z,xs,rfl,F,hl⟩,hs⟩:=Y;cases hs;exact⟨Z,rfl,⟨xs,.of (zt _ _ F)⟩,k _ m _ H1 r (zkO F hl) g⟩
def ziW:List Dt->List Dt->List W
 | x::r,y::s=>.d (.tup [x,y])::ziW r s
 | _,_=>[]
def uG (ρ:Ev)(cix:List (Option Nat)):Ev:=cix.map λo=>match o with
 | none=>none
 | some i=>(ρ[i]?).join
def zK (M:List Nat)(cix:List (Option Nat)):List Nat:=(List.range cix.length).filter λk=>match cix[k]? with
 | some (some i)=>M.contains i
 | _=>false
def zbr:k∈zK M cix↔∃i,cix[k]?=some (some i)/\i∈M:=by
 unfold zK;rw[bG,aQ];constructor
 ·rintro⟨h1,h2⟩;rw[aj h1] at h2 ⊢
  cases e:cix[k] with
  | none=>rw[e] at h2;cases h2
  | some i=>rw[e] at h2;exact⟨i,rfl,by simpa using h2⟩
 ·rintro⟨i,h1,h2⟩;exact⟨(af.mp h1).1,by simp_all⟩
def zaH {α:Type}{l:List (Option α)}{cix:List (Option Nat)}{k:Nat}{x:α}:(cix.map λo=>match o with | none=>none | some i=>(l[i]?).join)[k]?=some (some x)↔∃i,cix[k]?=some (some i)/\l[i]?=some (some x):=by
 rw[aE]
 cases e:cix[k]? with
 | none=>simp
 | some o=>
  cases o with
  | none=>simp
  | some i=>
   simp only[Option.map_some,Option.some.injEq];constructor
   ·intro h;refine⟨i,rfl,?_⟩
    cases q:l[i]? with
    | none=>rw[q] at h;cases h
    | some z=>rw[q] at h;cases z with
     | none=>cases h
     | some y=>cases h;rfl
   ·simp_all
def EnvR.cap(E:EnvR A M σ H ρ)(Y:(cix.filterMap id).Nodup):EnvR A (zK M cix) (xA σ cix) H (uG ρ cix) where
 len:=by unfold xA uG;rw[ab,ab]
 val:=λk w e=>by
  obtain⟨i,h1,h2⟩:=zaH.mp e;obtain⟨v,Z,s2,s3⟩:=E.val i w h2;refine⟨v,zaH.mpr ⟨i,h1,Z⟩,λz=>s2 λy=>z (zbr.mpr ⟨i,h1,y⟩),λz=>?_⟩;obtain⟨j,h3,h4⟩:=zbr.mp z
  simp_all
 dis:=λk k' w u ad hk ac ag e1 e2 Z s2=>by
  obtain⟨i,h1,h2⟩:=zaH.mp e1;obtain⟨i',q,an⟩:=zaH.mp e2;obtain⟨j,h3,h4⟩:=zaH.mp Z;obtain⟨j',F,as⟩:=zaH.mp s2;rw[h1] at h3;cases h3;rw[q] at F;cases F;obtain⟨m,m1,m2⟩:=zbr.mp hk;rw[h1] at m1;cases m1;obtain⟨m',I,a0⟩:=zbr.mp ac;rw[q] at I;cases I;refine E.dis _ _ w u ad m2 a0 (λz=>?_) h2 an h4 as;subst z
  have key:∀ (l:List (Option Nat)) (a b:Nat) (x:Nat),(l.filterMap id).Nodup->l[a]?=some (some x)->l[b]?=some (some x)->a=b:=by
   intro l
   induction l with
   | nil=>intro a b x _ h;simp at h
   | cons o l ih=>
    intro a b x Y J O;have U:∀ (l:List (Option Nat)) (a:Nat),l[a]?=some (some x)->x∈l.filterMap id:=λl a h=>c8.mpr ⟨some x,aA h,rfl⟩
    cases o with
    | none=>
     have a1:(l.filterMap id).Nodup:=by simpa using Y
     cases a with
     | zero=>simp at J
     | succ a=>
      cases b with
      | zero=>simp at O
      | succ b=>rw[ih a b x a1 (by simpa using J) (by simpa using O)]
    | some y=>
     have B:y∉l.filterMap id/\(l.filterMap id).Nodup:=by simp_all
     cases a with
     | zero=>
      have a2:y=x:=by simpa using J
      subst a2
      cases b with
      | zero=>rfl
      | succ b=>exact absurd (U l b (by simpa using O)) B.1
     | succ a=>
      cases b with
      | zero=>
       have a3:y=x:=by simpa using O
       subst a3;exact absurd (U l a (by simpa using J)) B.1
      | succ b=>rw[ih a b x B.2 (by simpa using J) (by simpa using O)]
  exact ag (key cix k k' _ Y h1 q)
 al:=E.al
def EnvR.more {A:Addr->Prop}{σ:St}{H H':Hp}{ρ:Ev}(E:EnvR A M σ H ρ){p:Addr}{o:HO}(s:zl H H')(n:Fr H p)(g:H' p=some o)(np:NP o)(B:Mt o):EnvR (λb=>A b\/b=p) M σ H' ρ where
 len:=E.len
 val:=λi w e=>by obtain⟨v,h1,h2,q⟩:=E.val i w e;refine⟨v,h1,λz=>WAt.up (yp s n) (yp s n) (h2 z),λz=>?_⟩;obtain⟨a,e,F,I,J⟩:=q z;exact⟨a,e,.inl F,WAt.up s (yp s n) I,J⟩
 dis:=E.dis
 al:=λa h=>by
  rcases h with h | h
  ·obtain⟨o,h1,h2,q⟩:=E.al a h;exact⟨o,s _ _ h1 h2,h2,q⟩
  ·subst h;exact⟨o,g,np,B⟩
def EnvR.upd{A:Addr->Prop}{σ:St}{H:Hp}{ρ:Ev}(E:EnvR A M σ H ρ){p:Addr}(hp:A p)(Z:∀i w,i∈M->ρ[i]?=some (some w)->σ[i]?≠some (some (.ref p)))(np:NP o)(nt:Mt o):EnvR A M σ (L2.upd H p o) ρ where
 len:=E.len
 val:=λi w e=>by
  obtain⟨v,h1,h2,h3⟩:=E.val i w e;refine⟨v,h1,λz=>?_,λz=>?_⟩
  ·show WAt _ _ _ _;rw[zC hp];exact h2 z
  ·obtain⟨a,F,h4,J,O⟩:=h3 z;have I:a≠p:=λq=>Z i w z e (by rw[h1,F,q]);refine⟨a,F,h4,?_,O⟩;show WAt _ _ _ _;rw[zC hp]
   cases w with
   | d x=>
    cases x with
    | lst l=>obtain⟨U,xs,B,g1,g2⟩:=J;rw[F] at B;cases B;exact⟨a,xs,F,by unfold Rd;rw[zd I];exact g1,g2⟩
    | dct=>obtain⟨U,xs,B,g1,g2⟩:=J;rw[F] at B;cases B;exact⟨a,xs,F,by rw[zd I];exact g1,g2⟩
    | _=>cases O
   | pen p=>cases O
   | dk k=>obtain⟨U,xs,B,g1,g2⟩:=J;rw[F] at B;cases B;exact⟨a,xs,F,by rw[zd I];exact g1,g2⟩
   | dt k=>obtain⟨U,xs,B,g1,g2⟩:=J;rw[F] at B;cases B;exact⟨a,xs,F,by rw[zd I];exact g1,g2⟩
   | dn fz k=>obtain⟨U,xs,B,g1,g2⟩:=J;rw[F] at B;cases B;exact⟨a,xs,F,g1.imp λo _ e=>by rw[zd I];exact e,g2⟩
   | wd d fs kn=>cases O
   | lf ls=>cases O
   | cu k=>cases O
   | ss P w k=>obtain⟨U,xs,B,g1,g2⟩:=J;rw[F] at B;cases B;exact⟨a,xs,F,by rw[zd I];exact g1,g2⟩
   | df k=>obtain⟨U,ob,xs,B,g1,g2⟩:=J;rw[F] at B;cases B;exact⟨a,ob,xs,F,by simp_all,g2⟩
   | kf k=>obtain⟨U,ob,xs,B,g1,g2⟩:=J;rw[F] at B;cases B;exact⟨a,ob,xs,F,by simp_all,g2⟩
   | ad a x=>cases O
   | tz kvs x=>cases O
   | fl k=>obtain⟨U,ob,xs,B,g1,g2⟩:=J;rw[F] at B;cases B;exact⟨a,ob,xs,F,by simp_all,g2⟩
 dis:=E.dis
 al:=λa h=>by
  by_cases Y:a=p
  ·subst Y;exact⟨o,zf,np,nt⟩
  ·rw[zd Y];exact E.al a h
def yK.upd{A:Addr->Prop}{H:Hp}{p:Addr}(h:yK Pn A n H)(hp:A p):yK Pn A n (L2.upd H p o):=by
 refine⟨?_,Pn.J.upd h.2 hp⟩;have h:=h.1;split at h
 ·trivial
 ·refine⟨?_,h.2⟩;rename_i q c ns _;obtain⟨h1,h2,B⟩:=h;have F:c≠p:=λz=>h2 (z ▸ hp);have I:q≠p:=λz=>B (z ▸ hp);obtain⟨a,l,g1,g2,g3,O⟩:=h1.ob;exact⟨⟨a,l,by rw[zd I];exact g1,g2,g3,O⟩,let ⟨ob,e⟩:=h1.ls;⟨ob,by rw[zd F];exact e⟩,h1.len⟩
end
open PySem L2
structure JS (X:Cx)(Pn:PN)(S M:List Nat)(fr:Bool)(st:Stmt)(fs:Ms):Prop where
 ex:∃ts,QS X st ts/\RS Pn S M fr ts fs
structure JSs (X:Cx)(Pn:PN)(S M:List Nat)(fr:Bool)(st:List Stmt)(fs:Ms):Prop where
 ex:∃ts,QSs X st ts/\RS Pn S M fr ts fs
section
variable {X:Cx}{Pn:PN}{M S:List Nat}{fr fr':Bool}{e a b c:Expr}{es:List Expr}{f fa fb fc:Ev->Mo W}{pos p:Pos}
def yK.grow'(h:yK Pn A n H)(h':yK Pn A m H')(B:Fr H q)(g:H' q=some o)(np:NP o)(F:Mt o):yK Pn (λb=>A b\/b=q) m H':=by
 refine⟨?_,Pn.J.grow h'.2 λa z=>z.imp_right λe=>⟨o,by rw[e];exact g,np,F⟩⟩;have h:=h.1;have h':=h'.1;revert h h'
 cases Pn.pn with
 | none=>exact λ_ _=>trivial
 | some x=>
  obtain⟨p,c,ns⟩:=x;intro h h';refine⟨h'.1,λz=>z.elim h'.2.1 λz=>?_,λz=>z.elim h'.2.2 λz=>?_⟩
  ·subst z;obtain⟨ob,e⟩:=h.1.ls;exact B _ e (λ_ z=>by cases z)
  ·subst z;obtain⟨a,l,e,_⟩:=h'.1.ob;rw[e] at g;cases g;have:=np _ rfl;rw[zom] at this;cases this
def zkd(h:∀C s H ex,JE (zj X scope N C s H ex) Pn M fr e f):∃te,(∀C s H ex,QE (zj X scope N C s H ex) e te)/\RE Pn M fr te f:=
 ⟨λσ H Q=>∀C s H0 ex,(h C s H0 ex).ex.choose σ H Q,λC s H0 ex=>⟨λpins s' σ H Q I z=>(h C s H0 ex).ex.choose_spec.1.run pins s' σ H Q I (z C s H0 ex)⟩,
  ⟨λA σ H ρ n Q R E P q k C s H0 ex=>(h C s H0 ex).ex.choose_spec.2.run A σ H ρ n Q R E P q k⟩⟩
def zfS(h:∀C s H ex,JTs (zj X scope N C s H ex) Pn M es ft):∃te,(∀C s H ex,QTs (zj X scope N C s H ex) es te)/\RT Pn M te ft:=
 ⟨λσ H Q=>∀C s H0 ex,(h C s H0 ex).ex.choose σ H Q,λC s H0 ex=>⟨λpins s' σ H Q I z=>(h C s H0 ex).ex.choose_spec.1.run pins s' σ H Q I (z C s H0 ex)⟩,
  ⟨λA σ H ρ n Q R E P q k C s H0 ex=>(h C s H0 ex).ex.choose_spec.2.run A σ H ρ n Q R E P q k⟩⟩
def zfR(h:∀C s H ex,JG (zj X scope N C s H ex) S M e mg):∃g,(∀C s H ex,QG (zj X scope N C s H ex) e g)/\RG S M g mg:=
 ⟨λv σ H Q=>∀C s H0 ex,(h C s H0 ex).ex.choose v σ H Q,λC s H0 ex=>⟨λpins s' σ H v u Q I q z=>(h C s H0 ex).ex.choose_spec.1.run pins s' σ H v u Q I q (z C s H0 ex)⟩,
  ⟨λA σ H ρ v w Q R E B F k C s H0 ex=>(h C s H0 ex).ex.choose_spec.2.run A σ H ρ v w Q R E B F k⟩⟩
def zhQ (mg:W->Ev->(Ev->Prop)->Prop)(ft:Ev->Mo Bool)(O:Ev->Mo W)(J:Ev)(Q:W->Nat->Prop):List W->Nat->Prop:=λl n1=>l.length<=lim/\∃I:Nat->Ev->Nat->List Dt->Prop,I 0 J n1 []/\
 (∀i w q F acc,l[i]?=some w->I i q F acc->mg w q λB=>ft B F λb n2=>if b=true then O B n2 λx n3=>∃d,x = .d d/\I (i+1) B n3 (acc++[d]) else I (i+1) B n2 acc)/\
 ∀ q F acc,I l.length q F acc->Q (.d (.lst acc)) F
@[reducible] def zqq (q:Ev->Mo (List W)) (mg:W->Ev->(Ev->Prop)->Prop) (ft:Ev->Mo Bool) (B:Ev->Mo W) (cix:List (Option Nat)):Ev->Mo W:=λρ n Q=>q ρ n (zhQ mg ft B (uG ρ cix) Q)
def zoV(hn:(cix.filterMap id).Nodup)(hi:RI Pn M ow wi fi)(hg:RG (zK M cix) (zK M cix) g mg)(ht:RT Pn (zK M cix) ti ft)(he:RE Pn (zK M cix) fr' te fe):RE Pn M true (zj3 wi g ti te cix) (zqq fi mg ft fe cix):=⟨λA σ H ρ n Q R E P hf k=>by
 refine hi.run A σ H ρ n _ _ E P hf λl m J H1 ⟨hz,I,i0,it,ie⟩ iv g1=>λacc B=>?_;have E1:=E.stay g1.st;have E2:=(E1.cap hn).more (zl.upd (o:=.lst []) B) (Fr.of B) zf NP.lst rfl;have P2:yK Pn (λb=>A b\/b=acc) m (L2.upd H1 acc (.lst [])):=g1.pn.grow' (g1.pn.same (yM.upd B)) (Fr.of B) zf NP.lst rfl
 have a4:∀k w,k∈zK M cix->(uG ρ cix)[k]?=some (some w)->(xA σ cix)[k]?≠some (some (.ref acc)):=λk w hk hw z=>by obtain⟨v,s1,_,s3⟩:=(E1.cap hn).val k w hw;obtain⟨a,e,hA,_⟩:=s3 hk;rw[z] at s1;cases s1;cases e;exact E1.new B hA
 have key:∀ O F H',EnvR (λb=>A b\/b=acc) (zK M cix) O H' F->(∀k∈zK M cix,O[k]?=(xA σ cix)[k]?/\F[k]?=(uG ρ cix)[k]?)->∀k w,k∈zK M cix->F[k]?=some (some w)->O[k]?≠some (some (.ref acc)):=λO F H' E' as k w hk hw z=>by simp_all
 refine⟨λi mm O H'=>mm=l.length - i/\i<=l.length/\∃ F n' q xs,EnvR (λb=>A b\/b=acc) (zK M cix) O H' F/\yK Pn (λb=>A b\/b=acc) n' H'/\I i F n' q/\H' acc=some (.lst xs)/\IsL (zz (λb=>A b\/b=acc) H') q xs/\q.length<=i/\zl (zz A H1) (zz (λb=>A b\/b=acc) H')/\zl H1 H'/\(∀k∈zK M cix,O[k]?=(xA σ cix)[k]?/\F[k]?=(uG ρ cix)[k]?),
  ⟨l.length,by simp,aN _,_,m,[],[],E2,P2,i0,zf,rfl,ah _,yp (zl.upd B) (Fr.of B),zl.upd B,λk hk=>⟨rfl,rfl⟩⟩,?_⟩
 rintro i mm O H' ⟨rfl,a5,F,n',q,xs,E',P',hI,Y,Z,a7,st,s1,as⟩;by_cases a1:i<l.length
 ·right;have an:l[i]?=some l[i]:=aj a1;obtain⟨go,yl⟩:=iv.one i l[i] _ H' an st (λ_=>s1) λp hp=>E'.new hp
  refine⟨go,λa0 H2=>∃ F n' q xs,EnvR (λb=>A b\/b=acc) (zK M cix) a0 H2 F/\yK Pn (λb=>A b\/b=acc) n' H2/\I (i+1) F n' q/\H2 acc=some (.lst xs)/\IsL (zz (λb=>A b\/b=acc) H2) q xs/\q.length<=i+1/\zl (zz A H1) (zz (λb=>A b\/b=acc) H2)/\zl H1 H2/\(∀k∈zK M cix,a0[k]?=(xA σ cix)[k]?/\F[k]?=(uG ρ cix)[k]?),
   λa0 H2 h=>⟨l.length - (i+1),by lia,rfl,a1,h⟩,λx H2 hy=>?_⟩
  obtain⟨S2,V2⟩:=yl x H2 hy;refine hg.run _ O H2 F x l[i] _ _ (E'.stay (zl.same S2)) V2 (it i l[i] F n' q an hI) λag U r3 E3 f3=>?_;have ac:∀k∈zK M cix,ag[k]?=(xA σ cix)[k]?/\U[k]?=(uG ρ cix)[k]?:=λk hk=>⟨(f3 k hk).1.trans (as k hk).1,(f3 k hk).2.trans (as k hk).2⟩;refine ht.run _ ag H2 U n' _ _ E3 (P'.same S2) r3 λb m3 H4 r4 g4=>?_;have ad:=(zl.same S2).trans g4.st
  cases b with
  | false=>
   rw[if_neg (by decide)] at r4 ⊢;exact⟨U,m3,q,xs,E3.stay g4.st,g4.pn,r4,ad.lst Y,Z.stay (zp ad),by lia,st.trans (zp ad),s1.trans ad,ac⟩
  | true=>
   rw[if_pos rfl] at r4 ⊢;refine he.run _ ag H4 U m3 _ _ (E3.stay g4.st) g4.pn r4  ?_;rintro w5 m5 v5 H5 ⟨d,e5,r5⟩ V5 g5 _;subst e5;have al:=ad.trans g5.st;have E5:=(E3.stay g4.st).stay g5.st;have a2:=al.lst Y;refine⟨xs,a2,zbK (by rw[Z.length];lia),U,m5,q++[d],xs++[v5],E5.upd (.inr rfl) (key ag U H5 E5 ac) NP.lst rfl,g5.pn.upd (.inr rfl),r5,zf,?_,by simp_all,?_,?_,ac⟩
   ·rw[zC (.inr rfl)];exact (Z.stay (zp al)).append (IsL.one V5.is)
   ·rw[zC (.inr rfl)];exact st.trans (zp al)
   ·exact λb o e nn=>by rw[zd (zg e B)];exact s1.trans al b o e nn
 ·refine Or.inl ?_;have a3:i=l.length:=by lia
  subst a3;refine⟨iv.stop _ H' st (λ_=>s1),k _ n' _ H' (ie F n' q hI) (Val.of ⟨acc,xs,rfl,.inl (zn (E1.new B) Y),Z.stay (zl.same (yb λb z=>.inl z))⟩) (g1.trans ⟨s1,P'.less λa z=>.inl z⟩) λ_=>⟨acc,rfl,(Fr.of B).back g1.st,⟨_,Y,rfl⟩,acc,xs,rfl,.inl Y,Z⟩⟩⟩
@[reducible] def zss:Ev->Mo Bool:=λ_ n Q=>Q true n
def xR:JTs X Pn M [] zss:=⟨_,zfF,⟨λA σ H ρ n Q R E P q k=>k true n H q (Go.refl P)⟩⟩
def zc6(h:JT X Pn M c ft):JTs X Pn M [c] ft:=let ⟨t,h1,h2⟩:=h.ex;⟨t,zoQ h1,h2⟩
def zbH(F:X.calm=true)(cc:CompOk X scope N cix)(hi:JI X Pn M ow tg iter q)(I:∀C s H ex,JG (zj X scope N C s H ex) (zK M cix) (zK M cix) tg mg)(J:∀C s H ex,JTs (zj X scope N C s H ex) Pn (zK M cix) ifs ft)(O:∀C s H ex,JE (zj X scope N C s H ex) Pn (zK M cix) fr' elt B)(U:(cix.filterMap id).Nodup:=by decide)(hs:∀x,foldedSetIterable iter X.env x=pure x:=by intro _;rfl):JE X Pn M true (.ListComp elt [⟨tg,iter,ifs,0⟩] scope pos) (zqq q mg ft B cix):=by
 obtain⟨ti,Y,Z⟩:=hi.ex;obtain⟨g,qg,rg⟩:=zfR I;obtain⟨tt,qt,rt⟩:=zfS J;obtain⟨te,qe,re⟩:=zkd O;exact⟨_,zgI F cc Y qg qt qe hs,zoV U Z rg rt re⟩
def At3.step(h:At3 Pn B S M A σ H ρ n)(g:Go Pn A H m H'):At3 Pn B S M A σ H' ρ m where
 env:=h.env.stay g.st
 frm:=⟨h.frm.sub,h.frm.new,λb o e n c=>g.st b o (h.frm.st b o e n c) n,h.frm.al,h.frm.cn,λa z=>let ⟨o,e,n⟩:=h.frm.cs a z;⟨o,g.st a o e n,n⟩⟩
 pn:=g.pn
 prot:=h.prot.trans (zp g.st)
 fix:=h.fix
 mine:=h.mine
@[reducible] def mRet (f:Ev->Mo W):Ms:=λρ n k=>f ρ n k.rt
def zrB(h:RE Pn M fr te f):RS Pn S M fr (zsz te) (mRet f):=⟨λB A σ H ρ n k D a kk q=>by
 refine h.run A σ H ρ n _ _ a.env a.pn q λw m v H' r F g I=>?_;have J:=a.step g
 exact kk.rt w m v H' (WAt.up (zl.same (yb a.frm.sub)) (zl.same (yb a.frm.sub)) F) J.frm.st (g.pn.less a.frm.sub) (λz=>by obtain⟨b,e,f1,f2⟩:=I z;exact FrV.less ⟨b,e,a.frm.back f1 (a.env.newF f1),f2⟩ a.frm.sub) r⟩
def zM (h:JE X Pn M fr e f):JS X Pn S M fr (.Return (some e) pos) (mRet f):=let ⟨te,q,r⟩:=h.ex;⟨_,za9 q,zrB r⟩
def znX (i:Nat):Ms:=λρ n k=>∃w,ρ[i]?=some (some w)/\k.rt w n
def zo2(hi:i∈M):RS Pn S M fr (zsz (zlR i)) (znX i):=⟨by
 rintro B A σ H ρ n k D a kk ⟨w,e,r⟩;obtain⟨v,s1,_,s3⟩:=a.env.val i w e;obtain⟨ad,rfl,hA,I,U⟩:=s3 hi;have Z:=a.mine i w ad hi e s1
 have J:¬ B.A0 ad:=λz=>by
  rcases Z with Z | Z
  ·obtain⟨o,o1,o2,_⟩:=a.frm.al ad z;exact Z o o1 o2
  ·exact a.frm.cn ad Z z
 have q:yM (zz A H) (zz B.A0 H):=yb a.frm.sub;have Y:yM (zz A H) (zz (λb=>B.A0 b\/b=ad) H):=yb λb z=>z.elim (a.frm.sub b) λz=>z ▸ hA;refine⟨.ref ad,s1,kk.rt w n (.ref ad) H ?_ a.frm.st (a.pn.less a.frm.sub) (λz=>⟨ad,rfl,Z.resolve_right (kk.fc ad),(let ⟨o,o1,_,o3⟩:=a.env.al ad hA;⟨o,o1,o3⟩),WAt.up (zl.refl _) (zl.same Y) I⟩) r⟩
 cases w with
 | d x=>
  cases x with
  | lst l=>obtain⟨O,xs,F,g1,g2⟩:=I;cases F;exact⟨ad,xs,rfl,g1.hid J,g2.stay (zl.same q)⟩
  | dct=>obtain⟨O,xs,F,g1,g2⟩:=I;cases F;exact⟨ad,xs,rfl,zn J g1,g2⟩
  | _=>cases U
 | pen p=>cases U
 | dk kvs=>obtain⟨O,xs,F,g1,g2,g3⟩:=I;cases F;exact⟨ad,xs,rfl,zn J g1,g2.stay (zl.same q),g3⟩
 | dt kvs=>obtain⟨O,xs,F,g1,g2⟩:=I;cases F;exact⟨ad,xs,rfl,zn J g1,g2.stay (zl.same q)⟩
 | dn fz kvs=>obtain⟨O,xs,F,g1,g2,g3⟩:=I;cases F;exact⟨ad,xs,rfl,g1.imp λo _ e=>zn J e,g2.stay (zl.same q),g3.stay (zl.same q)⟩
 | wd d fs kn=>cases U
 | lf ls=>cases U
 | cu k=>cases U
 | ss P w kvs=>obtain⟨O,xs,F,g1,g2⟩:=I;cases F;exact⟨ad,xs,rfl,zn J g1,g2.stay (zl.same q)⟩
 | kf kvs=>obtain⟨O,ob,xs,F,g1,g2⟩:=I;cases F;exact⟨ad,ob,xs,rfl,zn J g1,g2.stay (zl.same q)⟩
 | ad a x=>cases U
 | tz kvs x=>cases U
 | fl kvs=>obtain⟨O,ob,xs,F,g1,g2⟩:=I;cases F;exact⟨ad,ob,xs,rfl,zn J g1,g2.stay (zl.same q)⟩
 | df kvs=>obtain⟨O,ob,xs,F,g1,g2⟩:=I;cases F;exact⟨ad,ob,xs,rfl,zn J g1,g2.stay (zl.same q)⟩⟩
def ziH (i:Nat){x:Str}(hi:i∈M:=by decide)(B:X.N[i]?=some x:=by rfl)(F:Vis X.env.scope x:=by walk_at "v")(I:(x==("__debug__" : Str))=false:=by decide)
  (q:(x==("__classdict__" : Str))=false:=by decide) {pos':Pos}:JS X Pn S M fr (.Return (some (.Name x pos)) pos') (znX i):=⟨_,za9 (qv i B F I q),zo2 hi⟩
@[reducible] def znS (f:Ev->Mo W) (mg:W->Ev->(Ev->Prop)->Prop):Ms:=λρ n k=>f ρ n λw m=>mg w ρ λq=>k.nx q m
def EnvR.mineG(a:At3 Pn B S M A σ H ρ n)(E:EnvR A M q H F)(f:∀i∈S++M,q[i]?=σ[i]?/\F[i]?=ρ[i]?):At3 Pn B S M A q H F n where
 env:=E
 frm:=a.frm
 pn:=a.pn
 prot:=a.prot
 fix:=⟨λi hi=>(f i (av.mpr (.inl hi))).1.trans (a.fix.1 i hi),a.fix.2⟩
 mine:=λi w I hi e s=>by obtain⟨f1,f2⟩:=f i (av.mpr (.inr hi));rw[f1] at s;rw[f2] at e;exact a.mine i w I hi e s
def zjQ(h:RE Pn M fr' te f)(J:RG (S++M) M g mg):RS Pn S M fr (zhx te g) (znS f mg):=⟨λB A σ H ρ n k D a kk O=>by refine h.run A σ H ρ n _ _ a.env a.pn O λw m v H' r U g' _=>?_;have I:=a.step g';exact J.run A σ H' ρ v w _ _ I.env U r λq F Y E2 f2=>kk.nx A q H' F m (EnvR.mineG I E2 f2) Y⟩
def zY {i:Nat}{x:Str}{pos':Pos}(I:X.N.Nodup)(J:JE X Pn M fr' e f)(hi:X.N[i]?=some x:=by rfl)(O:Loc X.env.scope x:=by first | exact Or.inl rfl | exact Or.inr rfl)(B:i∉M:=by decide)(F:i∉S++M:=by decide)(hs:swapsWith e (some (.Name x pos')) pos.line X.env=pure false:=by rfl)(U:X.fn x=true\/X.env.scope.names.lookup x=some .local:=by walk_at "l") :
  JS X Pn S M fr (.Assign [.Name x pos'] e pos) (znS f (gN i)):=let ⟨te,q,r⟩:=J.ex;⟨_,xG I hi O q hs U,zjQ r (zfI B F)⟩
def znM{st:Stmt}(h:∃te,QS X st (zhx te (zbl i))/\RE Pn M true te f)(B:i∉M:=by decide)(F:i∉S++M:=by decide):JS X Pn S M fr st (znS f (gN i)):=let ⟨te,q,r⟩:=h;⟨_,q,zjQ r (zfI B F)⟩
def zmr(B:JE X Pn M fr' e f)(F:JG X (S++M) M tg mg)(hs:swapsWithSole [tg] e pos.line X.env=pure false:=by rfl)(I:swappedStores [tg] e X.env=pure none:=by rfl)(h1:(assignEach [tg] X.env).map (·.2)=[assign tg X.env]:=by rfl):JS X Pn S M fr (.Assign [tg] e pos) (znS f mg):=let ⟨te,q,r⟩:=B.ex;let ⟨g,q2,r2⟩:=F.ex;⟨_,zri q q2 hs I h1,zjQ r r2⟩
def zsr (i:Nat)(f:Ev->Mo W):Ms:=λρ n k=>f ρ n λw m=>w.mut=true/\k.nx (ρ.set i (some w)) m
def znZ(h:WAt T G w v)(hm:w.mut=true)(hk:∀a o,v = .ref a->T a=some o->Mt o):∃a o,v = .ref a/\T a=some o/\NP o/\Mt o:=by
 cases w with
 | d x=>
  cases x with
  | lst l=>
   obtain⟨a,xs,e,g1,_⟩:=h;rcases g1 with g1 | ⟨o,g1⟩
   ·exact⟨a,_,e,g1,NP.lst,rfl⟩
   ·cases hk a _ e g1
  | dct=>obtain⟨a,xs,e,g1,g2⟩:=h;exact⟨a,_,e,g1,λk z=>by cases z;subst g2;rfl,rfl⟩
  | _=>cases hm
 | pen p=>cases hm
 | dk kvs=>obtain⟨a,xs,e,g1,_,g3⟩:=h;exact⟨a,_,e,g1,λk z=>by cases z;exact g3,rfl⟩
 | dt kvs=>obtain⟨a,xs,e,g1,_⟩:=h;exact⟨a,_,e,g1,(λk z=>by cases z),rfl⟩
 | ss P w kvs=>obtain⟨a,xs,e,g1,_⟩:=h;exact⟨a,_,e,g1,zgy,rfl⟩
 | dn fz kvs=>
  obtain⟨a,ks,e,g1,_⟩:=h;rcases g1.rd with g1 | ⟨o,g1⟩
  ·exact⟨a,_,e,g1,zlb,rfl⟩
  ·cases hk a _ e g1
 | wd d fs kn=>cases hm
 | lf ls=>cases hm
 | cu k=>cases hm
 | df kvs=>cases hm
 | kf kvs=>cases hm
 | ad a x=>cases hm
 | tz kvs x=>cases hm
 | fl kvs=>cases hm
def zrA(h:RE Pn M true te f)(hi:i∈M)(hs:i∉S):RS Pn S M fr (zhx te (zbl i)) (zsr i f):=⟨λB A σ H ρ n k D a kk hf=>by
 refine h.run A σ H ρ n _ _ a.env a.pn hf  ?_;rintro w m v H' ⟨hm,r⟩ hv g' ag;obtain⟨Z,rfl,U,⟨o',an,as⟩,hb⟩:=ag rfl;obtain⟨a2,o,Y,ho,np,nt⟩:=znZ hb hm λb u e z=>by cases e;rw[an] at z;cases z;exact as
 cases Y;have E1:=a.env.more g'.st U ho np nt;have ac:¬ A Z:=a.env.newF U;refine kk.nx (λb=>A b\/b=Z) _ H' _ m ⟨⟨?_,?_,?_,E1.al⟩,⟨λb z=>.inl (a.frm.sub b z),λb z=>?_,λb o e n c=>g'.st b o (a.frm.st b o e n c) n,a.frm.al,a.frm.cn,λb z=>let ⟨o,e,n⟩:=a.frm.cs b z;⟨o,g'.st b o e n,n⟩⟩,a.pn.grow' g'.pn U ho np nt,a.prot.trans (yp g'.st U),⟨λj I=>?_,a.fix.2⟩,λj u b I e s=>?_⟩ r
 ·rw[bS,bS];exact a.env.len
 ·intro j u e;by_cases I:j=i
  ·subst I
   have J:j<ρ.length:=by
    have:=(af.mp e).1
    simp_all
   rw[aZ J] at e;cases e;exact⟨.ref Z,aZ (by rw[a.env.len];exact J),λz=>absurd hi z,λ_=>⟨Z,rfl,.inr rfl,hb,hm⟩⟩
  ·rw[aB (Ne.symm I)] at e ⊢;exact E1.val j u e
 ·intro j l u u' b I J O e1 Y s1 s2
  have a0:∀q u,q∈M->q≠i->ρ[q]?=some (some u)->σ[q]?≠some (some (.ref Z)):=λq u hq a4 eq sq=>by
   obtain⟨v,s,_,s3⟩:=a.env.val q u eq;obtain⟨c,ec,hc,_⟩:=s3 hq
   simp_all
  have a1:∀q (u:W),(ρ.set i (some w))[q]?=some (some u)->q<σ.length:=λq u e=>by have:=(af.mp e).1;rw[bS] at this;rw[a.env.len];exact this
  by_cases F:j=i
  ·subst F;rw[aZ (a1 _ _ e1)] at s1;cases s1;rw[aB O] at Y s2;exact a0 l u' J (Ne.symm O) Y s2
  ·rw[aB (Ne.symm F)] at e1 s1;by_cases a3:l=i
   ·simp_all
   ·rw[aB (Ne.symm a3)] at Y s2;exact a.env.dis j l u u' b I J O e1 Y s1 s2
 ·rcases z with z | z
  ·exact a.frm.new b z
  ·subst z;exact .inr (.inl (a.frm.back U ac))
 ·rw[aB λ(z:i=j)=>hs (by rw[z];exact I)];exact a.fix.1 j I
 ·by_cases F:j=i
  ·subst F
   have J:j<σ.length:=by
    have:=(af.mp s).1
    simp_all
   rw[aZ J] at s;cases s;exact .inl (a.frm.back U ac)
  ·rw[aB (Ne.symm F)] at e s;exact a.mine j u b I e s⟩
def za1 {i:Nat}{x:Str}{pos':Pos}(I:X.N.Nodup)(J:JE X Pn M true e f)(hi:X.N[i]?=some x:=by rfl)(O:Loc X.env.scope x:=by first | exact Or.inl rfl | exact Or.inr rfl)(B:i∈M:=by decide)(F:i∉S:=by decide)(hs:swapsWith e (some (.Name x pos')) pos.line X.env=pure false:=by rfl)(U:X.fn x=true\/X.env.scope.names.lookup x=some .local:=by walk_at "l") :
  JS X Pn S M fr (.Assign [.Name x pos'] e pos) (zsr i f):=let ⟨te,q,r⟩:=J.ex;⟨_,xG I hi O q hs U,zrA r B F⟩
end
open PySem PySem.Spec L2
section
variable {X:Cx}{Pn:PN}{M S:List Nat}{fr fr':Bool}{e a b c:Expr}{es:List Expr}{f fa fb fc:Ev->Mo W}{pos p:Pos}{st:Stmt}{sts:List Stmt}{fs gs:Ms}
@[reducible] def mNx:Ms:=λρ n k=>k.nx ρ n
structure blk (g:Ms)(ρ:Ev)(n:Nat)(k:Kt):Prop where
 go:g ρ n k
def zpK(h:g ρ n k):blk g ρ n k:=⟨h⟩
@[reducible] def mSeq (f g:Ms):Ms:=λρ n k=>f ρ n { k with nx:=λq B=>blk g q B k }
def zts (t:Ev->Mo Bool)(f g:Ms):Ms:=λρ n k=>t ρ n λc m=>if c=true then blk f ρ m k else blk g ρ m k
def z5:JSs X Pn S M fr [] mNx:=⟨_,zdr,⟨λB A σ H ρ n k D a kk q=>kk.nx A σ H ρ n a q⟩⟩
def zrC(h1:RS Pn S M fr t fs)(h2:RS Pn S M fr u gs):RS Pn S M fr (zui t u) (mSeq fs gs):=⟨λB A σ H ρ n k D a kk J=>
 h1.run B A σ H ρ n { k with nx:=λq F=>blk gs q F k } _ a ⟨λA' I H' q F O r=>h2.run B A' I H' q F k D O kk r.go,kk.bk,kk.ct,kk.fc,kk.rt⟩ J⟩
def ze (h1:JS X Pn S M fr st fs)(h2:JSs X Pn S M fr sts gs):JSs X Pn S M fr (st::sts) (mSeq fs gs):=let ⟨t,q,r⟩:=h1.ex;let ⟨u,q2,r2⟩:=h2.ex;⟨_,zS q q2,zrC r r2⟩
def zk (h1:JS X Pn S M fr st fs):JSs X Pn S M fr [st] fs:=let ⟨t,q,r⟩:=h1.ex;⟨_,xw q,r⟩
def uq(F:JT X Pn M c t)(I:JSs X Pn S M fr body fs)(J:JSs X Pn S M fr q gs):JS X Pn S M fr (.If c body q pos) (zts t fs gs):=by
 obtain⟨tc,O,U⟩:=F.ex;obtain⟨ta,Y,ra⟩:=I.ex;obtain⟨tb,Z,rb⟩:=J.ex;refine⟨_,zlx O Y Z,⟨λB A σ H ρ n k D a kk hf=>?_⟩⟩;refine U.run A σ H ρ n _ _ a.env a.pn hf λc m H1 r g=>?_
 cases c with
 | true=>rw[if_pos rfl] at r ⊢;exact ra.run B A σ H1 ρ m k D (a.step g) kk r.go
 | false=>rw[if_neg (by decide)] at r ⊢;exact rb.run B A σ H1 ρ m k D (a.step g) kk r.go
@[reducible] def ztq (f:Ev->Mo W):Ms:=λρ n k=>f ρ n λ_ m=>k.nx ρ m
def znJ (F:JE X Pn M fr' e f)(hs:swapsWith e none pos.line X.env=pure false:=by rfl):JS X Pn S M fr (.Expr e pos) (ztq f):=by obtain⟨te,q,r⟩:=F.ex;exact⟨_,zdq q hs,⟨λB A σ H ρ n k D a kk I=>r.run A σ H ρ n _ _ a.env a.pn I λw m v H' J _ g _=>kk.nx A σ H' ρ m (a.step g) J⟩⟩
def At3.wr(h:At3 Pn B S M A σ H ρ n)(hi:i∈M)(e:ρ[i]?=some (some w))(s:σ[i]?=some (some (.ref ad)))(hl:IsL (zz A H) l xs):At3 Pn B S M A σ (L2.upd H ad (.lst xs)) (ρ.set i (some (.d (.lst l)))) n:=by
 obtain⟨v,s1,_,s3⟩:=h.env.val i w e;rw[s] at s1;cases s1;obtain⟨U,F,hA,_,_⟩:=s3 hi;cases F;have ac:i<ρ.length:=(af.mp e).1
 have hE:EnvR A M σ (L2.upd H ad (.lst xs)) (ρ.set i (some (.d (.lst l)))):=by
  refine⟨by rw[bS];exact h.env.len,λj u Y=>?_,λj q u u' b Z hq I e1 F=>?_,λb hb=>?_⟩
  ·by_cases Z:j=i
   ·subst Z;rw[aZ ac] at Y;cases Y;exact⟨.ref ad,s,λz=>absurd hi z,λ_=>⟨ad,rfl,hA,⟨ad,xs,rfl,.inl zf,by rw[zC hA];exact hl⟩,rfl⟩⟩
   ·rw[aB (Ne.symm Z)] at Y;obtain⟨v,t1,t2,t3⟩:=h.env.val j u Y;refine⟨v,t1,λz=>?_,λz=>?_⟩
    ·show WAt _ _ _ _;rw[zC hA];exact t2 z
    ·obtain⟨b,rfl,hb,J,hm⟩:=t3 z;have I:b≠ad:=λq=>h.env.dis i j w u ad hi z (Ne.symm Z) e Y s (by rw[t1,q]);refine⟨b,rfl,hb,?_,hm⟩;show WAt _ _ _ _;rw[zC hA]
     cases u with
     | d x=>
      cases x with
      | lst l=>obtain⟨U,xs,F,g1,g2⟩:=J;cases F;exact⟨b,xs,rfl,by unfold Rd;rw[zd I];exact g1,g2⟩
      | dct=>obtain⟨U,xs,F,g1,g2⟩:=J;cases F;exact⟨b,xs,rfl,by rw[zd I];exact g1,g2⟩
      | _=>cases hm
     | pen p=>cases hm
     | dk k=>obtain⟨U,xs,F,g1,g2⟩:=J;cases F;exact⟨b,xs,rfl,by rw[zd I];exact g1,g2⟩
     | dt k=>obtain⟨U,xs,F,g1,g2⟩:=J;cases F;exact⟨b,xs,rfl,by rw[zd I];exact g1,g2⟩
     | dn fz k=>obtain⟨U,xs,F,g1,g2⟩:=J;cases F;exact⟨b,xs,rfl,g1.imp λo _ e=>by rw[zd I];exact e,g2⟩
     | wd d fs kn=>cases hm
     | lf ls=>cases hm
     | cu k=>cases hm
     | ss P w k=>obtain⟨U,xs,F,g1,g2⟩:=J;cases F;exact⟨b,xs,rfl,by rw[zd I];exact g1,g2⟩
     | df k=>obtain⟨U,ob,xs,F,g1,g2⟩:=J;cases F;exact⟨b,ob,xs,rfl,by simp_all,g2⟩
     | kf k=>obtain⟨U,ob,xs,F,g1,g2⟩:=J;cases F;exact⟨b,ob,xs,rfl,by simp_all,g2⟩
     | ad a x=>cases hm
     | tz kvs x=>cases hm
     | fl k=>obtain⟨U,ob,xs,F,g1,g2⟩:=J;cases F;exact⟨b,ob,xs,rfl,by simp_all,g2⟩
  ·have ag:∀q (u:W),(ρ.set i (some (.d (.lst l))))[q]?=some (some u)->∃u',ρ[q]?=some (some u'):=λq u z=>by
    by_cases hq:q=i
    ·subst hq;exact⟨w,e⟩
    ·rw[aB (Ne.symm hq)] at z;exact⟨u,z⟩
   obtain⟨v1,f1⟩:=ag j u e1;obtain⟨v2,f2⟩:=ag q u' F;exact h.env.dis j q v1 v2 b Z hq I f1 f2
  ·by_cases O:b=ad
   ·subst O;exact⟨_,zf,NP.lst,rfl⟩
   ·rw[zd O];exact h.env.al b hb
 refine⟨hE,⟨h.frm.sub,h.frm.new,λb o eb nn nc=>?_,h.frm.al,h.frm.cn,λb z=>(by
  by_cases O:b=ad
  ·subst O;exact⟨_,zf,NP.lst⟩
  ·rw[zd O];exact h.frm.cs b z)⟩,h.pn.upd hA,by rw[zC hA];exact h.prot,h.fix,λj u b Z Y sj=>?_⟩
 ·have I:b≠ad:=λq=>by
   subst q;rcases h.mine i w b hi e s with z | z
   ·exact z o eb nn
   ·exact nc z
  rw[zd I];exact h.frm.st b o eb nn nc
 ·by_cases an:j=i
  ·subst an;exact h.mine j w b Z e sj
  ·rw[aB (Ne.symm an)] at Y;exact h.mine j u b Z Y sj
def zso (i:Nat)(f:Ev->Mo W):Ms:=λρ n k=>(∃l,ρ[i]?=some (some (.d (.lst l))))/\f ρ n λw m=>∃l d,ρ[i]?=some (some (.d (.lst l)))/\w = .d d/\l.length<lim/\k.nx (ρ.set i (some (.d (.lst (l++[d]))))) m
def zry(h:RE Pn M fr' te f)(hi:i∈M):RS Pn S M fr (zpe (tBM K "list" zfG (zlR i) (zho te zpx))) (zso i f):=⟨by
 rintro B A σ H ρ n k D a kk ⟨⟨l0,U⟩,Y⟩;obtain⟨v,q,_,Z⟩:=a.env.val i _ U;obtain⟨J,rfl,hA,hb,_⟩:=Z hi;obtain⟨a2,ac,e2,g0,_⟩:=hb;cases e2;refine⟨.ref J,q,.inl ⟨rfl,_,.inl g0⟩,?_⟩;refine h.run A σ H ρ n _ _ a.env a.pn Y  ?_;rintro w m v H' ⟨l,d,e,ed,hz,r⟩ hv g _;subst ed;have F:=a.step g;obtain⟨v2,t1,_,t3⟩:=F.env.val i _ e;rw[q] at t1;cases t1;obtain⟨a3,e3,ag,I,_⟩:=t3 hi;cases e3;obtain⟨a4,xs,e4,g4,O⟩:=I;cases e4;exact⟨J,xs,v,rfl,rfl,g4.own F.env.al hA,zbK (by rw[O.length];exact cR hz),kk.nx A σ _ _ m (F.wr hi e q (O.append (IsL.one hv.is))) r⟩⟩
def zgj (i:Nat){x:Str}{ap cp sp np:Pos}(Y:JE X Pn M fr' e f)(hi:i∈M:=by decide)(Z:X.N[i]?=some x:=by rfl)(hv:Vis X.env.scope x:=by walk_at "v")(hd:(x==("__debug__" : Str))=false:=by decide)
  (U:(x==("__classdict__" : Str))=false:=by decide) (J:starEach (e::[]) X.env=(false,eval e X.env)::starEach [] X.env:=by rfl) (hs:swapsWith (.Call (.Attribute (.Name x np) "append" ap) [e] [] cp) none sp.line X.env=pure false:=by rfl) (F:attributeBase (.Name x np) "append" X.env (eval (.Name x np) X.env)=eval (.Name x np) X.env:=by rfl) (I:(ap.endLine==cp.line)=true:=by rfl)
  (O:((backTo cp (starEach [e] X.env)).all (λx=>!x.1)&&(backToKw cp (keywordEach [] X.env)).all (λx=>x.1.isSome)&&decide (([e]:List Expr).length+([]:List Keyword).length+(if ([]:List Keyword).isEmpty then 0 else 1)<30))=true:=by rfl) (B:(backTo cp (starEach [] X.env)).any (·.1)=false:=by rfl) :
  JS X Pn S M fr (.Expr (.Call (.Attribute (.Name x np) "append" ap) [e] [] cp) sp) (zso i f):=by
 obtain⟨te,q,r⟩:=Y.ex;exact⟨_,zdq (zrd (qv i Z hv hd U) (yf q yP J) F O I J B) hs,zry r hi⟩
def znq (mg:W->Ev->(Ev->Prop)->Prop)(fb:Ms)(ρ:Ev)(k:Kt):List W->Nat->Prop:=λl n1=>∃I:Nat->Ev->Nat->Prop,I 0 ρ n1/\
 (∀i w q B,l[i]?=some w->I i q B->mg w q λF=>fb F B { k with nx:=I (i+1),ct:=I (i+1),bk:=k.nx })/\∀ q B,I l.length q B->k.nx q B
@[reducible] def mFor (q:Ev->Mo (List W)) (mg:W->Ev->(Ev->Prop)->Prop) (fb:Ms):Ms:=λρ n k=>q ρ n (znq mg fb ρ k)
def zkE{B:Bs}{A:Addr->Prop}{σ:St}{H1:Hp}{ρ:Ev}{k:Kt}{D:Ends}{J:It}{l:List W}{g:TG}{tb:TS}{mg:W->Ev->(Ev->Prop)->Prop}{fb:Ms}(hg:RG (S++M) M g mg)(hb:RS Pn S M fr tb fb)(hS:9999∉S)(a1:At3 Pn B S M A σ H1 ρ m)(kk:KOk Pn B S M fr k D)(iv:ItV false A H1 J l)(hf:znq mg fb ρ k l m) :
  ∃W:Nat->Nat->St->Hp->Prop,(∃m,W 0 m σ H1)/\∀i m σ H,W i m σ H->(J.stop i H/\D.nx σ H)\/(J.go i H/\∃N:St->Hp->Prop,(∀ O H',N O H'->∃m',m'<m/\W (i+1) m' O H')/\∀x H',J.yld i H x H'->g x σ H' λZ H2=>tb { D with nx:=N,ct:=N,bk:=D.nx } Z H2):=by
 obtain⟨I,i0,it,ie⟩:=hf;have out:∀ {A':Addr->Prop} {O:St} {H':Hp} {F:Ev} {U:Nat},At3 Pn { B with G0:=zz A H1 } S M A' O H' F U->At3 Pn B S M A' O H' F U:=λ{A' O H' F U} q=>⟨q.env,q.frm,q.pn,a1.prot.trans q.prot,⟨q.fix.1,a1.fix.2⟩,q.mine⟩;refine⟨λi mm O H'=>mm=l.length - i/\i<=l.length/\∃A' F U,At3 Pn { B with G0:=zz A H1 } S M A' O H' F U/\I i F U,⟨l.length,by simp,aN _,A,ρ,m,⟨a1.env,a1.frm,a1.pn,zl.refl _,⟨a1.fix.1,λz=>absurd z hS⟩,a1.mine⟩,i0⟩,?_⟩;rintro i mm O H' ⟨rfl,a0,A',F,U,a',hI⟩;by_cases ag:i<l.length
 ·right;have ac:l[i]?=some l[i]:=aj ag;obtain⟨go,yl⟩:=iv.one i l[i] A' H' ac a'.prot (λz=>by cases z) λp hp=>a'.env.new hp;refine⟨go,λZ H2=>∃A' F U,At3 Pn { B with G0:=zz A H1 } S M A' Z H2 F U/\I (i+1) F U,λZ H2 h=>⟨l.length - (i+1),by lia,rfl,ag,h⟩,λx H2 hy=>?_⟩;obtain⟨S2,V2⟩:=yl x H2 hy;have a2:=a'.step (Go.same a'.pn S2);refine hg.run A' O H2 F x l[i] _ _ a2.env V2 (it i l[i] F U ac hI) λal an r3 E3 f3=>?_;refine hb.run { B with G0:=zz A H1 } A' al H2 an U _ _ (EnvR.mineG a2 E3 f3) ⟨?_,?_,?_,kk.fc,?_⟩ r3
  ·exact λA4 ad H4 Y n4 a4 r4=>⟨A4,Y,n4,a4,r4⟩
  ·exact λA4 ad H4 Y n4 a4 r4=>kk.nx A4 ad H4 Y n4 (out a4) r4
  ·exact λA4 ad H4 Y n4 a4 r4=>⟨A4,Y,n4,a4,r4⟩
  ·exact kk.rt
 ·refine Or.inl ?_;have as:i=l.length:=by lia
  subst as;exact⟨iv.stop A' H' a'.prot (λz=>by cases z),kk.nx A' O H' F U (out a') (ie F U hI)⟩
def zrz {wi:TI}{g:TG}{tb:TS}{q:Ev->Mo (List W)}{mg:W->Ev->(Ev->Prop)->Prop}{fb:Ms}(hi:RI Pn M false wi q)(F:RG (S++M) M g mg)(I:RS Pn S M fr tb fb)(O:9999∉S):RS Pn S M fr (zud wi g tb) (mFor q mg fb):=⟨λB A σ H ρ n k D a kk U=>hi.run A σ H ρ n _ _ a.env a.pn U λl m J H1 Y Z g1=>zkE F I O (a.step g1) kk Z Y⟩
def ug {tg iter:Expr}{body:List Stmt}{q:Ev->Mo (List W)}{mg:W->Ev->(Ev->Prop)->Prop}{fb:Ms}(hp:PassesOwn (model X.prog X.w) X.A X.env X.xe)(B:X.calm=true)(hi:JI X Pn M false tg iter q)(F:JG X (S++M) M tg mg)(I:JSs X Pn S M fr body fb)(hs:∀x,foldedSetIterable iter X.env x=pure x:=by intro _;rfl)(J:9999∉S:=by decide) :
  JS X Pn S M fr (.For tg iter body [] pos) (mFor q mg fb):=by
 obtain⟨ti,O,U⟩:=hi.ex;obtain⟨Y,Z,rg⟩:=F.ex;obtain⟨tb,qb,rb⟩:=I.ex;exact⟨_,zjC hp B O Z qb hs,zrz U rg rb J⟩
def zaz (N:List Str)(q:List W):Ev:=q.map some++List.replicate (N.length - q.length) none
def zaF.get:∀ {q:List W} {vs:List V} {i:Nat} {w:W},zaF A H q vs->q[i]?=some w->∃v,vs[i]?=some v/\Val A H w v
 | [],_,_,_,_,e=>by simp at e
 | x::q,vs,0,w,⟨v,r,B,h1,_⟩,e=>by simp_all
 | x::q,vs,i+1,w,⟨v,r,B,_,h2⟩,e=>by
  subst B;obtain⟨u,F,I⟩:=zaF.get (i:=i) h2 (by simpa using e)
  simp_all
def zid {A:Addr->Prop}{H:Hp}{N:List Str}{ws:List W}{vs:List V}(al:Al A H)(h:zaF A H ws vs)(hM:∀i∈M,ws.length<=i):EnvR A M (L2.xg N vs) H (zaz N ws) where
 len:=by unfold L2.xg zaz;rw[aq,aq,ab,ab,List.length_replicate,List.length_replicate,h.len]
 val:=λi w e=>by
  unfold zaz at e
  have hi:i<ws.length:=by
   apply ci;intro z;rw[bf (by simp_all)] at e;obtain⟨_,q⟩:=af.mp e
   simp_all
  rw[bt (by simp_all),aE] at e;obtain⟨w',e1,e2⟩:=aF.mp e;cases e2;obtain⟨v,h1,h2⟩:=h.get e1;refine⟨v,?_,λ_=>h2,λz=>absurd (hM i z) (by lia)⟩;unfold L2.xg;have hi':i<vs.length:=by rw[h.len];exact hi
  rw[bt (by simp_all),aE,h1];rfl
 dis:=λi j w u ad hi hj hne e1=>by
  unfold zaz at e1;have:=hM i hi;rw[bf (by simp_all)] at e1;obtain⟨_,q⟩:=af.mp e1
  simp_all
 al:=al
def zqv{P:Program}{w:World}{K:PySem.W.Frag}{mg:Str->Option Value}{base:Heap}{qual:Str}{f:Addr}{fd:FuncData}{N ps:List Str}{F:PN->List W->Mo W}(M:List Nat)(Y:(∀vs H Q E,spV m fr F vs H Q E->vs.length=ps.length)->(∀ (B:Value) (A:Around) (outer:List Env) (s:Shared) (H:Hp) (vs:List V) (Q:VK) (E:XK),Room k (A.deeper (PyProof.Rows.envOfC qual (zb st) s.heap.objs.size f B))->spV m fr F vs H Q E->
   ∃t,QSs (zdE CX0 P w K mg base N qual (zb st) f B A outer s H E).nox (zE st) t/\t { nx:=λ_ H'=>Q .non H',rt:=Q } (L2.xg N vs) H)->FnOk P w K mg base CX0 (k+1) f fd ps (spV m fr F))(hm:m=ps.length)(hM:∀i∈M,m<=i)(I:∀ (B:Value) (A:Around) (outer:List Env) (s:Shared) (H:Hp) (E:XK) (Pn:PN),Room k (A.deeper (PyProof.Rows.envOfC qual (zb st) s.heap.objs.size f B))->
   ∃fs,JSs (zdE CX0 P w K mg base N qual (zb st) f B A outer s H E).nox Pn [] M fr (zE st) fs/\∀J n R,J.length=m->F Pn J n R->fs (zaz N J) n { nx:=λ_ U=>fr=false/\R (.d .non) U,rt:=R }):FnOk P w K mg base CX0 (k+1) f fd ps (spV m fr F):=by
 refine Y (λvs H Q E h=>?_) (λB A outer s H vs Q E hr h=>?_)
 ·obtain⟨Pn,A,J,n,R,_,Z,hl,_⟩:=h;rw[Z.len,hl,hm]
 ·obtain⟨Pn,A3,J,n,R,al,Z,hl,hp,hF,q⟩:=h;obtain⟨fs,⟨t,qs,rs⟩,ac⟩:=I B A outer s H E Pn hr;refine⟨t,qs,rs.run { A0:=A3,H0:=H,G0:=zz A3 H,σ0:=L2.xg N vs } A3 (L2.xg N vs) H (zaz N J) n _ _ ⟨zid al Z (λi hi=>by simp_all),⟨λ_ z=>z,λ_ z=>.inl z,.of (zl.refl _),al,λ_ z=>z.elim,λ_ z=>z.elim⟩,hp,zl.refl _,⟨λi hi=>rfl,λz=>by cases z⟩,λi w a hi e=>?_⟩ ⟨?_,?_,?_,λ_ z=>z,?_⟩ (ac J n R hl hF)⟩
  ·exact absurd e (by unfold zaz;have:=hM i hi;rw[bf (by simp_all)];intro z;obtain⟨_,q⟩:=af.mp z;rw[List.getElem_replicate] at q;cases q)
  ·intro A' ag H' an U a' ⟨O,r⟩;exact q _ U .non H' r (Val.of (show Is _ .non .non from rfl)) ⟨a'.frm.st.stay,a'.pn.less a'.frm.sub⟩ λz=>by rw[O] at z;cases z
  ·simp_all
  ·simp_all
  ·intro w U v H' ad st pn O r;exact q w U v H' r ad ⟨st.stay,pn⟩ O
end
open PySem PySem.Spec L2
section
variable {X:Cx}{Pn:PN}{M S:List Nat}{fr fr':Bool}{e a b c:Expr}{es:List Expr}{f fa fb fc:Ev->Mo W}{pos p p2:Pos}
@[reducible] def isStr:Dt->Bool
 | .str _=>true
 | _=>false
@[reducible] def isDct:Dt->Bool
 | .dct=>true
 | _=>false
def zlI (n:Nat):List Dt:=(List.range n).map λi:Nat=>Dt.int i
def ziA(n:Nat):IsL G (zlI n) ((List.range n).map λi:Nat=>V.int i):=by
 have q:zlI n=(((List.range n).map λi:Nat=>(i:Int))).map Dt.int:=by unfold zlI;rw[aI];rfl
 have B:((List.range n).map λi:Nat=>V.int i)=(((List.range n).map λi:Nat=>(i:Int))).map V.int:=by rw[aI];rfl
 rw[q,B];exact IsL.ints
def zda (fa:Ev->Mo (List W)):Ev->Mo W:=λρ n Q=>fa ρ n λq m=>∃j:Nat,q=[.d (.int (j:Int))]/\j<=1000/\Q (.d (.lst (zlI j))) m
def ziE{q:Pos}{J:Pos}(hm:X.mg "list" = none)(O:X.mg "range" = none)(ha:JAB X Pn M [a] fs)(hc:X.calm=true:=by rfl)(hg:Gl X "list" := by rfl)(U:Gl X "range" := by rfl)(hs:starEach (a::[]) X.env=(false,eval a X.env)::starEach [] X.env:=by rfl)(F:starEach (.Call (.Name "range" J) [a] [] q::[]) X.env=(false,eval (.Call (.Name "range" J) [a] [] q) X.env)::starEach [] X.env:=by rfl)(Y:(backTo q (starEach [] X.env)).any (·.1)=false:=by rfl)(Z:(backTo pos (starEach [] X.env)).any (·.1)=false:=by rfl):JE X Pn M true (.Call (.Name "list" p) [.Call (.Name "range" J) [a] [] q] [] pos) (zda fs):=by
 obtain⟨ta,qa,ra⟩:=ha.ex;refine⟨_,zbX (ze1 hc) hg hm et (yf (zbX zks U O PyProof.Rows.boot_range qa (by decide) (by decide) hs Y) yP F) (by decide) (by decide) F Z,⟨λA σ H ρ n Q R E P hf k=>?_⟩⟩;refine ra.run A σ H ρ n _ _ E P hf  ?_;rintro ws m vs H1 ⟨j,e,hj,r⟩ bb g;subst e;obtain⟨v,rfl,b1⟩:=zcR bb;obtain rfl:=xt b1;refine⟨_,rfl,λp1 H2 np g2 S2=>⟨p1,j,rfl,g2,hj,λp3 H3 I g3 S3=>?_⟩⟩;have B:=g.trans (Go.same g.pn S2);exact k _ m _ H3 r (zaX (H:=H2) (ziA j) (zl.same S3) ((E.stay B.st).new I) g3) (B.trans (Go.same B.pn S3)) λ_=>(zaL (H:=H2) (ziA j) S3 I g3).back B.st
@[reducible] def truD:W->Option Bool
 | .d (.lst l)=>some (!l.isEmpty)
 | .d (.tup l)=>some (!l.isEmpty)
 | .d (.bl b)=>some b
 | .d (.int i)=>some (i != 0)
 | .d .non=>some false
 | _=>none
def At3.own(h:At3 Pn B S M A σ H ρ n)(hi:i∈M)(e:ρ[i]?=some (some (.d (.lst l)))):∃q xs,σ[i]?=some (some (.ref q))/\A q/\H q=some (.lst xs)/\IsL (zz A H) l xs:=by obtain⟨v,I,_,J⟩:=h.env.val i _ e;obtain⟨q,rfl,F,O,_⟩:=J hi;obtain⟨a2,xs,U,Y,Z⟩:=O;cases U;exact⟨q,xs,I,F,Y.own h.env.al F,Z⟩
end
open PySem PySem.Spec L2
section
variable {A:Addr->Prop}{H:Hp}
def zpm(h:zaF A H [w] vs):∃v,vs=[v]/\Val A H w v:=by obtain⟨v,r,e,h1,h2⟩:=h;cases h2;exact⟨v,e,h1⟩
def zuy(h:zaF A H [w,u] vs):∃v y,vs=[v,y]/\Val A H w v/\Val A H u y:=by obtain⟨v,r,e,h1,h2⟩:=h;obtain⟨y,rfl,q⟩:=zpm h2;exact⟨v,y,e,h1,q⟩
def zmW{st:List Int}(h:Val A H (.d (stD st)) v):∃a,v = .ref a/\H a=some (.tup (st.map V.int)):=by obtain⟨a,xs,e,h1,h2⟩:=h;obtain rfl:=h2.of_ints;exact⟨a,e,zt _ _ h1⟩
end
structure RoomOk (rm:List Int):Prop where
 ne:rm≠[]
 few:rm.length<=8
 box:∀r∈rm,2<=r/\r<=4
def RoomOk.pos {rm:List Int}(h:RoomOk rm):1<=rm.length:=by
 cases rm with
 | nil=>exact absurd rfl h.ne
 | cons _ _=>simp
abbrev FV:=PN->List W->Mo W
def zsb (k:Nat)(fr:Bool)(F:FV)(sp:Sp):Prop:=∀vs H Q E,spV k fr F vs H Q E->sp vs H Q E
def FnOk.lift(h:FnOk P w K mg base CX j f fd ps sp)(l:zsb k fr F sp):FnOk P w K mg base CX j f fd ps (spV k fr F):=h.imp l
def zpz:FV:=λPn q n R=>∃p c ns zB,Pn=⟨some (p,c,ns),J0⟩/\q=[.pen p,.d (.int zB)]/\n<=1000000/\1<=zB/\zB<1073741824/\∀r,0<=r->r<zB->R (.d (.int r)) (n+1)
@[reducible] def zr9:FV:=λPn B n R=>∃p c ns q,Pn=⟨some (p,c,ns),J0⟩/\B=[.pen p,.d (.int q)]/\n+20<=1000000/\4<=q/\q<=256/\∀rm,RoomOk rm->yS rm<=q->R (.d (stD rm)) (n+10)
@[reducible] def zl6:FV:=λPn q n R=>∃p c ns rm,Pn=⟨some (p,c,ns),J0⟩/\q=[.pen p,.d (stD rm)]/\n+20<=1000000/\RoomOk rm/\∀st,st.length=rm.length->(∀b:Int,0<=b->b<rm.length->0<=zB st b/\zB st b<zB rm b)->R (.d (stD st)) (n+10)
def zn2 (g:List (Int×Int)):(Dt.tup (g.map ye)).noL=true:=by
 have:∀g:List (Int×Int),Dt.noLs (g.map ye)=true:=by
  intro g
  induction g with
  | nil=>rfl
  | cons q g B=>simp only[au,Dt.noLs,B,bM];rfl
 exact this g
@[reducible] def zeR (g:List (Int×Int)):Dt:=.tup (g.map ye)
@[reducible] def zpA:FV:=λPn F n R=>∃p c ns rm B,Pn=⟨some (p,c,ns),J0⟩/\F=[.pen p,.d (stD rm),.d (.int B)]/\n+40<=1000000/\RoomOk rm/\∀g,Giv rm g->(∀q∈g,q.1≠B)->g.length<=8->R (.d (zeR g)) (n+30)
@[reducible] def zsC:FV:=λ_ q n R=>∃d,q=[.d d]/\R (.d (.bl d.isWhole)) n
@[reducible] def zsB:FV:=λ_ q n R=>∃a b,q=[.d (.bl a),.d (.bl b)]/\R (.d (.bl (a==b))) n
@[reducible] def zl7:FV:=λ_ q n R=>∃ns:List Int,q=[.d (stD ns)]/\(∀n∈ns,2<=n/\n<=4)/\R (.d (.int (yS ns))) n
def ziX:zsb 1 false zl7 zmQ:=by rintro vs H Q E ⟨Pn,A,O,n,R,U,B,Y,hp,⟨ns,rfl,h1,F⟩,q⟩;obtain⟨v,rfl,I⟩:=zpm B;obtain⟨a,rfl,J⟩:=zmW I;exact⟨a,ns,rfl,J,h1,q _ n _ H F (Val.of rfl) (Go.refl hp) λz=>by cases z⟩
@[reducible] def zsA:FV:=λ_ B n R=>∃st g,B=[.d (stD st),.d (zeR g)]/\(∀q∈g,0<=q.1/\q.1<st.length)/\R (.d (.bl (yz st g))) n
@[reducible] def zbw (sts:List (List Int)):Dt:=.lst (sts.map stD)
def zpc{sts:List (List Int)}(F:Al A H)(s:yM H H')(n:H a=none)(h:H' a=some (.lst ys))(I:IsL H' (sts.map stD) ys):Val A H' (.d (zbw sts)) (.ref a)/\FrV A H H' (.d (zbw sts)) (.ref a):=by
 have q:=F.stay (zl.same s);have B:=xO q.noT (uJ sts) I;refine⟨Val.of ⟨a,ys,rfl,.inl (zn (F.new n) h),B⟩,a,rfl,.of n,⟨_,h,rfl⟩,a,ys,rfl,.inl h,xO (λb xs z e=>?_) (uJ sts) I⟩;rcases z with z | z
 ·exact q.noT b xs z e
 ·grind
@[reducible] def F_all:FV:=λ_ q n R=>∃rm,q=[.d (stD rm)]/\RoomOk rm/\yS rm<=256/\R (.d (zbw (z0 (rm.map zh)))) n
@[reducible] def lsD (c:List Int):Dt:=.lst (c.map .int)
@[reducible] def zcn:FV:=λ_ q n R=>∃cs:List (List Int),q=[.d (.lst (cs.map lsD))]/\cs.length<=8/\(∀c∈cs,c.length<=4)/\R (.d (zbw (z0 cs))) n
def zk4(s:yM G H):∀ {cs:List (List Int)} {xs:List V},IsL G (cs.map lsD) xs->zpE H xs cs:=λ{cs xs} h=>by refine⟨by rw[h.length,ab],λi c F=>?_⟩;obtain⟨v,h1,h2⟩:=h.getD (i:=i) (d:=lsD c) (by simp_all);obtain⟨a,ys,rfl,q,B⟩:=h2;obtain rfl:=B.of_ints;exact⟨a,h1,q.same s⟩
def zc8:zsb 1 true zcn (zcJ K):=by rintro vs H Q E ⟨Pn,A,ws,n,R,I,J,hl,hp,⟨cs,rfl,h1,h2,O⟩,q⟩;obtain⟨v,rfl,U⟩:=zpm J;obtain⟨a,xs,rfl,Y,Z⟩:=U;refine⟨a,xs,cs,rfl,Y.sub,zk4 zt Z,h1,h2,λa ys H' na B F S=>?_⟩;obtain⟨z1,z2⟩:=zpc I S na B F;exact q _ n _ H' O z1 (Go.same hp S) λ_=>z2
def ztJ {P:Program}{w:World}{K:PySem.W.Frag}{mg:Str->Option Value}{base:Heap}{x qual:Str}{st:Stmt}{f:Addr}{fd:FuncData}{N ps:List Str}{k r:Nat}{S:List Nat}(M:List Nat)(Fu:Fun K x qual st f fd)(Sc:FnScope N ps (zb st))(ac:ps.length=1)(hN:N.length=r+2)(hM:∀i∈M,2<=i)
  (O:∀ (B:Value) (A:Around) (outer:List Env) (s:Shared) (H:Hp) (E:XK) (Pn:PN),Room k (A.deeper (PyProof.Rows.envOfC qual (zb st) s.heap.objs.size f B))->
   ∃J zw fs,zE st=J::zw/\QS (zdE CX0 P w K mg base N qual (zb st) f B A outer s H E).nox J (zhx (zeG (zlP K) [] E0 (zho (zlR 0) zpx)) (zbl 1))/\
    JSs (zdE CX0 P w K mg base N qual (zb st) f B A outer s H E).nox Pn S M false zw fs/\∀p c ns,Pn=⟨some (p,c,ns),J0⟩->fs (none::some (.pen p)::List.replicate r none) 0 { nx:=λ_ _=>False,rt:=λw _=>w = .d (.bl true) }):FnOk P w K mg base CX0 (k+1) f fd ps (zj1 K):=by
 refine Fun.okQ Fu Sc (λvs H Q E h=>?_) (λB A outer s H vs Q E hr h=>?_)
 ·obtain⟨a,ns,rfl,_⟩:=h;exact ac.symm
 ·obtain⟨a,ns,rfl,hS,hl,q⟩:=h;have U:=λ(Pn:PN)=>O B A outer s H E Pn hr
  have Z:L2.xg N [.ref a]=some (.ref a)::none::List.replicate r none:=by unfold L2.xg;rw[hN];rfl
  have hd:∃J zw,zE st=J::zw:=let ⟨J,zw,_,e,_⟩:=U ⟨none,J0⟩;⟨J,zw,e⟩;obtain⟨J,zw,e0⟩:=hd;rw[e0]
  have c2:∀Pn,∃fs,JSs (zdE CX0 P w K mg base N qual (zb st) f B A outer s H E).nox Pn S M false zw fs/\∀p c ns,Pn=⟨some (p,c,ns),J0⟩->fs (none::some (.pen p)::List.replicate r none) 0 { nx:=λ_ _=>False,rt:=λw _=>w = .d (.bl true) }:=λPn=>by obtain⟨ad,Y,fs,e,_,h1,h2⟩:=U Pn;rw[e0] at e;cases e;exact⟨fs,h1,h2⟩
  have q1:QS (zdE CX0 P w K mg base N qual (zb st) f B A outer s H E).nox J (zhx (zeG (zlP K) [] E0 (zho (zlR 0) zpx)) (zbl 1)):=by
   obtain⟨ad,Y,fs,e,h0,_⟩:=U ⟨none,J0⟩
   simp_all
  refine⟨_,zS q1 (u:=λD σ H=>∃Pn,(c2 Pn).choose_spec.1.ex.choose D σ H) ⟨λpins s' σ H D I ⟨Pn,z⟩=>(c2 Pn).choose_spec.1.ex.choose_spec.1.run pins s' σ H D I z⟩,?_⟩;refine⟨.ref a,by rw[Z];rfl,a,ns,rfl,hS,hl,λp c H1 P1 S1=>⟨⟨some (p,c,ns),J0⟩,?_⟩⟩;have hs:=(c2 ⟨some (p,c,ns),J0⟩).choose_spec.2 p c ns rfl;have e1:(L2.xg N [.ref a]).set 1 (some (.ref p))=some (.ref a)::some (.ref p)::List.replicate r none:=by rw[Z];rfl
  rw[e1]
  have F:∀i (u:W),(none::some (.pen p)::List.replicate r none:Ev)[i]?=some (some u)->i=1/\u = .pen p:=λi u e=>by
   match i,e with
   | 0,e=>simp at e
   | 1,e=>exact⟨rfl,by simpa using e.symm⟩
   | i+2,e=>
    simp only[ef] at e;obtain⟨_,q⟩:=af.mp e
    simp_all
  refine (c2 ⟨some (p,c,ns),J0⟩).choose_spec.1.ex.choose_spec.2.run { A0:=λ_=>False,H0:=λ_=>none,G0:=λ_=>none,σ0:=some (.ref a)::some (.ref p)::List.replicate r none } (λ_=>False) _ H1 _ 0 _ _ ⟨⟨?_,?_,?_,λ_ z=>z.elim⟩,⟨λ_ z=>z,λ_ z=>z.elim,(λb o (z:(none:Option HO)=some o)=>nomatch z),λ_ z=>z.elim,λ_ z=>z.elim,λ_ z=>z.elim⟩,⟨⟨P1,λz=>z,λz=>z⟩,trivial⟩,(λb o (z:(none:Option HO)=some o)=>nomatch z),⟨λi hi=>rfl,λ_=>⟨λb xs (z:(none:Option HO)=some (.lst xs))=>(nomatch z),λb xs (z:(none:Option HO)=some (.lst xs))=>(nomatch z)⟩⟩,?_⟩ ⟨?_,?_,?_,λ_ z=>z,?_⟩ hs
  ·simp
  ·intro i u e;obtain⟨rfl,rfl⟩:=F i u e;exact⟨.ref p,rfl,λ_=>rfl,λz=>absurd (hM 1 z) (by lia)⟩
  ·intro i j u u' b hi hj ag e1;obtain⟨rfl,rfl⟩:=F i u e1;exact absurd (hM 1 hi) (by lia)
  ·intro i u b hi e;obtain⟨rfl,rfl⟩:=F i u e;exact absurd (hM 1 hi) (by lia)
  ·intro _ _ _ _ _ _ z;exact z.elim
  ·intro _ _ _ _ _ _ z;exact z.elim
  ·intro _ _ _ _ _ _ z;exact z.elim
  ·intro w n' v H' hv st pn _ r;have r':w = .d (.bl true):=r;subst r';have:v = .bl true:=hv;subst this;exact q H'
open PySem PySem.Spec L2
def zhS {α:Type}{l:List W}{F:Ev}{n:Nat}{mg:W->Ev->(Ev->Prop)->Prop}{ft:Ev->Mo Bool}{Y:Ev->Mo W}{Q:W->Nat->Prop}(xs:List α)(I:α->W)(hl:l=xs.map I)(J:Ev->Prop)(P:α->Bool)(E:α->Dt)(Z:xs.length<=lim)(j0:J F)
  (h:∀a∈xs,∀ B,J B->∀C:Ev->Nat->Option Dt->Prop,(∀ q,J q->C q n (if P a then some (E a) else none))->mg (I a) B λq=>ft q n λb n2=>if b=true then Y q n2 λx n3=>∃d,x = .d d/\C q n3 (some d) else C q n2 none)
  (fin:Q (.d (.lst ((xs.filter P).map E))) n):zhQ mg ft Y F Q l n:=by
 subst hl;refine⟨by simp_all,λi B O acc=>J B/\O=n/\acc=((xs.take i).filter P).map E,⟨j0,rfl,by simp⟩,?_,?_⟩
 ·rintro i w B O acc hw ⟨hj,rfl,rfl⟩;rw[aE] at hw;obtain⟨a,ha,rfl⟩:=aF.mp hw
  have:=h a (aA ha) B hj (λq n3 o=>match o with
   | some d=>J q/\n3=O/\((xs.take i).filter P).map E++[d]=((xs.take (i+1)).filter P).map E
   | none=>J q/\n3=O/\((xs.take i).filter P).map E=((xs.take (i+1)).filter P).map E) (λq U=>by
    rw[zi ha,c9,aP];by_cases hp:P a=true
    ·simp_all
    ·rw[if_neg hp];exact⟨U,rfl,by simp[hp]⟩)
  exact this
 ·grind
def zkr {α:Type}{l:List W}{F:Ev}{n:Nat}{mg:W->Ev->(Ev->Prop)->Prop}{Y:Ev->Mo W}{Q:W->Nat->Prop}(xs:List α)(I:α->W)(hl:l=xs.map I)(J:Ev->Prop)(E:α->Dt)(Z:xs.length<=lim)(j0:J F)
  (h:∀a∈xs,∀ B,J B->∀C:Ev->Nat->Dt->Prop,(∀ q,J q->C q n (E a))->mg (I a) B λq=>Y q n λx n3=>∃d,x = .d d/\C q n3 d)
  (fin:Q (.d (.lst (xs.map E))) n):zhQ mg zss Y F Q l n:=by
 subst hl;refine⟨by simp_all,λi B O acc=>J B/\O=n/\acc=(xs.take i).map E,⟨j0,rfl,by simp⟩,?_,?_⟩
 ·rintro i w B O acc hw ⟨hj,rfl,rfl⟩;rw[aE] at hw;obtain⟨a,ha,rfl⟩:=aF.mp hw;exact h a (aA ha) B hj (λq n3 d=>J q/\n3=O/\(xs.take i).map E++[d]=(xs.take (i+1)).map E) λq U=>⟨U,rfl,by rw[zi ha,aP];rfl⟩
 ·grind
def znr(I:Nat->Ev->Nat->Prop)(U:I 0 ρ n)(h:∀i q B,i<r->I i q B->mg (.d (.int (i:Int))) q λF=>fb F B { k with nx:=I (i+1),ct:=I (i+1),bk:=k.nx })(Y:∀ q B,I r q B->k.nx q B):znq mg fb ρ k (zhl 0 r) n:=by
 refine⟨I,U,λi w q B J O=>?_,λq B O=>Y q B ?_⟩
 ·unfold zhl at J;rw[aE] at J;obtain⟨j,h1,rfl⟩:=aF.mp J;obtain⟨hi,h2⟩:=af.mp h1;rw[eh] at h2
  simp_all
 ·unfold zhl at O
  simp_all
def zim{α:Type}(xs:List α)(F:α->W)(Y:l=xs.map F)(I:Nat->Ev->Nat->Prop)(Z:I 0 ρ n)(h:∀i a q B,xs[i]?=some a->I i q B->mg (F a) q λJ=>fb J B { k with nx:=I (i+1),ct:=I (i+1),bk:=k.nx })(hd:∀ q B,I xs.length q B->k.nx q B):znq mg fb ρ k l n:=by
 subst Y;refine⟨I,Z,λi w q B O U=>?_,λq B U=>hd q B (by simp_all)⟩;rw[aE] at O;obtain⟨a,ha,rfl⟩:=aF.mp O;exact h i a q B ha U
def zd0(I:Nat->Ev->Nat->Prop)(O:I 0 ρ n)(h:∀i q F,i<r->I i q F->∀ (C B:Ev->Nat->Prop) (E:W->Nat->Prop),(∀ {ρ m},I (i+1) ρ m->C ρ m)->(∀ {ρ m},k.nx ρ m->B ρ m)->(∀ {w m},k.rt w m->E w m)->mg (.d (.int (i:Int))) q λJ=>fb J F { rt:=E,nx:=C,ct:=C,bk:=B })(U:∀ q F,I r q F->k.nx q F):znq mg fb ρ k (zhl 0 r) n:=
 znr I O (λi q F hi Y=>h i q F hi Y (I (i+1)) k.nx k.rt (λz=>z) (λz=>z) λz=>z) U
def xN{α:Type}(xs:List α)(F:α->W)(U:l=xs.map F)(I:Nat->Ev->Nat->Prop)(Y:I 0 ρ n)(h:∀i a q J,xs[i]?=some a->I i q J->∀ (C B:Ev->Nat->Prop) (E:W->Nat->Prop),(∀ {ρ m},I (i+1) ρ m->C ρ m)->(∀ {ρ m},k.nx ρ m->B ρ m)->(∀ {w m},k.rt w m->E w m)->mg (F a) q λO=>fb O J { rt:=E,nx:=C,ct:=C,bk:=B })(Z:∀ q J,I xs.length q J->k.nx q J):znq mg fb ρ k l n:=
 zim xs F U I Y (λi a q J ha hI=>h i a q J ha hI (I (i+1)) k.nx k.rt (λz=>z) (λz=>z) λz=>z) Z
def zf0 {α:Type}{l:List α}{i:Nat}{x:α}(h:l[i]?=some x):atI l (i:Int)=some x:=by
 have:=(af.mp h).1;unfold atI ixN
 simp_all
def zpI {α:Type}{l:List α}{i:Int}(B:0<=i)(h1:i<l.length):∃d,atI l i=some d/\d∈l:=by
 obtain⟨j,rfl⟩:∃j:Nat,i=j:=⟨i.toNat,by lia⟩;have q:j<l.length:=by lia
 exact⟨l[j],zf0 (aj q),a9 q⟩
def zm4 {st:List Int}{b:Int}(B:0<=b)(h1:b<st.length):atI (st.map Dt.int) b=some (.int (zB st b)):=by
 obtain⟨j,rfl⟩:∃j:Nat,b=j:=⟨b.toNat,by lia⟩;have q:j<st.length:=by lia
 refine zf0 ?_;rw[aE,aj q,xV];simp[q]
open PySem L2
def gw (g:List (Int×Int))(i:Nat):Option Int:=(g.find? λq=>decide (q.1=(i:Int))).map (·.2)
def zic (rm:List Int):enW 0 (rm.map Dt.int)=(List.range rm.length).map λi:Nat=>W.d (.tup [.int (i:Int),.int (rm.getD i 0)]):=by
 apply fV;intro i;rw[ze6,aE,aE];by_cases h:i<rm.length
 all_goals simp_all
def cho (rm:List Int)(g:List (Int×Int))(i:Nat):List Int:=match gw g i with
 | some w=>[w]
 | none=>zh (rm.getD i 0)
def chs (rm:List Int)(g:List (Int×Int)):List (List Int):=(List.range rm.length).map (cho rm g)
def ztm (rm:List Int)(g:List (Int×Int)):List (List Int):=z0 (chs rm g)
section
variable {X:Cx}{Pn:PN}{M S:List Nat}{fr fr':Bool}{e a b c:Expr}{es:List Expr}{f fa fb fc:Ev->Mo W}{pos p p2:Pos}
def ztr (i:Nat)(f:Ev->Mo W):Ms:=λρ n k=>(∃l,ρ[i]?=some (some (.d (.lst l))))/\f ρ n λw m=>∃l q,ρ[i]?=some (some (.d (.lst l)))/\w = .d (.lst q)/\l.length+q.length<=lim/\k.nx (ρ.set i (some (.d (.lst (l++q))))) m
def zqf (i:Nat){x:Str}{ap cp sp np:Pos}(he:JE X Pn M fr' e f)(hi:i∈M:=by decide)(hN:X.N[i]?=some x:=by rfl)(hv:Vis X.env.scope x:=by walk_at "v")(hd:(x==("__debug__" : Str))=false:=by decide)
  (ac:(x==("__classdict__" : Str))=false:=by decide) (U:starEach (e::[]) X.env=(false,eval e X.env)::starEach [] X.env:=by rfl) (hs:swapsWith (.Call (.Attribute (.Name x np) "extend" ap) [e] [] cp) none sp.line X.env=pure false:=by rfl) (J:attributeBase (.Name x np) "extend" X.env (eval (.Name x np) X.env)=eval (.Name x np) X.env:=by rfl) (O:(ap.endLine==cp.line)=true:=by rfl)
  (Y:((backTo cp (starEach [e] X.env)).all (λx=>!x.1)&&(backToKw cp (keywordEach [] X.env)).all (λx=>x.1.isSome)&&decide (([e]:List Expr).length+([]:List Keyword).length+(if ([]:List Keyword).isEmpty then 0 else 1)<30))=true:=by rfl) (I:(backTo cp (starEach [] X.env)).any (·.1)=false:=by rfl) :
  JS X Pn S M fr (.Expr (.Call (.Attribute (.Name x np) "extend" ap) [e] [] cp) sp) (ztr i f):=by
 obtain⟨te,q,r⟩:=he.ex;refine⟨_,zdq (zmF dW PySem.F.slot_list_extend PySem.F.type_list_extend zjb (qv i hN hv hd ac) (yf q yP U) J Y O U I) hs,⟨ ?_⟩⟩;rintro B A σ H ρ n k D a kk ⟨⟨l0,e0⟩,hf⟩;obtain⟨ad,al,s1,hA,g0,_⟩:=a.own hi e0;refine⟨.ref ad,s1,.inl ⟨rfl,_,SqL.of g0⟩,?_⟩;refine r.run A σ H ρ n _ _ a.env a.pn hf  ?_;rintro w m v H' ⟨l,l2,e,ed,hz,r⟩ hv g _;subst ed;have a':=a.step g;obtain⟨an,xs,s2,_,g4,hl⟩:=a'.own hi e;rw[s1] at s2;cases s2;obtain⟨b2,ys,rfl,ag,Z⟩:=hv;exact⟨ad,b2,xs,ys,rfl,rfl,g4,ag.sub,zei (by rw[hl.length,Z.length];exact hz),kk.nx A σ _ _ m (a'.wr hi e s1 (hl.append Z)) r⟩
def zdF {α:Type}(l:List α)(k:Nat)(x:α):List α:=l.take k++x::l.drop k
def ztt (i:Nat)(fk f:Ev->Mo W):Ms:=λρ n k=>(∃l,ρ[i]?=some (some (.d (.lst l))))/\fk ρ n λy m=>f ρ m λw q=>∃l d j,ρ[i]?=some (some (.d (.lst l)))/\w = .d d/\y = .d (.int j)/\0<=j/\j<=l.length/\l.length<lim/\k.nx (ρ.set i (some (.d (.lst (zdF l j.toNat d))))) q
def zms(i:Nat){x:Str}{ap cp sp np:Pos}(hc:JE X Pn M ac c fc)(he:JE X Pn M fr' e f)(hi:i∈M:=by decide)(hN:X.N[i]?=some x:=by rfl)(hv:Vis X.env.scope x:=by walk_at "v")(hd:(x==("__debug__" : Str))=false:=by decide)(ag:(x==("__classdict__" : Str))=false:=by decide)(U:starEach (c::[e]) X.env=(false,eval c X.env)::starEach [e] X.env:=by rfl)(al:starEach (e::[]) X.env=(false,eval e X.env)::starEach [] X.env:=by rfl)(hs:swapsWith (.Call (.Attribute (.Name x np) "insert" ap) [c,e] [] cp) none sp.line X.env=pure false:=by rfl)(J:attributeBase (.Name x np) "insert" X.env (eval (.Name x np) X.env)=eval (.Name x np) X.env:=by rfl)(O:(ap.endLine==cp.line)=true:=by rfl)(Y:((backTo cp (starEach [c,e] X.env)).all (λx=>!x.1)&&(backToKw cp (keywordEach [] X.env)).all (λx=>x.1.isSome)&&decide (([c,e]:List Expr).length+([]:List Keyword).length+(if ([]:List Keyword).isEmpty then 0 else 1)<30))=true:=by rfl)(I:(backTo cp (starEach [e] X.env)).any (·.1)=false:=by rfl) :
  JS X Pn S M fr (.Expr (.Call (.Attribute (.Name x np) "insert" ap) [c,e] [] cp) sp) (ztt i fc f):=by
 obtain⟨te,q,r⟩:=he.ex;obtain⟨tc,qc,rc⟩:=hc.ex;refine⟨_,zdq (zmF dW PySem.F.slot_list_insert PySem.F.type_list_insert zjc (qv i hN hv hd ag) (yf qc (yf q yP al) U) J Y O U I) hs,⟨ ?_⟩⟩;rintro B A σ H ρ n k D a kk ⟨⟨l0,e0⟩,hf⟩;obtain⟨ad,as,s1,hA,g0,_⟩:=a.own hi e0;refine⟨.ref ad,s1,.inl ⟨rfl,_,SqL.of g0⟩,?_⟩;refine rc.run A σ H ρ n _ _ a.env a.pn hf λw1 m1 v1 H1 r1 an g1 _=>?_;have a1:=a.step g1;refine r.run A σ H1 ρ m1 _ _ a1.env a1.pn r1  ?_;rintro w m v H' ⟨l,d,j,e,ed,ey,j0,j1,hz,r⟩ hv g _;subst ed ey;have e1:v1 = .int j:=an;subst e1;have a':=a1.step g;obtain⟨a0,xs,s2,_,g4,Z⟩:=a'.own hi e;rw[s1] at s2;cases s2;refine⟨ad,xs,j,v,rfl,rfl,g4,j0,by rw[Z.length];exact j1,zbK (by rw[Z.length];exact cR hz),kk.nx A σ _ _ m (a'.wr hi e s1 ?_) r⟩;exact (Z.take _).append ⟨v,_,rfl,hv.is,Z.drop _⟩
def zex {κ:Type}[DecidableEq κ](kvs:List (κ×Dt))(k:κ)(d:Dt):List (κ×Dt):=
 if (kvs.any λkv=>decide (kv.1=k))=true then kvs.map (λkv=>if kv.1=k then (kv.1,d) else kv) else kvs++[(k,d)]
def xp.any {κ:Type}[DecidableEq κ]{G:Hp}{k:κ}:∀ {kvs:List (κ×Dt)} {ks:List (κ×V)},xp G kvs ks->(ks.any λkv=>decide (kv.1=k))=kvs.any λkv=>decide (kv.1=k)
 | [],_,h=>by cases h;rfl
 | q::r,ks,⟨v,s,e,h1,h2⟩=>by subst e;rw[cH,cH,xp.any h2]
def xp.map1 {κ:Type}[DecidableEq κ]{G:Hp}{k:κ}{d:Dt}{x:V}(F:Is G d x):∀ {kvs:List (κ×Dt)} {ks:List (κ×V)},xp G kvs ks->xp G (kvs.map λkv=>if kv.1=k then (kv.1,d) else kv) (ks.map λkv=>if kv.1=k then (kv.1,x) else kv)
 | [],_,h=>by cases h;rfl
 | q::r,ks,⟨v,s,e,h1,h2⟩=>by
  subst e;rw[au,au];by_cases B:q.1=k
  ·rw[if_pos B,if_pos B];exact⟨x,_,rfl,F,xp.map1 F h2⟩
  ·rw[if_neg B,if_neg B];exact⟨v,_,rfl,h1,xp.map1 F h2⟩
def xp.snoc {κ:Type}{G:Hp}{k:κ}{d:Dt}{x:V}(B:Is G d x):∀ {kvs:List (κ×Dt)} {ks:List (κ×V)},xp G kvs ks->xp G (kvs++[(k,d)]) (ks++[(k,x)])
 | [],_,h=>by cases h;exact⟨x,[],rfl,B,rfl⟩
 | q::r,ks,⟨v,s,e,h1,h2⟩=>by subst e;exact⟨v,_,rfl,h1,xp.snoc B h2⟩
def xp.put{κ:Type}[DecidableEq κ]{k:κ}{kvs:List (κ×Dt)}{ks:List (κ×V)}(h:xp G kvs ks)(q:Is G d x):xp G (zex kvs k d) (uQ ks k x):=by
 unfold zex uQ;rw[h.any];split
 ·exact h.map1 q
 ·exact h.snoc q
def xp.len {κ:Type}{G:Hp}:∀ {kvs:List (κ×Dt)} {ks:List (κ×V)},xp G kvs ks->ks.length=kvs.length
 | [],_,h=>by cases h;rfl
 | q::r,ks,⟨v,s,e,h1,h2⟩=>by subst e;rw[aT,aT,xp.len h2]
def At3.wrX(h:At3 Pn B S M A σ H ρ n)(hi:i∈M)(e:ρ[i]?=some (some w))(s:σ[i]?=some (some (.ref ad)))(hw:WAt (L2.upd H ad o) (zz A H) w' (.ref ad))(hm':w'.mut=true)(np:NP o)(nt:Mt o):At3 Pn B S M A σ (L2.upd H ad o) (ρ.set i (some w')) n:=by
 obtain⟨v,s1,_,s3⟩:=h.env.val i w e;rw[s] at s1;cases s1;obtain⟨a2,e2,hA,_,_⟩:=s3 hi;cases e2;have hlen:i<ρ.length:=(af.mp e).1
 have hE:EnvR A M σ (L2.upd H ad o) (ρ.set i (some w')):=by
  refine⟨by rw[bS];exact h.env.len,λj u ej=>?_,λj q u u' b hj hq hne e1 e2=>?_,λb hb=>?_⟩
  ·by_cases hj:j=i
   ·subst hj;rw[aZ hlen] at ej;cases ej;exact⟨.ref ad,s,λz=>absurd hi z,λ_=>⟨ad,rfl,hA,by show WAt _ _ _ _;rw[zC hA];exact hw,hm'⟩⟩
   ·rw[aB (Ne.symm hj)] at ej;obtain⟨v,t1,t2,t3⟩:=h.env.val j u ej;refine⟨v,t1,λz=>?_,λz=>?_⟩
    ·show WAt _ _ _ _;rw[zC hA];exact t2 z
    ·obtain⟨b,rfl,hb,hbb,hm⟩:=t3 z;have hne:b≠ad:=λq=>h.env.dis i j w u ad hi z (Ne.symm hj) e ej s (by rw[t1,q]);refine⟨b,rfl,hb,?_,hm⟩;show WAt _ _ _ _;rw[zC hA]
     cases u with
     | d x=>
      cases x with
      | lst l=>obtain⟨a2,xs,e2,g1,g2⟩:=hbb;cases e2;exact⟨b,xs,rfl,by unfold Rd;rw[zd hne];exact g1,g2⟩
      | dct=>obtain⟨a2,xs,e2,g1,g2⟩:=hbb;cases e2;exact⟨b,xs,rfl,by rw[zd hne];exact g1,g2⟩
      | _=>cases hm
     | pen p=>cases hm
     | dk k=>obtain⟨a2,xs,e2,g1,g2⟩:=hbb;cases e2;exact⟨b,xs,rfl,by rw[zd hne];exact g1,g2⟩
     | dt k=>obtain⟨a2,xs,e2,g1,g2⟩:=hbb;cases e2;exact⟨b,xs,rfl,by rw[zd hne];exact g1,g2⟩
     | dn fz k=>obtain⟨a2,xs,e2,g1,g2⟩:=hbb;cases e2;exact⟨b,xs,rfl,g1.imp λo _ e=>by rw[zd hne];exact e,g2⟩
     | wd d fs kn=>cases hm
     | lf ls=>cases hm
     | cu k=>cases hm
     | ss P w k=>obtain⟨a2,xs,e2,g1,g2⟩:=hbb;cases e2;exact⟨b,xs,rfl,by rw[zd hne];exact g1,g2⟩
     | df k=>obtain⟨a2,ob,xs,e2,g1,g2⟩:=hbb;cases e2;exact⟨b,ob,xs,rfl,by simp_all,g2⟩
     | kf k=>obtain⟨a2,ob,xs,e2,g1,g2⟩:=hbb;cases e2;exact⟨b,ob,xs,rfl,by simp_all,g2⟩
     | ad a x=>cases hm
     | tz kvs x=>cases hm
     | fl k=>obtain⟨a2,ob,xs,e2,g1,g2⟩:=hbb;cases e2;exact⟨b,ob,xs,rfl,by simp_all,g2⟩
  ·have get:∀q (u:W),(ρ.set i (some w'))[q]?=some (some u)->∃u',ρ[q]?=some (some u'):=λq u z=>by
    by_cases hq:q=i
    ·subst hq;exact⟨w,e⟩
    ·rw[aB (Ne.symm hq)] at z;exact⟨u,z⟩
   obtain⟨v1,f1⟩:=get j u e1;obtain⟨v2,f2⟩:=get q u' e2;exact h.env.dis j q v1 v2 b hj hq hne f1 f2
  ·by_cases hb':b=ad
   ·subst hb';exact⟨_,zf,np,nt⟩
   ·rw[zd hb'];exact h.env.al b hb
 refine⟨hE,⟨h.frm.sub,h.frm.new,λb o eb nn nc=>?_,h.frm.al,h.frm.cn,λb z=>(by
  by_cases hb':b=ad
  ·subst hb';exact⟨_,zf,np⟩
  ·rw[zd hb'];exact h.frm.cs b z)⟩,h.pn.upd hA,by rw[zC hA];exact h.prot,h.fix,λj u b hj ej sj=>?_⟩
 ·have hne:b≠ad:=λq=>by
   subst q;rcases h.mine i w b hi e s with z | z
   ·exact z o eb nn
   ·exact nc z
  rw[zd hne];exact h.frm.st b o eb nn nc
 ·by_cases hj':j=i
  ·subst hj';exact h.mine j w b hj e sj
  ·rw[aB (Ne.symm hj')] at ej;exact h.mine j u b hj ej sj
end
open PySem PySem.Spec L2
def zpC:FV:=λPn q n R=>∃p c ns l,Pn=⟨some (p,c,ns),J0⟩/\q=[.pen p,.d (.lst l)]/\n+l.length<=1000000/\l.length<=100000/\∀l':List Dt,l'.Perm l->R (.d (.lst l')) (n+l.length)
section
variable {X:Cx}{Pn:PN}{M S:List Nat}{fr fr':Bool}{e a b c:Expr}{es:List Expr}{f fa fb fc:Ev->Mo W}{pos p:Pos}
def WAt.mv(t:∀o,T ad=some o->T' ad=some o)(g:yM G G')(m:w.mut=true)(h:WAt T G w (.ref ad)):WAt T' G' w (.ref ad):=by
 cases w with
 | d x=>
  cases x with
  | lst l=>obtain⟨a2,xs,e2,g1,g2⟩:=h;cases e2;exact⟨ad,xs,rfl,g1.imp (t _) λ⟨o,g1⟩=>⟨o,t _ g1⟩,g2.stay (zl.same g)⟩
  | dct=>obtain⟨a2,xs,e2,g1,g2⟩:=h;cases e2;exact⟨ad,xs,rfl,t _ g1,g2⟩
  | _=>cases m
 | pen p=>cases m
 | dk k=>obtain⟨a2,xs,e2,g1,g2,g3⟩:=h;cases e2;exact⟨ad,xs,rfl,t _ g1,g2.stay (zl.same g),g3⟩
 | dt k=>obtain⟨a2,xs,e2,g1,g2⟩:=h;cases e2;exact⟨ad,xs,rfl,t _ g1,g2.stay (zl.same g)⟩
 | dn fz k=>obtain⟨a2,xs,e2,g1,g2,g3⟩:=h;cases e2;exact⟨ad,xs,rfl,g1.imp λo _ e=>t _ e,g2.stay (zl.same g),g3.stay (zl.same g)⟩
 | wd d fs kn=>cases m
 | lf ls=>cases m
 | cu k=>cases m
 | ss P w k=>obtain⟨a2,xs,e2,g1,g2⟩:=h;cases e2;exact⟨ad,xs,rfl,t _ g1,g2.stay (zl.same g)⟩
 | df k=>obtain⟨a2,ob,xs,e2,g1,g2⟩:=h;cases e2;exact⟨ad,ob,xs,rfl,t _ g1,g2.stay (zl.same g)⟩
 | kf k=>obtain⟨a2,ob,xs,e2,g1,g2⟩:=h;cases e2;exact⟨ad,ob,xs,rfl,t _ g1,g2.stay (zl.same g)⟩
 | ad a x=>cases m
 | tz kvs x=>cases m
 | fl k=>obtain⟨a2,ob,xs,e2,g1,g2⟩:=h;cases e2;exact⟨ad,ob,xs,rfl,t _ g1,g2.stay (zl.same g)⟩
def At3.move(h:At3 Pn B S M A σ H ρ n)(hj:j∈M)(hi:i∉M)(a1:i∉S)(e:ρ[j]?=some (some w))(s:σ[j]?=some (some (.ref I))):At3 Pn B S M (λb=>A b/\b≠I) (σ.set i (some (.ref I))) H ((ρ.set j none).set i (some w)) n:=by
 obtain⟨v,s1,_,s3⟩:=h.env.val j w e;rw[s] at s1;cases s1;obtain⟨a2,e2,hA,an,as⟩:=s3 hj;cases e2;have a5:i≠j:=λz=>hi (z ▸ hj);have J:∀b,(A b/\b≠I)->A b:=λb z=>z.1;have O:yM (zz A H) (zz (λb=>A b/\b≠I) H):=yb J
 have Z:∀q (u:W),((ρ.set j none).set i (some w))[q]?=some (some u)->q≠i->q≠j/\ρ[q]?=some (some u):=λq u z hq=>by
  rw[aB (Ne.symm hq)] at z;by_cases U:q=j
  ·subst U;rw[List.getElem?_set] at z
   simp_all
  ·rw[aB (Ne.symm U)] at z;exact⟨U,z⟩
 have ac:¬ B.A0 I:=λz=>by
  rcases h.mine j w I hj e s with q | q
  ·obtain⟨o,o1,o2,_⟩:=h.frm.al I z;exact q o o1 o2
  ·exact h.frm.cn I q z
 have ag:Val (λb=>A b/\b≠I) H w (.ref I):=by exact WAt.mv (λo ho=>zn (λz=>z.2 rfl) ho) O as an
 refine⟨⟨?_,?_,?_,?_⟩,⟨λb z=>⟨h.frm.sub b z,λq=>ac (q ▸ z)⟩,λb z=>h.frm.new b z.1,h.frm.st,h.frm.al,h.frm.cn,h.frm.cs⟩,h.pn.less J,h.prot.trans (zl.same O),⟨λk hk=>?_,h.fix.2⟩,λk u b hk ek sk=>?_⟩
 ·rw[bS,bS,bS];exact h.env.len
 ·intro q u eq;by_cases hq:q=i
  ·subst hq
   have Y:q<(ρ.set j none).length:=by
    have:=(af.mp eq).1
    simp_all
   rw[aZ Y] at eq;cases eq;rw[bS] at Y;refine⟨.ref I,aZ (by rw[h.env.len];exact Y),λ_=>ag,λz=>absurd z hi⟩
  ·obtain⟨U,z⟩:=Z q u eq hq;obtain⟨v,t1,t2,t3⟩:=h.env.val q u z;refine⟨v,by rw[aB (Ne.symm hq)];exact t1,λy=>WAt.up (zl.same O) (zl.same O) (t2 y),λy=>?_⟩;obtain⟨b,rfl,hb,a3,hm⟩:=t3 y;refine⟨b,rfl,⟨hb,λq'=>?_⟩,WAt.up (zl.refl _) (zl.same O) a3,hm⟩;subst q';exact h.env.dis j q w u b hj y (Ne.symm U) e z s t1
 ·intro q k u u' b hq hk a4 e1 e2;have a0:q≠i:=λz=>hi (z ▸ hq);have F:k≠i:=λz=>hi (z ▸ hk);rw[aB (Ne.symm a0),aB (Ne.symm F)];exact h.env.dis q k u u' b hq hk a4 (Z q u e1 a0).2 (Z k u' e2 F).2
 ·exact λb z=>h.env.al b z.1
 ·have F:k≠i:=λz=>a1 (z ▸ hk);rw[aB (Ne.symm F)];exact h.fix.1 k hk
 ·have F:k≠i:=λz=>hi (z ▸ hk);rw[aB (Ne.symm F)] at sk;exact h.mine k u b hk (Z k u ek F).2 sk
def znU (i j:Nat):Ms:=λρ n k=>∃w,ρ[j]?=some (some w)/\k.nx ((ρ.set j none).set i (some w)) n
def znK(j:Nat){x y:Str}{px O sp:Pos}(Z:X.N.Nodup)(hi:X.N[i]?=some x)(hx:Loc X.env.scope x)(U:j∈M:=by decide)(q:i∉M:=by decide)(F:i∉S:=by decide)(I:X.N[j]?=some y:=by rfl)(hv:Vis X.env.scope y:=by walk_at "v")(hd:(y==("__debug__" : Str))=false:=by decide)(J:(y==("__classdict__" : Str))=false:=by decide)(hs:swapsWith (.Name y O) (some (.Name x px)) sp.line X.env=pure false:=by rfl)(hf:X.fn x=true\/X.env.scope.names.lookup x=some .local:=by walk_at "l"):JS X Pn S M fr (.Assign [.Name x px] (.Name y O) sp) (znU i j):=by
 refine⟨_,xG (i:=i) Z hi hx (qv j I hv hd J) hs hf,⟨ ?_⟩⟩;rintro B A σ H ρ n k D a kk ⟨w,e,r⟩;obtain⟨v,Y,_,s3⟩:=a.env.val j w e;obtain⟨ad,rfl,hA,_,_⟩:=s3 U;exact⟨.ref ad,Y,kk.nx _ _ H _ n (a.move U q F e Y) r⟩
end
open PySem PySem.Spec L2
end L3
namespace L3
open PySem PySem.Spec L2
structure StOk (rm st:List Int):Prop where
 len:st.length=rm.length
 box:∀b:Int,0<=b->b<rm.length->0<=zB st b/\zB st b<zB rm b
def xJ:∀ (ns:List Int),(∀n∈ns,1<=n)->((z0 (ns.map zh)).length:Int)=yS ns:=by
 have:∀ (k:Nat) (ns:List Int),ns.length=k->(∀n∈ns,1<=n)->((z0 (ns.map zh)).length:Int)=yS ns:=by
  intro k
  induction k with
  | zero=>intro ns e _;rw[aY e];rfl
  | succ k B=>
   intro ns e h
   obtain⟨m,x,rfl⟩:∃m x,ns=m++[x]:=by
    have q:ns≠[]:=by intro z;rw[z] at e;cases e
    exact⟨ns.dropLast,ns.getLast q,(bv q).symm⟩
   rw[aq] at e;rw[aP,au,eI,yv,uH,xF,xH];have h1:=B m (by simpa using e) λn F=>h n (bZ _ F);have h2:=h x (aW _ (by simp));rw[Int.natCast_mul,h1,bu (by lia)]
 simp_all
def zjw:∀ {ns:List Int},(∀n∈ns,1<=n)->1<=yS ns:=λ{ns} h=>by
 have h1:=xJ ns h
 have:∀ (ns:List Int) (a:Int),1<=a->(∀n∈ns,1<=n)->1<=ns.foldl (· * ·) a:=by
  intro ns
  induction ns with
  | nil=>intro a q _;exact q
  | cons n ns F=>
   intro a q B;refine F (a * n) ?_ λm I=>B m (ai _ I);have:=B n ak;exact Int.le_trans (by decide) (Int.mul_le_mul q this (by decide) (by lia))
 exact this ns 1 (by decide) h
def zbD (a b:List Int)(k:Nat):Wi:=⟨((List.range a.length).filter λi=>!decide (i=k)).map λi:Nat=>((i:Int),a.getD i 0),(k:Int),b.getD k 0,a.getD k 0⟩
def zsI (rm:List Int)(bk:List Wi)(g:List (Int×Int)):List (List Int):=(ztm rm g).filter λst=>decide (zfc bk st (g.map (·.1))=[])
@[reducible] def zF (bk:List Wi):Dt:=.tup (bk.map zV)
def xf (rm:List Int)(bk:List Wi):Prop:=∀x∈bk,WishOk rm x
def zgz (x:Wi):(zV x).noL=true:=by have h:=zn2 x.g;unfold zV;simp only[Dt.noL,Dt.noLs,bM,Bool.true_and] at h ⊢;exact h
@[reducible] def F_bett:FV:=λ_ q n R=>∃rm bk st hs,q=[.d (stD rm),.d (zF bk),.d (stD st),.d (stD hs)]/\RoomOk rm/\xf rm bk/\st.length=rm.length/\R (.d (zbw (xz bk st hs))) n
@[reducible] def zr8:FV:=λ_ q n R=>∃rm bk g,q=[.d (stD rm),.d (zF bk),.d (zeR g)]/\RoomOk rm/\xf rm bk/\Giv rm g/\R (.d (zbw (zsI rm bk g))) n
def zgL (r:Nat):zhl 0 r=(List.range r).map λk:Nat=>W.d (.int (k:Int)):=by
 unfold zhl
 simp_all
def zfX {ns:List Int}(I:ns.length<=8)(q:∀m∈ns,2<=m/\m<=4)(k:Nat):(z0 ((ns.take k).map zh)).length<=65536:=by
 have:=zfW (cs:=ns.map zh) (by simp_all) (λc B=>by obtain⟨m,F,rfl⟩:=aG.mp B;have:=q m F;rw[xH];lia) k
 simp_all
def zpH {L:List Dt}{a:Int}{G:Dt->Prop}(q:0<=a)(h1:a<L.length)(h:∀x∈L,G x):∃x,atI L a=some x/\G x:=by obtain⟨d,h2,B⟩:=zpI q h1;exact⟨d,h2,h d B⟩
def za8:∀ {rm:List Int},(∀r∈rm,2<=r/\r<=4)->yS rm<=256->rm.length<=8:=λ{rm} B hp=>by
 have:∀ (k:Nat) (rm:List Int),rm.length=k->(∀r∈rm,2<=r/\r<=4)->(2:Int) ^ k<=yS rm:=by
  intro k
  induction k with
  | zero=>intro rm e _;rw[aY e];decide
  | succ k I=>
   intro rm e B
   obtain⟨m,x,rfl⟩:∃m x,rm=m++[x]:=by
    have q:rm≠[]:=by intro z;rw[z] at e;cases e
    exact⟨rm.dropLast,rm.getLast q,(bv q).symm⟩
   rw[aq] at e;have h1:=I m (by simpa using e) λn F=>B n (bZ _ F);have h2:=B x (aW _ (by simp));rw[xF,Int.pow_succ];have J:(0:Int)<=2 ^ k:=Int.pow_nonneg (by decide);exact Int.mul_le_mul h1 h2.1 (by decide) (by lia)
 apply ci;intro F;have h1:=this _ rm rfl B
 have h2:(2:Int) ^ 9<=2 ^ rm.length:=by
  have:(2:Nat) ^ 9<=2 ^ rm.length:=eU (by decide) (by lia)
  exact_mod_cast this
 grind
def StOk.snoc {rm st:List Int}{w v:Int}(h:StOk rm st)(I:0<=v)(J:v<w):StOk (rm++[w]) (st++[v]):=by
 have O:=h.len;refine⟨by simp_all,λb q B=>?_⟩;rw[aq] at B;by_cases F:b<(rm.length:Int)
 ·rw[za3 q (by lia),za3 q F];exact h.box b q F
 ·have e:b=(rm.length:Int):=by
   have:b<(rm.length:Int)+1:=by simpa using B
   lia
  subst e;rw[za2,<- O,za2];exact⟨I,J⟩
def uv {α q:Type}(f:α->q)(l:List α)(lo hi:Option Int):uf (l.map f) lo hi=(uf l lo hi).map f:=by
 unfold uf
 simp_all
def zbC {α:Type}(l:List α)(lo hi:Option Int):(uf l lo hi).length<=l.length:=by unfold uf;rw[bn,cm];lia
def zpP {st:List Int}{b w:Int}(q:0<=b):uf st none (some b)++[w]++uf st (some (b+1)) none=chg st b w:=by
 have h:=zm9 st (w:=w) q;have B:zcb (st.map V.int) none (some b)=(uf st none (some b)).map V.int:=by rw[<- uv];rfl
 have F:zcb (st.map V.int) (some (b+1)) none=(uf st (some (b+1)) none).map V.int:=by rw[<- uv];rfl
 rw[B,F] at h;have I:(uf st none (some b)).map V.int++[V.int w]++(uf st (some (b+1)) none).map V.int=(uf st none (some b)++[w]++uf st (some (b+1)) none).map V.int:=by rw[aP,aP];rfl
 rw[I] at h;exact dg (by grind) |>.mp h
def ziw {α q:Type}(f:α->q)(l:List α)(i:Nat)(x:α):zdF (l.map f) i (f x)=(zdF l i x).map f:=by
 unfold zdF
 simp_all
def ziv {α:Type}(l:List α)(i:Nat)(x:α):(zdF l i x).length=l.length+1:=by
 unfold zdF
 grind
def zf6 {α:Type}(l:List α)(k:Nat):uf l none (some (k:Int))=l.take k:=by
 unfold uf;rw[HT.sIx_none,HT.sIx_nat,dE,gg]
 grind
def ya:∀ (ns st:List Int),st∈z0 (ns.map zh)->StOk ns st:=by
 have:∀ (k:Nat) (ns:List Int),ns.length=k->∀st,st∈z0 (ns.map zh)->StOk ns st:=by
  intro k
  induction k with
  | zero=>
   intro ns e st q;rw[aY e] at q ⊢;rw[ao.mp q];exact⟨rfl,λb Y F=>absurd F (by simp;lia)⟩
  | succ k I=>
   intro ns e st q
   obtain⟨m,x,rfl⟩:∃m x,ns=m++[x]:=by
    have B:ns≠[]:=by intro z;rw[z] at e;cases e
    exact⟨ns.dropLast,ns.getLast B,(bv B).symm⟩
   rw[aq] at e;rw[aP,au,eI,yv] at q;obtain⟨r,J,q⟩:=eS.mp q;obtain⟨v,O,rfl⟩:=aG.mp q;obtain⟨j,U,rfl⟩:=aG.mp O;have:=aQ.mp U;exact (I m (by simpa using e) r J).snoc (by lia) (by lia)
 simp_all
def zoC {κ:Type}[DecidableEq κ](kvs:List (κ×Dt))(k:κ)(d:Dt):(zex kvs k d).length<=kvs.length+1:=by
 unfold zex;split
 all_goals simp_all
def zg4 {ns:List Int}:(Dt.lst (ns.map .int)).eqOk:=yX (ns:=ns)
def zm8{st:List Int}{b x:Int}(q:0<=b)(B:st.length<=1000)(h:Q (.d (stD (chg st b x))) n):ze8 (.d (.tup (uf (st.map Dt.int) none (some b)))) (.d (.tup [.int x])) n λw m=>ze8 w (.d (.tup (uf (st.map Dt.int) (some (b+1)) none))) m Q:=by
 have F:=zbC st none (some b);have I:=zbC st (some (b+1)) none;rw[uv,uv];refine⟨_,_,rfl,rfl,by rw[ab];exact az (by simp;lia:_<=1001) (by decide),_,_,rfl,rfl,by rw[aq,ab,ab];exact az (by simp;lia:_<=2001) (by decide),?_⟩
 have e:(uf st none (some b)).map Dt.int++[Dt.int x]++(uf st (some (b+1)) none).map Dt.int=(chg st b x).map Dt.int:=by rw[<- zpP q,aP,aP];rfl
 rw[e];exact h
section
variable {X:Cx}{Pn:PN}{M S:List Nat}{fr fr':Bool}{e a b c:Expr}{es:List Expr}{f fa fb fc:Ev->Mo W}{pos p:Pos}
end
end L3
namespace L2
open PySem PySem.Spec PyProof.Rows
def zcd(ke ve gens scope pos):eval (.DictComp ke ve gens scope pos) env=comprehension (.DictComp ke ve gens scope pos) scope env (firstIterPos gens pos) newDict (firstAsync gens) (firstIter gens env):=rfl
def zcV (ke ve target iter:Expr)(ifs:List Expr)(scope:Scope)(pos:Pos)(it:Value)(d:Addr)(env:Env) :
  compTurn (.DictComp ke ve [⟨target,iter,ifs,0⟩] scope pos) 0 it (.ref d) env=(do
   standAt iter.pos
   match <- pyNext it with
   | none=>pure (.done .next)
   | some v=>
    letOwnedTupleGo target it v
    assign target env v
    let mut ok:=true
    for c in ifs do
     if ok then ok <- isTrue c env (eval c env)
    if ok then
     (do
      let kv <- eval ke env
      let vv <- holding [kv] (eval ve env)
      standAt { ke.pos with endLine:=ve.pos.endLine,endCol:=ve.pos.endCol }
      holding [kv,vv] (dictSet d kv vv))
    again (.compLoop (.DictComp ke ve [⟨target,iter,ifs,0⟩] scope pos) 0 it (.ref d) env)):=by rfl
section
variable {prog:Program}{w:World}{A:Around}{E:Value->Shared->Prop}{R:Result->Shared->Prop}{s:Shared}
def uo {ke ve target iter ifs zw scope pos it acc env}
  (h0:codeAny (model prog w) A (.compLoop (.DictComp ke ve (⟨target,iter,ifs,0⟩::zw) scope pos) 0 it acc env) R s)
  (h:wpAny (model prog w) A (pyIter it) (λit' s'=>codeAny (model prog w) A (.compLoop (.DictComp ke ve (⟨target,iter,ifs,0⟩::zw) scope pos) 0 it' acc env) R s')
   (notedBy (model prog w) A env λx s'=>R (.error x) s') s) :
  codeAny (model prog w) A (.compStart (.DictComp ke ve (⟨target,iter,ifs,0⟩::zw) scope pos) 0 it acc env) R s:=by
 refine dZ ?_;show wpAny _ _ ((compStart (.DictComp ke ve (⟨target,iter,ifs,0⟩::zw) scope pos) 0 it acc env).onRaise (λx=>do noteFrame x env;standAt theWindowsPlace)) _ _ s;refine wpAny_notedAt ?_;unfold compStart;show wpAny _ _ (ask >>= _) _ _ s;refine aa (br (wpAny_ite ?_));split
 ·first
   | exact aa (by grind)
   | exact ae (And.intro rfl h0)
 ·first
   | exact aa (by grind)
   | (refine aa (ck ?_);show wpAny _ _ (standAt iter.pos >>= _) _ _ s;exact aa (bp (aa (aC h (λit' s' h'=>ae (And.intro rfl h')) λ_ _ x=>x))))
def zaJ(I:Nat->Shared->Prop)(turn:∀n s,I n s->wpAny (model prog w) A (pyNext it) (λr s₁=>match r with
   | none=>R (.ok .next) s₁
   | some v=>wpAny (model prog w) A (letOwnedTupleGo target it v) (λ_ s₂=>wpAny (model prog w) A (assign target env v) (λ_ s₃=>
     wpAny (model prog w) A (forIn ifs true λc r=>if r=true then do let ok <- isTrue c env (eval c env);pure (ForInStep.yield ok) else pure (ForInStep.yield r)) (λok s₄=>
      if ok=true then wpAny (model prog w) A (eval ke env) (λx s₅=>wpAny (model prog w) A (eval ve env) (λy s₆=>
       wpAny (model prog w) A (dictSet d x y) (λ_ s₇=>∃m,m<n/\I m s₇) (λ_ _=>False) s₆) (λ_ _=>False) s₅) (λ_ _=>False) s₄
      else ∃m,m<n/\I m s₄) (λ_ _=>False) s₃) (λ_ _=>False) s₂) (λ_ _=>False) s₁) (λ_ _=>False) s)(n:Nat)(h:I n s) :
  codeAny (model prog w) A (.compLoop (.DictComp ke ve [⟨target,iter,ifs,0⟩] scope pos) 0 it (.ref d) env) R s:=by
 refine dj rfl I (λn s hI=>?_) n h;show wpAny _ A ((compTurn (.DictComp ke ve [⟨target,iter,ifs,0⟩] scope pos) 0 it (.ref d) env).onRaise (λx=>do noteFrame x env;theTreesLotGoes x)) _ _ s;refine dJ ?_;rw[zcV];refine aa (bp (aa (aC (turn n s hI) (λr s₁ h₁=>?_) λ_ _ h'=>h'.elim)))
 cases r with
 | none=>exact ae h₁
 | some v=>
  refine aa (aC h₁ (λ_ s₂ h₂=>?_) λ_ _ h'=>h'.elim);refine aa (aC h₂ (λ_ s₃ h₃=>aa (aC h₃ (λok s₄ h₄=>?_) λ_ _ h'=>h'.elim)) λ_ _ h'=>h'.elim)
  cases ok with
  | false=>exact ae ⟨rfl,h₄⟩
  | true=>
   refine aa (aa (aC h₄ (λx s₅ h₅=>?_) λ_ _ h'=>h'.elim));refine aa (bL (aC h₅ (λy s₆ h₆=>?_) λ_ _ h'=>h'.elim));refine aa (bp (bL (aC h₆ (λ_ s₇ h₇=>?_) λ_ _ h'=>h'.elim)));exact ae ⟨rfl,h₇⟩
def zhb(h:Q (.ref s.heap.objs.size) { s with heap:=s.heap.push { cls:=.type "dict",data:=.dict #[] } }):wpAny (model prog w) A (newDict) Q E s:=by simp only[newDict,newObj];exact aa (wpAny_alloc (ae h))
end
section
variable {X:Cx}{pins:List (Addr×Obj)}{σ:St}{H:Hp}{s:Shared}{a:Addr}{y v:V}{u r:Value}{o:Option V}{A:Around}{E:Value->Shared->Prop}
def zh1(hu:A.units+1<cLine)(I:Inv X pins σ H s)(g:zdH H a y v H')(ry:yr y u)(rv:yr v r)(h:∀s',Inv X pins σ H' s'->Q () s') :
  wpAny (model X.prog X.w) A (dictSet a u r) Q E s:=by
 rcases g with ⟨kvs,k,e,ey,l,eH⟩ | ⟨kvs,k,b,e,ey,eb,l,eH⟩
 ·subst ey eH;obtain⟨z,O,vs,B,U⟩:=znf I.hok e;have Y:vs.length<=sizeLine:=by rw[<- B.length];exact z
  have Z:(uQ kvs k v).length<=sizeLine:=by have:=y8 kvs k v;lia
  refine wpAny_dictSet_pairs (hsz:=Y) (ziI ry) U λh' F hs=>h _ ?_;have he:∃q,h'.get? a=some q:=let ⟨q,_,_,J,_⟩:=F;⟨q,J⟩;exact zaK I (by rw[e];exact True.intro) hs he (zia Z O (B.put k rv) F)
 ·subst ey eH;cases (show u=Value.ref b from ry);obtain⟨z,O,xs,B,U⟩:=zp0 I.hok e;have Y:xs.length<=sizeLine:=by rw[<- eW B];exact z
  have Z:(uQ kvs k v).length<=sizeLine:=by have:=y8 kvs k v;lia
  refine wpAny_dictSet_heap (hsz:=Y) (Nat.lt_of_succ_lt hu) (zgn I.hok eb) U λh' F hs=>h _ ?_;obtain⟨q,es,ep,J,h2,h3,h4,_,h5⟩:=F;refine zaK I (by rw[e];exact True.intro) hs ⟨q,J⟩ ⟨Z,O,_,(B.put k eb rv).keeps λc ys ec=>?_,q,es,ep,J,h2,h3,h4,h5⟩;rw[zd (by grind)];exact ec
end
def zs0 (g:TG)(ti:TT)(tk tv:TE)(acc:Addr)(N:St->Hp->Prop)(x:V)(σ:St)(H:Hp):Prop:=
 g x σ H λq H3=>ti q H3 λB H4=>if B=true then tk q H4 λy H5=>tv q H5 λv H6=>∃H7,zdH H6 acc y v H7/\N q H7 else N q H4
def zsZ (J:It)(g:TG)(ti:TT)(tk tv:TE)(acc:Addr)(Q:VK)(σ:St)(H:Hp):Prop:=∃W:Nat->Nat->St->Hp->Prop,(∃m,W 0 m σ H)/\
 ∀i m q H',W i m q H'->(J.stop i H'/\Q (.ref acc) H')\/(J.go i H'/\∃N:St->Hp->Prop,(∀ B H2,N B H2->∃F,F<m/\W (i+1) F B H2)/\∀x H2,J.yld i H' x H2->zs0 g ti tk tv acc N x q H2)
def zj4 (o0:HO)(wi:TI)(g:TG)(ti:TT)(tk tv:TE)(cix:List (Option Nat)):TE:=λσ H Q=>wi σ H λJ H1=>∀acc,H1 acc=none->zsZ J g ti tk tv acc Q (xA σ cix) (upd H1 acc o0)
section
variable {X:Cx}{Fam:Cx->Prop}{scope:Scope}{N:List Str}{cix:List (Option Nat)}{z:Str}{use:Option (Value->Sem Unit)}{Qp:Value->Shared->Prop}{elt ke ve tg iter tg2 iter2:Expr}{ifs ifs2:List Expr}{pos ipos spos px:Pos}{wi wi2:TI}{g g2:TG}{ti ti2:TT}{te tk tv:TE}{pins:List (Addr×Obj)}{σ:St}{H:Hp}{s:Shared}{Q:VK}{o0:HO}
def zh9 (Z:o0 = .dK []\/o0 = .dT [])(hu:X.A.units+1<cLine)(O:Opn X scope cix Fam)(hc:X.calm=true)(hi:PI X tg iter wi)(hg:∀X',Fam X'->PG X' tg g)(ht:∀X',Fam X'->PTs X' ifs ti)(hk:∀X',Fam X'->PE X' ke tk)(hv:∀X',Fam X'->PE X' ve tv)(hs:∀x,foldedSetIterable iter X.env x=pure x)(I:Inv X pins σ H s)
  (h:zj4 o0 wi g ti tk tv cix σ H Q) (F:zr7 X pins σ use Qp Q) :
  wpAny (model X.prog X.w) X.A (comprehension (.DictComp ke ve [⟨tg,iter,ifs,0⟩] scope pos) scope X.env ipos newDict false (eval iter X.env) use) Qp X.xe s:=
 uu (ob:={ cls:=.type "dict",data:=.dict #[] }) (o0:=λ_=>o0) (Fin:=λacc H=>Q (.ref acc) H) (B:=λX' acc P s=>wpAny (model X'.prog X'.w) X'.A (eval ke X'.env) (λx s5=>wpAny (model X'.prog X'.w) X'.A (eval ve X'.env) (λy s6=>wpAny (model X'.prog X'.w) X'.A (dictSet acc x y) (λ_ s7=>P s7) (λ_ _=>False) s6) (λ_ _=>False) s5) (λ_ _=>False) s) (tb:=λacc Nx σ H=>tk σ H λy H5=>tv σ H5 λv H6=>∃H7,zdH H6 acc y v H7/\Nx σ H7) O hc rfl hs (λ_ _ _ _ _ h0 h1=>uo h0 h1) (λ_ _ _ _ _ _ I U n h=>zaJ I U n h) (λs Q h=>zhb h) (λ{_ _ _ s} I _=>by
  rcases Z with rfl | rfl
  ·exact zf9 s.heap I.big
  ·exact zkx s.heap I.big) hi hg ht (λX' hF pX wX AX _ xX acc pl s σ H Nx P I q k=>by
  have e9:=hk X' hF pl s σ H _ I q;rw[xX] at e9;refine thn e9 ?_;rintro u2 ac ⟨y,H10,I10,ad,ag⟩;have Y:=hv X' hF pl ac σ H10 _ I10 ag;rw[xX] at Y;refine thn Y ?_;rintro u3 an ⟨v,H11,I11,al,H12,dp,nx⟩;exact zh1 (by rw[AX];exact hu) I11 dp ad al λs' I'=>k _ _ _ I' nx) I h (λJ H1 acc q hn=>q acc hn) F
end
def zfB{X:Cx}{tk tv:TE}{ifs:List Expr}{scope:Scope}{wi:TI}{g:TG}{ti:TT}{N:List Str}{o0:HO}(B:o0 = .dK []\/o0 = .dT [])(F:X.A.units+1<cLine)(J:X.calm=true)(c:CompOk X scope N cix)(hi:QI X tg iter wi)(O:∀C s H ex,QG (zj X scope N C s H ex) tg g)(U:∀C s H ex,QTs (zj X scope N C s H ex) ifs ti)(Y:∀C s H ex,QE (zj X scope N C s H ex) ke tk)(Z:∀C s H ex,QE (zj X scope N C s H ex) ve tv)(hs:∀x,foldedSetIterable iter X.env x=pure x:=by intro _;rfl):QE X (.DictComp ke ve [⟨tg,iter,ifs,0⟩] scope pos) (zj4 o0 wi g ti tk tv cix):=⟨λpins s σ H Q I h=>by
 rw[zcd];exact zh9 B F (uB c) J hi.run (zaC λC s H ex=>(O C s H ex).run) (zaC λC s H ex=>(U C s H ex).run) (zaC λC s H ex=>(Y C s H ex).run) (zaC λC s H ex=>(Z C s H ex).run) hs I h λ_ _ _ _ _ hm hb q=>zcZ hm hb q⟩
section
variable {X:Cx}{pins:List (Addr×Obj)}{σ:St}{H:Hp}{A:Around}
end
end L2
namespace L3
open PySem PySem.Spec L2
section
variable {X:Cx}{Pn:PN}{M S:List Nat}{fr fr':Bool}{e a b c:Expr}{es:List Expr}{f fa fb fc:Ev->Mo W}{pos p:Pos}
def zhd (ks:List (List Int×V)):NP (dtO ks):=λ_ e=>by cases e
def zmh (mg:W->Ev->(Ev->Prop)->Prop)(ft:Ev->Mo Bool)(fk fv:Ev->Mo W)(J:Ev)(Q:W->Nat->Prop):List W->Nat->Prop:=λl n1=>l.length<=lim/\∃I:Nat->Ev->Nat->List (List Int×Dt)->Prop,I 0 J n1 []/\
 (∀i w B F acc,l[i]?=some w->I i B F acc->mg w B λq=>ft q F λb n2=>if b=true then fk q n2 λy n3=>fv q n3 λx O=>∃st d,y = .d (stD st)/\x = .d d/\I (i+1) q O (zex acc st d) else I (i+1) q n2 acc)/\
 ∀ B F acc,I l.length B F acc->Q (.dt acc) F
@[reducible] def zi5 (q:Ev->Mo (List W)) (mg:W->Ev->(Ev->Prop)->Prop) (ft:Ev->Mo Bool) (fk fv:Ev->Mo W) (cix:List (Option Nat)):Ev->Mo W:=λρ n Q=>q ρ n (zmh mg ft fk fv (uG ρ cix) Q)
def zpX (mg:W->Ev->(Ev->Prop)->Prop)(ft:Ev->Mo Bool)(fk fv:Ev->Mo W)(J:Ev)(Q:W->Nat->Prop):List W->Nat->Prop:=λl n1=>l.length<=lim/\∃I:Nat->Ev->Nat->List (Key×Dt)->Prop,I 0 J n1 []/\
 (∀i w B F acc,l[i]?=some w->I i B F acc->mg w B λq=>ft q F λb n2=>if b=true then fk q n2 λy n3=>fv q n3 λx O=>∃ (j:Int) (d:Dt),y = .d (.int j)/\x = .d d/\I (i+1) q O (zex acc (Sum.inl j) d) else I (i+1) q n2 acc)/\
 ∀ B F acc,I l.length B F acc->Q (.dk acc) F
@[reducible] def ztp (q:Ev->Mo (List W)) (mg:W->Ev->(Ev->Prop)->Prop) (ft:Ev->Mo Bool) (fk fv:Ev->Mo W) (cix:List (Option Nat)):Ev->Mo W:=λρ n Q=>q ρ n (zpX mg ft fk fv (uG ρ cix) Q)
def zjJ{wi:TI}{g:TG}{ti:TT}{tk tv:TE}{cix:List (Option Nat)}{fi:Ev->Mo (List W)}{mg:W->Ev->(Ev->Prop)->Prop}{ft:Ev->Mo Bool}{fk fv:Ev->Mo W}(hn:(cix.filterMap id).Nodup)(hi:RI Pn M ow wi fi)(hg:RG (zK M cix) (zK M cix) g mg)(ht:RT Pn (zK M cix) ti ft)(hk:RB Pn (zK M cix) tk fk)(he:RE Pn (zK M cix) fr' tv fv):RE Pn M true (zj4 (.dT []) wi g ti tk tv cix) (zi5 fi mg ft fk fv cix):=⟨λA σ H ρ n Q R E P hf k=>by
 refine hi.run A σ H ρ n _ _ E P hf λl m J H1 ⟨hz,I,i0,it,ie⟩ iv g1=>λacc B=>?_;have E1:=E.stay g1.st;have E2:=(E1.cap hn).more (zl.upd (o:=.dT []) B) (Fr.of B) zf (zhd []) rfl;have P2:yK Pn (λb=>A b\/b=acc) m (L2.upd H1 acc (.dT [])):=g1.pn.grow' (g1.pn.same (yM.upd B)) (Fr.of B) zf (zhd []) rfl
 have a5:∀k w,k∈zK M cix->(uG ρ cix)[k]?=some (some w)->(xA σ cix)[k]?≠some (some (.ref acc)):=λk w hk hw z=>by obtain⟨v,s1,_,s3⟩:=(E1.cap hn).val k w hw;obtain⟨a,e,hA,_⟩:=s3 hk;rw[z] at s1;cases s1;cases e;exact E1.new B hA
 have key:∀ O F H',EnvR (λb=>A b\/b=acc) (zK M cix) O H' F->(∀k∈zK M cix,O[k]?=(xA σ cix)[k]?/\F[k]?=(uG ρ cix)[k]?)->∀k w,k∈zK M cix->F[k]?=some (some w)->O[k]?≠some (some (.ref acc)):=λO F H' E' as k w hk hw z=>by simp_all
 refine⟨λi mm O H'=>mm=l.length - i/\i<=l.length/\∃ F n' q xs,EnvR (λb=>A b\/b=acc) (zK M cix) O H' F/\yK Pn (λb=>A b\/b=acc) n' H'/\I i F n' q/\H' acc=some (dtO xs)/\xp (zz (λb=>A b\/b=acc) H') q xs/\q.length<=i/\zl (zz A H1) (zz (λb=>A b\/b=acc) H')/\zl H1 H'/\(∀k∈zK M cix,O[k]?=(xA σ cix)[k]?/\F[k]?=(uG ρ cix)[k]?),
  ⟨l.length,by simp,aN _,_,m,[],[],E2,P2,i0,zf,rfl,ah _,yp (zl.upd B) (Fr.of B),zl.upd B,λk hk=>⟨rfl,rfl⟩⟩,?_⟩
 rintro i mm O H' ⟨rfl,a7,F,n',q,xs,E',P',hI,Y,Z,bb,st,s1,as⟩;by_cases a1:i<l.length
 ·right;have an:l[i]?=some l[i]:=aj a1;obtain⟨go,yl⟩:=iv.one i l[i] _ H' an st (λ_=>s1) λp hp=>E'.new hp
  refine⟨go,λa0 H2=>∃ F n' q xs,EnvR (λb=>A b\/b=acc) (zK M cix) a0 H2 F/\yK Pn (λb=>A b\/b=acc) n' H2/\I (i+1) F n' q/\H2 acc=some (dtO xs)/\xp (zz (λb=>A b\/b=acc) H2) q xs/\q.length<=i+1/\zl (zz A H1) (zz (λb=>A b\/b=acc) H2)/\zl H1 H2/\(∀k∈zK M cix,a0[k]?=(xA σ cix)[k]?/\F[k]?=(uG ρ cix)[k]?),
   λa0 H2 h=>⟨l.length - (i+1),by lia,rfl,a1,h⟩,λx H2 hy=>?_⟩
  obtain⟨S2,V2⟩:=yl x H2 hy;refine hg.run _ O H2 F x l[i] _ _ (E'.stay (zl.same S2)) V2 (it i l[i] F n' q an hI) λac U r3 E3 f3=>?_;have ad:∀k∈zK M cix,ac[k]?=(xA σ cix)[k]?/\U[k]?=(uG ρ cix)[k]?:=λk hk=>⟨(f3 k hk).1.trans (as k hk).1,(f3 k hk).2.trans (as k hk).2⟩;refine ht.run _ ac H2 U n' _ _ E3 (P'.same S2) r3 λb m3 H4 r4 g4=>?_;have ag:=(zl.same S2).trans g4.st
  cases b with
  | false=>
   rw[if_neg (by decide)] at r4 ⊢;exact⟨U,m3,q,xs,E3.stay g4.st,g4.pn,r4,ag _ _ Y (zhd _),Z.stay (zp ag),by lia,st.trans (zp ag),s1.trans ag,ad⟩
  | true=>
   rw[if_pos rfl] at r4 ⊢;refine hk.run _ ac H4 U m3 _ _ (E3.stay g4.st) g4.pn r4 λy5 m5 u5 H5 r5 B5 g5=>?_;refine he.run _ ac H5 U m5 _ _ ((E3.stay g4.st).stay g5.st) g5.pn r5  ?_;rintro w6 m6 v6 H6 ⟨ky,d,ey,e6,r6⟩ V6 g6 _;subst ey e6;have al:=(ag.trans g5.st).trans g6.st;have E6:=((E3.stay g4.st).stay g5.st).stay g6.st;have a2:H6 acc=some (dtO xs):=al _ _ Y (zhd _);obtain⟨bd,zs,rfl,a3,hx⟩:=xK (B5.stay g6.st);obtain rfl:=hx.of_ints;have bc:=zoC q ky d;refine⟨_,zdH.i a2 a3 (zbK (by rw[Z.len];lia)),U,m6,zex q ky d,uQ xs ky v6,E6.upd (.inr rfl) (key ac U H6 E6 ad) (zhd _) rfl,g6.pn.upd (.inr rfl),r6,zf,?_,by lia,?_,?_,ad⟩
   ·rw[zC (.inr rfl)];exact (Z.stay (zp al)).put V6.is
   ·rw[zC (.inr rfl)];exact st.trans (zp al)
   ·exact λb o e nn=>by rw[zd (zg e B)];exact s1.trans al b o e nn
 ·refine Or.inl ?_;have a4:i=l.length:=by lia
  subst a4;refine⟨iv.stop _ H' st (λ_=>s1),k _ n' _ H' (ie F n' q hI) ⟨acc,xs,rfl,zn (E1.new B) Y,Z.stay (zl.same (yb λb z=>.inl z))⟩ (g1.trans ⟨s1,P'.less λa z=>.inl z⟩) λ_=>⟨acc,rfl,(Fr.of B).back g1.st,⟨_,Y,rfl⟩,acc,xs,rfl,Y,Z⟩⟩⟩
def zum(h:∀C s H ex,JB (zj X scope N C s H ex) Pn M e f):∃te,(∀C s H ex,QE (zj X scope N C s H ex) e te)/\RB Pn M te f:=
 ⟨λσ H Q=>∀C s H0 ex,(h C s H0 ex).ex.choose σ H Q,λC s H0 ex=>⟨λpins s' σ H Q I z=>(h C s H0 ex).ex.choose_spec.1.run pins s' σ H Q I (z C s H0 ex)⟩,
  ⟨λA σ H ρ n Q R E P q k C s H0 ex=>(h C s H0 ex).ex.choose_spec.2.run A σ H ρ n Q R E P q k⟩⟩
def zkR(B:X.A.units+1<cLine)(F:X.calm=true)(cc:CompOk X scope N cix)(hi:JI X Pn M ow tg iter q)(I:∀C s H ex,JG (zj X scope N C s H ex) (zK M cix) (zK M cix) tg mg)(J:∀C s H ex,JTs (zj X scope N C s H ex) Pn (zK M cix) ifs ft)(O:∀C s H ex,JB (zj X scope N C s H ex) Pn (zK M cix) ke fk)(U:∀C s H ex,JE (zj X scope N C s H ex) Pn (zK M cix) fr' ve fv)(Y:(cix.filterMap id).Nodup:=by decide)(hs:∀x,foldedSetIterable iter X.env x=pure x:=by intro _;rfl):JE X Pn M true (.DictComp ke ve [⟨tg,iter,ifs,0⟩] scope pos) (zi5 q mg ft fk fv cix):=by
 obtain⟨ti,Z,ri⟩:=hi.ex;obtain⟨g,qg,rg⟩:=zfR I;obtain⟨tt,qt,rt⟩:=zfS J;obtain⟨tk,qk,rk⟩:=zum O;obtain⟨te,qe,re⟩:=zkd U;exact⟨_,zfB (o0:=.dT []) (by simp) B F cc Z qg qt qk qe hs,zjJ Y ri rg rt rk re⟩
end
open PySem PySem.Spec L2
@[reducible] def onI (w:W) (P:Int->Prop):Prop:=match w with | .d (.int i)=>P i | _=>False
@[reducible] def onB (w:W) (P:Bool->Prop):Prop:=match w with | .d (.bl i)=>P i | _=>False
@[reducible] def onT (w:W) (P:List Dt->Prop):Prop:=match w with | .d (.tup i)=>P i | _=>False
@[reducible] def onL (w:W) (P:List Dt->Prop):Prop:=match w with | .d (.lst i)=>P i | _=>False
@[reducible] def onS (w:W) (P:List Dt->Prop):Prop:=match w with | .d (.lst i)=>P i | .d (.tup i)=>P i | _=>False
@[reducible] def onD (w:W) (P:Dt->Prop):Prop:=match w with | .d i=>P i | _=>False
@[reducible] def onK (w:W) (P:List (Key×Dt)->Prop):Prop:=match w with | .dk i=>P i | _=>False
@[reducible] def onE (w:W) (P:List (List Int×Dt)->Prop):Prop:=match w with | .dt i=>P i | _=>False
@[reducible] def onO {α:Type} (o:Option α) (P:α->Prop):Prop:=match o with | some i=>P i | none=>False
@[reducible] def onC (c:Bool) (A B:Prop):Prop:=match c with | true=>A | false=>B
@[reducible] def on1 (l:List W) (P:W->Prop):Prop:=match l with | [a]=>P a | _=>False
@[reducible] def on2 (l:List W) (P:W->W->Prop):Prop:=match l with | [a,b]=>P a b | _=>False
@[reducible] def onV:Ev->Nat->(W->Prop)->Prop
 | [],_,_=>False
 | a::_,0,P=>onO a P
 | _::r,i+1,P=>onV r i P
@[reducible] def onP:Ev->Nat->W->(Ev->Prop)->Prop
 | [],_,_,Q=>Q []
 | _::r,0,w,Q=>Q (some w::r)
 | a::r,i+1,w,Q=>onP r i w λq=>Q (a::q)
@[reducible] def onN:Ev->Nat->(Ev->Prop)->Prop
 | [],_,Q=>Q []
 | _::r,0,Q=>Q (none::r)
 | a::r,i+1,Q=>onN r i λq=>Q (a::q)
@[reducible] def zbS {α:Type}:Nat->List α->Prop->Prop
 | 0,[],P=>P
 | k+1,_::r,P=>zbS k r P
 | _,_,_=>False
def zar{P:Int->Prop}:onI w P = ∃i,w = .d (.int i)/\P i:=propext ⟨λh=>by rcases w with (x|x|x|x|_|_) <;> first | exact False.elim h | (cases x <;> first | exact False.elim h | exact⟨_,rfl,h⟩),by simp_all⟩
def zqy:onB w P = ∃i,w = .d (.bl i)/\P i:=propext ⟨λh=>by rcases w with (x|x|x|x|_|_) <;> first | exact False.elim h | (cases x <;> first | exact False.elim h | exact⟨_,rfl,h⟩),by rintro⟨i,e,h⟩;subst e;exact h⟩
def zcB:onT w P = ∃i,w = .d (.tup i)/\P i:=propext ⟨λh=>by rcases w with (x|x|x|x|_|_) <;> first | exact False.elim h | (cases x <;> first | exact False.elim h | exact⟨_,rfl,h⟩),by simp_all⟩
def zbR:onL w P = ∃i,w = .d (.lst i)/\P i:=propext ⟨λh=>by rcases w with (x|x|x|x|_|_) <;> first | exact False.elim h | (cases x <;> first | exact False.elim h | exact⟨_,rfl,h⟩),by simp_all⟩
def zgD:onS w P = ∃i,(w = .d (.lst i)\/w = .d (.tup i))/\P i:=propext ⟨λh=>by rcases w with (x|x|x|x|_|_) <;> first | exact False.elim h | (cases x <;> first | exact False.elim h | exact⟨_,.inl rfl,h⟩ | exact⟨_,.inr rfl,h⟩),by rintro⟨i,e,h⟩;rcases e with e | e <;> subst e <;> exact h⟩
def xl:onD w P = ∃i,w = .d i/\P i:=propext ⟨λh=>by cases w <;> first | exact False.elim h | exact⟨_,rfl,h⟩,by simp_all⟩
def zqB{P:List (List Int×Dt)->Prop}:onE w P = ∃i,w = .dt i/\P i:=propext ⟨λh=>by cases w <;> first | exact False.elim h | exact⟨_,rfl,h⟩,by simp_all⟩
def zcA {α:Type}{w:Option α}{P:α->Prop}:onO w P = ∃i,w=some i/\P i:=propext ⟨λh=>by cases w <;> first | exact False.elim h | exact⟨_,rfl,h⟩,by simp_all⟩
def zbQ{A B:Prop}:onC c A B=if c=true then A else B:=by cases c <;> simp[onC]
def zbP:on1 l P = ∃a,l=[a]/\P a:=propext ⟨λh=>by rcases l with (_|⟨a,_|⟨b,l⟩⟩) <;> first | exact False.elim h | exact⟨_,rfl,h⟩,by simp_all⟩
def za5:∀ {ρ:Ev} {i:Nat} {P:W->Prop},onV ρ i P = ∃w,ρ[i]?=some (some w)/\P w
 | [],i,P=>by simp[onV]
 | some w::r,0,P=>by simp[onV]
 | none::r,0,P=>by simp[onV]
 | some w::r,i+1,P=>by simpa [onV] using za5 (ρ:=r) (i:=i) (P:=P)
 | none::r,i+1,P=>by simpa [onV] using za5 (ρ:=r) (i:=i) (P:=P)
def za4:∀ {ρ:Ev} {i:Nat} {w:W} {Q:Ev->Prop},onP ρ i w Q=Q (ρ.set i (some w))
 | [],i,w,Q=>rfl
 | a::r,0,w,Q=>rfl
 | a::r,i+1,w,Q=>by rw[onP,za4];rfl
def zmA:∀ {ρ:Ev} {i:Nat} {Q:Ev->Prop},onN ρ i Q=Q (ρ.set i none)
 | [],i,Q=>rfl
 | a::r,0,Q=>rfl
 | a::r,i+1,Q=>by rw[onN,zmA];rfl
def zas {α:Type}:∀ {k:Nat} {l:List α} {P:Prop},zbS k l P=(l.length=k/\P)
 | 0,[],P=>by simp[zbS]
 | 0,a::r,P=>by simp[zbS]
 | k+1,[],P=>by simp[zbS]
 | k+1,a::r,P=>by simp[zbS,zas (l:=r)]
def zck {P:Prop}[Decidable P]{A B:Prop}(h1:P->A)(h2:¬ P->B):onC (decide P) A B:=by
 by_cases h:P
 all_goals simp_all
def zn5 {P:Prop}[Decidable P]{A B:Prop}(h1:¬ P->A)(h2:P->B):onC (!decide P) A B:=by
 by_cases h:P
 all_goals simp_all
def zn4{A B:Prop}(h1:c=true->A)(h2:c=false->B):onC c A B:=by
 cases c
 ·exact h2 rfl
 ·exact h1 rfl
def zqz{A B:Prop}(h1:c=false->A)(h2:c=true->B):onC (!c) A B:=by
 cases c
 ·exact h1 rfl
 ·exact h2 rfl
def zqA{A B:Prop}(h:c=true)(h1:A):onC c A B:=by subst h;exact h1
def zdi{A B:Prop}(h:c=false)(h1:B):onC c A B:=by subst h;exact h1
def zer {α:Type}{o:Option α}{a:α}{P:α->Prop}(e:o=some a)(h:P a):onO o P:=by subst e;exact h
def onA{st:List Int}{b:Int}(q:0<=b)(h1:b<st.length)(h:P (.int (zB st b))):onO (atI (st.map Dt.int) b) P:=zer (zm4 q h1) h
def zqx {L:List Dt}{a:Int}{P:Dt->Prop}(q:0<=a)(h1:a<L.length)(h:∀x∈L,P x):onO (atI L a) P:=by obtain⟨x,e,B⟩:=zpH q h1 h;exact zer e B
def onG {α:Type}{L:List α}{f:α->Dt}{i:Nat}{x:α}{P:Dt->Prop}(e:L[i]?=some x)(h:P (f x)):onO (atI (L.map f) (i:Int)) P:=zer (zf0 (by simp_all)) h
section
variable {X:Cx}{Pn:PN}{M S:List Nat}{fr fr':Bool}{e a b c:Expr}{es:List Expr}{f fa fb fc g:Ev->Mo W}{pos p:Pos}{t u:Ev->Mo Bool}{fs gs:Ev->Mo (List W)}
def wE (h:f=g)(j:JE X Pn M fr e f):JE X Pn M fr e g:=h ▸ j
def wB (h:f=g)(j:JB X Pn M e f):JB X Pn M e g:=h ▸ j
def wT (h:t=u)(j:JT X Pn M e t):JT X Pn M e u:=h ▸ j
def wW (h:t=u)(j:JW X Pn M e t):JW X Pn M e u:=h ▸ j
def wO {f g:Ev->Mo (Option Int)}{e:Option Expr}(h:f=g)(j:JO X Pn M e f):JO X Pn M e g:=h ▸ j
def wG {f g:W->Ev->(Ev->Prop)->Prop}(h:f=g)(j:JG X S M e f):JG X S M e g:=h ▸ j
def wH {f g:List Dt->Ev->(Ev->Prop)->Prop}(h:f=g)(j:JGs X S M es f):JGs X S M es g:=h ▸ j
def wI(h:fs=gs)(j:JI X Pn M ow tg e fs):JI X Pn M ow tg e gs:=h ▸ j
def wS {s:Stmt}{f g:Ms}(h:f=g)(j:JS X Pn S M fr s f):JS X Pn S M fr s g:=h ▸ j
@[reducible] def zg2 (i:Nat):Ev->Mo W:=λρ n Q=>onV ρ i λw=>Q w n
def zja:zqs i=zg2 i:=by funext ρ n Q;exact za5.symm
def kv (i:Nat){x:Str}(hi:i∉M:=by decide)(B:X.N[i]?=some x:=by rfl)(F:Vis X.env.scope x:=by walk_at "v")(I:(x==("__debug__" : Str))=false:=by decide)
  (q:(x==("__classdict__" : Str))=false:=by decide):JE X Pn M false (.Name x pos) (zg2 i):=wE zja (ztg i hi B F I q)
def kb(i:Nat)(B:X.N[i]?=some x:=by rfl)(F:Vis X.env.scope x:=by walk_at "v")(I:(x==("__debug__" : Str))=false:=by decide)(q:(x==("__classdict__" : Str))=false:=by decide):JB X Pn M (.Name x pos) (zg2 i):=wB zja (ztd i B F I q)
@[reducible] def zpV (fa:Ev->Mo W):Ev->Mo Bool:=λρ n Q=>fa ρ n λx m=>onB x λc=>Q c m
def zu:znY fa=zpV fa:=by funext ρ n Q;simp only[znY,zpV,zqy]
@[reducible] def zsf (t u:Ev->Mo Bool):Ev->Mo Bool:=λρ n Q=>t ρ n λc m=>onC c (u ρ m Q) (Q false m)
def zaQ:zsn t u=zsf t u:=by funext ρ n Q;simp only[zsn,zsf,zbQ]
@[reducible] def dOr (t u:Ev->Mo Bool):Ev->Mo Bool:=λρ n Q=>t ρ n λc m=>onC c (Q true m) (u ρ m Q)
def zgv:mOr t u=dOr t u:=by funext ρ n Q;simp only[mOr,dOr,zbQ]
@[reducible] def dNot (t:Ev->Mo Bool):Ev->Mo Bool:=λρ n Q=>t ρ n λc m=>onC c (Q false m) (Q true m)
def zi8:ztz t=dNot t:=by funext ρ n Q;simp only[ztz,dNot];congr 1;funext c m;cases c <;> rfl
@[reducible] def dAndV (fa fb:Ev->Mo W):Ev->Mo W:=λρ n Q=>fa ρ n λx m=>onB x λc=>onC c (fb ρ m Q) (Q (.d (.bl false)) m)
@[reducible] def dOrV (fa fb:Ev->Mo W):Ev->Mo W:=λρ n Q=>fa ρ n λx m=>onB x λc=>onC c (Q (.d (.bl true)) m) (fb ρ m Q)
@[reducible] def dNotV (fa:Ev->Mo W):Ev->Mo W:=λρ n Q=>fa ρ n λx m=>onB x λc=>Q (.d (.bl (!c))) m
@[reducible] def dIf (t:Ev->Mo Bool) (fa fb:Ev->Mo W):Ev->Mo W:=λρ n Q=>t ρ n λc m=>onC c (fa ρ m Q) (fb ρ m Q)
def zqr:mIf t fa fb=dIf t fa fb:=by funext ρ n Q;simp only[mIf,dIf,zbQ]
@[reducible] def dI (C:Int->Int->Prop) (g:Int->Int->Dt):W->W->Mo W:=λx y n Q=>onI x λi=>onI y λj=>C i j/\Q (.d (g i j)) n
def zp4 {C:Int->Int->Prop}{g:Int->Int->Dt}:fI C g=dI C g:=by funext x y n Q;simp only[dI,zar];exact propext ⟨by rintro⟨i,j,q,B,h⟩;exact⟨i,q,j,B,h⟩,by rintro⟨i,q,j,B,h⟩;exact⟨i,j,q,B,h⟩⟩
@[reducible] def dI0 (g:Int->Int->Dt):W->W->Mo W:=λx y n Q=>onI x λi=>onI y λj=>Q (.d (g i j)) n
def zdY {g:Int->Int->Dt}:fI0 g=dI0 g:=by funext x y n Q;simp only[dI0,zar];exact propext ⟨by rintro⟨i,j,q,B,h⟩;exact⟨i,q,j,B,h⟩,by rintro⟨i,q,j,B,h⟩;exact⟨i,j,q,B,h⟩⟩
def u4:F2 Pn false (rI0 λi j=>.int (i+j)) (dI0 λi j=>.int (i+j)):=zdY ▸ zun
def zrX:F2 Pn false (rI0 λi j=>.int (i - j)) (dI0 λi j=>.int (i - j)):=zdY ▸ zux
def zrW:F2 Pn false (rI zl5 λi j=>.int (i * j)) (dI zl5 λi j=>.int (i * j)):=zp4 ▸ zuv
def zrV:F2 Pn false (rI (λ_ j=>0<j) λi j=>.int (i % j)) (dI (λ_ j=>0<j) λi j=>.int (i % j)):=zp4 ▸ zuu
def u_lt:F2 Pn false (rI0 λi j=>.bl (decide (i<j))) (dI0 λi j=>.bl (decide (i<j))):=zdY ▸ v_lt
def u_le:F2 Pn false (rI0 λi j=>.bl (decide (i<=j))) (dI0 λi j=>.bl (decide (i<=j))):=zdY ▸ v_le
def u_gt:F2 Pn false (rI0 λi j=>.bl (decide (i > j))) (dI0 λi j=>.bl (decide (j<i))):=zdY ▸ v_gt
@[reducible] def dNeg:W->Mo W:=λx n Q=>onI x λi=>Q (.d (.int (-i))) n
@[reducible] def dEq:W->W->Mo W:=λx y n Q=>onD x λa=>onD y λb=>onO (sEq a b) λr=>Q (.d (.bl r)) n
def zp3:fEq=dEq:=by
 funext x y n Q;simp only[fEq,dEq,xl,zcA]
 simp_all
@[reducible] def dNe:W->W->Mo W:=λx y n Q=>onD x λa=>onD y λb=>onO (sEq a b) λr=>Q (.d (.bl (!r))) n
def zp6:fNe=dNe:=by
 funext x y n Q;simp only[fNe,dNe,xl,zcA]
 simp_all
def zpy:F2 Pn false rEq dEq:=zp3 ▸ v_eq
def zul:F2 Pn false rNe dNe:=zp6 ▸ v_ne
@[reducible] def zsM:W->W->Mo W:=λx y n Q=>onD x λa=>onD y λb=>a.eqOk/\b.eqOk/\∀r:Bool,(r=true↔a=b)->Q (.d (.bl r)) n
@[reducible] def zsW:W->W->Mo W:=λx y n Q=>onD x λa=>onD y λb=>a.eqOk/\b.eqOk/\∀r:Bool,(r=true↔a=b)->Q (.d (.bl (!r))) n
def znk:zs4=zsM:=by
 funext x y n Q;simp only[zs4,zsM,xl]
 simp_all
def znp:zs9=zsW:=by
 funext x y n Q;simp only[zs9,zsW,xl]
 simp_all
def zrT:F2 Pn false zsv zsM:=znk ▸ zup
def zeJ:F2 Pn false zsy zsW:=znp ▸ zuw
@[reducible] def dIsB:W->W->Mo W:=λx y n Q=>onB x λa=>onB y λb=>Q (.d (.bl (a==b))) n
@[reducible] def zsR:W->W->Mo W:=λx y n Q=>onB x λa=>onB y λb=>Q (.d (.bl (a != b))) n
@[reducible] def dInI:W->W->Mo W:=λx y n Q=>onI x λb=>onS y λl=>∃ns:List Int,l=ns.map .int/\Q (.d (.bl (ns.contains b))) n
@[reducible] def zcX:W->W->Mo W:=λx y n Q=>onI x λb=>onS y λl=>∃ns:List Int,l=ns.map .int/\Q (.d (.bl (!ns.contains b))) n
def zg5:ze9=zcX:=by funext x y n Q;simp only[ze9,zcX,zar,zgD];exact propext ⟨by rintro⟨a,b,q,B,h⟩;exact⟨a,q,_,B,b,rfl,h⟩,by rintro⟨a,q,l,B,b,e,h⟩;subst e;exact⟨a,b,q,B,h⟩⟩
def zlV:F2 Pn false (rIn K true) zcX:=zg5 ▸ zlY
@[reducible] def xr:Bool->Bool->Bool
 | false,b=>b
 | true,b=>!b
@[reducible] def zsP (q:Bool):W->W->Mo W:=λx y n Q=>onD x λd=>onS y λds=>d.eqOk/\(Dt.lst ds).eqOk/\∀b:Bool,(b=true↔d∈ds)->Q (.d (.bl (xr q b))) n
def zr6 {q b:Bool}:(if q then !b else b)=xr q b:=by cases q <;> rfl
def znl:zs5 q=zsP q:=by
 funext x y n Q;simp only[zs5,zsP,xl,zgD,zr6]
 simp_all
def zpk:F2 Pn false (zt3 q) (zsP q):=znl ▸ zuq
@[reducible] def zsg:W->W->Mo W:=λx y n Q=>onT x λl=>onI y λi=>onO (atI l i) λd=>Q (.d d) n
@[reducible] def zsT:W->W->Mo W:=λx y n Q=>onL x λl=>onI y λi=>onO (atI l i) λd=>Q (.d d) n
def znn:zs7=zsg:=by
 funext x y n Q;simp only[zs7,zsg,zcB,zar,zcA]
 simp_all
def znm:zs6=zsT:=by
 funext x y n Q;simp only[zs6,zsT,zbR,zar,zcA]
 simp_all
def zaA:F2 Pn false (zsx K) zsg:=znn ▸ zus
def zkc:F2 Pn false (zsw K) zsT:=znm ▸ zur
@[reducible] def zne:W->W->Mo W:=λx y n Q=>onT x λl=>onT y λm=>l.length+m.length<=lim/\Q (.d (.tup (l++m))) n
@[reducible] def znd:W->W->Mo W:=λx y n Q=>onL x λl=>onL y λm=>l.length+m.length<=lim/\Q (.d (.lst (l++m))) n
def zkB:ze8=zne:=by
 funext x y n Q;simp only[ze8,zne,zcB]
 simp_all
def zkA:znj=znd:=by
 funext x y n Q;simp only[znj,znd,zbR]
 simp_all
def uF:F2 Pn false (zjE K) zne:=zkB ▸ zr2
def zmU:F2 Pn true zoR znd:=zkA ▸ zr1
@[reducible] def dRepT:W->W->Mo W:=λx y n Q=>onT x λl=>onI y λj=>(1<=j/\j<=1000000/\l.length * j.toNat<=lim)/\Q (.d (.tup (List.replicate j.toNat l).flatten)) n
@[reducible] def dRepL:W->W->Mo W:=λx y n Q=>onL x λl=>onI y λj=>(0<=j/\j<=1000000/\l.length * j.toNat<=lim)/\Q (.d (.lst (List.replicate j.toNat l).flatten)) n
@[reducible] def zsU:List W->Mo W:=λq n Q=>on1 q λx=>onO (lenD x) λk=>Q (.d (.int (k:Int))) n
def zno:zs8=zsU:=by
 funext ws n Q;simp only[zs8,zsU,zbP,zcA]
 simp_all
def zcl:FL Pn false (λxs H Q=>∃x n,xs=[x]/\zsa K x H n/\Q (.int n) H) zsU:=zno ▸ zut
@[reducible] def dAbs:List W->Mo W:=λq n Q=>on1 q λx=>onI x λi=>Q (.d (.int (if i<0 then -i else i))) n
@[reducible] def dMin:List W->Mo W:=λq n Q=>on2 q λx y=>onI x λi=>onI y λj=>Q (.d (.int (if j<i then j else i))) n
@[reducible] def dMax:List W->Mo W:=λq n Q=>on2 q λx y=>onI x λi=>onI y λj=>Q (.d (.int (if j > i then j else i))) n
@[reducible] def zsL:List W->Mo W:=λB n Q=>on1 B λx=>onL x λl=>∃q:List Bool,l=q.map .bl/\Q (.d (.bl (q.all id))) n
def zni:zs3=zsL:=by funext ws n Q;simp only[zs3,zsL,zbP,zbR];exact propext ⟨by rintro⟨x,e,h⟩;exact⟨_,e,_,rfl,x,rfl,h⟩,by simp_all⟩
def zuk:FL Pn false (λxs H Q=>∃ (p:Addr) (q:List Bool),xs=[.ref p]/\Rd H p (.lst (q.map V.bl))/\Q (.bl (q.all id)) H) zsL:=zni ▸ zuo
@[reducible] def zpR:List W->Mo W:=λq n Q=>on1 q λx=>onS x λl=>Q (.d (.lst l)) n
@[reducible] def zmg:List W->Mo W:=λq n Q=>on1 q λx=>onS x λl=>Q (.d (.tup l)) n
def zrJ:(∃l,(q=[.d (.lst l)]\/q=[.d (.tup l)])/\P l)=on1 q λx=>onS x P:=by
 simp only[zbP,zgD]
 grind
def zmV:FL Pn true (zjF K) zpR:=(show zp5=zpR by funext ws n Q;exact zrJ) ▸ zr3
def zb9:FL Pn false (zfH K) zmg:=(show zml=zmg by funext ws n Q;exact zrJ) ▸ zpl
@[reducible] def dDictT:List W->Mo W:=λq n Q=>on1 q λx=>onT x λl=>∃ps:List (Int×Dt),l=ps.map prD/\(ps.map (·.1)).Nodup/\ps.length<=1000/\Q (.dk (ps.map kvD)) n
@[reducible] def dInt1:List W->Mo W:=λq n Q=>on1 q λx=>match x with
 | .d (.int i)=>Q (.d (.int i)) n
 | .d (.bl b)=>Q (.d (.int (if b then 1 else 0))) n
 | _=>False
@[reducible] def dSortI:List W->Mo W:=λB n Q=>on1 B λx=>onL x λl=>∃ns:List Int,l=ns.map .int/\ns.length<64/\∀q:List Int,q.Perm ns->q.Pairwise (·<=·)->Q (.d (.lst (q.map .int))) n
@[reducible] def dSortT:List W->Mo W:=λB n Q=>on1 B λx=>onL x λl=>∃ (sts:List (List Int)) (m:Nat),l=sts.map stD/\sts.length<64/\1<=m/\(∀st∈sts,st.length=m)/\sts.Nodup/\∀q:List (List Int),q.Perm sts->(q.Pairwise λa b=>HT.lexLt a b=true)->Q (.d (zbw q)) n
@[reducible] def dListD:List W->Mo W:=λq n Q=>on1 q λx=>onE x λkvs=>((kvs.map (·.1)).Nodup->Q (.d (.lst ((kvs.map (·.1)).map stD))) n)
end
open PySem PySem.Spec L2
section
variable {fa fb fc f fk fd fv:Ev->Mo W}{t u:Ev->Mo Bool}{fs gs:Ev->Mo (List W)}
@[reducible] def zpU (fa:Ev->Mo W):Ev->Mo (Option Int):=λρ n Q=>fa ρ n λx m=>onI x λi=>Q (some i) m
def yy:znW fa=zpU fa:=by funext ρ n Q;simp only[znW,zpU,zar]
@[reducible] def dSlT (fa:Ev->Mo W) (fl q:Ev->Mo (Option Int)):Ev->Mo W:=λρ n Q=>fa ρ n λx n1=>fl ρ n1 λlo n2=>q ρ n2 λhi n3=>onT x λl=>Q (.d (.tup (uf l lo hi))) n3
def uz {fl q:Ev->Mo (Option Int)}:ztB fa fl q=dSlT fa fl q:=by funext ρ n Q;simp only[ztB,dSlT,zcB]
@[reducible] def dSlL (fa:Ev->Mo W) (fl q:Ev->Mo (Option Int)):Ev->Mo W:=λρ n Q=>fa ρ n λx n1=>fl ρ n1 λlo n2=>q ρ n2 λhi n3=>onL x λl=>Q (.d (.lst (uf l lo hi))) n3
def zft {fl q:Ev->Mo (Option Int)}:ztA fa fl q=dSlL fa fl q:=by funext ρ n Q;simp only[ztA,dSlL,zbR]
@[reducible] def dRevT (fa:Ev->Mo W):Ev->Mo W:=λρ n Q=>fa ρ n λx m=>onT x λl=>Q (.d (.tup l.reverse)) m
@[reducible] def dRevL (fa:Ev->Mo W):Ev->Mo W:=λρ n Q=>fa ρ n λx m=>onL x λl=>Q (.d (.lst l.reverse)) m
@[reducible] def dDGet (fd fk:Ev->Mo W):Ev->Mo W:=λρ n Q=>fd ρ n λx n1=>fk ρ n1 λy n2=>onK x λkvs=>onO (zsl y) λk=>onO (yt kvs k) λd=>Q (.d d) n2
@[reducible] def dDIn (q:Bool) (fk fd:Ev->Mo W):Ev->Mo W:=λρ n Q=>fk ρ n λy n1=>fd ρ n1 λx n2=>onK x λkvs=>onO (zsl y) λk=>Q (.d (.bl (xr q (yt kvs k).isSome))) n2
@[reducible] def dFn (k:Nat) (F:List W->Mo W) (fs:Ev->Mo (List W)):Ev->Mo W:=λρ n Q=>fs ρ n λq m=>zbS k q (F q m Q)
def zq:mFn k F fs=dFn k F fs:=by funext ρ n Q;simp only[mFn,dFn,zas]
@[reducible] def dFnB (k:Nat) (fr:Bool) (F:List W->Mo W) (fs:Ev->Mo (List W)):Ev->Mo W:=λρ n Q=>fs ρ n λq m=>zbS k q (F q m λw B=>W.flat fr w=true/\Q w B)
def zfr:zsp k fr F fs=dFnB k fr F fs:=by funext ρ n Q;simp only[zsp,dFnB,zas]
@[reducible] def eN (i:Nat):W->Ev->(Ev->Prop)->Prop:=λw ρ Q=>onP ρ i w Q
def zN:gN i=eN i:=by funext w ρ Q;exact za4.symm
@[reducible] def eNl:List Dt->Ev->(Ev->Prop)->Prop:=λds ρ Q=>match ds with | []=>Q ρ | _=>False
def zac:gNl=eNl:=by
 funext ds ρ Q
 cases ds with
 | nil=>simp[gNl,eNl]
 | cons _ _=>simp[gNl,eNl]
@[reducible] def eCn (g:W->Ev->(Ev->Prop)->Prop) (u:List Dt->Ev->(Ev->Prop)->Prop):List Dt->Ev->(Ev->Prop)->Prop:=λds ρ Q=>match ds with | d::r=>g (.d d) ρ λq=>u r q Q | []=>False
def zW {g:W->Ev->(Ev->Prop)->Prop}{u:List Dt->Ev->(Ev->Prop)->Prop}:gCn g u=eCn g u:=by
 funext ds ρ Q
 cases ds with
 | nil=>simp[gCn,eCn]
 | cons d r=>exact propext ⟨by rintro⟨d',q,e,h⟩;cases e;exact h,λh=>⟨d,r,rfl,h⟩⟩
@[reducible] def eTp (n:Nat) (u:List Dt->Ev->(Ev->Prop)->Prop):W->Ev->(Ev->Prop)->Prop:=λw ρ Q=>onT w λds=>zbS n ds (u ds ρ Q)
def zad {n:Nat}{u:List Dt->Ev->(Ev->Prop)->Prop}:gTp n u=eTp n u:=by funext w ρ Q;simp only[gTp,eTp,zcB,zas]
@[reducible] def dItL (fa:Ev->Mo W):Ev->Mo (List W):=λρ n Q=>fa ρ n λx m=>onL x λl=>Q (l.map W.d) m
@[reducible] def dItT (fa:Ev->Mo W):Ev->Mo (List W):=λρ n Q=>fa ρ n λx m=>onT x λl=>Q (l.map W.d) m
def uX:ztv fa=dItL fa:=by funext ρ n Q;simp only[ztv,dItL,zbR]
def uZ:ztx fa=dItT fa:=by funext ρ n Q;simp only[ztx,dItT,zcB]
@[reducible] def dItR (fs:Ev->Mo (List W)):Ev->Mo (List W):=λρ n Q=>fs ρ n λq m=>on1 q λx=>onI x λj=>(j<=1000000/\-1000000<=j)/\Q (zhl 0 j.toNat) m
def uY:ztw fs=dItR fs:=by funext ρ n Q;simp only[ztw,dItR,zbP,zar];congr 1;funext ws m;exact propext ⟨by simp_all,by simp_all⟩
@[reducible] def dItR2 (fs:Ev->Mo (List W)):Ev->Mo (List W):=λρ n Q=>fs ρ n λq m=>on2 q λx y=>onI x λi=>onI y λj=>(j<=1000000/\-1000000<=j/\i<=1000000/\-1000000<=i)/\Q (zhl i (j - i).toNat) m
@[reducible] def dItE (fs:Ev->Mo (List W)):Ev->Mo (List W):=λρ n Q=>fs ρ n λq m=>on1 q λx=>onT x λl=>Q (enW 0 l) m
@[reducible] def dItEL (fs:Ev->Mo (List W)):Ev->Mo (List W):=λρ n Q=>fs ρ n λq m=>on1 q λx=>onL x λl=>Q (enW 0 l) m
def zi7:ztu fs=dItE fs:=by funext ρ n Q;simp only[ztu,dItE,zbP,zcB];congr 1;funext ws m;exact propext ⟨by simp_all,by simp_all⟩
@[reducible] def dItZ (fs:Ev->Mo (List W)):Ev->Mo (List W):=λρ n Q=>fs ρ n λq m=>on2 q λx y=>onT x λl=>onT y λk=>l.length=k.length/\Q (ziW l k) m
@[reducible] def dItZM (fs:Ev->Mo (List W)):Ev->Mo (List W):=λρ n Q=>fs ρ n λq m=>on2 q λx y=>onL x λl=>onT y λk=>l.length=k.length/\Q (ziW l k) m
@[reducible] def dItZL (fs:Ev->Mo (List W)):Ev->Mo (List W):=λρ n Q=>fs ρ n λq m=>on2 q λx y=>onL x λl=>onL y λk=>Q (ziW l k) m
@[reducible] def dIfS (t:Ev->Mo Bool) (f g:Ms):Ms:=λρ n k=>t ρ n λc m=>onC c (blk f ρ m k) (blk g ρ m k)
def z6 {f g:Ms}:zts t f g=dIfS t f g:=by funext ρ n k;simp only[zts,dIfS,zbQ]
@[reducible] def zsY (i:Nat):Ms:=λρ n k=>onV ρ i λw=>k.rt w n
def zgw:znX i=zsY i:=by funext ρ n k;exact za5.symm
@[reducible] def dSet (i:Nat) (f:Ev->Mo W):Ms:=λρ n k=>f ρ n λw m=>onP ρ i w λq=>k.nx q m
def zD:znS f (gN i)=dSet i f:=by show znS f (gN i)=znS f (eN i);rw[zN]
@[reducible] def dOwn (i:Nat) (f:Ev->Mo W):Ms:=λρ n k=>f ρ n λw m=>onC (W.mut w) (onP ρ i w λρ'=>k.nx ρ' m) False
def uy:zsr i f=dOwn i f:=by funext ρ n k;simp only[zsr,dOwn,za4 (Q:=λρ'=>k.nx ρ' _)];congr 1;funext w m;cases h:W.mut w <;> simp
@[reducible] def dApp (i:Nat) (f:Ev->Mo W):Ms:=λρ n k=>onV ρ i λv=>onL v λl=>f ρ n λw m=>onD w λd=>l.length<lim/\onP ρ i (.d (.lst (l++[d]))) λq=>k.nx q m
def zfp:(onV ρ i λv=>onL v P) = ∃l,ρ[i]?=some (some (.d (.lst l)))/\P l:=by simp only[za5,zbR];exact propext ⟨by simp_all,by simp_all⟩
def zc9:zso i f=dApp i f:=by
 funext ρ n k;simp only[zso,dApp,zfp,xl,za4 (Q:=λq=>k.nx q _)];refine propext ⟨λ⟨⟨l,e⟩,h⟩=>⟨l,e,?_⟩,λ⟨l,e,h⟩=>⟨⟨l,e⟩,?_⟩⟩
 all_goals
  simp_all
@[reducible] def dExt (i:Nat) (f:Ev->Mo W):Ms:=λρ n k=>onV ρ i λv=>onL v λl=>f ρ n λw m=>onL w λB=>l.length+B.length<=lim/\onP ρ i (.d (.lst (l++B))) λq=>k.nx q m
def znT:ztr i f=dExt i f:=by
 funext ρ n k;simp only[ztr,dExt,zfp];simp only[zbR,za4 (Q:=λq=>k.nx q _)];refine propext ⟨λ⟨⟨l,e⟩,h⟩=>⟨l,e,?_⟩,λ⟨l,e,h⟩=>⟨⟨l,e⟩,?_⟩⟩
 all_goals
  simp_all
@[reducible] def dIns (i:Nat) (fk f:Ev->Mo W):Ms:=λρ n k=>onV ρ i λv=>onL v λl=>fk ρ n λy m=>f ρ m λw B=>onD w λd=>onI y λj=>(0<=j/\j<=l.length/\l.length<lim)/\onP ρ i (.d (.lst (zdF l j.toNat d))) λq=>k.nx q B
def zi6:ztt i fk f=dIns i fk f:=by
 funext ρ n k;simp only[ztt,dIns,zfp,xl,zar,za4 (Q:=λq=>k.nx q _)];refine propext ⟨λ⟨⟨l,e⟩,h⟩=>⟨l,e,?_⟩,λ⟨l,e,h⟩=>⟨⟨l,e⟩,?_⟩⟩
 all_goals
  refine (congrArg (fk ρ n) ?_).mp h;funext y m;refine congrArg (f ρ m) ?_;funext w m2;refine propext ?_;simp[e,and_assoc]
@[reducible] def dPopS (i:Nat) (fk:Ev->Mo W):Ms:=λρ n k=>onV ρ i λv=>onL v λl=>fk ρ n λy m=>onI y λj=>(0<=j/\j<l.length/\l.length<=lim)/\onP ρ i (.d (.lst (l.eraseIdx j.toNat))) λq=>k.nx q m
@[reducible] def zsi (i:Nat):Ms:=λρ n k=>onV ρ i λv=>onL v λl=>onP ρ i (.d (.lst l.reverse)) λq=>k.nx q n
@[reducible] def dPut (i:Nat) (fk f:Ev->Mo W):Ms:=λρ n k=>onV ρ i λv=>onL v λl=>f ρ n λw m=>fk ρ m λy B=>onD w λd=>onI y λj=>(0<=j/\j<l.length)/\onP ρ i (.d (.lst (l.set j.toNat d))) λq=>k.nx q B
@[reducible] def onSt (w:W) (P:List Int->Prop):Prop:=∃st,w = .d (stD st)/\P st
@[reducible] def dDGetT (fd fk:Ev->Mo W):Ev->Mo W:=λρ n Q=>fd ρ n λx n1=>fk ρ n1 λy n2=>onE x λkvs=>∃st,y = .d (stD st)/\onO (yt kvs st) λd=>Q (.d d) n2
@[reducible] def dDPutT (i:Nat) (fk f:Ev->Mo W):Ms:=λρ n k=>onV ρ i λv=>onE v λkvs=>f ρ n λw m=>fk ρ m λy B=>onD w λd=>∃st,y = .d (stD st)/\kvs.length<lim/\onP ρ i (.dt (zex kvs st d)) λq=>k.nx q B
@[reducible] def zpS (i j:Nat):Ms:=λρ n k=>onV ρ j λw=>onN ρ j λq=>onP q i w λB=>k.nx B n
def zk6:znU i j=zpS i j:=by funext ρ n k;simp only[znU,zpS,za5,za4 (Q:=λq=>k.nx q _),zmA (Q:=λB=>k.nx (B.set i (some _)) n)]
@[reducible] def dPar (i j:Nat) (fs:Ev->Mo (List W)):Ms:=λρ n k=>fs ρ n λF m=>on2 F λw u=>onP ρ i w λq=>onP q j u λB=>k.nx B m
@[reducible] def dIsi (B:Dt->Bool) (f:Ev->Mo W):Ev->Mo W:=λρ n Q=>f ρ n λw m=>onD w λd=>Q (.d (.bl (B d))) m
@[reducible] def zf7 (fs:Ev->Mo (List W)):Ev->Mo W:=λρ n Q=>fs ρ n λq m=>on1 q λx=>onI x λj=>(0<=j/\j<=1000)/\Q (.d (.lst (zlI j.toNat))) m
@[reducible] def zpW (fs:Ev->Mo (List W)):Ev->Mo W:=λρ n Q=>fs ρ n λq m=>on1 q λx=>onI x λj=>(0<=j/\j<=1000)/\Q (.d (.tup (zlI j.toNat))) m
def zrx {q:List W}{P:Nat->Prop}:(∃j:Nat,q=[.d (.int (j:Int))]/\j<=1000/\P j)=on1 q λx=>onI x λj=>(0<=j/\j<=1000)/\P j.toNat:=by simp only[zbP,zar];exact propext ⟨by rintro⟨j,e,h1,h⟩;exact⟨_,e,_,rfl,⟨by lia,by lia⟩,by simpa using h⟩,by rintro⟨x,e,j,B,⟨h1,h2⟩,h⟩;exact⟨j.toNat,by grind,by lia,h⟩⟩
def zfs:zda fs=zf7 fs:=by funext ρ n Q;simp only[zda,zf7];congr 1;funext ws m;exact zrx (P:=λj=>Q (.d (.lst (zlI j))) m)
@[reducible] def dTru (f:Ev->Mo W):Ev->Mo Bool:=λρ n Q=>f ρ n λw m=>onO (truD w) λb=>Q b m
@[reducible] def dChain (F G:W->W->Mo W) (fa fb fc:Ev->Mo W):Ev->Mo W:=λρ n Q=>fa ρ n λx n1=>fb ρ n1 λy n2=>F x y n2 λz n3=>onB z λk=>onC k (fc ρ n3 λu q=>G y u q Q) (Q (.d (.bl false)) n3)
def zhO{α:Type}(xs:List α)(F:α->W)(Y:l=xs.map F)(J:Ev->Prop)(P:α->Bool)(E:α->Dt)(O:xs.length<=lim)(j0:J I)(h:∀a∈xs,∀ B,J B->∀C:Ev->Nat->Option Dt->Prop,(∀ {q},P a=true->J q->C q n (some (E a)))->(∀ {q},P a=false->J q->C q n none)->mg (F a) B λq=>ft q n λb n2=>onC b (U q n2 λx n3=>onD x λd=>C q n3 (some d)) (C q n2 none))(fin:Q (.d (.lst ((xs.filter P).map E))) n):zhQ mg ft U I Q l n:=by
 refine zhS xs F Y J P E O j0 (λa Z B hj C hC=>?_) fin;have:=h a Z B hj C (λ{q} e z=>by simp_all) λ{q} e z=>by have:=hC q z;rwa[if_neg (by rw[e];decide)] at this
 simp only[zbQ,xl] at this;exact this
def zdS{α:Type}(xs:List α)(F:α->W)(Y:l=xs.map F)(J:Ev->Prop)(E:α->Dt)(O:xs.length<=lim)(j0:J I)(h:∀a∈xs,∀ B,J B->∀C:Ev->Nat->Dt->Prop,(∀ {q},J q->C q n (E a))->mg (F a) B λq=>U q n λx n3=>onD x λd=>C q n3 d)(fin:Q (.d (.lst (xs.map E))) n):zhQ mg zss U I Q l n:=by
 refine zkr xs F Y J E O j0 (λa Z B hj C hC=>?_) fin;have:=h a Z B hj C λ{q} z=>hC q z;simp only[xl] at this;exact this
end
open PySem PySem.Spec L2
@[reducible] def rep:Nat->(Ev->Prop)->Prop
 | 0,Q=>Q []
 | k+1,Q=>rep k λρ=>Q (none::ρ)
@[reducible] def beg:List W->Nat->(Ev->Prop)->Prop
 | [],r,Q=>rep r Q
 | w::q,r,Q=>beg q r λρ=>Q (some w::ρ)
def zjN:∀ {r:Nat} {Q:Ev->Prop},rep r Q=Q (List.replicate r none)
 | 0,Q=>rfl
 | r+1,Q=>by rw[rep,zjN];rfl
def zmb:∀ {q:List W} {r:Nat} {Q:Ev->Prop},beg q r Q=Q (q.map some++List.replicate r none)
 | [],r,Q=>by rw[beg,zjN];rfl
 | w::q,r,Q=>by rw[beg,zmb];rfl
def zmz {P:Program}{w:World}{K:PySem.W.Frag}{mg:Str->Option Value}{base:Heap}{qual:Str}{st:Stmt}{f:Addr}{fd:FuncData}{N ps:List Str}{k m:Nat}{fr:Bool}{F:PN->List W->Mo W}(M:List Nat)(r:Nat)(J:(∀vs H Q E,spV m fr F vs H Q E->vs.length=ps.length)->(∀ (q:Value) (A:Around) (outer:List Env) (s:Shared) (H:Hp) (vs:List V) (Q:VK) (E:XK),Room k (A.deeper (PyProof.Rows.envOfC qual (zb st) s.heap.objs.size f q))->spV m fr F vs H Q E->
   ∃t,QSs (zdE CX0 P w K mg base N qual (zb st) f q A outer s H E).nox (zE st) t/\t { nx:=λ_ H'=>Q .non H',rt:=Q } (L2.xg N vs) H)->FnOk P w K mg base CX0 (k+1) f fd ps (spV m fr F)) (O:m=ps.length) (U:∀i∈M,m<=i) (Y:N.length=m+r)
  (B:∀ (q:Value) (A:Around) (outer:List Env) (s:Shared) (H:Hp) (E:XK) (Pn:PN),Room k (A.deeper (PyProof.Rows.envOfC qual (zb st) s.heap.objs.size f q))->
   ∃fs,JSs (zdE CX0 P w K mg base N qual (zb st) f q A outer s H E).nox Pn [] M fr (zE st) fs/\∀I n R,F Pn I n R->beg I r λρ=>fs ρ n { nx:=λ_ Z=>onC fr False (R (.d .non) Z),rt:=R }):FnOk P w K mg base CX0 (k+1) f fd ps (spV m fr F):=by
 refine zqv M J O U λq A outer s H E Pn hr=>?_;obtain⟨fs,h1,h2⟩:=B q A outer s H E Pn hr;refine⟨fs,h1,λI n R hl hF=>?_⟩;have:=h2 I n R hF;rw[zmb] at this;have e:zaz N I=I.map some++List.replicate r none:=by unfold zaz;rw[Y,hl,Nat.add_sub_cancel_left]
 grind
def Fun.okW(M:List Nat)(r:Nat)(Fu:Fun K x qual st f fd)(S:FnScope N ps (zb st))(J:m=ps.length)(O:∀i∈M,m<=i)(U:N.length=m+r)(q:∀ (B:Value) (A:Around) (outer:List Env) (s:Shared) (H:Hp) (E:XK) (Pn:PN),Room k (A.deeper (PyProof.Rows.envOfC qual (zb st) s.heap.objs.size f B))->
   ∃fs,JSs (zdE CX0 P w K mg base N qual (zb st) f B A outer s H E).nox Pn [] M fr (zE st) fs/\∀I n R,F Pn I n R->beg I r λρ=>fs ρ n { nx:=λ_ Y=>onC fr False (R (.d .non) Y),rt:=R }):FnOk P w K mg base CX0 (k+1) f fd ps (spV m fr F):=zmz M r (λl b=>Fun.okQ Fu S l b) J O U q
def FunD.okW(M:List Nat)(r:Nat)(Fu:FunD K x qual st f fd)(S:FnScope N ps (zb st))(J:m=ps.length)(O:∀i∈M,m<=i)(U:N.length=m+r)(q:∀ (B:Value) (A:Around) (outer:List Env) (s:Shared) (H:Hp) (E:XK) (Pn:PN),Room k (A.deeper (PyProof.Rows.envOfC qual (zb st) s.heap.objs.size f B))->
   ∃fs,JSs (zdE CX0 P w K mg base N qual (zb st) f B A outer s H E).nox Pn [] M fr (zE st) fs/\∀I n R,F Pn I n R->beg I r λρ=>fs ρ n { nx:=λ_ Y=>onC fr False (R (.d .non) Y),rt:=R }):FnOk P w K mg base CX0 (k+1) f fd ps (spV m fr F):=zmz M r (λl b=>FunD.okQ Fu S l b) J O U q
@[reducible] def dItS (i:Nat):Ev->Mo (List W):=λρ n Q=>onV ρ i λx=>onS x λl=>Q (l.map W.d) n
def zru{fs:Ms}(h:rep r λρ=>fs (a::b::ρ) n k):fs (a::b::List.replicate r none) n k:=by rw[zjN] at h;exact h
def len1 {st:List Int}{x:Dt}(h:st.length<=1000):(st.map Dt.int).length+[x].length<=lim:=by rw[ab];exact az (by simp;lia:_<=1001) (by decide)
def cat1 {st:List Int}{x:Int}:st.map Dt.int++[Dt.int x]=(st++[x]).map Dt.int:=by simp_all
def zhM {st:List Int}{b x:Int}(q:0<=b)(B:st.length<=1000):uf (st.map Dt.int) none (some b)++[Dt.int x]++uf (st.map Dt.int) (some (b+1)) none=(chg st b x).map Dt.int:=by
 have key:∀z:W,ze8 (.d (.tup (uf (st.map Dt.int) none (some b)))) (.d (.tup [.int x])) 0 (λw m=>ze8 w (.d (.tup (uf (st.map Dt.int) (some (b+1)) none))) m λw' _=>w' = .d (stD (chg st b x))):=λz=>zm8 q B rfl;obtain⟨l,m,F,I,_,J,O,U,Y,_,h⟩:=key (.d .non)
 grind
def zf4 {st:List Int}{b:Int}{x:Dt}(q:st.length<=1000):(uf (st.map Dt.int) none (some b)).length+[x].length<=lim:=by have:=zbC (st.map Dt.int) none (some b);rw[ab] at this;exact az (by simp;lia:_<=1001) (by decide)
def zf5{st:List Int}{b c:Int}(q:st.length<=1000):(uf (st.map Dt.int) none (some b)++[x]).length+(uf (st.map Dt.int) (some c) none).length<=lim:=by have h1:=zbC (st.map Dt.int) none (some b);have h2:=zbC (st.map Dt.int) (some c) none;rw[ab] at h1 h2;rw[aq];exact az (by simp;lia:_<=2001) (by decide)
def scR (mg:W->Ev->(Ev->Prop)->Prop)(ft:Ev->Mo Bool)(O:Ev->Mo W)(J:Ev)(Q:List (List Int)->Nat->Prop):List W->Nat->Prop:=λl n1=>∃I:Nat->Ev->Nat->List (List Int)->Prop,I 0 J n1 []/\
 (∀i w q F acc,l[i]?=some w->I i q F acc->mg w q λB=>ft B F λb n2=>if b=true then O B n2 λx n3=>∃st,x = .d (stD st)/\I (i+1) B n3 (acc++[st]) else I (i+1) B n2 acc)/\
 (∀i q F acc ks,I i q F acc->List.Nodup ks->(∀z∈ks,z∈acc)->ks.length<300)/\
 ∀ q F acc ks,I l.length q F acc->List.Nodup ks->(∀z,z∈ks↔z∈acc)->Q ks F
@[reducible] def zi9 (q:Ev->Mo (List W)) (mg:W->Ev->(Ev->Prop)->Prop) (ft:Ev->Mo Bool) (B:Ev->Mo W) (cix:List (Option Nat)):Ev->Mo W:=λρ n Q=>q ρ n (scR mg ft B (uG ρ cix) λks F=>∃m,ks.length<64/\1<=m/\(∀st∈ks,st.length=m)/\∀l':List (List Int),l'.Perm ks->(l'.Pairwise λa b=>HT.lexLt a b=true)->Q (.d (zbw l')) F)
def zji:NP (zgQ P w a xs):=zgy
def zo6{ks:List (List Int)}(S:zfU P w (upd H acc o) acc ks):NP o/\Mt o:=by obtain⟨xs,h1,_⟩:=S;rw[zf] at h1;cases h1;exact⟨zji,rfl⟩
section
variable {X:Cx}{Pn:PN}{M S:List Nat}{fr fr':Bool}{pos p:Pos}
def zjK{P:Program}{w:World}{wi:TI}{g:TG}{ti:TT}{te:TE}{cix:List (Option Nat)}{fi:Ev->Mo (List W)}{mg:W->Ev->(Ev->Prop)->Prop}{ft:Ev->Mo Bool}{fe:Ev->Mo W}(hn:(cix.filterMap id).Nodup)(hi:RI Pn M ow wi fi)(hg:RG (zK M cix) (zK M cix) g mg)(ht:RT Pn (zK M cix) ti ft)(he:RE Pn (zK M cix) fr' te fe):RE Pn M true (tCB (zmI P w) (zho (zpf P w wi g ti te cix) zpx)) (zi9 fi mg ft fe cix):=⟨λA σ H ρ n Q R E Pp hf k=>by
 refine hi.run A σ H ρ n _ _ E Pp hf λl m J H1 ⟨I,i0,it,ib,ie⟩ iv g1=>λacc F S0=>?_;have E1:=E.stay g1.st;have E2:=(E1.cap hn).more (zl.upd (o:=zgQ P w acc []) F) (Fr.of F) zf zji rfl;have P2:yK Pn (λb=>A b\/b=acc) m (L2.upd H1 acc (zgQ P w acc [])):=g1.pn.grow' (g1.pn.same (yM.upd F)) (Fr.of F) zf zji rfl
 have b2:∀k w,k∈zK M cix->(uG ρ cix)[k]?=some (some w)->(xA σ cix)[k]?≠some (some (.ref acc)):=λk w hk hw z=>by obtain⟨v,s1,_,s3⟩:=(E1.cap hn).val k w hw;obtain⟨a,e,hA,_⟩:=s3 hk;rw[z] at s1;cases s1;cases e;exact E1.new F hA
 have key:∀ O q H',EnvR (λb=>A b\/b=acc) (zK M cix) O H' q->(∀k∈zK M cix,O[k]?=(xA σ cix)[k]?/\q[k]?=(uG ρ cix)[k]?)->∀k w,k∈zK M cix->q[k]?=some (some w)->O[k]?≠some (some (.ref acc)):=λO q H' E' as k w hk hw z=>by simp_all
 refine⟨λi mm O H'=>mm=l.length - i/\i<=l.length/\∃ q Y B ks,EnvR (λb=>A b\/b=acc) (zK M cix) O H' q/\yK Pn (λb=>A b\/b=acc) Y H'/\I i q Y B/\zfU P w H' acc ks/\(∀z,z∈ks↔z∈B)/\zl (zz A H1) (zz (λb=>A b\/b=acc) H')/\zl H1 H'/\(∀k∈zK M cix,O[k]?=(xA σ cix)[k]?/\q[k]?=(uG ρ cix)[k]?),
  ⟨l.length,by simp,aN _,_,m,[],[],E2,P2,i0,S0,λ_=>Iff.rfl,yp (zl.upd F) (Fr.of F),zl.upd F,λk hk=>⟨rfl,rfl⟩⟩,?_⟩
 rintro i mm O H' ⟨rfl,b3,q,Y,B,ks,E',P',hI,hS,hm,st,s1,as⟩;have a2:ks.Nodup:=hS.choose_spec.2.2.2;by_cases a3:i<l.length
 ·right;have an:l[i]?=some l[i]:=aj a3;obtain⟨go,yl⟩:=iv.one i l[i] _ H' an st (λ_=>s1) λp hp=>E'.new hp
  refine⟨go,λa0 H2=>∃ q Y B ks,EnvR (λb=>A b\/b=acc) (zK M cix) a0 H2 q/\yK Pn (λb=>A b\/b=acc) Y H2/\I (i+1) q Y B/\zfU P w H2 acc ks/\(∀z,z∈ks↔z∈B)/\zl (zz A H1) (zz (λb=>A b\/b=acc) H2)/\zl H1 H2/\(∀k∈zK M cix,a0[k]?=(xA σ cix)[k]?/\q[k]?=(uG ρ cix)[k]?),
   λa0 H2 h=>⟨l.length - (i+1),by lia,rfl,a3,h⟩,λx H2 hy=>?_⟩
  obtain⟨S2,V2⟩:=yl x H2 hy;refine hg.run _ O H2 q x l[i] _ _ (E'.stay (zl.same S2)) V2 (it i l[i] q Y B an hI) λad U r3 E3 f3=>?_;have Z:∀k∈zK M cix,ad[k]?=(xA σ cix)[k]?/\U[k]?=(uG ρ cix)[k]?:=λk hk=>⟨(f3 k hk).1.trans (as k hk).1,(f3 k hk).2.trans (as k hk).2⟩;refine ht.run _ ad H2 U Y _ _ E3 (P'.same S2) r3 λb m3 H4 r4 g4=>?_;have ag:=(zl.same S2).trans g4.st
  cases b with
  | false=>
   rw[if_neg (by decide)] at r4 ⊢;exact⟨U,m3,B,ks,E3.stay g4.st,g4.pn,r4,hS.stay ag,hm,st.trans (zp ag),s1.trans ag,Z⟩
  | true=>
   rw[if_pos rfl] at r4 ⊢;refine he.run _ ad H4 U m3 _ _ (E3.stay g4.st) g4.pn r4  ?_;rintro w5 m5 v5 H5 ⟨d,e5,r5⟩ V5 g5 _;subst e5;have a1:=ag.trans g5.st;have E5:=(E3.stay g4.st).stay g5.st;obtain⟨b,rfl,hb⟩:=zmW V5;refine⟨b,d,ks,rfl,hb,hS.stay a1,ib i q Y B ks hI a2 λz hz=>(hm z).mp hz,λo bc S' bd b4=>?_⟩;obtain⟨np,nt⟩:=zo6 S';refine⟨U,m5,B++[d],bc,E5.upd (.inr rfl) (key ad U H5 E5 Z) np nt,g5.pn.upd (.inr rfl),r5,S',λz=>?_,?_,?_,Z⟩
   ·rw[bd z,av,ao,hm z,or_comm]
   ·rw[zC (.inr rfl)];exact st.trans (zp a1)
   ·exact λb o e nn=>by rw[zd (zg e F)];exact s1.trans a1 b o e nn
 ·refine Or.inl ?_;have bl:i=l.length:=by lia
  subst bl;refine⟨iv.stop _ H' st (λ_=>s1),?_⟩;obtain⟨ml,bo,h1,bs,hq⟩:=ie q Y B ks hI a2 hm;refine⟨acc,ks,ml,rfl,hS,bo,h1,bs,λys ac bx hp hu=>λp H3 a4 gp S3=>?_⟩;have b0:=s1.trans (zl.same S3);have a5:Al A H':=E1.al.stay s1;have b1:yK Pn A Y H3:=(P'.same S3).less λa z=>.inl z;have a7:=a5.stay (zl.same S3);have bb:=bx.stay (zl.same S3);refine k _ Y _ H3 (hq ac hp hu) (Val.of ⟨p,ys,rfl,.inl (zn (a5.new a4) gp),xO a7.noT (uJ ac) bb⟩) (g1.trans ⟨b0,b1⟩) λ_=>⟨p,rfl,((Fr.of a4).back s1).back g1.st,⟨_,gp,rfl⟩,p,ys,rfl,.inl gp,xO (λb xs z e=>?_) (uJ ac) bb⟩;rcases z with z | z
  ·exact a7.noT b xs z e
  ·subst z;rw[gp] at e;cases e⟩
def zkS {elt tg iter:Expr}{ifs:List Expr}{scope:Scope}{N:List Str}{cix:List (Option Nat)}{J:Ev->Mo (List W)}{mg:W->Ev->(Ev->Prop)->Prop}{ft:Ev->Mo Bool}{O:Ev->Mo W}{ow:Bool}{sp:Pos}(B:X.mg "sorted" = none)(Y:X.A.units+1<cLine)(U:X.calm=true)(cc:CompOk X scope N cix)
  (hi:JI X Pn M ow tg iter J) (Z:∀C s H ex,JG (zj X scope N C s H ex) (zK M cix) (zK M cix) tg mg) (ht:∀C s H ex,JTs (zj X scope N C s H ex) Pn (zK M cix) ifs ft) (he:∀C s H ex,JE (zj X scope N C s H ex) Pn (zK M cix) fr' elt O)
  (hn:(cix.filterMap id).Nodup:=by decide) (hs:∀x,foldedSetIterable iter X.env x=pure x:=by intro _;rfl) (F:Gl X "sorted" := by rfl) (q:starEach [.SetComp elt [⟨tg,iter,ifs,0⟩] scope sp] X.env=[(false,eval (.SetComp elt [⟨tg,iter,ifs,0⟩] scope sp) X.env)]:=by rfl) (I:(backTo pos (starEach [] X.env)).any (·.1)=false:=by rfl) :
  JE X Pn M true (.Call (.Name "sorted" p) [.SetComp elt [⟨tg,iter,ifs,0⟩] scope sp] [] pos) (zi9 J mg ft O cix):=by
 obtain⟨ti,qi,ri⟩:=hi.ex;obtain⟨g,qg,rg⟩:=zfR Z;obtain⟨tt,qt,rt⟩:=zfS ht;obtain⟨te,qe,re⟩:=zkd he;exact⟨_,xm (zkt U) F B PyProof.Rows.boot_sorted (yf (zhi Y U cc qi qg qt qe hs) yP q) (by decide) (by decide) q I,zjK hn ri rg rt re⟩
end
def zpa{α:Type}{Q:List (List Int)->Nat->Prop}(xs:List α)(O:α->W)(hl:l=xs.map O)(J:Ev->Prop)(P:α->Bool)(E:α->List Int)(j0:J I)(h:∀a∈xs,∀ B,J B->∀C:Ev->Nat->Option (List Int)->Prop,(∀ {q},P a=true->J q->C q n (some (E a)))->(∀ {q},P a=false->J q->C q n none)->mg (O a) B λq=>ft q n λb n2=>onC b (fe q n2 λx n3=>∃st,x = .d (stD st)/\C q n3 (some st)) (C q n2 none))(Y:∀ks,List.Nodup ks->(∀z∈ks,z∈(xs.filter P).map E)->ks.length<300)(fin:∀ks,List.Nodup ks->(∀z,z∈ks↔z∈(xs.filter P).map E)->Q ks n):scR mg ft fe I Q l n:=by
 subst hl;refine⟨λi B U acc=>J B/\U=n/\acc=((xs.take i).filter P).map E,⟨j0,rfl,by simp⟩,?_,?_,?_⟩
 ·rintro i w B U acc hw ⟨hj,rfl,rfl⟩;rw[aE] at hw;obtain⟨a,Z,rfl⟩:=aF.mp hw
  have:=h a (aA Z) B hj (λq n3 o=>match o with
   | some d=>J q/\n3=U/\((xs.take i).filter P).map E++[d]=((xs.take (i+1)).filter P).map E
   | none=>J q/\n3=U/\((xs.take i).filter P).map E=((xs.take (i+1)).filter P).map E) (λ{q} hp F=>by
    rw[zi Z,c9,aP]
    exact⟨F,rfl,by simp[hp]⟩) (λ{q} hp F=>by
    rw[zi Z,c9,aP];exact⟨F,rfl,by simp[hp]⟩)
  simp only[zbQ] at this;exact this
 ·rintro i B U acc ks ⟨_,rfl,rfl⟩ hn hk;refine Y ks hn λz hz=>?_
  grind
 ·simp_all
open PySem PySem.Spec L2
@[reducible] def dGetI (fd fk q:Ev->Mo W):Ev->Mo W:=λρ n Q=>fd ρ n λx n1=>onK x λkvs=>fk ρ n1 λy n2=>q ρ n2 λz n3=>onO (zsl y) λk=>onI z λi=>Q (.d ((yt kvs k).getD (.int i))) n3
section
variable {X:Cx}{Pn:PN}{M:List Nat}{a b c:Expr}{fa fb fc:Ev->Mo W}{apos cpos:Pos}
end
end L3
namespace L2
open PySem PySem.Spec PyProof.Rows
section
variable {X:Cx}{e lo st:Expr}{te tl tk:TE}{pos p2:Pos}
end
end L2
namespace L3
open PySem PySem.Spec L2
@[reducible] def dFromL (fa fl fk:Ev->Mo W):Ev->Mo W:=λρ n Q=>fa ρ n λx n1=>onL x λl=>fl ρ n1 λy n2=>onI y λc=>fk ρ n2 λz n3=>onI z λk=>(0<=c/\1<=k)/\∀ys:List Dt,ys.Sublist (l.drop c.toNat)->Q (.d (.lst ys)) n3
section
variable {X:Cx}{Pn:PN}{M:List Nat}{e lo st:Expr}{f fl fk:Ev->Mo W}{pos p2:Pos}
end
open PySem PySem.Spec L2
def ztb:HO:=.dK [(Sum.inr "at",.non)]
abbrev gone (H:Hp)(a:Addr):Hp:=L2.upd H a ztb
section
variable {X:Cx}{Pn:PN}{M S:List Nat}{fr fr':Bool}{pos p:Pos}
@[reducible] def dGiv (i:Nat) (F:List W->Mo W) (f1 f2:Ev->Mo W):Ms:=λρ n k=>f1 ρ n λw1 m1=>f2 ρ m1 λw2 m2=>onV ρ i λw=>F [w1,w2,w] m2 λw' m'=>onC (W.mut w') (onP ρ i w' λρ'=>k.nx ρ' m') False
end
end L3
namespace L2
open PySem PySem.Spec PyProof.Rows PySem.W PySem.SeqAt
section
variable {X:Cx}
end
end L2
namespace L3
open PySem PySem.Spec L2
section
variable {X:Cx}{Pn:PN}{M S:List Nat}{fr fr':Bool}{e o:Expr}{f fo:Ev->Mo W}{pos p:Pos}
@[reducible] def dLenK:List W->Mo W:=λq n Q=>on1 q λx=>onK x λkvs=>Q (.d (.int (kvs.length:Nat))) n
@[reducible] def dListK:List W->Mo W:=λq n Q=>on1 q λx=>onK x λkvs=>∃ns:List Int,kvs.map (·.1)=ns.map Sum.inl/\Q (.d (.lst (ns.map .int))) n
@[reducible] def dIndex (fo f:Ev->Mo W):Ev->Mo W:=λρ n Q=>fo ρ n λx n1=>onL x λl=>f ρ n1 λy n2=>onI y λk=>∃ns:List Int,l=ns.map .int/\k∈ns/\Q (.d (.int (ns.idxOf k:Nat))) n2
@[reducible] def zsV (f:Ev->Mo W):Ev->Mo W:=λρ n Q=>f ρ n λx n1=>onL x λl=>∃ns:List Int,l=ns.map .int/\ns.Nodup/\ns.length<=1000/\Q (.d (.int (ns.length:Nat))) n1
end
end L3
namespace L2
def us_1 {α:Type}{q:List α}(h:q.length=1):∃a,q=[a]:=match q,h with | [a],_=>⟨a,rfl⟩
def us_2 {α:Type}{q:List α}(h:q.length=2):∃a b,q=[a,b]:=match q,h with | [a,b],_=>⟨a,b,rfl⟩
def us_3 {α:Type}{q:List α}(h:q.length=3):∃a b c,q=[a,b,c]:=match q,h with | [a,b,c],_=>⟨a,b,c,rfl⟩
def us_4 {α:Type}{q:List α}(h:q.length=4):∃a b c d,q=[a,b,c,d]:=match q,h with | [a,b,c,d],_=>⟨a,b,c,d,rfl⟩
open PySem PySem.Spec PyProof.Rows PySem.W PySem.Calls
end L2
namespace L3
open PySem PySem.Spec L2
section
variable {X:Cx}{Pn:PN}{M S:List Nat}{fr fr':Bool}{e a b c:Expr}{es:List Expr}{f fa fb fc:Ev->Mo W}{pos p:Pos}
end
open PySem PySem.Spec L2
section
variable {Pn:PN}{K:PySem.W.Frag}
@[reducible] def dInB:W->W->Mo W:=λx y n Q=>onB x λb=>onL y λl=>∃q:List Bool,l=q.map .bl/\Q (.d (.bl (q.contains b))) n
end
end L3
namespace L2
open PySem PySem.Spec PyProof.Rows PySem.W PySem.Calls
section
variable {prog:Program}{w:World}{A:Around}{E:Value->Shared->Prop}{s:Shared}
end
section
variable {X:Cx}
end
end L2
namespace L3
open PySem PySem.Spec L2
section
variable {X:Cx}{Pn:PN}{M S:List Nat}{fr fr':Bool}{pos p:Pos}{e:Expr}{f:Ev->Mo W}
@[reducible] def dSAdd (P:Program) (w:World) (i:Nat) (f:Ev->Mo W):Ms:=λρ n k=>onV ρ i λv=>∃ks,v = .ss P w ks/\f ρ n λx m=>∃st:List Int,x = .d (stD st)/\ks.length<300/\
 ∀q:List (List Int),(∀y,y∈q↔y=st\/y∈ks)->q.length<=ks.length+1->q.Nodup->onP ρ i (.ss P w q) λB=>k.nx B m
@[reducible] def dSortS (P:Program) (w:World):List W->Mo W:=λB n Q=>on1 B λx=>∃ (ks:List (List Int)) (m:Nat),x = .ss P w ks/\ks.length<64/\1<=m/\(∀st∈ks,st.length=m)/\∀q:List (List Int),q.Perm ks->(q.Pairwise λa b=>HT.lexLt a b=true)->Q (.d (zbw q)) n
end
open PySem PySem.Spec L2
def zgR {α:Type}{p:List α->Prop}(q:p [])(hs:∀l x,p l->p (l++[x]))(l:List α):p l:=by
 have h:∀l:List α,p l.reverse:=λl=>by
  induction l with
  | nil=>exact q
  | cons x l B=>rw[List.reverse_cons];exact hs _ _ B
 have:=h l.reverse
 grind
def zgf {α:Type}(a b:List α)(i:Nat)(d:α)(h:i<a.length):(a++b).getD i d=a.getD i d:=by grind
def zk7:∀ {cs:List (List Int)} {st:List Int},st∈z0 cs↔st.length=cs.length/\∀i,i<cs.length->st.getD i 0∈cs.getD i []:=by
 intro cs;refine zgR (p:=λcs=>∀ {st:List Int},st∈z0 cs↔st.length=cs.length/\∀i,i<cs.length->st.getD i 0∈cs.getD i []) ?_ ?_ cs
 ·intro st;simp[z0,List.length_eq_zero_iff]
 ·intro cs c I st;rw[yv];unfold ue;rw[eS];constructor
  ·rintro⟨r,J,h⟩;obtain⟨w,O,rfl⟩:=aG.mp h;obtain⟨h1,h2⟩:=I.mp J;refine⟨by simp[h1],λi hi=>?_⟩;simp at hi;by_cases e:i=cs.length
   ·simp_all
   ·grind
  ·rintro⟨h1,h2⟩;simp at h1;have q:st≠[]:=λz=>by rw[z] at h1;simp at h1
   have F:=bv q;have B:st.dropLast.length=cs.length:=by simp[h1]
   refine⟨st.dropLast,I.mpr ⟨B,λi hi=>?_⟩,aG.mpr ⟨st.getLast q,?_,F⟩⟩
   ·have:=h2 i (by simp;omega);rw[zgf _ _ _ _ hi] at this;rw[<- F,zgf _ _ _ _ (by omega)] at this;exact this
   ·have:=h2 cs.length (by simp);rw[<- F] at this;have e:(st.dropLast++[st.getLast q]).getD cs.length 0=st.getLast q:=by simp[<- B]
    simp_all
def zm0:∀ (cs:List (List Int)),(∀c∈cs,c.Pairwise (· < ·))->Up' (z0 cs):=by
 intro cs;refine zgR (p:=λcs=>(∀c∈cs,c.Pairwise (· < ·))->Up' (z0 cs)) ?_ ?_ cs
 ·intro _;simp[z0,Up']
 ·intro cs c F h;have I:=h c (by simp);have F:=F λd J=>h d (by simp[J]);rw[yv];have q:=zcN cs;generalize z0 cs=rows at F q;unfold ue Up';rw[eK];constructor
  ·intro r hr;rw[bO];refine I.imp λ{a b} B=>?_;exact lex_app r B
  ·refine (List.Pairwise.and_mem.mp F).imp λ{a b} ⟨O,U,B⟩=>?_;intro x Y y Z;obtain⟨v,_,rfl⟩:=aG.mp Y;obtain⟨w,_,rfl⟩:=aG.mp Z;exact lex_pre ((q a O).trans (q b U).symm) B
where
 lex_app:∀ (r:List Int) {a b:Int},a<b->HT.lexLt (r++[a]) (r++[b])=true
  | [],a,b,h=>by
   show (if a=b then HT.lexLt [] [] else decide (a<b))=true
   grind
  | x::r,a,b,h=>by show (if x=x then HT.lexLt (r++[a]) (r++[b]) else decide (x<x))=true;rw[if_pos rfl];exact lex_app r h
 lex_pre:∀ {r t:List Int} {a b:Int},r.length=t.length->HT.lexLt r t=true->HT.lexLt (r++[a]) (t++[b])=true
  | [],[],_,_,_,h=>by rw[zQ] at h;cases h
  | [],_::_,_,_,h,_=>by simp at h
  | _::_,[],_,_,h,_=>by simp at h
  | x::r,y::t,a,b,hl,h=>by
   have h:(if x=y then HT.lexLt r t else decide (x<y))=true:=h;show (if x=y then HT.lexLt (r++[a]) (t++[b]) else decide (x<y))=true;by_cases e:x=y
   ·rw[if_pos e] at h ⊢;exact lex_pre (by simpa using hl) h
   ·simp_all
end L3
namespace L3
open PySem PySem.Spec L2
def IsP (Pn:PN)(p:Addr):Prop:=∃c ns,Pn=⟨some (p,c,ns),J0⟩
def dc{zB:Int}(q:IsP Pn p)(h:∀r,0<=r->r<zB->Q (.d (.int r)) (n+1))(B:n<=1000000:=by lia)(h1:1<=zB:=by lia)(h2:zB<1073741824:=by lia):zpz Pn [.pen p,.d (.int zB)] n Q:=let ⟨c,ns,e⟩:=q;⟨p,c,ns,zB,e,rfl,B,h1,h2,h⟩
def tc(q:IsP Pn p)(h:∀l':List Dt,l'.Perm l->Q (.d (.lst l')) (n+l.length))(B:n+l.length<=1000000:=by lia)(h1:l.length<=100000:=by lia):zpC Pn [.pen p,.d (.lst l)] n Q:=let ⟨c,ns,e⟩:=q;⟨p,c,ns,l,e,rfl,B,h1,h⟩
def zcx {m b:Int}:b∈zh m↔0<=b/\b<m:=by
 unfold zh;rw[aG];constructor
 ·rintro⟨k,q,rfl⟩
  grind
 ·rintro⟨B,h1⟩;exact⟨b.toNat,aQ.mpr (by lia),by lia⟩
def ztF {α q:Type}{G:Prop}(C:α->q->Prop)(P:α->q->Prop)(h:(∀a b,C a b->P a b)->G)(r:∀a b,C a b->P a b):G:=h r
end L3
namespace L3
open PySem PySem.Spec L2
def zdy {rm st:List Int}(h:StOk rm st):st∈z0 (rm.map zh):=by
 rw[zk7];have q:=h.len;refine⟨by grind,λi hi=>?_⟩;rw[ab] at hi;have e:(rm.map zh).getD i []=zh (rm.getD i 0):=by simp[hi]
 rw[e,zcx];have:=h.box (i:Int) (by lia) (by lia);rw[xV,xV] at this;exact this
def zdx {rm st:List Int}{b x:Int}(h:StOk rm st)(q:0<=b)(J:b<rm.length)(O:0<=x)(U:x<zB rm b):StOk rm (chg st b x):=by
 have F:=h.len;refine⟨by rw[zcT q (by lia)];exact F,λc B I=>?_⟩;rw[uS q (by lia) B];split
 ·simp_all
 ·exact h.box c B I
end L3
namespace L3
open PySem PySem.Spec L2
def lpE (bk:List Wi)(q:Int)(st:List Int):List (Int×Int):=(lpF bk q st).map λr=>(r.getD 0 0,r.getD 1 0)
def zdU {α:Type}(l:List α)(k:Nat):uf l (some (k:Int)) none=l.drop k:=by
 unfold uf
 have h1:HT.sIx l.length 0 (some (k:Int))=min k l.length:=by unfold HT.sIx;simp;try lia
 have h2:HT.sIx l.length l.length none=l.length:=rfl;rw[h1,h2,a8 (by simp)]
 simp_all
end L3
namespace L3
open PySem PySem.Spec L2
end L3
namespace L2
open PySem PySem.Spec PyProof.Rows PySem.W PySem.Calls
section
variable {X:Cx}{pins:List (Addr×Obj)}{σ:St}{H:Hp}{s:Shared}{a:Addr}
def Inv.frz {kvs:List (List Int×V)}(I:Inv X pins σ H s)(h:H a=some (dtO kvs)):∃ob,Inv X pins σ (upd H a (.frz ob (dtO kvs))) s:=by obtain⟨z,lo,xs,r,o,es,ep,h1,h2,F,J,O⟩:=(show z8 X.prog X.w H s.heap a (.dT (ziL kvs)) from I.hok a _ h);refine⟨o,I.write (x:=a) (e:=a) (h':=s.heap) (t':=s.toks) (by rw[h];trivial) (.inl rfl) (λ_ _ _ e=>e) ⟨o,h1⟩ ⟨h1,z,lo,xs,Paired.imp' (λp q y=>?_) r,o,es,ep,h1,h2,F,J,O⟩⟩;obtain⟨U,B,Y⟩:=y;exact⟨U,by rw[zd (λy=>by rw[y,h] at B;cases B)];exact B,Y⟩
def tFrz (te:TE):TE:=λσ H Q=>te σ H λx H1=>∃a ks,x = .ref a/\H1 a=some (dtO ks)/\∀ob,Q x (upd H1 a (.frz ob (dtO ks)))
def zrf(h:QE X e te):QE X e (tFrz te):=⟨by
 intro pins s σ H Q I q;refine thn (h.run pins s σ H _ I q) ?_;rintro v O ⟨x,H1,I1,B,a,ks,rfl,F,J⟩;obtain⟨ob,I2⟩:=I1.frz F;exact⟨_,_,I2,B,J ob⟩⟩
end
end L2
namespace L3
open PySem PySem.Spec L2
def zlm{ks:List (List Int×V)}(h:yK Pn A n H)(hp:H p=some (dtO ks)):yK Pn A n (L2.upd H p o):=by
 refine⟨?_,Pn.J.frz h.2 hp (zhd _) rfl⟩;have h:=h.1;split at h
 ·trivial
 ·refine⟨?_,h.2⟩;obtain⟨h1,_⟩:=h;obtain⟨a,l,g1,g2⟩:=h1.ob;exact⟨⟨a,l,by rw[zd λz=>by rw[z,hp] at g1;cases g1];exact g1,g2⟩,let ⟨ob,e⟩:=h1.ls;⟨ob,by rw[zd λz=>by rw[z,hp] at e;cases e];exact e⟩,h1.len⟩
@[reducible] def onZ (w:W) (P:List (List Int×Dt)->Prop):Prop:=match w with | .df i=>P i | _=>False
def zqD{P:List (List Int×Dt)->Prop}:onZ w P = ∃i,w = .df i/\P i:=propext ⟨λh=>by cases w <;> first | exact False.elim h | exact⟨_,rfl,h⟩,by simp_all⟩
section
variable {X:Cx}{Pn:PN}{M S:List Nat}{fr fr':Bool}{pos p:Pos}{e a b c:Expr}{f fa fb fc:Ev->Mo W}
@[reducible] def dFrz (f:Ev->Mo W):Ev->Mo W:=λρ n Q=>f ρ n λx m=>onE x λkvs=>Q (.df kvs) m
def ztf (h:JE X Pn M true e f):JE X Pn M false e (dFrz f):=by
 obtain⟨te,q,r⟩:=h.ex;refine⟨_,zrf q,⟨λA σ H ρ n Q R E P Y k=>?_⟩⟩;refine r.run A σ H ρ n _ _ E P Y λw m v H' F hv g Z=>?_;rw[zqB] at F;obtain⟨kvs,rfl,F⟩:=F;obtain⟨O,e1,B,_,ac,ks,e2,h1,h2⟩:=Z rfl;subst e1;cases e2;have nA:=E.newF B;refine⟨O,ks,rfl,h1,λob=>k _ m _ _ F ⟨O,ob,ks,rfl,zn nA zf,h2.stay λb o I J=>?_⟩ ⟨λb o I J=>?_,?_⟩ λz=>by cases z⟩
 ·obtain⟨U,z2⟩:=zI.mp I;exact zn (λy=>U (.inl y)) (by rw[zd λy=>U (.inr y)];exact z2)
 ·rw[zd λy=>by subst y;exact B o I J];exact g.st b o I J
 ·exact zlm g.pn h1
@[reducible] def dItF (fa:Ev->Mo W):Ev->Mo (List W):=λρ n Q=>fa ρ n λx m=>onZ x λkvs=>(kvs.map (·.1)).Nodup->Q (kvs.map λq=>W.d (stD q.1)) m
@[reducible] def zsO (fd fk:Ev->Mo W):Ev->Mo W:=λρ n Q=>fd ρ n λx n1=>fk ρ n1 λy n2=>onZ x λkvs=>∃st,y = .d (stD st)/\onO (yt kvs st) λd=>Q (.d d) n2
def zpL{kvs:List (List Int×Dt)}(h:Bor A H (.df kvs) v):∃q ks,v = .ref q/\Rd H q (dtO ks)/\xp (zz A H) kvs ks:=by obtain⟨q,ob,ks,e,h1,h2⟩:=h;exact⟨q,ks,e,.inr ⟨ob,h1⟩,h2⟩
def zfT.z {H:Hp}{a b:Addr}{kvs:List (List Int×V)}{st:List Int}(e:Rd H a (dtO kvs))(q:H b=some (.tup (st.map V.int))):zfT H a (.ref b) (zaE kvs st):=
 .inr ⟨_,st.map Sum.inl,b,e,rfl,by rw[zfk];exact q,(zkV kvs st).symm⟩
def zfm (I:X.A.units+1<cLine)(J:JB X Pn M a fa)(O:JB X Pn M b fb)(hs:zsd b):JE X Pn M false (.Subscript a b pos) (zsO fa fb):=by obtain⟨ta,U,ra⟩:=J.ex;obtain⟨tb,Y,rb⟩:=O.ex;refine⟨_,xZ I U Y hs,⟨λA σ H ρ n Q R E P Z k=>?_⟩⟩;refine ra.run A σ H ρ n _ _ E P Z λw1 m1 v1 H1 r1 b1 g1=>?_;refine rb.run A σ H1 ρ m1 _ _ (E.stay g1.st) g1.pn r1 λw2 m2 v2 H2 q b2 g2=>?_;rw[zqD] at q;obtain⟨kvs,rfl,st,rfl,q⟩:=q;rw[zcA] at q;obtain⟨d,e3,r⟩:=q;obtain⟨ad,ks,rfl,B,hk⟩:=zpL (b1.stay g2.st);obtain⟨bd,xs,rfl,F,hx⟩:=xK b2;obtain rfl:=hx.of_ints;obtain⟨v,h1,h2⟩:=(hk.look (k:=st)).2 d e3;refine⟨ad,v,rfl,?_,k _ m2 _ H2 r (Val.of h2) (g1.trans g2) λz=>by cases z⟩;rw[<- h1];exact zfT.z B F
@[reducible] def dGetFD (fd fk q:Ev->Mo W):Ev->Mo W:=λρ n Q=>fd ρ n λx n1=>onZ x λkvs=>fk ρ n1 λy n2=>q ρ n2 λz n3=>∃st,y = .d (stD st)/\onD z λi=>Q (.d ((yt kvs st).getD i)) n3
@[reducible] def dDictL:List W->Mo W:=λB n Q=>on1 B λx=>∃kvs:List (List Int×Dt),x = .d (.lst (kvs.map λq=>Dt.tup [stD q.1,q.2]))/\(kvs.map (·.1)).Nodup/\kvs.length<=lim/\Q (.dt kvs) n
end
def zku(xs:List (List Int))(hl:l=xs.map λi=>W.d (stD i))(J:Ev->Prop)(P:List Int->Bool)(E:List Int->Dt)(hN:xs.Nodup)(ad:xs.length<=lim)(j0:J O)(h:∀a∈xs,∀ F,J F->∀C:Ev->Nat->Option (List Int×Dt)->Prop,(∀ {B},P a=true->J B->C B n (some (a,E a)))->(∀ {B},P a=false->J B->C B n none)->mg (.d (stD a)) F λB=>ft B n λb n2=>onC b (fk B n2 λy n3=>fv B n3 λx Y=>∃j,y = .d (stD j)/\onD x λd=>C B Y (some (j,d))) (C B n2 none))(fin:Q (.dt ((xs.filter P).map λa=>(a,E a))) n):zmh mg ft fk fv O Q l n:=by
 subst hl;refine⟨by simp_all,λi F Z acc=>J F/\Z=n/\acc=((xs.take i).filter P).map λa=>(a,E a),⟨j0,rfl,rfl⟩,?_,?_⟩
 ·rintro i w F Z acc hw ⟨hj,rfl,rfl⟩;rw[aE] at hw;obtain⟨a,U,rfl⟩:=aF.mp hw
  have:=h a (aA U) F hj (λB Y o=>match o with
   | some q=>J B/\Y=Z/\zex (((xs.take i).filter P).map λa=>(a,E a)) q.1 q.2=((xs.take (i+1)).filter P).map λa=>(a,E a)
   | none=>J B/\Y=Z/\(((xs.take i).filter P).map λa=>(a,E a))=((xs.take (i+1)).filter P).map λa=>(a,E a)) (λ{B} hp I=>by
    refine⟨I,rfl,?_⟩;have hi:=(af.mp U).1
    have hn:((((xs.take i).filter P).map λa=>(a,E a)).any λkv=>decide (kv.1=a))=false:=by rw[List.any_eq_false];intro kv ac z;obtain⟨b,hb,rfl⟩:=aG.mp ac;have e:b=a:=bj z;subst e;obtain⟨j,hj,e2⟩:=b5.mp (bG.mp hb).1;rw[bn] at hj;rw[fW] at e2;have e3:=(af.mp U).2;rw[<- e3] at e2;have:=(cD hN).mp e2;lia
    unfold zex;rw[hn,if_neg (by decide),zi U,c9,aP]
    simp[hp]) (λ{B} hp I=>by
    refine⟨I,rfl,?_⟩;rw[zi U,c9,aP];simp[hp])
  simp only[zbQ,xl] at this
  grind
 ·grind
open PySem PySem.Spec L2
@[reducible] def lpD (bk:List Wi) (b:Int) (st:List Int):Dt:=.lst ((lpE bk b st).map ye)
@[reducible] def rowD (rm:List Int) (bk:List Wi) (st:List Int):Dt:=.lst ((List.range rm.length).map λb:Nat=>lpD bk (b:Int) st)
def zr0 {l:List (List Int)}(h:Up' l):l.Nodup:=h.imp λh e=>by subst e;rw[zQ] at h;cases h
def zfY (rm:List Int):(z0 (rm.map zh)).Nodup:=zr0 (zm0 _ λc q=>by obtain⟨m,_,rfl⟩:=aG.mp q;unfold zh;rw[bO];exact List.pairwise_lt_range.imp λh=>by lia)
def zm2 {rm:List Int}(q:RoomOk rm):(z0 (rm.map zh)).length<=65536:=by
 have:=zfX q.few q.box rm.length
 simp_all
def zfb {rm:List Int}{g:List (Int×Int)}(h:Giv rm g):g.length<=rm.length:=by
 have:=zbN (l:=g.map (·.1)) (l':=zh rm.length) (bO.mpr (h.up.imp λh e=>by lia)) λx B=>by obtain⟨q,F,rfl⟩:=aG.mp B;have:=h.ok q F;exact zcx.mpr ⟨this.1,this.2.1⟩
 rw[ab,xH] at this;lia
structure CS (Pn:PN)(A:Addr->Prop)(acc:Addr)(H1:Hp)(cM:List Nat)(σc:St)(ρc:Ev)(σ:St)(H:Hp)(ρ:Ev)(n:Nat)(ds:List Dt):Prop where
 env:EnvR (λb=>A b\/b=acc) cM σ H ρ
 pn:yK Pn (λb=>A b\/b=acc) n H
 ac:∃xs,H acc=some (.lst xs)/\IsL (zz (λb=>A b\/b=acc) H) ds xs
 st:zl (zz A H1) (zz (λb=>A b\/b=acc) H)
 s1:zl H1 H
 fx:∀k∈cM,σ[k]?=σc[k]?/\ρ[k]?=ρc[k]?
section
variable {X:Cx}{Pn:PN}{M S cM:List Nat}{fr fr':Bool}{e:Expr}{es:List Expr}{pos:Pos}{A:Addr->Prop}{acc:Addr}{H1 H H':Hp}{σc σ:St}{ρc ρ:Ev}{n m:Nat}{ds:List Dt}
def CS.go (c:CS Pn A acc H1 cM σc ρc σ H ρ n ds)(s:zl H H')(p:yK Pn (λb=>A b\/b=acc) m H'):CS Pn A acc H1 cM σc ρc σ H' ρ m ds:=
 ⟨c.env.stay s,p,let ⟨xs,h1,h2⟩:=c.ac;⟨xs,s.lst h1,h2.stay (zp s)⟩,c.st.trans (zp s),c.s1.trans s,c.fx⟩
def inR (mg:W->Ev->(Ev->Prop)->Prop)(ft:Ev->Mo Bool)(J:Ev->Mo W)(B:Ev)(F:List Dt)(K:Ev->Nat->List Dt->Prop):List W->Nat->Prop:=λl n1=>∃I:Nat->Ev->Nat->List Dt->Prop,I 0 B n1 F/\
 (∀i w ρ n ds,l[i]?=some w->I i ρ n ds->mg w ρ λq=>ft q n λb n2=>if b=true then J q n2 λx n3=>∃d,x = .d d/\ds.length<=lim/\I (i+1) q n3 (ds++[d]) else I (i+1) q n2 ds)/\
 ∀ ρ n ds,I l.length ρ n ds->K ρ n ds
def zpM (mg:W->Ev->(Ev->Prop)->Prop)(ft:Ev->Mo Bool)(B:Ev->Mo (List W))(F:W->Ev->(Ev->Prop)->Prop)(J:Ev->Mo Bool)(U:Ev->Mo W)(O:Ev)(Q:W->Nat->Prop):List W->Nat->Prop:=λl n1=>∃I:Nat->Ev->Nat->List Dt->Prop,I 0 O n1 []/\
 (∀i w ρ n ds,l[i]?=some w->I i ρ n ds->mg w ρ λq=>ft q n λb n2=>if b=true then B q n2 (inR F J U q ds (I (i+1))) else I (i+1) q n2 ds)/\
 ∀ ρ n ds,I l.length ρ n ds->Q (.d (.lst ds)) n
@[reducible] def mComp2 (I:Ev->Mo (List W)) (mg:W->Ev->(Ev->Prop)->Prop) (ft:Ev->Mo Bool) (q:Ev->Mo (List W)) (B:W->Ev->(Ev->Prop)->Prop) (F:Ev->Mo Bool) (J:Ev->Mo W) (cix:List (Option Nat)):Ev->Mo W:=λρ n Q=>I ρ n (zpM mg ft q B F J (uG ρ cix) Q)
def zrY(h:∀C s H ex,JI (zj X scope N C s H ex) Pn M ow tg e q):∃te,(∀C s H ex,QI (zj X scope N C s H ex) tg e te)/\RI Pn M ow te q:=
 ⟨λσ H Q=>∀C s H0 ex,(h C s H0 ex).ex.choose σ H Q,λC s H0 ex=>⟨λpins s' σ H Q I z=>(h C s H0 ex).ex.choose_spec.1.run pins s' σ H Q I (z C s H0 ex)⟩,
  ⟨λA σ H ρ n Q R E P B k C s H0 ex=>(h C s H0 ex).ex.choose_spec.2.run A σ H ρ n Q R E P B k⟩⟩
end
end L3
namespace L2
open PySem PySem.Spec PyProof.Rows PySem.W PySem.Calls
section
variable {X:Cx}{pins:List (Addr×Obj)}{σ:St}{H:Hp}{s:Shared}{a:Addr}
end
end L2
namespace L3
open PySem PySem.Spec L2
@[reducible] def onY (w:W) (P:List (Key×Dt)->Prop):Prop:=match w with | .kf i=>P i | _=>False
section
variable {X:Cx}{Pn:PN}{M S:List Nat}{fr fr':Bool}{pos p:Pos}{e a b c:Expr}{f fa fb fc:Ev->Mo W}
@[reducible] def dFrzK (f:Ev->Mo W):Ev->Mo W:=λρ n Q=>f ρ n λx m=>onK x λkvs=>Q (.kf kvs) m
@[reducible] def dItK (fa:Ev->Mo W):Ev->Mo (List W):=λρ n Q=>fa ρ n λx m=>onY x λkvs=>∃ns:List Int,kvs.map (·.1)=ns.map Sum.inl/\Q (ns.map λi=>W.d (.int i)) m
@[reducible] def dGetY (fd fk:Ev->Mo W):Ev->Mo W:=λρ n Q=>fd ρ n λx n1=>fk ρ n1 λy n2=>onY x λkvs=>onI y λi=>onO (yt kvs (Sum.inl i)) λd=>Q (.d d) n2
@[reducible] def dListY:List W->Mo W:=λq n Q=>on1 q λx=>onY x λkvs=>∃ns:List Int,kvs.map (·.1)=ns.map Sum.inl/\Q (.d (.lst (ns.map .int))) n
@[reducible] def dRetT (f:Ev->Mo W) (i:Nat):Ms:=λρ n k=>f ρ n λw m=>onD w λd=>onV ρ i λx=>onL x λl=>k.rt (.d (.tup [d,.lst l])) m
end
end L3
namespace L2
open PySem PySem.Spec PyProof.Rows PySem.SeqAt
section
variable {prog:Program}{w:World}{t:SetTable}{es:Array (Int×Value)}{xs:List (List Key×Addr)}{A:Around}{E:Value->Shared->Prop}{s:Shared}
end
section
variable {X:Cx}
end
end L2
namespace L3
open PySem PySem.Spec L2
section
variable {X:Cx}{Pn:PN}{M S:List Nat}{fr fr':Bool}{pos p:Pos}{e o a b c:Expr}{es:List Expr}{f fo fa fc:Ev->Mo W}
@[reducible] def dAug (F:Int->Int->Int) (i:Nat) (f:Ev->Mo W):Ms:=λρ n k=>onV ρ i λx=>onI x λa=>f ρ n λy m=>onI y λb=>onP ρ i (.d (.int (F a b))) λq=>k.nx q m
@[reducible] def dAugT (F:Int->Int->Int) (i:Nat) (fk f:Ev->Mo W):Ms:=λρ n k=>onV ρ i λx=>onE x λkvs=>fk ρ n λy m=>∃st,y = .d (stD st)/\∃a,yt kvs st=some (.int a)/\f ρ m λw B=>onI w λb=>kvs.length<lim/\onP ρ i (.dt (zex kvs st (.int (F a b)))) λq=>k.nx q B
@[reducible] def dSetL (P:Program) (w:World):List W->Mo W:=λq n Q=>on1 q λx=>∃sts:List (List Int),x = .d (.lst (sts.map stD))/\(∀ks:List (List Int),ks.Nodup->(∀z∈ks,z∈sts)->ks.length<300)/\∀ks:List (List Int),ks.Nodup->(∀st,st∈ks↔st∈sts)->Q (.ss P w ks) n
@[reducible] def dInS (P:Program) (w:World):W->W->Mo W:=λx y n Q=>∃ (st:List Int) (ks:List (List Int)),x = .d (stD st)/\y = .ss P w ks/\∀c:Bool,(c=true↔st∈ks)->Q (.d (.bl c)) n
@[reducible] def dItEF (fa:Ev->Mo (List W)):Ev->Mo (List W):=λρ n Q=>fa ρ n λq m=>on1 q λx=>onZ x λkvs=>(kvs.map (·.1)).Nodup->Q (enW 0 ((kvs.map (·.1)).map stD)) m
@[reducible] def zsQ (fo f:Ev->Mo W):Ev->Mo W:=λρ n Q=>fo ρ n λx n1=>onL x λl=>f ρ n1 λy n2=>onD y λd=>d.eqOk/\(Dt.lst l).eqOk/\d∈l/\∀j:Nat,l[j]?=some d->(∀i,i<j->l[i]?≠some d)->Q (.d (.int j)) n2
@[reducible] def snN:List W->(List W->Prop)->Prop
 | [],P=>P [.d .non]
 | a::r,P=>snN r λq=>P (a::q)
def zmP:∀ {q:List W} {P:List W->Prop},snN q P=P (q++[.d .non])
 | [],P=>rfl
 | a::r,P=>by rw[snN,zmP];rfl
def zaF.non:∀ {q:List W} {vs:List V},zaF A H q vs->zaF A H (q++[.d .non]) (vs++[.non])
 | [],_,h=>by cases h;exact⟨_,_,rfl,Val.of rfl,rfl⟩
 | _::_,_,⟨v,r,e,h1,h2⟩=>by subst e;exact⟨v,_,rfl,h1,zaF.non h2⟩
@[reducible] def dFnD (k:Nat) (F:List W->Mo W) (fs:Ev->Mo (List W)):Ev->Mo W:=λρ n Q=>fs ρ n λB m=>snN B λq=>zbS k q (F q m Q)
def zte(D:DfnD X.K X.mg x st ps [Value.none] fA fd)(G:FnOk X.prog X.w X.K X.mg X.base CX0 j fA fd ps (spV k fr F))(J:Room kk X.A)(O:JA X Pn M (e::es) fs)(q:j<=kk:=by decide)(U:Gl X x:=by rfl)(B:(x==("__debug__" : Str))=false:=by decide)(Y:starEach (e::es) X.env=(false,eval e X.env)::starEach es X.env:=by rfl)(I:(backTo pos (starEach es X.env)).any (·.1)=false:=by rfl) :
  JE X Pn M fr (.Call (.Name x p) (e::es) [] pos) (dFnD k (F Pn) fs):=by
 obtain⟨ta,Z,ra⟩:=O.ex;refine⟨_,zre (dv:=[.non]) D (.cons rfl .nil) G J Z q U B Y I,⟨λA σ H ρ n Q R E P hf kk=>?_⟩⟩;refine ra.run A σ H ρ n _ _ E P hf λws m vs H1 h b g=>?_;rw[zmP,zas] at h;exact⟨Pn,A,_,m,R,(E.stay g.st).al,b.non,h.1,g.pn,h.2,λw m' v H' h1 h2 h3 h4=>kk w m' v H' h1 h2 (g.trans h3) λz=>(h4 z).back g.st⟩
end
end L3
namespace L2
open PySem PySem.Spec PyProof.Rows
section
variable {X:Cx}{pins:List (Addr×Obj)}{σ:St}{H G G':Hp}{s:Shared}{d l:Addr}{ob:Obj}{kvs:List (List Key×V)}
def Inv.frzL(I:Inv X pins σ H s)(h:H l=some (.lst xs)):∃ob,Inv X pins σ (upd H l (.frz ob (.lst xs))) s:=by obtain⟨z,its,n,r,e⟩:=(show z8 X.prog X.w H s.heap l (.lst xs) from I.hok l _ h);exact⟨_,I.write (x:=l) (e:=l) (h':=s.heap) (t':=s.toks) (by rw[h];trivial) (.inl rfl) (λ_ _ _ e=>e) ⟨_,e⟩ ⟨e,z,its,n,r,e⟩⟩
variable {e:Expr}{te:TE}
def zue (te:TE):TE:=λσ H Q=>te σ H λx H1=>∃l xs,x = .ref l/\H1 l=some (.lst xs)/\∀ob,Q x (upd H1 l (.frz ob (.lst xs)))
def zoi (h:PE X e te):PE X e (zue te):=λpins s σ H Q I q=>thn (h pins s σ H _ I q) λu F ⟨x,H1,I1,r,l,xs,ex,h1,B⟩=>by obtain⟨ob,I2⟩:=I1.frzL h1;exact⟨x,_,I2,r,B ob⟩
end
end L2
namespace L3
open PySem PySem.Spec L2
def ztI(h:∃h:Heap,h.get? d=some ob):¬ NP (kO d ob):=λn=>by have:=n [(Sum.inr "at",.non)] (by unfold kO pnK;dsimp only;rw[if_pos ⟨d,ob,h,rfl⟩]);cases this
section
variable {K:PySem.W.Frag}{P:Program}{w:World}{C:Addr}{H:Hp}{Q:VK}{E:XK}{D:Ends}
end
end L3
namespace L2
open PySem PySem.Spec PyProof.Rows PySem.SeqAt
section
variable {X:Cx}
end
end L2
namespace L3
open PySem PySem.Spec L2
@[reducible] def W.isD:W->Bool
 | .d _=>true
 | _=>false
section
variable {X:Cx}{Pn:PN}{M:List Nat}{fr:Bool}{e:Expr}{f:Ev->Mo W}
@[reducible] def onFl (w:W) (P:List Dt->Prop):Prop:=match w with | .fl i=>P i | _=>False
@[reducible] def dInF (q:Bool):W->W->Mo W:=λx y n Q=>onD x λd=>onFl y λds=>d.eqOk/\(Dt.lst ds).eqOk/\∀b:Bool,(b=true↔d∈ds)->Q (.d (.bl (xr q b))) n
end
open PySem PySem.Spec L2
section
variable {X:Cx}{Pn:PN}{M:List Nat}{fr:Bool}{s:Stmt}{C fI fA:Addr}{dI dA:FuncData}
end
end L3
namespace L2
open PySem PySem.Spec PyProof.Rows PySem.SeqAt
def okT:Nat->Dt->Bool
 | _,.non=>true
 | _,.int _=>true
 | _,.bl _=>true
 | _,.str x=>PyData.strOk x
 | n+1,.tup l=>l.all (okT n)
 | n+1,.lst l=>l.all (okT n)
 | _,_=>false
abbrev Dt.py (d:Dt):PyData:=PySem.W.kqdP d.toW
section
variable {P:Program}{w:World}{H:Hp}{h:Heap}
end
section
variable {X:Cx}
end
end L2
namespace L3
open PySem PySem.Spec L2
section
variable {X:Cx}{Pn:PN}{M:List Nat}{e:Expr}{f:Ev->Mo W}{pos p:Pos}
@[reducible] def dNeT:W->W->Mo W:=λx y n Q=>onD x λd=>onD y λe=>d=e/\okT 8 d=true/\Q (.d (.bl false)) n
@[reducible] def dNiT:W->W->Mo W:=λx y n Q=>onD x λd=>onL y λds=>okT 8 d=true/\(Dt.lst ds).eqOk/\∀b:Bool,(d∈ds->b=true)->(b=true->∃e∈ds,PyData.eqv e.py d.py=true)->Q (.d (.bl (!b))) n
@[reducible] def zsh (f:Ev->Mo W):Ev->Mo W:=λρ n Q=>f ρ n λx n1=>onL x λl=>∃sts:List (List Int),l=sts.map stD/\(∀ks:List (List Int),ks.Nodup->(∀z∈ks,z∈sts)->ks.length<300)/\∀ks:List (List Int),ks.Nodup->(∀st,st∈ks↔st∈sts)->Q (.d (.int (ks.length:Nat))) n1
end
end L3
namespace L2
open PySem PySem.Spec PyProof.Rows
section
variable {X:Cx}
end
end L2
namespace L3
open PySem PySem.Spec L2
section
variable {Pn:PN}
@[reducible] def dMaxT:List W->Mo W:=λq n Q=>on1 q λx=>∃ns:List Int,x = .d (stD ns)/\ns≠[]/\∀m,m∈ns->(∀x∈ns,x<=m)->Q (.d (.int m)) n
end
end L3
namespace L2
open PySem PySem.Spec PyProof.Rows
end L2
namespace L3
open PySem PySem.Spec L2
section
variable {X:Cx}{Pn:PN}{M S:List Nat}{fr:Bool}{a:Expr}{pos p:Pos}
end
end L3
namespace L2
open PySem PySem.Spec PyProof.Rows PySem.W PySem.SeqAt
section
variable {X:Cx}
end
end L2
namespace L3
open PySem PySem.Spec L2
section
variable {X:Cx}{Pn:PN}{M S:List Nat}{fr fr':Bool}{e:Expr}{f:Ev->Mo W}{pos:Pos}
@[reducible] def mRem (i:Nat) (fk:Ev->Mo W):Ms:=λρ n k=>onV ρ i λv=>onL v λl=>fk ρ n λy m=>onI y λj=>∃ns:List Int,l=ns.map Dt.int/\j∈ns/\onP ρ i (.d (lsD (ns.erase j))) λq=>k.nx q m
end
open PySem PySem.Spec L2
end L3
namespace L3
open PySem PySem.Spec L2
section
variable {X:Cx}{Pn:PN}{M S:List Nat}{fr fr':Bool}{e:Expr}{f:Ev->Mo W}{pos:Pos}
end
end L3
namespace L2
open PySem PySem.Spec PyProof.Rows PySem.W PySem.Calls
section
variable {X:Cx}{pos:Pos}
end
end L2
namespace L3
open PySem PySem.Spec L2
section
variable {X:Cx}{Pn:PN}{M S:List Nat}{fr fr':Bool}{pos p:Pos}{e a b c:Expr}{f fa fb fc:Ev->Mo W}
@[reducible] def dDisp1 (fk fv:Ev->Mo W):Ev->Mo W:=λρ n Q=>fk ρ n λy m=>fv ρ m λx q=>∃st,y = .d (stD st)/\onD x λd=>Q (.dt [(st,d)]) q
@[reducible] def dNinT (fk fd:Ev->Mo W):Ev->Mo W:=λρ n Q=>fk ρ n λy n1=>fd ρ n1 λx n2=>onE x λkvs=>∃st,y = .d (stD st)/\Q (.d (.bl (!(yt kvs st).isSome))) n2
@[reducible] def dSortZ:List W->Mo W:=λF n Q=>on1 F λx=>onZ x λkvs=>∃m:Nat,kvs.length<64/\1<=m/\(∀q∈kvs,q.1.length=m)/\∀B:List (List Int),B.Perm (kvs.map (·.1))->(B.Pairwise λa b=>HT.lexLt a b=true)->Q (.d (zbw B)) n
@[reducible] def dRetZ (i:Nat) (f:Ev->Mo W):Ms:=λρ n k=>onV ρ i λx=>onE x λkvs=>f ρ n λw m=>onD w λd=>k.rt (.tz kvs d) m
@[reducible] def dIxZ:W->W->Mo W:=λx y n Q=>match x with
 | .tz kvs d=>match y with
  | .d (.int i)=>match i with
   | .ofNat 0=>Q (.df kvs) n
   | .ofNat 1=>Q (.d d) n
   | _=>False
  | _=>False
 | _=>False
@[reducible] def dForP (i:Nat) (F:List W->Mo W) (f1 f3:Ev->Mo W) (mg:W->Ev->(Ev->Prop)->Prop) (fs:Ms):Ms:=λρ n k=>f1 ρ n λw1 q=>onV ρ i λx=>onL x λl=>∃l' d,l=l'++[d]/\f3 (ρ.set i (some (.d (.lst l')))) q λw3 B=>F [w1,.d d,w3] B λw m=>onL w λr=>znq mg fs (ρ.set i (some (.d (.lst l')))) k (r.map W.d) m
end
open PySem PySem.Spec L2
section
variable {X:Cx}{Pn:PN}{M:List Nat}{pos p1 p2 p3 p4:Pos}{a b c:Expr}{fa fb fc:Ev->Mo W}{apos cpos:Pos}
@[reducible] def dGetK (fd fk q:Ev->Mo W):Ev->Mo W:=λρ n Q=>fd ρ n λx n1=>onK x λkvs=>fk ρ n1 λy n2=>q ρ n2 λz n3=>onO (zsl y) λk=>onD z λd=>Q (.d ((yt kvs k).getD d)) n3
end
open PySem PySem.Spec L2
section
variable {X:Cx}{Pn:PN}{M S:List Nat}{fr:Bool}
end
end L3
namespace L2
open PySem PySem.Spec PyProof.Rows PySem.W PySem.Calls
section
variable {prog:Program}{w:World}{A:Around}{E:Value->Shared->Prop}{s:Shared}
end
section
variable {X:Cx}{pos:Pos}
end
end L2
namespace L3
open PySem PySem.Spec L2
section
variable {X:Cx}{Pn:PN}{M S:List Nat}{fr fr':Bool}{e:Expr}{f:Ev->Mo W}{pos:Pos}
@[reducible] def dSetZ (i j:Nat) (f:Ev->Mo W):Ms:=λρ n k=>f ρ n λw m=>match w with
 | .tz kvs d=>onP ρ i (.df kvs) λq=>onP q j (.d d) λB=>k.nx B m
 | _=>False
end
open PySem PySem.Spec L2
section
variable {Pn:PN}{K:PySem.W.Frag}
@[reducible] def zsX:W->W->Mo W:=λx y n Q=>onB x λb=>onL y λl=>∃q:List Bool,l=q.map .bl/\Q (.d (.bl (!q.contains b))) n
end
end L3
namespace L2
open PySem PySem.Spec PyProof.Rows PySem.W PySem.Calls
end L2
namespace L3
open PySem PySem.Spec L2
section
variable {X:Cx}{Pn:PN}{M S:List Nat}{es:List Expr}{pos:Pos}
@[reducible] def dNinS (P:Program) (w:World):W->W->Mo W:=λx y n Q=>∃ (st:List Int) (ks:List (List Int)),x = .d (stD st)/\y = .ss P w ks/\∀c:Bool,(c=true↔st∈ks)->Q (.d (.bl (!c))) n
@[reducible] def eTpL (n:Nat) (u:List Dt->Ev->(Ev->Prop)->Prop):W->Ev->(Ev->Prop)->Prop:=λw ρ Q=>onL w λds=>zbS n ds (u ds ρ Q)
end
open PySem PySem.Spec L2
section
variable {X:Cx}{Pn:PN}{M M' S:List Nat}{fr:Bool}
@[reducible] def mRel (j:Nat) (fs:Ms):Ms:=λρ n k=>onV ρ j λ_=>fs ρ n { rt:=k.rt,nx:=λ_ _=>False }
end
open PySem L2
@[reducible] def mNo:Ms:=λ_ _ _=>False
def ztj:JS X Pn S M fr st mNo:=⟨λ_ _ _=>False,⟨λ_ _ _ _ _ _ h=>h.elim⟩,⟨λ_ _ _ _ _ _ _ _ _ _ h=>h⟩⟩
end L3
namespace L2
open PySem PySem.Spec PyProof.Rows PySem.W PySem.Calls
section
variable {prog:Program}{w:World}{A:Around}{E:Value->Shared->Prop}{s:Shared}
def ze0(ho:s.heap.get? l=some o)(hc:o.cls = .type "tuple")(hd:o.data = .seq vs.toArray n)(hsz:vs.length<=sizeLine)(h:∀h':Heap,(∀b o,s.heap.get? b=some o->h'.get? b=some o)->Q vs { s with heap:=h' }):wpAny (model prog w) A (collect (.ref l)) Q E s:=by
 unfold collect;refine aa (wpAny_runValue (codeAny_builtin entry_proto_collect' ?_));show wpAny _ _ (do again (.builtin "list.__iadd__" ⟨[<- newList [],.ref l],[]⟩)) _ _ s;refine aa (fZ (ae ⟨Code.quiet_builtin _ (by decide +kernel),codeAny_builtin entry_list_iadd' ?_⟩));show wpAny _ _ (Builtin.List.listExtendWith (.ref s.heap.objs.size) (.ref l) (.ref s.heap.objs.size)) _ _ { s with heap:=s.heap.push (seqObj "list" #[] 0) };unfold Builtin.List.listExtendWith;have ho':(s.heap.push (seqObj "list" #[] 0)).get? l=some o:=am _ ho;refine aa (cS (T := "tuple") ⟨o,ho',hc⟩ ?_);have ht:(Value.type "tuple" == Value.type "tuple")=true:=by rfl
 rw[if_pos (by rw[ht];simp)];refine aa (gh ho' hd ?_);refine aa (gh (xs:=#[]) (n:=0) (aw _ rfl) rfl ?_);rw[if_neg (by simp)];refine aa (eY (xs:=#[]) (n:=0) (aw _ rfl) rfl ?_ (aN _) (by show (#[]++vs.toArray).size<=sizeLine+1;simp only[Array.size_append,aU,List.length_nil];omega));refine ae ?_
 show wpAny (model prog w) A (do
   let o <- load s.heap.objs.size
   match o.data with
   | .seq xs _=>pure xs.toList
   | _=>unsupported "internal:collect") Q E { s with heap:=(s.heap.push (seqObj "list" #[] 0)).update s.heap.objs.size (Obj.mapSeq (·++vs.toArray)) }
 refine aa (wpAny_load (get?_update_seq (aw _ rfl) _) ?_);show wpAny _ _ (pure ((#[]:Array Value)++vs.toArray).toList) Q E _;rw[show ((#[]:Array Value)++vs.toArray).toList=vs by simp];exact ae (h _ λb o e=>((ba _ s.heap.objs.size _).2 b (a6 (aH e))).trans (am _ e))
end
section
variable {X:Cx}
end
end L2
namespace L3
open PySem PySem.Spec L2
section
variable {X:Cx}{Pn:PN}
@[reducible] def dSortP:List W->Mo W:=λB n Q=>on1 B λx=>onT x λl=>∃ (sts:List (List Int)) (m:Nat),l=sts.map stD/\sts.length<64/\1<=m/\(∀st∈sts,st.length=m)/\sts.Nodup/\∀q:List (List Int),q.Perm sts->(q.Pairwise λa b=>HT.lexLt a b=true)->Q (.d (zbw q)) n
end
end L3
namespace L2
open PySem PySem.Spec PyProof.Rows
section
variable {X:Cx}{pins:List (Addr×Obj)}{σ:St}{H:Hp}{s:Shared}{C:Addr}{E:XK}
end
section
variable {X:Cx}{C:Addr}{E:XK}{x m:Str}{np cpos pos p1:Pos}
end
section
variable {prog:Program}{w:World}{A:Around}{E:Value->Shared->Prop}{K:PySem.W.Frag}{C a:Addr}{o:Obj}{hp:Heap}{gs:Array GenState}{dr:Drawn}{tk:Nat}{oS:OsState}
end
section
variable {X:Cx}{pins:List (Addr×Obj)}{σ:St}{H:Hp}{s:Shared}
end
section
variable {X:Cx}{pins:List (Addr×Obj)}{σ:St}{H H':Hp}{s s':Shared}{C e:Addr}
end
section
variable {M:Model}{A:Around}{E:Value->Shared->Prop}{K:PySem.W.Frag}{C D e:Addr}{oe:Obj}{hp:Heap}{gs:Array GenState}{dr:Drawn}{tk:Nat}{oS:OsState}
end
section
variable {X:Cx}{C W l:Addr}{a c n wx:Str}{ia ic k:Nat}{ap cp ep wp p1 p2 p3 hp pos:Pos}{QH:Hp->Prop}
end
section
variable {P:Program}{w:World}{K:PySem.W.Frag}{mg:Str->Option Value}{base:Heap}{N:List Str}{qual:Str}{scope:Scope}{l:Addr}{cv:Value}{cl:List (Str×Addr)}{A:Around}{outer:List Env}{s:Shared}{H:Hp}{C:Addr}{E:XK}
end
section
variable {X:Cx}{pins:List (Addr×Obj)}{σ:St}{H:Hp}{s:Shared}{E:Value->Shared->Prop}{params:Arguments}{body:Expr}{scope:Scope}{pos:Pos}{c P:Addr}{cl:List (Str×Addr)}
end
section
variable {X:Cx}
end
section
variable {X:Cx}{C W l:Addr}{cs:List Addr}{a c n cx wx:Str}{k k1 k2 k3:Nat}{es:List Expr}{ts:TA}{QH:Hp->Prop}
 {p1 p2 p3 ap cp ep wp q1 q2 q3 hp tp i1 i2 i3 i4 i5 i6 i7 i8 i9 j1 j2 j3 j4 j5 j6 j7 r1 r2 r3 r4 tq:Pos}
end
section
variable {P:Program}{w:World}{K:PySem.W.Frag}{mg:Str->Option Value}{base:Heap}{C W f:Addr}{cs:List Addr}{x a c n cx wx:Str}{st:Stmt}{fd:FuncData}{k k1 k2 k3:Nat}{xs:List (Str×Pos)}
 {p1 p2 p3 ap cp ep wp q1 q2 q3 hp tp i1 i2 i3 i4 i5 i6 i7 i8 i9 j1 j2 j3 j4 j5 j6 j7 r1 r2 r3 r4 tq:Pos}
end
section
variable {X:Cx}{C P cc f:Addr}{cs:List Addr}{x:Str}{k:Nat}{p pos lpos:Pos}{params:Arguments}{body:Expr}{scope:Scope}{N:List Str}{cix:List (Option Nat)}
end
end L2
namespace L3
open PySem PySem.Spec L2
section
variable {X:Cx}{E:XK}{Pn:PN}{M:List Nat}{C:Addr}{e c:Expr}{es:List Expr}{b zw:List Stmt}{p pos p1 p2 np cpos:Pos}{x m:Str}{j:Nat}
end
section
variable {X:Cx}{Pn:PN}{M:List Nat}{C P cc f:Addr}{cs:List Addr}{x y:Str}{k kk m:Nat}{p pos lpos p1 p2:Pos}{params:Arguments}{e:Expr}{es:List Expr}{scope:Scope}{N:List Str}{cix:List (Option Nat)}
 {st:Stmt} {ps:List Str} {fA:Addr} {fd:FuncData} {Fp:List W->Prop} {fs:Ev->Mo (List W)} {j:Nat}
end
end L3
namespace L2
open PySem PySem.Spec PyProof.Rows
end L2
namespace L3
open PySem PySem.Spec L2
end L3
namespace L2
open PySem PySem.Spec PyProof.Rows
def zmR:Sp:=λvs H Q _=>∃ (p c:Addr) (ns:List Int) (n:Nat) (zB:Int),vs=[.ref p,.int zB]/\Pen H p c ns n/\n<=1000000/\1<=zB/\zB<1073741824/\
 ∀ (r:Int) (H':Hp),0<=r->r<zB->Pen H' p c ns (n+1)->(∀b o,b≠p->H b=some o->H' b=some o)->Q (.int r) H'
def zeX:∀b u,b≠p->H b=some u->upd H p o b=some u:=λb u q e=>by rw[zd q];exact e
section
variable {X:Cx}
end
end L2
namespace L3
open PySem L2
def PenJ (J:Jv):Prop:=∀A H H' p c a l,J.K A H->H p=some (.dK (zaD c a l))->(∀b o,b≠p->H b=some o->H' b=some o)->J.K A H'
def IsQ (Pn:PN)(p:Addr):Prop:=(∃c ns,Pn.pn=some (p,c,ns))/\PenJ Pn.J
def zhz:FV:=λPn q n R=>∃p zB,IsQ Pn p/\q=[.pen p,.d (.int zB)]/\n<=1000000/\1<=zB/\zB<1073741824/\∀r,0<=r->r<zB->R (.d (.int r)) (n+1)
def ziY:zsb 2 false zhz zmR:=by
 rintro vs H Q E ⟨Pn,A,ws,n,R,al,J,hl,hp,⟨p,zB,⟨⟨c,ns,B⟩,O⟩,rfl,h1,h2,U,Y⟩,q⟩;obtain⟨v,y,rfl,Z,b2⟩:=zuy J;have e1:v = .ref p:=Z;have e2:y = .int zB:=b2;subst e1 e2;obtain⟨F,I⟩:=hp;rw[B] at F;obtain⟨P1,nc,np⟩:=F;obtain⟨a,l,g1,_⟩:=P1.ob;refine⟨p,c,ns,n,zB,rfl,P1,h1,h2,U,λr H' r0 r1 P' S'=>q _ (n+1) _ H' (Y r r0 r1) (Val.of rfl) ⟨λb o e n'=>S' b o (λz=>?_) e,⟨?_,O _ _ _ _ _ _ _ I g1 S'⟩⟩ λz=>by cases z⟩
 ·subst z;rw[g1] at e;cases e;have:=n' _ rfl;rw[zom] at this;cases this
 ·rw[B];exact⟨P',nc,np⟩
def tk{zB:Int}(q:IsQ Pn p)(h:∀r,0<=r->r<zB->Q (.d (.int r)) (n+1))(B:n<=1000000:=by lia)(h1:1<=zB:=by lia)(h2:zB<1073741824:=by lia):zhz Pn [.pen p,.d (.int zB)] n Q:=⟨p,zB,q,rfl,B,h1,h2,h⟩
@[reducible] def dAny:List W->Mo W:=λB n Q=>on1 B λx=>onL x λl=>∃q:List Bool,l=q.map .bl/\Q (.d (.bl (q.any id))) n
end L3
namespace L2
open PySem PySem.Spec PyProof.Rows
end L2
namespace L3
open PySem PySem.Spec L2
section
variable {X:Cx}{Pn:PN}{M:List Nat}{e:Expr}{f:Ev->Mo W}{pos p p1 p2 p3:Pos}
@[reducible] def isSeqD:Dt->Bool
 | .tup _=>true
 | .lst _=>true
 | _=>false
end
section
variable {X:Cx}{Pn:PN}{M:List Nat}{ow:Bool}{tg it a b:Expr}{f1 f2:Ev->Mo (List W)}{p pos:Pos}
end
end L3
namespace L2
open PySem PySem.Spec PyProof.Rows PySem.W PySem.Calls
def zeK(r:Paired PrN ks xs)(k:Dt):(zhy ks k).isSome=(atKey xs k).isSome:=by have:=(zlZ r k).isSome_eq;rwa[dw] at this
def zlE(r:Paired PrN ks xs)(k:Dt)(I:yr v u):Paired PrN (ks.map λq=>if q.1=k then (q.1,q.2.1,v) else q) (xs.map (putAt k u)):=by
 induction r with
 | nil=>exact .nil
 | @cons p q ps O h _ J=>
  obtain⟨B,F,h⟩:=h;refine .cons ?_ J;show PrN (if p.1=k then (p.1,p.2.1,v) else p) _;unfold putAt;rw[B];split
  ·exact⟨rfl,F,I⟩
  ·exact⟨B,F,h⟩
def zjM(r:Paired PrN ks xs)(h:PrN p q):Paired PrN (ks++[p]) (xs++[q]):=by
 induction r with
 | nil=>exact .cons h .nil
 | cons h _ B=>exact .cons h B
def zjL(r:Paired PrN ks xs):xs.map (λq=>Value.ref q.2.1)=ks.map (λq=>Value.ref q.2.1)/\xs.map (·.1)=ks.map (·.1):=by
 induction r with
 | nil=>exact⟨rfl,rfl⟩
 | cons a _ B=>obtain⟨F,I,_⟩:=a;exact⟨by rw[au,au,B.1,I],by rw[au,au,B.2,F]⟩
def zls(r:Paired PrN ks xs)(k:Dt)(b:Addr)(q:yr v u):Paired PrN (zkj ks k b v) (storedH xs k b u):=by
 unfold zkj storedH;rw[zeK r k];split
 ·exact zlE r k q
 ·exact zjM r ⟨rfl,rfl,q⟩
def zlr (ks:List (Dt×Addr×V))(k:Dt)(b:Addr)(v:V):(zkj ks k b v).length<=ks.length+1:=by
 unfold zkj;split
 ·rw[ab];exact Nat.le_succ _
 ·rw[aq];exact ah _
def zjx(h:um H ks)(h1:k.hk=true)(h2:k.eqOk)(I:Is H k (.ref b)):um H (zkj ks k b v):=by
 intro q B;unfold zkj at B;split at B
 ·obtain⟨J,F,rfl⟩:=aG.mp B;have:=h J F;split
  all_goals exact this
 ·rcases av.mp B with z | z
  ·exact h q z
  ·rw[ao.mp z];exact⟨h1,h2,I⟩
section
variable {X:Cx}{pins:List (Addr×Obj)}{σ:St}{H:Hp}{s:Shared}{a b:Addr}{ks:List (Dt×Addr×V)}{k:Dt}{A:Around}{E:Value->Shared->Prop}
def zhA (H:Hp)(k:Dt)(b:Addr):Prop:=k.hk=true/\k.eqOk/\Is H k (.ref b)
def zsc (H:Hp)(a:Addr)(ks:List (Dt×Addr×V)):Prop:=Rd H a (ddO a ks)/\um H ks
def zmx (q:A.units+64<cLine):(zkv X.prog X.w).room A.in1:=by show A.units+1+9<cLine;lia
def zn0(B:A.units+64<cLine)(I:Inv X pins σ H s)(g:zsc H a ks)(q:zhA H k b)(h:∀s',Inv X pins σ H s'->Q (.bool (!(zhy ks k).isSome)) s') :
  wpAny (model X.prog X.w) A (compareOp .NotIn (.ref b) (.ref a)) Q E s:=by
 obtain⟨lo,z,xs,r,F⟩:=zpY I g.1 g.2;refine wpAny_notIn_heap (zmx B) (zbq I q.1 q.2.1 q.2.2) lo F ?_;rw[<- zeK r];exact h _ (I.tok _)
def zjd(O:A.units+64<cLine)(I:Inv X pins σ H s)(e:H a=some (ddO a ks))(g:um H ks)(B:zhA H k b)(l:ks.length<sizeLine)(U:yr v u)(h:∀s',Inv X pins σ (upd H a (ddO a (zkj ks k b v))) s'->Q () s') :
  wpAny (model X.prog X.w) A (setItem (.ref a) (.ref b) u) Q E s:=by
 obtain⟨lo,z,xs,r,Y⟩:=zpY I (.inl e) g;have Z:xs.length<=sizeLine:=by rw[<- eW r];exact z
 refine wpAny_setItem_heap (hsz:=Z) (zmx O) (zbq I B.1 B.2.1 B.2.2) Y λh' F hs=>h _ ?_;obtain⟨q,es,ep,J,h2,h3,h4,_,h5⟩:=F;exact zaK I (by rw[e];exact True.intro) hs ⟨q,J⟩ (zh5 ⟨az (zlr ks k b v) l,lo,_,zls r k b U,q,es,ep,J,h2,h3,h4,h5⟩)
end
section
variable {X:Cx}
def rInN (q:Bool):R2:=λx y H Q=>∃ (a b:Addr) (k:Dt) (ks:List (Dt×Addr×V)),x = .ref b/\y = .ref a/\zsc H a ks/\zhA H k b/\Q (.bl (if q then !(zhy ks k).isSome else (zhy ks k).isSome)) H
def zjn (B:X.A.units+64<cLine):OpQ X (compareOp .NotIn) (rInN true):=⟨by
 rintro pins s σ H x y v u Q I F J ⟨a,b,k,ks,rfl,rfl,g,O,q⟩;cases F;cases J;exact zn0 B I g O λs' I'=>⟨.bl _,H,I',rfl,q⟩⟩
variable {o i value:Expr}{pos pos':Pos}{td ty tv:TE}
def zt9 (td ty tv:TE):TS:=λD σ H=>tv σ H λv H1=>td σ H1 λx H2=>ty σ H2 λy H3=>∃a b k ks,x = .ref a/\y = .ref b/\H3 a=some (ddO a ks)/\um H3 ks/\zhA H3 k b/\ks.length<sizeLine/\D.nx σ (upd H3 a (ddO a (zkj ks k b v)))
def zoP (q:X.A.units+64<cLine)(B:QE X o td)(hi:QE X i ty)(F:QE X value tv)(hs:swapsWith value (some (.Subscript o i pos')) pos.line X.env=pure false) :
  QS X (.Assign [.Subscript o i pos'] value pos) (zt9 td ty tv):=⟨by
 intro pins s σ H D I h;refine wpAny_Assign_Subscript (thn (F.run pins s σ H _ I h) λr J ⟨v,H1,I1,O,U⟩=>thn (B.run pins J σ H1 _ I1 U) λu Y ⟨x,H2,I2,Z,q2⟩=>thn (hi.run pins Y σ H2 _ I2 q2) λiv s3 ⟨y,H3,I3,ry,a,b,k,ks,ex,ey,e,g,gk,l,q3⟩=>?_) hs;subst ex ey;obtain rfl:u=Value.ref a:=Z;obtain rfl:iv=Value.ref b:=ry;exact zjd q I3 e g gk l O λs4 I4=>⟨σ,_,I4,q3⟩⟩
def zh4(h:Heap)(q:sysModules<h.objs.size):z8 P w H (h.push { cls:=.type "dict",data:=.dict #[] }) h.objs.size (ddO h.objs.size []):=
 zh5 ⟨aN _,ff.mpr (Ne.symm (a6 q)),[],.nil,_,#[],0,aw _ rfl,⟨rfl,rfl,rfl⟩,rfl,rfl,eD⟩
def zuh:TE:=λ_ H Q=>∀p,H p=none->Q (.ref p) (upd H p (ddO p []))
def zoJ:QE X (.Dict [] [] pos) (zuh):=⟨λpins s σ H Q I h=>
 wpAny_Dict_empty ⟨.ref s.heap.objs.size,_,I.laid (a:=s.heap.objs.size) (o:=ddO s.heap.objs.size []) (t':=s.toks) (λ_ _ q=>am _ q) (ah _) (zh4 s.heap I.big),rfl,h _ (I.hok.fresh (ah _))⟩⟩
end
section
variable {X:Cx}{pins:List (Addr×Obj)}{σ:St}{H:Hp}{s:Shared}{a:Addr}{ks:List (Dt×Addr×V)}
def Inv.frzN (I:Inv X pins σ H s)(h:H a=some (ddO a ks)):∃ob,Inv X pins σ (upd H a (.frz ob (ddO a ks))) s:=by have k:=(show z8 X.prog X.w H s.heap a (ddO a ks) from I.hok a _ h);obtain⟨⟨z,lo,xs,r,o,es,ep,h1,q⟩,_⟩:=id k;exact⟨o,I.write (x:=a) (e:=a) (h':=s.heap) (t':=s.toks) (by rw[h];trivial) (.inl rfl) (λ_ _ _ e=>e) ⟨o,h1⟩ ⟨h1,zh5 ⟨z,lo,xs,r,o,es,ep,h1,q⟩⟩⟩
def zuf (te:TE):TE:=λσ H Q=>te σ H λx H1=>∃a ks,x = .ref a/\H1 a=some (ddO a ks)/\∀ob,Q x (upd H1 a (.frz ob (ddO a ks)))
def zoI(h:QE X e te):QE X e (zuf te):=⟨by
 intro pins s σ H Q I q;refine thn (h.run pins s σ H _ I q) ?_;rintro v O ⟨x,H1,I1,B,a,ks,rfl,F,J⟩;obtain⟨ob,I2⟩:=I1.frzN F;exact⟨_,_,I2,B,J ob⟩⟩
def zn1 (I:Inv X pins σ H s)(h:zsc H a ks) :
  (a==sysModules)=false/\∃ (es:Array DictEntry) (ep:Nat) (ob:Obj),s.heap.get? a=some ob/\ob.ExactDict/\ob.data = .dict es ep/\es.toList.map (·.key)=ks.map (λq=>Value.ref q.2.1)/\(ks.map (·.1)).Nodup/\ks.length<=sizeLine:=by
 obtain⟨⟨z,lo,xs,r,o,es,ep,h1,h2,F,J,O⟩,_⟩:=(show z8 X.prog X.w H s.heap a (ddO a ks) from h.1.ok I.hok);have B:=zjL r;refine⟨lo,es,ep,o,h1,h2,F,?_,by rw[<- B.2];exact O,z⟩;rw[J,aI,<- B.1];rfl
end
def Itn (d:Addr)(ob:Obj)(u:HO)(ys:List Addr):It:=
 ⟨λi H=>H d=some (.frz ob u)/\i<ys.length,λi H x H'=>H'=H/\∃q,ys[i]?=some q/\x = .ref q,λi H=>H d=some (.frz ob u)/\i=ys.length⟩
def zpj {P:Program}{w:World}{K:PySem.W.Frag}{tg:Expr}{ob:Obj}{u:HO}{ys:List Addr}{es:Array DictEntry}{ep:Nat}(d it:Addr)(hx:ob.ExactDict)(hd:ob.data = .dict es ep)(J:es.toList.map (·.key)=ys.map Value.ref) :
  Turn P w K tg (Itn d ob u ys) [it] it (λi h=>h.IsKeyIter it d i es.size ep) where
 mem:=by simp
 obj:=λi h st b q=>by
  have e:b=it:=by simpa using q
  subst e;obtain⟨o,e,c,d⟩:=st
  simp_all
 keep:=λi h h' ⟨o,e,r⟩ k=>⟨o,k it (by simp) o e,r⟩
 item:=by
  rintro X O U Y hc i pins s σ H E I F st ⟨Z,hi⟩;subst O U Y;obtain⟨f0,f1,f2,f3,f4,f5⟩:=F it (by simp);have hm:zcL s.heap d es ep:=⟨ob,(I.hok d _ Z).1,hx,hd⟩;have hl:es.toList.length=ys.length:=by have:=congrArg List.length J;rwa[ab,ab] at this
  have e1:es[i]?=some es.toList[i]:=by rw[zca,aj]
  have e2:es.toList[i].key=Value.ref ys[i]:=by
   have:(es.toList.map (·.key))[i]?=(ys.map Value.ref)[i]?:=by rw[J]
   rw[aE,aE,aj (by lia),aj hi] at this
   simp_all
  refine zhc st hm e1 λh' B sb=>?_;have I1:Inv X pins σ H { s with heap:=h' }:=I.turned (t':=s.toks) (λb o q e=>(sb.2 b q).trans e) f0 f1 f3 f4 f5;obtain⟨o,e,c,d⟩:=id B;exact⟨_,rfl,zkH (s:={ s with heap:=h' }) e c d (by decide) ⟨.ref ys[i],H,I1,e2,⟨rfl,_,aj hi,rfl⟩,B,λb q=>(F b q).1⟩⟩
 done:=by
  rintro X O U Y hc i pins s σ H E I F st ⟨Z,hi⟩;subst O U Y;obtain⟨f0,f1,f2,f3,f4,f5⟩:=F it (by simp);have hm:zcL s.heap d es ep:=⟨ob,(I.hok d _ Z).1,hx,hd⟩;have hl:es.size=ys.length:=by have:=congrArg List.length J;rwa[ab,ab,aK] at this
  subst hi;rw[<- hl] at st;exact zjg (I.ok.hd hc) st hm λh' eb=>⟨rfl,I.turned (t':=s.toks) (λb o q e=>eb b o q e) f0 f1 f3 f4 f5⟩
 self:=λ_ _ _ _ _ st h=>wpAny_pyIter_keyiter st h
def zp9 (te:TE):TI:=λσ H R=>te σ H λx H1=>∃a ob ks,x = .ref a/\H1 a=some (.frz ob (ddO a ks))/\um H1 ks/\((ks.map (·.1)).Nodup->R (Itn a ob (ddO a ks) (ks.map (·.2.1))) H1)
def zlw(h:QE X e te):QI X tg e (zp9 te):=⟨by
 intro pins s σ H R I q;refine thn (h.run pins s σ H _ I q) ?_;rintro v B ⟨x,H1,I1,Y,a,ob,ks,rfl,F,Z,q1⟩;cases Y;obtain⟨lo,es,ep,o,J,O,U,e1,nd,_⟩:=zn1 I1 ⟨.inr ⟨ob,F⟩,Z⟩;have e:o=ob:=by have:=(I1.hok a _ F).1;rw[J] at this;exact cj this
 subst e;refine ziB lo ⟨o,J,O,U⟩ ?_;refine⟨B.heap.objs.size,[B.heap.objs.size],_,_,H1,rfl,I1.kept (t':=B.toks) λb o e=>am _ e,zpj (ys:=ks.map (·.2.1)) a _ O U (by rw[aI];exact e1),⟨_,aw _ rfl,rfl,rfl⟩,λb hb=>?_,q1 nd⟩;have e:b=B.heap.objs.size:=by simpa using hb
 subst e;exact I1.fpOk (ah _) (I1.hok.fresh (ah _))⟩
end L2
namespace L3
open PySem PySem.Spec L2
@[reducible] def onM (w:W) (P:List (Dt×Dt)->Prop):Prop:=match w with | .dn _ i=>P i | _=>False
def zqC:onM w P = ∃b i,w = .dn b i/\P i:=propext ⟨λh=>by cases w <;> first | exact False.elim h | exact⟨_,_,rfl,h⟩,by rintro⟨b,i,rfl,h⟩;exact h⟩
@[reducible] def zpv (w:W) (P:List (Dt×Dt)->Prop):Prop:=match w with | .dn false i=>P i | _=>False
def zfz:zpv w P = ∃i,w = .dn false i/\P i:=propext ⟨λh=>by
 cases w with
 | dn b i=>cases b <;> first | exact False.elim h | exact⟨_,rfl,h⟩
 | _=>exact False.elim h,by rintro⟨i,rfl,h⟩;exact h⟩
@[reducible] def onMz (w:W) (P:List (Dt×Dt)->Prop):Prop:=match w with | .dn true i=>P i | _=>False
def zn7:onMz w P = ∃i,w = .dn true i/\P i:=propext ⟨λh=>by
 cases w with
 | dn b i=>cases b <;> first | exact False.elim h | exact⟨_,rfl,h⟩
 | _=>exact False.elim h,by rintro⟨i,rfl,h⟩;exact h⟩
def zpn (ks:List (Dt×Addr×V))(k:Dt):zhy ks k=zaE (kvN ks) k:=by unfold zhy zaE kvN;rw[List.find?_map,Option.map_map];rfl
def zoB (ks:List (Dt×Addr×V))(k:Dt)(b:Addr)(v:V):kvN (zkj ks k b v)=uQ (kvN ks) k v:=by
 have e:(zhy ks k).isSome=(kvN ks).any λkv=>decide (kv.1=k):=by
  unfold zhy kvN;rw[dw,gm]
  induction ks with
  | nil=>rfl
  | cons q r B=>
   rw[bH,cH];show _=(decide (q.1=k) || _)
   cases decide (q.1=k) with
   | true=>rfl
   | false=>rw[Bool.false_or];exact B
 unfold zkj uQ;rw[<- e];split
 ·unfold kvN;rw[aI,aI];refine dM λq _=>?_;show ((if q.1=k then (q.1,q.2.1,v) else q).1,(if q.1=k then (q.1,q.2.1,v) else q).2.2)=if q.1=k then (q.1,v) else (q.1,q.2.2);split <;> rfl
 ·unfold kvN;rw[aP];rfl
def zs1(h:Bor A H (.dn b kvs) v):∃a ks,v = .ref a/\zsc H a ks/\xp (zz A H) kvs (kvN ks):=by obtain⟨a,ks,e,h1,h2,q⟩:=h;exact⟨a,ks,e,⟨h1.rd,h2.stay (zl.same zt)⟩,q⟩
def zmu(h1:k.hk=true)(h2:k.eqOk)(h:Bor A H (.d k) v)(q:k.isTup=true):∃b,v = .ref b/\zhA H k b/\Is (zz A H) k (.ref b):=by
 cases k with
 | tup l=>
  have h':Is (zz A H) (.tup l) v:=h;obtain⟨b,xs,rfl,g1,g2⟩:=id h';exact⟨b,rfl,⟨h1,h2,Bor.is h⟩,h'⟩
 | _=>cases q
def zi3(h:xp G kvs (kvN ks))(k:Dt):(zhy ks k).isSome=(yt kvs k).isSome:=by
 rw[zpn]
 cases e:yt kvs k with
 | none=>rw[(h.look (k:=k)).1 e];rfl
 | some d=>obtain⟨v,h1,h2⟩:=(h.look (k:=k)).2 d e;rw[h1];rfl
def _root_.L2.Dt.ky (k:Dt):Prop:=k.hk=true/\k.eqOk/\k.isTup=true
section
variable {X:Cx}{Pn:PN}{M S:List Nat}{fr fr':Bool}{pos p:Pos}{e a b c:Expr}{f fa fb fc:Ev->Mo W}
@[reducible] def dInN (q:Bool):W->W->Mo W:=λx y n Q=>onD x λk=>onM y λkvs=>k.ky/\Q (.d (.bl (xr q (yt kvs k).isSome))) n
def zrU:F2 Pn false (rInN q) (dInN q):=⟨by
 rintro A H x y wx O n Q R U F B P h k;simp only[dInN,xl,zqC] at h;obtain⟨d,rfl,Y,kvs,rfl,⟨k1,k2,k3⟩,h⟩:=h;obtain⟨a,ks,rfl,g,I⟩:=zs1 B;obtain⟨b,rfl,J,_⟩:=zmu k1 k2 F k3;refine⟨a,b,d,ks,rfl,rfl,g,J,k _ n _ H h (Val.of ?_) (Go.refl P) λz=>by cases z⟩;rw[zi3 I,zr6];rfl⟩
@[reducible] def dNGet (fd fk:Ev->Mo W):Ev->Mo W:=λρ n Q=>fd ρ n λx n1=>fk ρ n1 λy n2=>onM x λkvs=>onD y λk=>k.ky/\onO (yt kvs k) λd=>Q (.d d) n2
def zqe:JE X Pn M true (.Dict [] [] pos) (mC (.dn false [])):=⟨_,zoJ,⟨λA σ H ρ n Q R E P F k=>λp np=>by have S:=yM.upd (o:=ddO p []) np;have B:∀ {T:Hp},T p=some (ddO p [])->zhw false T p []:=λh=>h;exact k _ n _ _ F ⟨p,[],rfl,B (zn (E.new np) zf),(λq z=>by cases z),rfl⟩ (Go.same P S) λ_=>⟨p,rfl,.of np,⟨_,zf,rfl⟩,p,[],rfl,B zf,(λq z=>by cases z),rfl⟩⟩⟩
@[reducible] def zpT (i:Nat) (fk f:Ev->Mo W):Ms:=λρ n k=>onV ρ i λv=>zpv v λ_=>f ρ n λw m=>fk ρ m λy F=>onD w λd=>onD y λB=>onV ρ i λI=>zpv I λkvs=>B.ky/\kvs.length<lim/\onP ρ i (.dn false (zex kvs B d)) λq=>k.nx q F
def znL (i:Nat){x:Str}{np sp:Pos}(hu:X.A.units+64<cLine)(hk:JB X Pn M c fc)(he:JE X Pn M fr' e f)(hi:i∈M:=by decide)(hN:X.N[i]?=some x:=by rfl)(hv:Vis X.env.scope x:=by walk_at "v")(hd:(x==("__debug__" : Str))=false:=by decide)
  (ac:(x==("__classdict__" : Str))=false:=by decide) (hs:swapsWith e (some (.Subscript (.Name x np) c p)) sp.line X.env=pure false:=by rfl) :
  JS X Pn S M fr (.Assign [.Subscript (.Name x np) c p] e sp) (zpT i fc f):=by
 obtain⟨te,q,r⟩:=he.ex;obtain⟨tk,qk,rk⟩:=hk.ex;refine⟨_,zoP hu (qv i hN hv hd ac) qk q hs,⟨ ?_⟩⟩;rintro B A σ H ρ n k D a kk I;unfold zpT at I;rw[za5] at I;obtain⟨w0,e0,I⟩:=I;rw[zfz] at I;obtain⟨l0,rfl,I⟩:=I;obtain⟨v0,s0,_,o3⟩:=a.env.val i _ e0;obtain⟨O,rfl,hA,al,_⟩:=o3 hi;refine r.run A σ H ρ n _ _ a.env a.pn I λw m v H1 r1 ag g1 _=>⟨.ref O,s0,?_⟩;have a1:=a.step g1;refine rk.run A σ H1 ρ m _ _ a1.env a1.pn r1 λy m2 v2 H2 F b2 g2=>?_;rw[xl] at F;obtain⟨d,rfl,F⟩:=F;rw[xl] at F;obtain⟨kd,rfl,F⟩:=F;rw[za5] at F;obtain⟨w3,e,F⟩:=F;rw[zfz] at F;obtain⟨kvs,rfl,⟨k1,k2,k3⟩,hz,F⟩:=F;rw[za4] at F;have a2:=a1.step g2;obtain⟨v3,s3,_,o4⟩:=a2.env.val i _ e;rw[s0] at s3;cases s3;obtain⟨an,e4,_,hb,_⟩:=o4 hi;cases e4;obtain⟨a5,ks,e5,J,U,Y⟩:=hb;cases e5;have J:H2 O=some (ddO O ks):=J;obtain⟨bd,rfl,gk,bk⟩:=zmu k1 k2 b2 k3;have Z:ks.length=kvs.length:=by have:=Y.len;rw[show (kvN ks).length=ks.length from ab ..] at this;exact this
 refine⟨O,bd,kd,ks,rfl,rfl,J,U.stay (zl.same zt),gk,zbK (by rw[Z];exact cR hz),kk.nx A σ _ _ m2 (a2.wrX (w':=.dn false (zex kvs kd d)) hi e s0 ⟨O,_,rfl,zf,zjx U k1 k2 bk,?_⟩ rfl zlb rfl) F⟩;rw[zoB];exact Y.put (ag.stay g2.st).is
def zjt{A:Addr->Prop}{H:Hp}{p:Addr}(h:yK Pn A n H)(hp:H p=some (ddO p ks)):yK Pn A n (L2.upd H p o):=by
 refine⟨?_,Pn.J.frz h.2 hp zlb rfl⟩;have h:=h.1;split at h
 ·trivial
 ·refine⟨?_,h.2⟩;obtain⟨h1,_⟩:=h;obtain⟨a,l,g1,g2⟩:=h1.ob;exact⟨⟨a,l,by rw[zd λz=>by rw[z,hp] at g1;cases g1];exact g1,g2⟩,let ⟨ob,e⟩:=h1.ls;⟨ob,by rw[zd λz=>by rw[z,hp] at e;cases e];exact e⟩,h1.len⟩
@[reducible] def zsN (f:Ev->Mo W):Ev->Mo W:=λρ n Q=>f ρ n λx m=>zpv x λkvs=>Q (.dn true kvs) m
def zpZ{G G':Hp}{a:Addr}{ob:Obj}{kvs:List (Dt×Dt)}(h:G' a=some (.frz ob (ddO a ks)))(s:zl G G')(h2:um G ks)(q:xp G kvs (kvN ks)):WAt G' G' (.dn true kvs) (.ref a):=
 ⟨a,ks,rfl,(if_pos rfl).mpr ⟨ob,h⟩,h2.stay s,q.stay s⟩
def zmq (h:JE X Pn M true e f):JE X Pn M false e (zsN f):=by
 obtain⟨te,q,r⟩:=h.ex;refine⟨_,zoI q,⟨λA σ H ρ n Q R E P Y k=>?_⟩⟩;refine r.run A σ H ρ n _ _ E P Y λw m v H' F hv g Z=>?_;rw[zfz] at F;obtain⟨kvs,rfl,F⟩:=F;obtain⟨J,e1,B,_,ac,ks,e2,h1,h2,h3⟩:=Z rfl;subst e1;cases e2;have h1:H' J=some (ddO J ks):=h1;have nA:=E.newF B;refine⟨J,ks,rfl,h1,λob=>k _ m _ _ F (zpZ (zn nA zf) (λb o I O=>?_) h2 h3) ⟨λb o I O=>?_,?_⟩ λz=>by cases z⟩
 ·obtain⟨U,z2⟩:=zI.mp I;exact zn (λy=>U (.inl y)) (by rw[zd λy=>U (.inr y)];exact z2)
 ·rw[zd λy=>by subst y;exact B o I O];exact g.st b o I O
 ·exact zjt g.pn h1
@[reducible] def mFrzO (j:Nat) (fs:Ms):Ms:=λρ n k=>onV ρ j λw=>zpv w λkvs=>onP ρ j (.dn true kvs) λq=>fs q n { rt:=k.rt,nx:=λ_ _=>False }
def zqc {A:Addr->Prop}{H:Hp}{B:Addr}{ob:Obj}{ks:List (Dt×Addr×V)}{kvs:List (Dt×Dt)}(h:zz A H B=some (.frz ob (ddO B ks)))(J:um (zz A H) ks)(F:kvs.map (·.1)=ks.map (·.1)):ItV false A H (Itn B ob (ddO B ks) (ks.map (·.2.1))) (kvs.map λq=>W.d q.1) where
 one:=λi w A2 H2 e s _ _=>by
  have I:(ks.map λq=>W.d q.1)[i]?=some w:=by rw[<- e];have:=congrArg (List.map W.d) F;rw[aI,aI] at this;exact congrArg (·[i]?) this.symm
  rw[aE] at I;obtain⟨q,h1,rfl⟩:=aF.mp I;refine⟨⟨zt _ _ (s _ _ h λk z=>by cases z),by rw[ab];exact (af.mp h1).1⟩,?_⟩;rintro y H3 ⟨rfl,O,h2,rfl⟩;rw[aE,h1] at h2;cases h2;exact⟨λ_ _ z=>z,Val.of ((J q (aA h1)).2.2.stay s)⟩
 stop:=λA2 H2 s _=>by have:=congrArg List.length F;rw[ab,ab] at this;exact⟨zt _ _ (s _ _ h λk z=>by cases z),by rw[ab,ab];exact this⟩
def xp.keys' {κ:Type}{G:Hp}:∀ {kvs:List (κ×Dt)} {ks:List (κ×V)},xp G kvs ks->ks.map (·.1)=kvs.map (·.1)
 | [],_,h=>by cases h;rfl
 | q::r,ks,⟨v,s,e,h1,h2⟩=>by subst e;rw[au,au,xp.keys' h2]
def zk1 (ks:List (Dt×Addr×V)):(kvN ks).map (·.1)=ks.map (·.1):=by unfold kvN;rw[aI];rfl
@[reducible] def dItN (fa:Ev->Mo W):Ev->Mo (List W):=λρ n Q=>fa ρ n λx m=>onMz x λkvs=>(kvs.map (·.1)).Nodup->Q (kvs.map λq=>W.d q.1) m
def zth(h:JE X Pn M fr e f):JI X Pn M false tg e (dItN f):=by
 obtain⟨te,q,r⟩:=h.ex;refine⟨_,zlw q,⟨λA σ H ρ n Q R E P O k=>?_⟩⟩;refine r.run A σ H ρ n _ _ E P O λw m v H1 F U g _=>?_;rw[zn7] at F;obtain⟨kvs,rfl,F⟩:=F;obtain⟨I,ks,rfl,h1,h2,Y⟩:=U;obtain⟨ob,B⟩:∃ob,zz A H1 I=some (.frz ob (ddO I ks)):=by simpa [zhw] using h1
 have J:kvs.map (·.1)=ks.map (·.1):=by rw[<- Y.keys',zk1]
 exact⟨I,ob,ks,rfl,zt _ _ B,h2.stay (zl.same zt),λZ=>k _ m _ H1 (F (by rw[J];exact Z)) (zqc B h2 J) g⟩
end
end L3
namespace L2
open PySem PySem.Spec PyProof.Rows PySem.W PySem.Calls
mutual
def enD:Dt->List Int
 | .int n=>[n]
 | .tup l=>zaB l
 | _=>[]
def zaB:List Dt->List Int
 | []=>[0]
 | d::l=>1::(enD d++zaB l)
end
mutual
def Dt.cmp:Dt->Dt->Bool
 | .int _,.int _=>true
 | .tup l,.tup m=>Dt.cmps l m
 | _,_=>false
def Dt.cmps:List Dt->List Dt->Bool
 | a::l,b::m=>Dt.cmp a b&&Dt.cmps l m
 | _,_=>true
end
mutual
def zgt:∀ {x y:Dt} (r s:List Int),Dt.cmp x y=true->HT.lexLt (enD x++r) (enD y++s)=if x=y then HT.lexLt r s else HT.lexLt (enD x) (enD y)
 | .int n,.int m,r,s,_=>by
  simp only[enD,cG,fq,HT.lexLt_cons,Dt.int.injEq,HT.lexLt_nil_nil];split
  ·rfl
  ·rfl
 | .tup l,.tup m,r,s,h=>by have:=ziV r s (show Dt.cmps l m=true from h);simp only[enD,Dt.tup.injEq];exact this
 | .int _,.tup _,_,_,h=>by cases h
 | .tup _,.int _,_,_,h=>by cases h
 | .non,_,_,_,h=>by cases h
 | .bl _,_,_,_,h=>by cases h
 | .str _,_,_,_,h=>by cases h
 | .lst _,_,_,_,h=>by cases h
 | .dct,_,_,_,h=>by cases h
 | .int _,.non,_,_,h=>by cases h
 | .int _,.bl _,_,_,h=>by cases h
 | .int _,.str _,_,_,h=>by cases h
 | .int _,.lst _,_,_,h=>by cases h
 | .int _,.dct,_,_,h=>by cases h
 | .tup _,.non,_,_,h=>by cases h
 | .tup _,.bl _,_,_,h=>by cases h
 | .tup _,.str _,_,_,h=>by cases h
 | .tup _,.lst _,_,_,h=>by cases h
 | .tup _,.dct,_,_,h=>by cases h
def ziV:∀ {l m:List Dt} (r s:List Int),Dt.cmps l m=true->HT.lexLt (zaB l++r) (zaB m++s)=if l=m then HT.lexLt r s else HT.lexLt (zaB l) (zaB m)
 | [],[],r,s,_=>by rw[if_pos rfl];rfl
 | [],_::_,r,s,_=>by rw[if_neg (by simp)];rfl
 | _::_,[],r,s,_=>by rw[if_neg (by simp)];rfl
 | a::l,b::m,r,s,h=>by
  simp only[Dt.cmps,aJ] at h;have e1:=zgt (zaB l++r) (zaB m++s) h.1;have e2:=zgt (zaB l) (zaB m) h.1;have e3:=ziV r s h.2;show HT.lexLt (1::(enD a++zaB l)++r) (1::(enD b++zaB m)++s)=_;rw[cG,cG,HT.lexLt_cons,if_pos rfl,ax,ax,e1];show _=if a::l=b::m then HT.lexLt r s else HT.lexLt (1::(enD a++zaB l)) (1::(enD b++zaB m));rw[HT.lexLt_cons,if_pos rfl,e2];by_cases hab:a=b
  ·subst hab;rw[if_pos rfl,if_pos rfl,e3];by_cases hlm:l=m
   ·rw[if_pos hlm,if_pos (by rw[hlm])]
   ·rw[if_neg hlm,if_neg (λz=>hlm (eZ z).2)]
  ·rw[if_neg hab,if_neg hab,if_neg (λz=>hab (eZ z).1)]
end
def zgs(h:Dt.cmp a b=true):HT.lexLt (zaB (a::l)) (zaB (b::m))=if a=b then HT.lexLt (zaB l) (zaB m) else HT.lexLt (enD a) (enD b):=by show HT.lexLt (1::(enD a++zaB l)) (1::(enD b++zaB m))=_;rw[HT.lexLt_cons,if_pos rfl,zgt _ _ h]
section
variable {P:Program}{w:World}
def zgc{A:Around}{E:Value->Shared->Prop}{s:Shared}{x y:Dt}{u v:Value}{Q:Bool->Shared->Prop}(B:x.eqOk)(F:y.eqOk)(O:Reads s.heap u (PySem.W.kqdP x.toW) as)(U:Reads s.heap v (PySem.W.kqdP y.toW) J)(Z:A.units+9<cLine)(q:Q (decide (x=y)) s):wpAny (model P w) A (eqBool u v) Q E s:=by have I:=cO 8 _ B;have Y:=cO 8 _ F;refine SeqAt.eqBoolOverData _ _ _ _ _ _ _ _ _ _ _ _ O U I.1 Y.1 ?_ (by rw[zmk B F];exact q);have:min (PySem.W.kqdP x.toW).depth (PySem.W.kqdP y.toW).depth<=8:=az (Nat.min_le_left _ _) I.2;lia
def zeg(h:PySem.W.kqdOk n d=true):∀k,n<=k->PySem.W.kqdOk k d=true:=by
 have q:∀ (n:Nat) (d:PySem.W.Dat),PySem.W.kqdOk n d=true->PySem.W.kqdOk (n+1) d=true:=by
  intro n
  induction n with
  | zero=>intro d h;cases d <;> simp_all [PySem.W.kqdOk]
  | succ n B=>intro d h;cases d <;> simp_all [PySem.W.kqdOk]
 intro k F
 induction k with
 | zero=>
  obtain rfl:n=0:=by lia
  exact h
 | succ k B=>
  by_cases e:n=k+1
  ·subst e;exact h
  ·exact q _ _ (B (by lia))
def znR:∀ (n:Nat) {x y:Dt} {A:Around} {s:Shared} {u v:Value} {as bs:List Addr} {Q:Value->Shared->Prop},n<=8->x.hk=true->y.hk=true->Dt.cmp x y=true->PySem.W.kqdOk n x.toW=true->PySem.W.kqdOk n y.toW=true->
  Reads s.heap u (PySem.W.kqdP x.toW) as->Reads s.heap v (PySem.W.kqdP y.toW) bs->A.units+n+20<cLine->Q (.bool (HT.lexLt (enD x) (enD y))) s->wpAny (model P w) A (compareOp .Lt u v) Q E s:=by
 intro n
 induction n generalizing E with
 | zero=>
  intro x y A s u v as bs Q hn hx hy hc ox oy rx ry hu q
  cases x with
  | int i=>
   cases y with
   | int j=>
    cases rx;cases ry;refine PyProof.Rows.lt_int ?_
    have e:HT.lexLt (enD (.int i)) (enD (.int j))=decide (i<j):=by
     show (if i=j then HT.lexLt [] [] else decide (i<j))=decide (i<j);by_cases h:i=j
     ·rw[if_pos h,h];simp[HT.lexLt]
     ·rw[if_neg h]
    rw[<- e];exact q
   | _=>cases hc
  | tup l=>simp[Dt.toW,PySem.W.kqdOk] at ox
  | _=>cases hx
 | succ n ih=>
  intro x y A s u v as bs Q hn hx hy hc ox oy rx ry hu q
  cases x with
  | int i=>
   cases y with
   | int j=>
    cases rx;cases ry;refine PyProof.Rows.lt_int ?_
    have e:HT.lexLt (enD (.int i)) (enD (.int j))=decide (i<j):=by
     show (if i=j then HT.lexLt [] [] else decide (i<j))=decide (i<j);by_cases h:i=j
     ·rw[if_pos h,h];simp[HT.lexLt]
     ·rw[if_neg h]
    rw[<- e];exact q
   | _=>cases hc
  | tup l=>
   cases y with
   | tup m=>
    have hi:=xD ox;have hj:=xD oy;have an:=yY.mp (show Dt.hks l=true from hx);have a0:=yY.mp (show Dt.hks m=true from hy)
    cases rx with
    | @tuple a o xs k1 xd as g al hd hl=>
    cases ry with
    | @tuple b o2 ys k2 yd bs g2 ac a1 a2=>
    refine PySem.W.cmp_ofLt ?_;refine wpAny_richCompare_same_room (op:=.Lt) ⟨o,g,al⟩ ⟨o2,g2,ac⟩ F.slot_tuple_lt (aX F.slot_tuple_lt ⟨o,g,al⟩ F.entry_tuple_lt ?_ (F.args_tuple_lt_2 _ _)) (by lia);show wpAny _ _ (isInstance (.ref b) (.type "tuple") >>= _) _ _ s;refine aa (cE ⟨o2,g2,ac⟩ isSubtype_tuple_tuple ?_);simp only[cV,aL,if_false];refine aa (fK g hd ?_);refine aa (fK g2 a1 ?_);refine aa ?_
    refine cY _
     (λzw r s'=>r.1=none/\s'=s/\∃l' J O U ad ag,zw=List.zip O U/\(∀d∈l',d∈l)/\(∀d∈J,d∈m)/\Dt.cmps l' J=true/\ReadsAll s.heap O (PySem.W.kqdPs (Dt.toWs l')) ad/\ReadsAll s.heap U (PySem.W.kqdPs (Dt.toWs J)) ag/\HT.lexLt (zaB l') (zaB J)=HT.lexLt (zaB l) (zaB m)/\O.length+ys.size=U.length+xs.size)
     _ ?_ ?_ _ _ ⟨rfl,rfl,l,m,xs.toList,ys.toList,_,_,rfl,λ_ z=>z,λ_ z=>z,hc,hl,a2,rfl,by simp;lia⟩
    ·rintro⟨p,q'⟩ zw r s' ⟨hr,rfl,l',J,O,U,ad,ag,Z,hL,hM,Y,ra,rb,B,I⟩
     cases l' with
     | nil=>
      simp only[Dt.toWs,PySem.W.kqdPs] at ra;cases ra;simp at Z
     | cons d l'=>
     cases J with
     | nil=>
      simp only[Dt.toWs,PySem.W.kqdPs] at rb;cases rb;simp at Z
     | cons d2 J=>
     simp only[Dt.toWs,PySem.W.kqdPs] at ra rb
     cases ra with
     | cons r1 ra=>
     cases rb with
     | cons r2 rb=>
     simp only[fG,dU,Prod.mk.injEq] at Z;obtain⟨⟨rfl,rfl⟩,rfl⟩:=Z;simp only[Dt.cmps,aJ] at Y;have o1:=hi d (hL d (by simp));have o2:=hj d2 (hM d2 (by simp));refine aa (zgc (zeg o1 8 (by lia)) (zeg o2 8 (by lia)) r1 r2 (by show A.units+1+9<cLine;lia) ?_);rw[zgs Y.1] at B;by_cases hd:d=d2
     ·rw[aD hd];rw[if_pos hd] at B;simp only[cV,aL,if_false];exact ae ⟨rfl,rfl,l',J,_,_,_,_,rfl,λz Z=>hL z (ai _ Z),λz Z=>hM z (ai _ Z),Y.2,ra,rb,B,by simp only[aT] at I;lia⟩
     ·rw[aO hd];rw[if_neg hd] at B;simp only[Bool.not_false,if_true];refine aa (ck ?_);refine aa (show wpAny _ _ (compareOp .Lt p q') _ _ _ from ih (by lia) (an d (hL d (by simp))) (a0 d2 (hM d2 (by simp))) Y.1 o1 o2 r1 r2 (by show A.units+1+n+20<cLine;lia) ?_);refine aa (ae (ae ?_));show wpAny _ _ (pure _) _ _ _;refine ae ⟨_,rfl,(λe=>nomatch e),?_⟩;rw[B];exact q
    ·rintro⟨r1,r2⟩ s' ⟨hr,rfl,l',J,O,U,ad,ag,Z,hL,hM,Y,ra,rb,B,I⟩;simp only at hr;subst hr;show wpAny _ _ (ret (Builtin.Tuple.tupleCompareSizes CmpOp.Lt xs.size ys.size)) _ _ _;refine ae ⟨_,rfl,(λe=>nomatch e),?_⟩
     have e:HT.lexLt (zaB l) (zaB m)=decide (xs.size<ys.size):=by
      rw[<- B]
      cases l' with
      | nil=>
       simp only[Dt.toWs,PySem.W.kqdPs] at ra;cases ra
       cases J with
       | nil=>
        simp only[Dt.toWs,PySem.W.kqdPs] at rb;cases rb;exact (aO (by simp at I;lia)).symm
       | cons d2 J=>
        simp only[Dt.toWs,PySem.W.kqdPs] at rb;cases rb;exact (aD (by simp at I;lia)).symm
      | cons d l'=>
       simp only[Dt.toWs,PySem.W.kqdPs] at ra;cases ra
       cases J with
       | nil=>
        simp only[Dt.toWs,PySem.W.kqdPs] at rb;cases rb;exact (aO (by simp at I;lia)).symm
       | cons d2 J=>
        simp only[Dt.toWs,PySem.W.kqdPs] at rb;cases rb;simp at Z
     show Q (.bool (decide (xs.size<ys.size))) _;rw[<- e];exact q
   | _=>cases hc
  | _=>cases hx
def lexI:∀s:List Int,HT.lexLt s s=false:=zQ
def zaP:∀ {a b c:List Int},HT.lexLt a b=true->HT.lexLt b c=true->HT.lexLt a c=true
 | [],[],_,h,_=>by cases h
 | [],_::_,[],_,h=>by cases h
 | [],_::_,_::_,_,_=>rfl
 | _::_,[],_,h,_=>by cases h
 | _::_,_::_,[],_,h=>by cases h
 | x::a,y::b,z::c,q,B=>by
  rw[HT.lexLt_cons] at q B ⊢;by_cases F:x=y
  ·by_cases I:y=z
   ·rw[if_pos F] at q;rw[if_pos I] at B;rw[if_pos (F.trans I)];exact zaP q B
   ·grind
  ·grind
def zaO:∀ {a b:List Int},a=b\/HT.lexLt a b=true\/HT.lexLt b a=true
 | [],[]=>.inl rfl
 | [],_::_=>.inr (.inl rfl)
 | _::_,[]=>.inr (.inr rfl)
 | x::a,y::b=>by
  rw[HT.lexLt_cons,HT.lexLt_cons];by_cases e:x=y
  ·subst e;rw[if_pos rfl,if_pos rfl];rcases zaO (a:=a) (b:=b) with h1 | h1 | h1
   all_goals simp_all
  ·rw[if_neg e,if_neg (Ne.symm e)];rcases Int.lt_or_gt_of_ne e with h1 | h1
   all_goals simp_all
def zaN{sts:List (List Int)}(hi:i<sts.length)(B:j<sts.length):decide (xj sts i<xj sts j)=HT.lexLt (sts.getD i []) (sts.getD j []):=by
 have I:sts.getD i []∈sts:=by rw[bg,aj hi];exact a9 hi
 have J:sts.getD j []∈sts:=by rw[bg,aj B];exact a9 B
 have F:∀ {a b:List Int},a∈sts->b∈sts->HT.lexLt a b=true->(sts.countP λc=>HT.lexLt c a)<(sts.countP λc=>HT.lexLt c b):=λ{a b} O U q=>
  zcW (λx Y hp=>zaP hp q) ⟨a,O,zQ a,q⟩
 unfold xj;generalize sts.getD i []=a at I;generalize sts.getD j []=b at J;rcases zaO (a:=a) (b:=b) with h | h | h
 ·subst h;rw[zQ]
  simp_all
 all_goals grind
def zk3 (e:List Int):HT.lexLt e (e++[0])=true:=by
 induction e with
 | nil=>rfl
 | cons x e q=>rw[cG,HT.lexLt_cons,if_pos rfl];exact q
def zp1(h:Dt.cmp x y=true)(e:enD x=enD y):x=y:=by
 by_cases q:x=y
 ·exact q
 ·have:=zgt [] [0] h;rw[if_neg q,e,bD,zk3,zQ] at this;cases this
structure RowsOk (ft:Bool)(sts:List Dt):Prop where
 key:∀x∈sts,x.hk=true/\x.eqOk/\x.isTup=true
 cmp:∀x∈sts,∀y∈sts,Dt.cmp x y=true
 first:2<=sts.length->∀x∈sts,∃d l,x = .tup (d::l)/\d.isTup=ft
 nd:sts.Nodup
def zgk {A:Around}{s:Shared}{b:Bool}{Q:Bool->Shared->Prop}(hu:A.units+40<cLine):∀ {l m:List Dt} {xs ys:List Value} {as bs:List Addr} (i:Nat),(∀d∈l,d.hk=true/\PySem.W.kqdOk 7 d.toW=true)->(∀d∈m,d.hk=true/\PySem.W.kqdOk 7 d.toW=true)->Dt.cmps l m=true->
  ReadsAll s.heap xs (PySem.W.kqdPs (Dt.toWs l)) as->ReadsAll s.heap ys (PySem.W.kqdPs (Dt.toWs m)) bs->(b=true->i=0->∀d l',l=d::l'->d.isTup=false)->Q (HT.lexLt (zaB l) (zaB m)) s->W.KatLex P w A b (decide (xs.length<ys.length)) Q (xs.zip ys) i s
 | [],[],_,_,_,_,i,_,_,_,ra,rb,_,q=>by simp only[Dt.toWs,PySem.W.kqdPs] at ra rb;cases ra;cases rb;exact W.kat_nil q
 | [],_::_,_,_,_,_,i,_,_,_,ra,rb,_,q=>by simp only[Dt.toWs,PySem.W.kqdPs] at ra rb;cases ra;cases rb;exact W.kat_nil q
 | _::_,[],_,_,_,_,i,_,_,_,ra,rb,_,q=>by simp only[Dt.toWs,PySem.W.kqdPs] at ra rb;cases ra;cases rb;exact W.kat_nil q
 | a::l,c::m,_,_,_,_,i,O,U,B,ra,rb,hb,q=>by
  simp only[Dt.toWs,PySem.W.kqdPs] at ra rb
  cases ra with
  | @cons u Y _ _ _ _ F ra=>
  cases rb with
  | @cons v vs _ _ _ _ I rb=>
  rw[fG];simp only[Dt.cmps,aJ] at B;obtain⟨k1,Z⟩:=O a (by simp);obtain⟨k2,o2⟩:=U c (by simp);rw[zgs B.1] at q;refine W.kat_cons (zgc (zeg Z 8 (by lia)) (zeg o2 8 (by lia)) F I (by lia) ?_);by_cases e:a=c
  ·rw[aD e];rw[if_pos e] at q;have:=zgk hu (i+1) (λd J=>O d (ai _ J)) (λd J=>U d (ai _ J)) B.2 ra rb (b:=b) (λ_ z=>absurd z (by lia)) q;rw[show decide ((u::Y).length<(v::vs).length)=decide (Y.length<vs.length) from by simp];exact W.kat_yes this
  ·rw[aO e];rw[if_neg e] at q;refine W.kat_no ?_;have lt:=λ(Q':Value->Shared->Prop) (E:Value->Shared->Prop) (hq:Q' (.bool (HT.lexLt (enD a) (enD c))) s)=>znR (P:=P) (w:=w) (E:=E) 7 (by lia) k1 k2 B.1 Z o2 F I (A:=A) (by lia) hq
   cases hbi:(b&&i==0) with
   | false=>exact W.kat_one _ _ (lt _ _ q)
   | true=>
    rw[aJ,beq_iff_eq] at hbi;have:=hb hbi.1 hbi.2 a l rfl
    cases a with
    | int n=>
     cases c with
     | int n2=>
      cases F;cases I;refine oneLt_int ?_
      have e2:HT.lexLt (enD (.int n)) (enD (.int n2))=decide (n<n2):=by show (if n=n2 then HT.lexLt [] [] else decide (n<n2))=decide (n<n2);rw[if_neg λz=>e (by rw[z])]
      rw[<- e2];exact q
     | _=>cases B.1
    | tup _=>cases this
    | _=>cases B.1
def zl9 (h:Heap)(v:Value)(x:Dt):Prop:=∃a,v = .ref a/\zpD h x a
def zl9.keep(r:zl9 h v x)(B:h.Ns L m0)(F:h.get? D=some (seqObj "list" vs n))(kp:∀b o,b≠L->b≠D->h.get? b=some o->h'.get? b=some o):zl9 h' v x:=by
 obtain⟨a,e,k1,k2,as,r⟩:=r;refine⟨a,e,k1,k2,as,x4 (λb o O U g I J=>kp b o (λz=>?_) (λz=>?_) g) k1 r⟩
 ·subst z;obtain⟨o',es,ep,g',q,_⟩:=B;rw[g] at g';cases g';rw[J] at q;cases q
 ·subst z;rw[F] at g;cases g;exact absurd (Value.type.inj I) (by decide)
def zed:∀ {vs:List Value} {sts:List Dt},Paired (zl9 h) vs sts->(∀x∈sts,∃d l,x = .tup (d::l)/\d.isTup=ft)->∃fs,W.KatTups h vs fs/\fs.length=sts.length/\∀f∈fs,(ft=false->∃a t,f=Value.int a t)/\(ft=true->∃a o,f=Value.ref a/\h.get? a=some o/\o.cls = .type "tuple")
 | _,_,.nil,_=>⟨[],trivial,rfl,λ_ h=>by simp at h⟩
 | _,_,.cons (b:=x) r Y,h1=>by
  obtain⟨a,rfl,k1,k2,as,r⟩:=r;obtain⟨fs,f1,f2,f3⟩:=zed Y λz Z=>h1 z (ai _ Z);obtain⟨d,l,rfl,q⟩:=h1 x ak
  cases r with
  | @tuple a o B m xs as g hc F O=>
  obtain⟨vl⟩:=B;simp only[Dt.toWs,PySem.W.kqdPs] at O
  cases O with
  | @cons u us _ _ _ _ U r2=>
  refine⟨u::fs,⟨⟨a,o,_,m,rfl,g,hc,F,rfl⟩,f1⟩,by simp_all,λf I=>?_⟩;rcases ay.mp I with rfl | I
  ·have hk:d.hk=true:=yY.mp (show Dt.hks (d::l)=true from k1) d (by simp)
   cases d with
   | int i=>cases U;exact⟨λ_=>⟨_,_,rfl⟩,λz=>by rw[z] at q;cases q⟩
   | tup l'=>cases U with
    | @tuple a' o' _ _ _ _ g' J _ _=>exact⟨λz=>(by rw[z] at q;cases q),λ_=>⟨a',o',rfl,g',J⟩⟩
   | _=>cases hk
  ·exact f3 f I
end
section
variable {X:Cx}
def zd8(h:IsL H sts vs):∀ {p:List Nat},(∀i∈p,i<sts.length)->IsL H (p.map λi=>sts.getD i .non) (p.map λi=>vs.getD i .non)
 | [],_=>rfl
 | i::p,hp=>by
  have hi:=hp i ak;obtain⟨x,h1,h2⟩:=h.getD (i:=i) (d:=sts[i]) (aj hi);refine⟨vs.getD i .non,_,rfl,?_,zd8 h λj q=>hp j (ai _ q)⟩;show Is H (sts.getD i .non) (vs.getD i .non);have B:sts.getD i .non=sts[i]:=by simp[hi]
  have F:vs.getD i .non=x:=by simp[h1]
  rw[B,F];exact h2
end
mutual
def zmn:∀ {d:Dt},d.hk=true->d.noL=true
 | .int _,_=>rfl
 | .tup l,h=>by simpa [Dt.noL] using zfe (show Dt.hks l=true from h)
 | .non,h=>by cases h
 | .bl _,h=>by cases h
 | .str _,h=>by cases h
 | .lst _,h=>by cases h
 | .dct,h=>by cases h
def zfe:∀ {l:List Dt},Dt.hks l=true->Dt.noLs l=true
 | [],_=>rfl
 | d::l,h=>by simp only[Dt.hks,aJ] at h;simp only[Dt.noLs,aJ];exact⟨zmn h.1,zfe h.2⟩
end
def NDo (ob:Obj)(d:Addr)(ks:List (Dt×Addr×V)):Prop:=ks.length<=sizeLine/\(d==sysModules)=false/\∃xs:List (Dt×Addr×Value),Paired PrN ks xs/\∃es ep,ob.ExactDict/\ob.data = .dict es ep/\es.toList=xs.map (λx=>⟨zaf x.1,.ref x.2.1,x.2.2⟩)/\(xs.map (·.1)).Nodup
section
variable {X:Cx}{pins:List (Addr×Obj)}{σ:St}{H:Hp}{s:Shared}{a b d:Addr}{ob:Obj}{ks:List (Dt×Addr×V)}{k:Dt}{A:Around}{E:Value->Shared->Prop}
variable {o i value:Expr}{pos pos':Pos}{td ty tv:TE}
end
end L2
namespace L3
open PySem PySem.Spec L2
def MeE (Q:Dt->List Dt->Prop)(G:Hp)(q:Dt×Addr×V):Prop:=∃B o xs l,q.2.2 = .ref B/\G B=some (.frz o (.lst xs))/\IsL G l xs/\Dt.noLs l=true/\Q q.1 l
def MeG (d:Addr)(Q:Dt->List Dt->Prop)(G:Hp):Prop:=∃ob ks,G d=some (kO d ob)/\(∃h:Heap,h.get? d=some ob)/\NDo ob d ks/\um G ks/\∀q∈ks,MeE Q G q
def Sk (G G':Hp):Prop:=∀b o,G b=some o->(imm o=true\/∃ob,o=kO b ob/\∃h:Heap,h.get? b=some ob)->G' b=some o
def Sk.t(h:Sk G G'):zdK G G':=λb xs e=>h b _ e (.inl rfl)
def MeE.st(h:MeE Q G q)(t:zdK G G')(f:∀b o xs,G b=some (.frz o (.lst xs))->G' b=some (.frz o (.lst xs))):MeE Q G' q:=by obtain⟨F,o,xs,l,h1,h2,I,B,J⟩:=h;exact⟨F,o,xs,l,h1,f _ _ _ h2,I.stayT t B,B,J⟩
def um.stT(h:um G ks)(s:zdK G G'):um G' ks:=λq B=>let ⟨h1,h2,h3⟩:=h q B;⟨h1,h2,h3.stayT s (zmn h1)⟩
def MeG.sk(h:MeG d Q G)(s:Sk G G'):MeG d Q G':=by obtain⟨ob,ks,h1,h2,B,F,I⟩:=h;exact⟨ob,ks,s _ _ h1 (.inr ⟨ob,rfl,h2⟩),h2,B,um.stT F s.t,λq J=>(I q J).st s.t λb o xs e=>s b _ e (.inl rfl)⟩
def zqt{b:Addr}{o o':HO}(e:o=kO b ob)(h:∃h:Heap,h.get? b=some ob)(n:NP o):False:=by subst e;exact ztI h n
def ztG (d:Addr)(Q:Dt->List Dt->Prop):Jv where
 K:=λA H=>MeG d Q (zz A H)
 same:=λh s=>h.sk λb o e _=>zd4 s b o e
 grow:=λ{A A' H} h g=>h.sk λb o e n=>by
  obtain⟨F,B⟩:=zI.mp e;refine zn (λz=>?_) B;rcases g b z with q | ⟨o',q1,q2,q3⟩
  ·exact F q
  ·rw[B] at q1;cases q1;rcases n with n | ⟨ob,n1,n2⟩
   ·rw[show imm o=false from q3] at n;cases n
   ·exact zqt (o':=o) n1 n2 q2
 upd:=λ{A H p o} h hp=>by rw[zC hp];exact h
 frz:=λ{A H p o o'} h hp np I=>h.sk λb u e n=>by
  obtain⟨F,B⟩:=zI.mp e
  have J:b≠p:=λz=>by
   subst z;rw[hp] at B;cases B;rcases n with n | ⟨ob,n1,n2⟩
   ·rw[show imm o=false from I] at n;cases n
   ·exact zqt (o':=o) n1 n2 np
  exact zn F (by rw[zd J];exact B)
def andJ (J J':Jv):Jv where
 K:=λA H=>J.K A H/\J'.K A H
 same:=λh s=>⟨J.same h.1 s,J'.same h.2 s⟩
 grow:=λh g=>⟨J.grow h.1 g,J'.grow h.2 g⟩
 upd:=λh a=>⟨J.upd h.1 a,J'.upd h.2 a⟩
 frz:=λh a b c=>⟨J.frz h.1 a b c,J'.frz h.2 a b c⟩
structure IsMemo (J:Jv)(d:Addr)(Q:Dt->List Dt->Prop):Prop where
 get:∀A H,J.K A H->MeG d Q (zz A H)
 ch:∀A H H',J.K A H->(∀b o,H b=some o->b≠d->H' b=some o)->MeG d Q (zz A H')->J.K A H'
@[reducible] def PN.mo (Pn:PN) (d:Addr) (Q:Dt->List Dt->Prop):PN:=⟨Pn.pn,andJ (ztG d Q) Pn.J⟩
section
variable {X:Cx}{Pn:PN}{M M' S:List Nat}{fr fr':Bool}{pos p p1 p2 p3 p4 p5 p6:Pos}{e a b c:Expr}{f fa fb fc:Ev->Mo W}{fk fm:Ev->W->Prop}{st:Stmt}{sts:List Stmt}{fs gs:Ms}{x:Str}{i:Nat}
@[reducible] def pVar (i:Nat):Ev->W->Prop:=λρ w=>ρ[i]?=some (some w)
@[reducible] def pWide (i:Nat):Ev->W->Prop:=λρ w=>∃d fs q,ρ[i]?=some (some (.wd d fs q))/\w = .pen d/\yt fs (Sum.inr "wide" : Key)=none
@[reducible] def mPSeq (f g:Ms):Ms:=λρ n k=>f ρ n { nx:=λq B=>blk g q B k,rt:=λ_ _=>False }
@[reducible] def mPFrz (j:Nat) (fs:Ms):Ms:=λρ n k=>onV ρ j λw=>zpv w λkvs=>onP ρ j (.dn true kvs) λq=>fs q n k
@[reducible] def mPEnd (f:Ev->Mo W):Ms:=λρ n k=>f ρ n λw m=>k.rt w m/\k.nx ρ m
@[reducible] def mMemo (Pn:PN) (fk fm:Ev->W->Prop) (fb:Ms):Ms:=λρ n k=>∃ (d:Addr) (Q:Dt->List Dt->Prop) (q:Dt) (F:List Dt),IsMemo Pn.J d Q/\q.ky/\(∀I l,Q I l->I∈F)/\F.length<=lim/\fk ρ (.d q)/\fm ρ (.pen d)/\
 blk fb ρ n { nx:=λB _=>fk B (.d q)/\fm B (.pen d),rt:=λw m=>∃l,w = .fl l/\m=n/\Dt.noLs l=true/\Q q l }/\∀l,Q q l->k.rt (.d (.lst l)) n
@[reducible] def dFlz (f:Ev->Mo W):Ev->Mo W:=λρ n Q=>f ρ n λx m=>onL x λl=>Q (.fl l) m
end
open PySem PySem.Spec L2
abbrev Fs:=List (Key×Dt)
abbrev Kn:=List (List Int×Dt)
abbrev FW:=PN->List W->Nat->(Fs->Kn->Nat->Prop)->Prop
section
variable {X:Cx}{Pn:PN}{M M' S:List Nat}{fr fr':Bool}{pos p:Pos}{p0 p1 p2 p3 p4 p5 p6 p7:Pos}{j0 j1 j2 j3 j4 j5 j6:Nat}{e a b c:Expr}{es:List Expr}{f fa fb fc:Ev->Mo W}{st:Stmt}{sts:List Stmt}{fs:Ms}{gs:Ev->Nat->(Fs->Kn->Nat->Prop)->Prop}{x:Str}{i:Nat}
@[reducible] def mWSeq (f:Ms) (g:Ev->Nat->(Fs->Kn->Nat->Prop)->Prop):Ev->Nat->(Fs->Kn->Nat->Prop)->Prop:=λρ n R=>f ρ n { nx:=λq B=>g q B R,rt:=λ_ _=>False }
@[reducible] def mWRet (q i1 i2 i3 B F:Nat):Ev->Nat->(Fs->Kn->Nat->Prop)->Prop:=λρ n R=>onV ρ q λI=>onD I λJ=>onV ρ i1 λw1=>onD w1 λO=>onV ρ i2 λw2=>onD w2 λU=>onV ρ i3 λw3=>onD w3 λY=>onV ρ B λZ=>onD Z λd4=>onV ρ F λw5=>onZ w5 λkn=>
 R [(Sum.inr "room",J),(Sum.inr "some",O),(Sum.inr "box",U),(Sum.inr "worse",Y),(Sum.inr "there",d4)] kn n
@[reducible] def mWCons (f:Ev->Mo W) (g:Ev->Nat->(List W->PN->Nat->Prop)->Prop):Ev->Nat->(List W->PN->Nat->Prop)->Prop:=λρ n R=>f ρ n λw m=>g ρ m λq Pm B=>R (w::q) Pm B
@[reducible] def mWHead (k:Nat) (F:FW) (Pn:PN) (fs:Ev->Mo (List W)) (gs:Addr->(Dt->List Dt->Prop)->Ev->Mo (List W)):Ev->Nat->(List W->PN->Nat->Prop)->Prop:=λρ n R=>fs ρ n λB m=>B.length=k/\F Pn B m λf I J=>∃Q,∀d,gs d Q ρ J λq O=>R (.wd d f I::q) (Pn.mo d Q) O
@[reducible] def mFnW (k:Nat) (F:PN->List W->Mo W) (fs:Ev->Nat->(List W->PN->Nat->Prop)->Prop):Ev->Mo W:=λρ n R=>fs ρ n λq Pm m=>q.length=k/\F Pm q m R
@[reducible] def mWorld (k i:Nat) (F:FW) (Pn:PN) (fs:Ev->Mo (List W)) (gs:Addr->(Dt->List Dt->Prop)->Ms):Ms:=λρ n K=>fs ρ n λB m=>B.length=k/\F Pn B m λf I J=>∃Q,∀d,onP ρ i (.wd d f I) λq=>blk (gs d Q) q J { rt:=K.rt,nx:=λ_ _=>False }
@[reducible] def onWd (w:W) (P:Fs->Kn->Prop):Prop:=match w with | .wd _ f q=>P f q | _=>False
@[reducible] def dWGet (fb:Ev->Mo W) (k:Key):Ev->Mo W:=λρ n Q=>fb ρ n λx m=>onWd x λf _=>onO (yt f k) λd=>Q (.d d) m
@[reducible] def dWKn (fb:Ev->Mo W):Ev->Mo W:=λρ n Q=>fb ρ n λx m=>onWd x λf q=>yt f (Sum.inr "known" : Key)=none/\Q (.df q) m
@[reducible] def dInZ (q:Bool) (fk fd:Ev->Mo W):Ev->Mo W:=λρ n Q=>fk ρ n λy n1=>fd ρ n1 λx n2=>onZ x λkvs=>∃st,y = .d (stD st)/\Q (.d (.bl (xr q (yt kvs st).isSome))) n2
@[reducible] def mRelN (j:Nat) (fs:Ms):Ms:=λρ n k=>onN ρ j λq=>fs q n { rt:=k.rt,nx:=λ_ _=>False }
def ltD (a b:Dt):Prop:=HT.lexLt (enD a) (enD b)=true
def znQ {a:Dt}:¬ ltD a a:=λh=>by unfold ltD at h;rw[lexI] at h;cases h
def zqp {a b c:Dt}(h:ltD a b)(h':ltD b c):ltD a c:=zaP h h'
def zgG {α:Type}{r:α->α->Prop}(q:∀x,¬ r x x)(B:∀x y z,r x y->r y z->r x z):∀ {l l':List α},l.Perm l'->l.Pairwise r->l'.Pairwise r->l=l'
 | [],l',p,_,_=>p.nil_eq
 | a::l,[],p,_,_=>by cases p.eq_nil
 | a::l,b::l',p,h,h'=>by
  have e:a=b:=by
   rcases ay.mp (p.mem_iff.mp (ak (a:=a) (l:=l))) with z | z
   ·exact z
   ·rcases ay.mp (p.mem_iff.mpr (ak (a:=b) (l:=l'))) with y | y
    ·exact y.symm
    ·exact (q a (B _ _ _ ((aS.mp h).1 b y) ((aS.mp h').1 a z))).elim
  subst e;rw[zgG q B (p.cons_inv) (aS.mp h).2 (aS.mp h').2]
@[reducible] def dSortD:List W->Mo W:=λB n Q=>on1 B λx=>onS x λsts=>sts.length<64/\(∃ft,RowsOk ft sts)/\∀q:List Dt,q.Perm sts->q.Pairwise ltD->Q (.d (.lst q)) n
end
open PySem L2
def zjp {a c:Int×Int}(h:ye a=ye c):a=c:=by obtain⟨q,B⟩:=a;obtain⟨F,I⟩:=c;simp only[ye,Dt.tup.injEq,dU,Dt.int.injEq,and_true] at h;rw[h.1,h.2]
def zkG {a c:List (Int×Int)}(h:zeR a=zeR c):a=c:=(dg λ_ _ z=>zjp z).mp (Dt.tup.inj h)
def znu (g:List (Int×Int)):(zeR g).ky:=⟨yY.mpr λd B=>by obtain⟨q,_,rfl⟩:=aG.mp B;rfl,zcr.1,rfl⟩
def zko (p q:Int×Int):Dt.cmp (ye p) (ye q)=true:=rfl
def zdR:∀g h:List (Int×Int),Dt.cmps (g.map ye) (h.map ye)=true
 | [],_=>rfl
 | _::_,[]=>rfl
 | p::g,q::h=>by rw[au,au,Dt.cmps,zko,zdR g h];rfl
end L3
namespace L2
open PySem PySem.Spec PyProof.Rows PySem.W PySem.Calls
section
variable {X:Cx}{e:Expr}{te:TE}{p p2 kp pos:Pos}
end
end L2
namespace L3
open PySem PySem.Spec L2
section
variable {X:Cx}{Pn:PN}{M:List Nat}{fr fr':Bool}{e a b:Expr}{f fa:Ev->Mo W}{p p2 kp pos:Pos}
@[reducible] def onLf (w:W) (P:List (List Dt)->Prop):Prop:=match w with | .lf i=>P i | _=>False
@[reducible] def dMinL (fs:Ev->Mo (List W)):Ev->Mo W:=λρ n Q=>fs ρ n λB m=>on1 B λx=>onLf x λq=>0<q.length/\∀ (i:Nat) (l:List Dt),q[i]?=some l->(∀ (j:Nat) (l':List Dt),q[j]?=some l'->l.length<=l'.length/\(j<i->l.length<l'.length))->Q (.fl l) m
end
end L3
namespace L2
open PySem PySem.Spec PyProof.Rows
section
variable {prog:Program}{w:World}{A:Around}{R:Result->Shared->Prop}{s:Shared}
def zna(I:Nat->Shared->Prop)(turn:∀n s,I n s->wpAny (model prog w) A (pyNext it) (λr s₁=>match r with
   | none=>R (.ok .next) s₁
   | some v=>wpAny (model prog w) A (letOwnedTupleGo t3 it v) (λ_ s₂=>wpAny (model prog w) A (assign t3 env v) (λ_ s₃=>
     wpAny (model prog w) A (forIn f3 true λc r=>if r=true then do let ok <- isTrue c env (eval c env);pure (ForInStep.yield ok) else pure (ForInStep.yield r)) (λok s₄=>
      if ok=true then wpAny (model prog w) A (eval elt env) (λx s₅=>
       wpAny (model prog w) A (call (.builtin "list.append") [acc,x]) (λ_ s₆=>∃m,m<n/\I m s₆) (λ_ _=>False) s₅) (λ_ _=>False) s₄
      else ∃m,m<n/\I m s₄) (λ_ _=>False) s₃) (λ_ _=>False) s₂) (λ_ _=>False) s₁) (λ_ _=>False) s)(n:Nat)(h:I n s) :
  codeAny (model prog w) A (.compLoop (.ListComp elt [⟨t1,i1,f1,0⟩,⟨t2,i2,f2,0⟩,⟨t3,i3,f3,0⟩] scope pos) 2 it acc env) R s:=by
 refine dj rfl I (λn s hI=>?_) n h;show wpAny _ A ((compTurn (.ListComp elt [⟨t1,i1,f1,0⟩,⟨t2,i2,f2,0⟩,⟨t3,i3,f3,0⟩] scope pos) 2 it acc env).onRaise (λx=>do noteFrame x env;theTreesLotGoes x)) _ _ s;refine dJ ?_;unfold compTurn;refine aa (bp (aa (aC (turn n s hI) (λr s₁ h₁=>?_) λ_ _ h'=>h'.elim)))
 cases r with
 | none=>exact ae h₁
 | some v=>
  refine aa (aC h₁ (λ_ s₂ h₂=>?_) λ_ _ h'=>h'.elim);refine aa (aC h₂ (λ_ s₃ h₃=>aa (aC h₃ (λok s₄ h₄=>?_) λ_ _ h'=>h'.elim)) λ_ _ h'=>h'.elim)
  cases ok with
  | false=>exact ae ⟨rfl,h₄⟩
  | true=>
   exact aa (aa (aC h₄ (λx s₅ h₅=>aa (aC h₅ (λ_ s₆ h₆=>ae (ae ⟨rfl,h₆⟩)) λ_ _ h'=>h'.elim)) λ_ _ h'=>h'.elim))
def znb(hf:∀x,foldedSetIterable i3 env x=pure x)(I:Nat->Shared->Prop)(turn:∀n s,I n s->wpAny (model prog w) A (pyNext it) (λr s₁=>match r with
   | none=>R (.ok .next) s₁
   | some v=>wpAny (model prog w) A (letOwnedTupleGo t2 it v) (λ_ s₂=>wpAny (model prog w) A (assign t2 env v) (λ_ s₃=>
     wpAny (model prog w) A (forIn f2 true λc r=>if r=true then do let ok <- isTrue c env (eval c env);pure (ForInStep.yield ok) else pure (ForInStep.yield r)) (λok s₄=>
      if ok=true then wpAny (model prog w) A (eval i3 env) (λx s₅=>wpAny (model prog w) A (pyIter x) (λiv s₆=>
       codeAny (model prog w) A (.compStart (.ListComp elt [⟨t1,i1,f1,0⟩,⟨t2,i2,f2,0⟩,⟨t3,i3,f3,0⟩] scope pos) 2 iv acc env) (λr s₇=>match r with
        | .ok _=>∃m,m<n/\I m s₇
        | .error _=>False) s₆) (λ_ _=>False) s₅) (λ_ _=>False) s₄
      else ∃m,m<n/\I m s₄) (λ_ _=>False) s₃) (λ_ _=>False) s₂) (λ_ _=>False) s₁) (λ_ _=>False) s)(n:Nat)(h:I n s) :
  codeAny (model prog w) A (.compLoop (.ListComp elt [⟨t1,i1,f1,0⟩,⟨t2,i2,f2,0⟩,⟨t3,i3,f3,0⟩] scope pos) 1 it acc env) R s:=by
 refine dj rfl I (λn s hI=>?_) n h;show wpAny _ A ((compTurn (.ListComp elt [⟨t1,i1,f1,0⟩,⟨t2,i2,f2,0⟩,⟨t3,i3,f3,0⟩] scope pos) 1 it acc env).onRaise (λx=>do noteFrame x env;theTreesLotGoes x)) _ _ s;refine dJ ?_;unfold compTurn;refine aa (bp (aa (aC (turn n s hI) (λr s₁ h₁=>?_) λ_ _ h'=>h'.elim)))
 cases r with
 | none=>exact ae h₁
 | some v=>
  refine aa (aC h₁ (λ_ s₂ h₂=>?_) λ_ _ h'=>h'.elim);refine aa (aC h₂ (λ_ s₃ h₃=>aa (aC h₃ (λok s₄ h₄=>?_) λ_ _ h'=>h'.elim)) λ_ _ h'=>h'.elim)
  cases ok with
  | false=>exact ae ⟨rfl,h₄⟩
  | true=>
   refine aa (aC h₄ (λx s₅ h₅=>?_) λ_ _ h'=>h'.elim);refine aa (bp ?_);show wpAny _ _ (foldedSetIterable i3 env x >>= _) _ _ _;rw[hf];refine aa (ae ?_);show wpAny _ _ (holding [x] (pyIter x) >>= _) _ _ _;refine aa (bL (aC h₅ (λiv s₆ h₆=>?_) λ_ _ h'=>h'.elim));refine aa (wpAny_runOwn (h:=none) ?_);refine eG (show codeAny (model prog w) (A.mark none) _ _ s₆ from h₆) λr s₇ h₇=>?_
   cases r with
   | ok f=>exact ae ⟨rfl,h₇⟩
   | error e=>exact h₇.elim
def znc(hf:∀x,foldedSetIterable i2 env x=pure x)(I:Nat->Shared->Prop)(turn:∀n s,I n s->wpAny (model prog w) A (pyNext it) (λr s₁=>match r with
   | none=>R (.ok .next) s₁
   | some v=>wpAny (model prog w) A (letOwnedTupleGo t1 it v) (λ_ s₂=>wpAny (model prog w) A (assign t1 env v) (λ_ s₃=>
     wpAny (model prog w) A (forIn f1 true λc r=>if r=true then do let ok <- isTrue c env (eval c env);pure (ForInStep.yield ok) else pure (ForInStep.yield r)) (λok s₄=>
      if ok=true then wpAny (model prog w) A (eval i2 env) (λx s₅=>wpAny (model prog w) A (pyIter x) (λiv s₆=>
       codeAny (model prog w) A (.compStart (.ListComp elt [⟨t1,i1,f1,0⟩,⟨t2,i2,f2,0⟩,⟨t3,i3,f3,0⟩] scope pos) 1 iv acc env) (λr s₇=>match r with
        | .ok _=>∃m,m<n/\I m s₇
        | .error _=>False) s₆) (λ_ _=>False) s₅) (λ_ _=>False) s₄
      else ∃m,m<n/\I m s₄) (λ_ _=>False) s₃) (λ_ _=>False) s₂) (λ_ _=>False) s₁) (λ_ _=>False) s)(n:Nat)(h:I n s) :
  codeAny (model prog w) A (.compLoop (.ListComp elt [⟨t1,i1,f1,0⟩,⟨t2,i2,f2,0⟩,⟨t3,i3,f3,0⟩] scope pos) 0 it acc env) R s:=by
 refine dj rfl I (λn s hI=>?_) n h;show wpAny _ A ((compTurn (.ListComp elt [⟨t1,i1,f1,0⟩,⟨t2,i2,f2,0⟩,⟨t3,i3,f3,0⟩] scope pos) 0 it acc env).onRaise (λx=>do noteFrame x env;theTreesLotGoes x)) _ _ s;refine dJ ?_;unfold compTurn;refine aa (bp (aa (aC (turn n s hI) (λr s₁ h₁=>?_) λ_ _ h'=>h'.elim)))
 cases r with
 | none=>exact ae h₁
 | some v=>
  refine aa (aC h₁ (λ_ s₂ h₂=>?_) λ_ _ h'=>h'.elim);refine aa (aC h₂ (λ_ s₃ h₃=>aa (aC h₃ (λok s₄ h₄=>?_) λ_ _ h'=>h'.elim)) λ_ _ h'=>h'.elim)
  cases ok with
  | false=>exact ae ⟨rfl,h₄⟩
  | true=>
   refine aa (aC h₄ (λx s₅ h₅=>?_) λ_ _ h'=>h'.elim);refine aa (bp ?_);show wpAny _ _ (foldedSetIterable i2 env x >>= _) _ _ _;rw[hf];refine aa (ae ?_);show wpAny _ _ (holding [x] (pyIter x) >>= _) _ _ _;refine aa (bL (aC h₅ (λiv s₆ h₆=>?_) λ_ _ h'=>h'.elim));refine aa (wpAny_runOwn (h:=none) ?_);refine eG (show codeAny (model prog w) (A.mark none) _ _ s₆ from h₆) λr s₇ h₇=>?_
   cases r with
   | ok f=>exact ae ⟨rfl,h₇⟩
   | error e=>exact h₇.elim
def zkp(h1:codeAny (model prog w) A (.compLoop (.ListComp elt [⟨t1,i1,f1,0⟩,⟨t2,i2,f2,0⟩,⟨t3,i3,f3,0⟩] scope pos) 1 it acc env) R s)(h2:wpAny (model prog w) A (pyIter it) (λit' s'=>codeAny (model prog w) A (.compLoop (.ListComp elt [⟨t1,i1,f1,0⟩,⟨t2,i2,f2,0⟩,⟨t3,i3,f3,0⟩] scope pos) 1 it' acc env) R s') (λ_ _=>False) s) :
  codeAny (model prog w) A (.compStart (.ListComp elt [⟨t1,i1,f1,0⟩,⟨t2,i2,f2,0⟩,⟨t3,i3,f3,0⟩] scope pos) 1 it acc env) R s:=by
 refine dZ ?_;show wpAny _ A ((compStart (.ListComp elt [⟨t1,i1,f1,0⟩,⟨t2,i2,f2,0⟩,⟨t3,i3,f3,0⟩] scope pos) 1 it acc env).onRaise (λx=>do noteFrame x env;standAt theWindowsPlace)) _ _ s;refine wpAny_onRaise ?_;unfold compStart;rw[if_neg (by show ¬ ((0 != 0)=true);decide)];refine aa (br ?_);split
 ·exact ae ⟨rfl,h1⟩
 ·refine aa (ck ?_);refine aa (bp ?_);refine aa (aC h2 (λit' s' h'=>ae ⟨rfl,h'⟩) λ_ _ h'=>h'.elim)
def zkq(h1:codeAny (model prog w) A (.compLoop (.ListComp elt [⟨t1,i1,f1,0⟩,⟨t2,i2,f2,0⟩,⟨t3,i3,f3,0⟩] scope pos) 2 it acc env) R s)(h2:wpAny (model prog w) A (pyIter it) (λit' s'=>codeAny (model prog w) A (.compLoop (.ListComp elt [⟨t1,i1,f1,0⟩,⟨t2,i2,f2,0⟩,⟨t3,i3,f3,0⟩] scope pos) 2 it' acc env) R s') (λ_ _=>False) s) :
  codeAny (model prog w) A (.compStart (.ListComp elt [⟨t1,i1,f1,0⟩,⟨t2,i2,f2,0⟩,⟨t3,i3,f3,0⟩] scope pos) 2 it acc env) R s:=by
 refine dZ ?_;show wpAny _ A ((compStart (.ListComp elt [⟨t1,i1,f1,0⟩,⟨t2,i2,f2,0⟩,⟨t3,i3,f3,0⟩] scope pos) 2 it acc env).onRaise (λx=>do noteFrame x env;standAt theWindowsPlace)) _ _ s;refine wpAny_onRaise ?_;unfold compStart;rw[if_neg (by show ¬ ((0 != 0)=true);decide)];refine aa (br ?_);split
 ·exact ae ⟨rfl,h1⟩
 ·refine aa (ck ?_);refine aa (bp ?_);refine aa (aC h2 (λit' s' h'=>ae ⟨rfl,h'⟩) λ_ _ h'=>h'.elim)
end
def inG (J:It)(g:TG)(ti:TT)(tb:(St->Hp->Prop)->St->Hp->Prop)(N:St->Hp->Prop)(σ:St)(H:Hp):Prop:=∃W:Nat->Nat->St->Hp->Prop,(∃m,W 0 m σ H)/\
 ∀i m q H',W i m q H'->(J.stop i H'/\N q H')\/(J.go i H'/\∃N2:St->Hp->Prop,(∀ F H2,N2 F H2->∃I,I<m/\W (i+1) I F H2)/\∀x H2,J.yld i H' x H2->g x q H2 λB H3=>ti B H3 λO H4=>if O=true then tb N2 B H4 else N2 B H4)
abbrev zpG (te:TE)(acc:Addr):(St->Hp->Prop)->St->Hp->Prop:=λNx σ H=>te σ H λv H'=>∃xs,H' acc=some (.lst xs)/\xs.length<sizeLine/\Nx σ (upd H' acc (.lst (xs++[v])))
def zmT (wi:TI)(g:TG)(ti:TT)(wi2:TI)(g2:TG)(ti2:TT)(q:TI)(g3:TG)(B:TT)(te:TE)(cix:List (Option Nat)):TE:=λσ H Q=>wi σ H λJ H1=>∀acc,H1 acc=none->
 inG J g ti (λN σ H=>wi2 σ H λJ2 H2=>inG J2 g2 ti2 (λN σ H=>q σ H λJ3 H3=>inG J3 g3 B (zpG te acc) N σ H3) N σ H2) (λ_ H=>Q (.ref acc) H) (xA σ cix) (upd H1 acc (.lst []))
def zbz{X:Cx}{ifs:List Expr}{g:TG}{ti:TT}{wi:TI}{tb:(St->Hp->Prop)->St->Hp->Prop}{B:(Shared->Prop)->Shared->Prop}{pl:List (Addr×Obj)}{σ:St}{H:Hp}{s:Shared}{Nx:St->Hp->Prop}{P:Shared->Prop}(L:∀it,zhB (model X.prog X.w) X.A e k tg ifs it (.ref acc) X.env B)(xg:∀ {it:Value} {R:Result->Shared->Prop} {s:Shared},codeAny (model X.prog X.w) X.A (.compLoop e k it (.ref acc) X.env) R s->wpAny (model X.prog X.w) X.A (pyIter it) (λac s'=>codeAny (model X.prog X.w) X.A (.compLoop e k ac (.ref acc) X.env) R s') (λ_ _=>False) s->codeAny (model X.prog X.w) X.A (.compStart e k it (.ref acc) X.env) R s)(hc:X.calm=true)(xX:X.xe=λ_ _=>False)(hi:PI X tg iter wi)(hg:PG X tg g)(ht:PTs X ifs ti)(U:∀pl' s σ H (Nx:St->Hp->Prop) (P:Shared->Prop),Inv X (pl++pl') σ H s->tb Nx σ H->(∀ F H' s',Inv X (pl++pl') F H' s'->Nx F H'->P s')->B P s)(I:Inv X pl σ H s)(q:wi σ H λJ H2=>inG J g ti tb Nx σ H2)(kk:∀ F H' s',Inv X pl F H' s'->Nx F H'->P s') :
  wpAny (model X.prog X.w) X.A (eval iter X.env) (λx s5=>wpAny (model X.prog X.w) X.A (pyIter x) (λiv s6=>codeAny (model X.prog X.w) X.A (.compStart e k iv (.ref acc) X.env) (λr s7=>match r with | .ok _=>P s7 | .error _=>False) s6) (λ_ _=>False) s5) (λ_ _=>False) s:=by
 have e9:=hi pl s σ H _ I q;rw[xX] at e9;refine thn e9 λxv s1 h1=>thn h1 λad s2 h2=>?_;obtain⟨it,fp,tn,J,H2,e,I2,T,Y,f2,W,⟨m0,w0⟩,Z⟩:=h2;subst e;have O:=zbL (X:=X) (pl:=pl) (R:=λr s7=>match r with | .ok _=>P s7 | .error _=>False) (k:=k) (L _) hc xX T (λhn b U=>⟨hn b U,(f2 b U).2⟩) hg ht U Z (λF H' s' I' q'=>kk F H' s' I' q') I2 Y (λb U=>(f2 b U).1) w0;exact xg O (T.self X.A 0 _ _ _ Y O)
section
variable {X:Cx}{Fam:Cx->Prop}{scope:Scope}{cix:List (Option Nat)}{use:Option (Value->Sem Unit)}{Qp:Value->Shared->Prop}{elt t1 i1 t2 i2 t3 i3:Expr}{f1 f2 f3:List Expr}{pos ipos spos px:Pos}{w1 w2 w3:TI}{g1 g2 g3:TG}{n1 n2 n3:TT}{te:TE}{pins:List (Addr×Obj)}{σ:St}{H:Hp}{s:Shared}{Q:VK}
def zg0 (O:Opn X scope cix Fam)(hc:X.calm=true)(h1:PI X t1 i1 w1)(ac:∀X',Fam X'->PG X' t1 g1)(ad:∀X',Fam X'->PTs X' f1 n1)(h2:∀X',Fam X'->PI X' t2 i2 w2)(ag:∀X',Fam X'->PG X' t2 g2)(al:∀X',Fam X'->PTs X' f2 n2)(h3:∀X',Fam X'->PI X' t3 i3 w3)(an:∀X',Fam X'->PG X' t3 g3)(as:∀X',Fam X'->PTs X' f3 n3)(he:∀X',Fam X'->PE X' elt te)
  (hs:∀x,foldedSetIterable i1 X.env x=pure x) (a0:∀X',Fam X'->∀x,foldedSetIterable i2 X'.env x=pure x) (a1:∀X',Fam X'->∀x,foldedSetIterable i3 X'.env x=pure x) (I:Inv X pins σ H s) (h:zmT w1 g1 n1 w2 g2 n2 w3 g3 n3 te cix σ H Q) (Y:zr7 X pins σ use Qp Q) :
  wpAny (model X.prog X.w) X.A (comprehension (.ListComp elt [⟨t1,i1,f1,0⟩,⟨t2,i2,f2,0⟩,⟨t3,i3,f3,0⟩] scope pos) scope X.env ipos (newList []) false (eval i1 X.env) use) Qp X.xe s:=
 uu (ob:={ cls:=.type "list",dict:=none,data:=.seq ([]:List Value).toArray }) (o0:=λ_=>.lst []) (Fin:=λacc H=>Q (.ref acc) H)
  (B:=λX' acc P s=>wpAny (model X'.prog X'.w) X'.A (eval i2 X'.env) (λx Z=>wpAny (model X'.prog X'.w) X'.A (pyIter x) (λiv s6=>codeAny (model X'.prog X'.w) X'.A (.compStart (.ListComp elt [⟨t1,i1,f1,0⟩,⟨t2,i2,f2,0⟩,⟨t3,i3,f3,0⟩] scope pos) 1 iv (.ref acc) X'.env) (λr s7=>match r with | .ok _=>P s7 | .error _=>False) s6) (λ_ _=>False) Z) (λ_ _=>False) s) (tb:=λacc Nx σ H=>w2 σ H λJ2 H2=>inG J2 g2 n2 (λN σ H=>w3 σ H λJ3 H3=>inG J3 g3 n3 (zpG te acc) N σ H3) Nx σ H2)
  O hc rfl hs (λ_ _ _ _ _ h0 h1=>er h0 h1) (λX' U _ _ _ _ I F n h=>znc (a0 X' U) I F n h) (λs Q h=>bi h) (λ_ _=>⟨aN _,[],0,.nil,aw _ rfl⟩) h1 ac ad (λX' U pX wX AX cX xX acc pl s σ H Nx P I q k=>
   zbz (k:=1) (B:=λP s=>wpAny (model X'.prog X'.w) X'.A (eval i3 X'.env) (λx Z=>wpAny (model X'.prog X'.w) X'.A (pyIter x) (λiv s6=>codeAny (model X'.prog X'.w) X'.A (.compStart (.ListComp elt [⟨t1,i1,f1,0⟩,⟨t2,i2,f2,0⟩,⟨t3,i3,f3,0⟩] scope pos) 2 iv (.ref acc) X'.env) (λr s7=>match r with | .ok _=>P s7 | .error _=>False) s6) (λ_ _=>False) Z) (λ_ _=>False) s) (tb:=λN σ H=>w3 σ H λJ3 H3=>inG J3 g3 n3 (zpG te acc) N σ H3)
    (λit _ _ I F n h=>znb (a1 X' U) I F n h) (λa b=>zkp a b) cX xX (h2 X' U) (ag X' U) (al X' U) (λa2 s σ H Nx P I q k=>
     zbz (k:=2) (B:=λP s=>wpAny (model X'.prog X'.w) X'.A (eval elt X'.env) (λx Z=>wpAny (model X'.prog X'.w) X'.A (call (.builtin "list.append") [.ref acc,x]) (λ_ s6=>P s6) (λ_ _=>False) Z) (λ_ _=>False) s) (tb:=zpG te acc)
      (λit _ _ I F n h=>zna I F n h) (λa b=>zkq a b) cX xX (h3 X' U) (an X' U) (as X' U) (λ_ _ _ _ _ _ I q k=>zcO (he X' U) xX I q k) I q k) I q k) I h (λJ H1 acc q hn=>q acc hn) Y
def zlz(q:X.N.Nodup)(B:X.N[ix]?=some nx)(F:X.env.scope.names.lookup nx=some .local)(hc:X.calm=true)(c:CompOk X scope N cix)(h1:QI X t1 i1 w1)(J:∀C s H ex,QG (zj X scope N C s H ex) t1 g1)(O:∀C s H ex,QTs (zj X scope N C s H ex) f1 n1)(h2:∀C s H ex,QI (zj X scope N C s H ex) t2 i2 w2)(Y:∀C s H ex,QG (zj X scope N C s H ex) t2 g2)(Z:∀C s H ex,QTs (zj X scope N C s H ex) f2 n2)(h3:∀C s H ex,QI (zj X scope N C s H ex) t3 i3 w3)(ac:∀C s H ex,QG (zj X scope N C s H ex) t3 g3)(ad:∀C s H ex,QTs (zj X scope N C s H ex) f3 n3)(he:∀C s H ex,QE (zj X scope N C s H ex) elt te)(ag:swapsWithSole [.Name nx px] (.ListComp elt [⟨t1,i1,f1,0⟩,⟨t2,i2,f2,0⟩,⟨t3,i3,f3,0⟩] scope pos) spos.line X.env=pure true:=by rfl)(hs:∀x,foldedSetIterable i1 X.env x=pure x:=by intro _;rfl)(al:∀C s H ex x,foldedSetIterable i2 (zj X scope N C s H ex).env x=pure x:=by intro _ _ _ _ _;rfl)(an:∀C s H ex x,foldedSetIterable i3 (zj X scope N C s H ex).env x=pure x:=by intro _ _ _ _ _;rfl)(as:(assignEach [.Name nx px] X.env).map (·.2)=[assign (.Name nx px) X.env]:=by rfl):QS X (.Assign [.Name nx px] (.ListComp elt [⟨t1,i1,f1,0⟩,⟨t2,i2,f2,0⟩,⟨t3,i3,f3,0⟩] scope pos) spos) (zhx (zmT w1 g1 n1 w2 g2 n2 w3 g3 n3 te cix) (zbl ix)):=⟨λpins s σ H D I h=>zfZ q B F ag as (λ_=>rfl) λU Qp hf=>zg0 (Q:=λv H=>D.nx (σ.set ix (some v)) H) (uB c) hc h1.run (zaC λC s H ex=>(J C s H ex).run) (zaC λC s H ex=>(O C s H ex).run) (zaC λC s H ex=>(h2 C s H ex).run) (zaC λC s H ex=>(Y C s H ex).run) (zaC λC s H ex=>(Z C s H ex).run) (zaC λC s H ex=>(h3 C s H ex).run) (zaC λC s H ex=>(ac C s H ex).run) (zaC λC s H ex=>(ad C s H ex).run) (zaC λC s H ex=>(he C s H ex).run) hs (zaC λC s H ex=>al C s H ex) (zaC λC s H ex=>an C s H ex) I h hf⟩
end
end L2
namespace L3
open PySem PySem.Spec L2
abbrev CB:=Ev->Nat->List Dt->(Ev->Nat->List Dt->Prop)->Prop
def clR (mg:W->Ev->(Ev->Prop)->Prop)(ft:Ev->Mo Bool)(fb:CB)(B:Ev)(F:List Dt)(K:Ev->Nat->List Dt->Prop):List W->Nat->Prop:=λl n1=>∃I:Nat->Ev->Nat->List Dt->Prop,I 0 B n1 F/\
 (∀i w ρ n ds,l[i]?=some w->I i ρ n ds->mg w ρ λq=>ft q n λb n2=>onC b (fb q n2 ds (I (i+1))) (I (i+1) q n2 ds))/\∀ ρ n ds,I l.length ρ n ds->K ρ n ds
@[reducible] def apR (q:Ev->Mo W):CB:=λρ n ds K=>q ρ n λx n3=>onD x λd=>ds.length<=lim/\K ρ n3 (ds++[d])
@[reducible] def inB (q:Ev->Mo (List W)) (mg:W->Ev->(Ev->Prop)->Prop) (ft:Ev->Mo Bool) (fb:CB):CB:=λρ n ds K=>q ρ n (clR mg ft fb ρ ds K)
section
variable {X:Cx}{Pn:PN}{M S cM:List Nat}{fr fr':Bool}{e:Expr}{es:List Expr}{pos:Pos}{A:Addr->Prop}{acc:Addr}{H1 H H':Hp}{σc σ:St}{ρc ρ:Ev}{n m:Nat}{ds:List Dt}
structure RBd (Pn:PN)(cM:List Nat)(tb:Addr->(St->Hp->Prop)->St->Hp->Prop)(fb:CB):Prop where
 run:∀ (A:Addr->Prop) (acc:Addr) (H1:Hp) (σc:St) (ρc:Ev) (σ:St) (H:Hp) (ρ:Ev) (n:Nat) (ds:List Dt) (G:Hp) (K:Ev->Nat->List Dt->Prop) (Nx:St->Hp->Prop),H1 acc=none->(∀k w,k∈cM->ρc[k]?=some (some w)->σc[k]?≠some (some (.ref acc)))->CS Pn A acc H1 cM σc ρc σ H ρ n ds->zl G (zz (λb=>A b\/b=acc) H)->fb ρ n ds K->
  (∀ σ2 H2 ρ2 n2 ds2,CS Pn A acc H1 cM σc ρc σ2 H2 ρ2 n2 ds2->zl G (zz (λb=>A b\/b=acc) H2)->K ρ2 n2 ds2->Nx σ2 H2)->tb acc Nx σ H
def zrn(he:RE Pn cM fr' te Y):RBd Pn cM (λacc=>zpG te acc) (apR Y):=⟨λA acc H1 σc ρc σ H ρ n ds G K Nx B na c sG r k=>by
 refine he.run _ σ H ρ n _ _ c.env c.pn r ?_;intro w5 m5 v5 H5 Z V5 I _;rw[xl] at Z;obtain⟨d,e5,J,r5⟩:=Z;subst e5;have q:=c.go I.st I.pn;have O:=sG.trans (zp I.st);obtain⟨xs,U,F⟩:=q.ac;refine⟨xs,U,zbK (by rw[F.length];exact J),k _ _ _ _ _ ⟨q.env.upd (.inr rfl) (λk w hk hw z=>?_) NP.lst rfl,q.pn.upd (.inr rfl),⟨_,zf,?_⟩,?_,?_,q.fx⟩ ?_ r5⟩
 ·obtain⟨f1,f2⟩:=q.fx k hk;rw[f1] at z;rw[f2] at hw;exact na k w hk hw z
 ·rw[zC (.inr rfl)];exact F.append (IsL.one V5.is)
 ·rw[zC (.inr rfl)];exact q.st
 ·exact λb o e nn=>by rw[zd (zg e B)];exact q.s1 b o e nn
 ·rw[zC (.inr rfl)];exact O⟩
def zjI(hg:RG cM cM g mg)(ht:RT Pn cM ti ft)(hb:RBd Pn cM tb fb)(I:H1 acc=none)(na:∀k w,k∈cM->ρc[k]?=some (some w)->σc[k]?≠some (some (.ref acc)))(c:CS Pn A acc H1 cM σc ρc σ H ρ n ds)(sG:zl G (zz (λb=>A b\/b=acc) H))(V2:Val (λb=>A b\/b=acc) H w x)(r:mg w ρ λB=>ft B n λb n2=>onC b (fb B n2 ds K) (K B n2 ds))(k:∀ J H2 O n2 U,CS Pn A acc H1 cM σc ρc J H2 O n2 U->zl G (zz (λb=>A b\/b=acc) H2)->K O n2 U->Nx J H2):g x σ H λq H3=>ti q H3 λok H4=>if ok=true then tb acc Nx q H4 else Nx q H4:=by
 refine hg.run _ σ H ρ x w _ _ c.env V2 r λq F r3 E3 f3=>?_;have c3:CS Pn A acc H1 cM σc ρc q H F n ds:=⟨E3,c.pn,c.ac,c.st,c.s1,λk Z=>⟨(f3 k Z).1.trans (c.fx k Z).1,(f3 k Z).2.trans (c.fx k Z).2⟩⟩;refine ht.run _ q H F n _ _ E3 c.pn r3 λb m3 H4 r4 g4=>?_;have c4:=c3.go g4.st g4.pn;have Y:=sG.trans (zp g4.st)
 cases b with
 | false=>rw[if_neg (by decide)];exact k _ _ _ _ _ c4 Y r4
 | true=>rw[if_pos rfl];exact hb.run A acc H1 σc ρc q H4 F m3 ds G K Nx I na c4 Y r4 k
def zro(hi:RI Pn cM false wi fi)(hg:RG cM cM g mg)(ht:RT Pn cM ti ft)(hb:RBd Pn cM tb fb) :
  RBd Pn cM (λacc Nx σ H=>wi σ H λJ H2=>inG J g ti (tb acc) Nx σ H2) (inB fi mg ft fb):=⟨λA acc H1 σc ρc σ H ρ n ds G K Nx O na c sG r k=>by
 refine hi.run _ σ H ρ n _ _ c.env c.pn r λF m5 J2 H5 ⟨I2,a0,a1,a2⟩ U g5=>?_;have c5:=c.go g5.st g5.pn;have ac:=sG.trans (zp g5.st);refine⟨λj mm ad H'=>mm=F.length - j/\j<=F.length/\∃ q Y ds,CS Pn A acc H1 cM σc ρc ad H' q Y ds/\zl (zz (λb=>A b\/b=acc) H5) (zz (λb=>A b\/b=acc) H')/\I2 j q Y ds,⟨F.length,by simp,aN _,_,_,_,c5,zl.refl _,a0⟩,?_⟩;rintro j mm a7 H6 ⟨rfl,bb,ag,n6,al,c6,s6,Z⟩;by_cases I:j<F.length
 ·right;have B:F[j]?=some F[j]:=aj I;obtain⟨an,as⟩:=U.one j F[j] _ H6 B s6 (λz=>by cases z) λp hp=>c6.env.new hp;refine⟨an,λa3 H7=>∃ q Y ds,CS Pn A acc H1 cM σc ρc a3 H7 q Y ds/\zl (zz (λb=>A b\/b=acc) H5) (zz (λb=>A b\/b=acc) H7)/\I2 (j+1) q Y ds,λbc H2 h=>⟨F.length - (j+1),by lia,rfl,I,h⟩,λy H7 a4=>?_⟩;obtain⟨S7,V7⟩:=as y H7 a4;exact zjI hg ht hb O na (c6.go (zl.same S7) (c6.pn.same S7)) (s6.trans (zp (zl.same S7))) V7 (a1 j F[j] ag n6 al B Z) λ_ _ _ _ _ q1 q2 q3=>⟨_,_,_,q1,q2,q3⟩
 ·refine Or.inl ?_;have a5:j=F.length:=by lia
  subst a5;exact⟨U.stop _ H6 s6 (λz=>by cases z),k _ _ _ _ _ c6 (ac.trans s6) (a2 _ _ _ Z)⟩⟩
@[reducible] def zgu (q:Ev->Mo (List W)) (mg:W->Ev->(Ev->Prop)->Prop) (ft:Ev->Mo Bool) (fb:CB) (cix:List (Option Nat)):Ev->Mo W:=λρ n Q=>q ρ n (clR mg ft fb (uG ρ cix) [] λ_ B ds=>Q (.d (.lst ds)) B)
def zhj(hn:(cix.filterMap id).Nodup)(hi:RI Pn M ow wi fi)(hg:RG (zK M cix) (zK M cix) g mg)(ht:RT Pn (zK M cix) ti ft)(hb:RBd Pn (zK M cix) tb fb):RE Pn M true (λσ H Q=>wi σ H λJ H1=>∀acc,H1 acc=none->inG J g ti (tb acc) (λ_ H=>Q (.ref acc) H) (xA σ cix) (upd H1 acc (.lst []))) (zgu fi mg ft fb cix):=⟨λA σ H ρ n Q R E P hf k=>by
 refine hi.run A σ H ρ n _ _ E P hf λl m J H1 ⟨I,i0,it,ie⟩ iv g1=>λacc q=>?_;have E1:=E.stay g1.st
 have c0:CS Pn A acc H1 (zK M cix) (xA σ cix) (uG ρ cix) (xA σ cix) (L2.upd H1 acc (.lst [])) (uG ρ cix) m []:=
  ⟨(E1.cap hn).more (zl.upd (o:=.lst []) q) (Fr.of q) zf NP.lst rfl,g1.pn.grow' (g1.pn.same (yM.upd q)) (Fr.of q) zf NP.lst rfl,⟨[],zf,rfl⟩,yp (zl.upd q) (Fr.of q),zl.upd q,λk hk=>⟨rfl,rfl⟩⟩
 have na:∀k w,k∈zK M cix->(uG ρ cix)[k]?=some (some w)->(xA σ cix)[k]?≠some (some (.ref acc)):=λk w hk hw z=>by obtain⟨v,s1,_,s3⟩:=(E1.cap hn).val k w hw;obtain⟨a,e,hA,_⟩:=s3 hk;rw[z] at s1;cases s1;cases e;exact E1.new q hA
 refine⟨λi mm Y H'=>mm=l.length - i/\i<=l.length/\∃ B F ds,CS Pn A acc H1 (zK M cix) (xA σ cix) (uG ρ cix) Y H' B F ds/\I i B F ds,⟨l.length,by simp,aN _,_,m,[],c0,i0⟩,?_⟩;rintro i mm Y H' ⟨rfl,an,B,F,ds,c,hI⟩;by_cases Z:i<l.length
 ·right;have O:l[i]?=some l[i]:=aj Z;obtain⟨go,yl⟩:=iv.one i l[i] _ H' O c.st (λ_=>c.s1) λp hp=>c.env.new hp;refine⟨go,λad H2=>∃ B F ds,CS Pn A acc H1 (zK M cix) (xA σ cix) (uG ρ cix) ad H2 B F ds/\I (i+1) B F ds,λad H2 h=>⟨l.length - (i+1),by lia,rfl,Z,h⟩,λx H2 hy=>?_⟩;obtain⟨S2,V2⟩:=yl x H2 hy;exact zjI hg ht hb q na (c.go (zl.same S2) (c.pn.same S2)) (zl.refl _) V2 (it i l[i] B F ds O hI) λ_ _ _ _ _ q1 _ q3=>⟨_,_,_,q1,q3⟩
 ·refine Or.inl ?_;have al:i=l.length:=by lia
  subst al;obtain⟨xs,U,ag⟩:=c.ac;refine⟨iv.stop _ H' c.st (λ_=>c.s1),k _ F _ H' (ie B F ds hI) (Val.of ⟨acc,xs,rfl,.inl (zn (E1.new q) U),ag.stay (zl.same (yb λb z=>.inl z))⟩) (g1.trans ⟨c.s1,c.pn.less λa z=>.inl z⟩) λ_=>⟨acc,rfl,(Fr.of q).back g1.st,⟨_,U,rfl⟩,acc,xs,rfl,.inl U,ag⟩⟩⟩
def ziG{f1 f2 f3:List Expr}{scope:Scope}{N:List Str}{cix:List (Option Nat)}{q B F:Ev->Mo (List W)}{I J O:W->Ev->(Ev->Prop)->Prop}{U Y Z:Ev->Mo Bool}{nx:Str}{px spos:Pos}(ac:X.N.Nodup)(ad:X.N[ix]?=some nx)(ag:X.env.scope.names.lookup nx=some .local)(hc:X.calm=true)(cc:CompOk X scope N cix)(h1:JI X Pn M ow t1 i1 q)(al:∀C s H ex,JG (zj X scope N C s H ex) (zK M cix) (zK M cix) t1 I)(an:∀C s H ex,JTs (zj X scope N C s H ex) Pn (zK M cix) f1 U)(h2:∀C s H ex,JI (zj X scope N C s H ex) Pn (zK M cix) false t2 i2 B)(as:∀C s H ex,JG (zj X scope N C s H ex) (zK M cix) (zK M cix) t2 J)(a0:∀C s H ex,JTs (zj X scope N C s H ex) Pn (zK M cix) f2 Y)(h3:∀C s H ex,JI (zj X scope N C s H ex) Pn (zK M cix) false t3 i3 F)(a1:∀C s H ex,JG (zj X scope N C s H ex) (zK M cix) (zK M cix) t3 O)(a2:∀C s H ex,JTs (zj X scope N C s H ex) Pn (zK M cix) f3 Z)(he:∀C s H ex,JE (zj X scope N C s H ex) Pn (zK M cix) fr' elt fe)(hn:(cix.filterMap id).Nodup:=by decide)(a3:swapsWithSole [.Name nx px] (.ListComp elt [⟨t1,i1,f1,0⟩,⟨t2,i2,f2,0⟩,⟨t3,i3,f3,0⟩] scope pos) spos.line X.env=pure true:=by rfl)(hs:∀x,foldedSetIterable i1 X.env x=pure x:=by intro _;rfl)(a4:∀C s H ex x,foldedSetIterable i2 (zj X scope N C s H ex).env x=pure x:=by intro _ _ _ _ _;rfl)(a5:∀C s H ex x,foldedSetIterable i3 (zj X scope N C s H ex).env x=pure x:=by intro _ _ _ _ _;rfl)(a7:(assignEach [.Name nx px] X.env).map (·.2)=[assign (.Name nx px) X.env]:=by rfl):∃te,QS X (.Assign [.Name nx px] (.ListComp elt [⟨t1,i1,f1,0⟩,⟨t2,i2,f2,0⟩,⟨t3,i3,f3,0⟩] scope pos) spos) (zhx te (zbl ix))/\RE Pn M true te (zgu q I U (inB B J Y (inB F O Z (apR fe))) cix):=by
 obtain⟨w1,bb,bc⟩:=h1.ex;obtain⟨g1,bd,bl⟩:=zfR al;obtain⟨n1,bo,bs⟩:=zfS an;obtain⟨w2,bx,b0⟩:=zrY h2;obtain⟨g2,b1,b2⟩:=zfR as;obtain⟨n2,b3,b4⟩:=zfS a0;obtain⟨w3,ca,cb⟩:=zrY h3;obtain⟨g3,cd,ch⟩:=zfR a1;obtain⟨n3,cn,co⟩:=zfS a2;obtain⟨te,qe,re⟩:=zkd he;exact⟨_,zlz ac ad ag hc cc bb bd bo bx b1 b3 ca cd cn qe a3 hs a4 a5 a7,zhj hn bc bl bs (zro b0 b2 b4 (zro cb ch co (zrn re)))⟩
def zeZ{α:Type}{l:List W}{I:Ev}{mg:W->Ev->(Ev->Prop)->Prop}{ft:Ev->Mo Bool}{fb:CB}{F:List Dt}{K:Ev->Nat->List Dt->Prop}(xs:List α)(O:α->W)(hl:l=xs.map O)(J:Ev->Prop)(E:α->List Dt)(Z:F.length+(xs.flatMap E).length<=lim)(j0:J I)(h:∀a∈xs,∀ q,J q->∀ (ds:List Dt) (K':Ev->Nat->List Dt->Prop),ds.length+(E a).length<=lim->(∀ {B},J B->K' B n (ds++E a))->mg (O a) q λB=>ft B n λb n2=>onC b (fb B n2 ds K') (K' B n2 ds))(fin:∀ {ρ},J ρ->K ρ n (F++xs.flatMap E)):clR mg ft fb I F K l n:=by
 subst hl;refine⟨λi q U ds=>U=n/\J q/\ds=F++(xs.take i).flatMap E,⟨rfl,j0,by simp⟩,?_,?_⟩
 ·rintro i w q U ds hw ⟨rfl,Y,rfl⟩;rw[aE] at hw;obtain⟨a,ha,rfl⟩:=aF.mp hw;have e1:(xs.take (i+1)).flatMap E=(xs.take i).flatMap E++E a:=by rw[zi ha,fB];simp
  have ac:((xs.take i).flatMap E).length+(E a).length<=(xs.flatMap E).length:=by
   have e2:xs.flatMap E=(xs.take (i+1)).flatMap E++(xs.drop (i+1)).flatMap E:=by rw[<- fB,aM]
   rw[e2,e1];simp only[aq];lia
  exact h a (aA ha) q Y _ _ (by rw[aq];lia) λ{B} j1=>⟨rfl,j1,by rw[e1,ax]⟩
 ·rintro q U ds ⟨rfl,Y,rfl⟩;rw[ab,bz];exact fin Y
def zaF.up(s:zl G G'):∀ {q:List W} {vs:List V},(∀ (i:Nat) (w:W) (v:V),q[i]?=some w->vs[i]?=some v->WAt G G w v)->∀ (i:Nat) (w:W) (v:V),q[i]?=some w->vs[i]?=some v->WAt G' G' w v:=λh i w v B F=>WAt.up s s (h i w v B F)
def lsW (q:List W):CuW where
 at_:=λT G a=>∃xs,Rd T a (.lst xs)/\xs.length=q.length/\∀ (i:Nat) (w:W) (v:V),q[i]?=some w->xs[i]?=some v->WAt G G w v
 mv:=λ{T T' G G' a} t s h=>let ⟨xs,h1,h2,h3⟩:=h;⟨xs,h1.imp (λh=>t _ h NP.lst) λ⟨o,h⟩=>⟨o,t _ h λ_ z=>by cases z⟩,h2,zaF.up s h3⟩
def zmf (mg:W->Ev->(Ev->Prop)->Prop)(ft:Ev->Mo Bool)(O:Ev->Mo W)(J:Ev)(Q:W->Nat->Prop):List W->Nat->Prop:=λl n1=>l.length<=lim/\∃I:Nat->Ev->Nat->List W->Prop,I 0 J n1 []/\
 (∀i w q F acc,l[i]?=some w->I i q F acc->mg w q λB=>ft B F λb n2=>onC b (O B n2 λx n3=>I (i+1) B n3 (acc++[x])) (I (i+1) B n2 acc))/\
 ∀ q F acc,I l.length q F acc->Q (.cu (lsW acc)) F
@[reducible] def zmw (q:Ev->Mo (List W)) (mg:W->Ev->(Ev->Prop)->Prop) (ft:Ev->Mo Bool) (B:Ev->Mo W) (cix:List (Option Nat)):Ev->Mo W:=λρ n Q=>q ρ n (zmf mg ft B (uG ρ cix) Q)
def zlC(hn:(cix.filterMap id).Nodup)(hi:RI Pn M ow wi fi)(hg:RG (zK M cix) (zK M cix) g mg)(ht:RT Pn (zK M cix) ti ft)(he:RE Pn (zK M cix) fr' te fe):RE Pn M false (zj3 wi g ti te cix) (zmw fi mg ft fe cix):=⟨λA σ H ρ n Q R E P hf k=>by
 refine hi.run A σ H ρ n _ _ E P hf λl m J H1 ⟨hz,I,i0,it,ie⟩ iv g1=>λacc F=>?_;have E1:=E.stay g1.st;have E2:=(E1.cap hn).more (zl.upd (o:=.lst []) F) (Fr.of F) zf NP.lst rfl;have P2:yK Pn (λb=>A b\/b=acc) m (L2.upd H1 acc (.lst [])):=g1.pn.grow' (g1.pn.same (yM.upd F)) (Fr.of F) zf NP.lst rfl
 have bb:∀k w,k∈zK M cix->(uG ρ cix)[k]?=some (some w)->(xA σ cix)[k]?≠some (some (.ref acc)):=λk w hk hw z=>by obtain⟨v,s1,_,s3⟩:=(E1.cap hn).val k w hw;obtain⟨a,e,hA,_⟩:=s3 hk;rw[z] at s1;cases s1;cases e;exact E1.new F hA
 have key:∀ O B H',EnvR (λb=>A b\/b=acc) (zK M cix) O H' B->(∀k∈zK M cix,O[k]?=(xA σ cix)[k]?/\B[k]?=(uG ρ cix)[k]?)->∀k w,k∈zK M cix->B[k]?=some (some w)->O[k]?≠some (some (.ref acc)):=λO B H' E' an k w hk hw z=>by simp_all
 refine⟨λi mm O H'=>mm=l.length - i/\i<=l.length/\∃ B n' q xs,EnvR (λb=>A b\/b=acc) (zK M cix) O H' B/\yK Pn (λb=>A b\/b=acc) n' H'/\I i B n' q/\H' acc=some (.lst xs)/\(xs.length=q.length/\∀ (j:Nat) (w:W) (v:V),q[j]?=some w->xs[j]?=some v->WAt (zz (λb=>A b\/b=acc) H') (zz (λb=>A b\/b=acc) H') w v)/\q.length<=i/\zl (zz A H1) (zz (λb=>A b\/b=acc) H')/\zl H1 H'/\(∀k∈zK M cix,O[k]?=(xA σ cix)[k]?/\B[k]?=(uG ρ cix)[k]?),
  ⟨l.length,by simp,aN _,_,m,[],[],E2,P2,i0,zf,⟨rfl,λj w v z=>by cases z⟩,ah _,yp (zl.upd F) (Fr.of F),zl.upd F,λk hk=>⟨rfl,rfl⟩⟩,?_⟩
 rintro i mm O H' ⟨rfl,bc,B,n',q,xs,E',P',hI,as,⟨ad,a0⟩,bd,st,s1,an⟩;by_cases a2:i<l.length
 ·right;have al:l[i]?=some l[i]:=aj a2;obtain⟨go,yl⟩:=iv.one i l[i] _ H' al st (λ_=>s1) λp hp=>E'.new hp
  refine⟨go,λa1 H2=>∃ B n' q xs,EnvR (λb=>A b\/b=acc) (zK M cix) a1 H2 B/\yK Pn (λb=>A b\/b=acc) n' H2/\I (i+1) B n' q/\H2 acc=some (.lst xs)/\(xs.length=q.length/\∀ (j:Nat) (w:W) (v:V),q[j]?=some w->xs[j]?=some v->WAt (zz (λb=>A b\/b=acc) H2) (zz (λb=>A b\/b=acc) H2) w v)/\q.length<=i+1/\zl (zz A H1) (zz (λb=>A b\/b=acc) H2)/\zl H1 H2/\(∀k∈zK M cix,a1[k]?=(xA σ cix)[k]?/\B[k]?=(uG ρ cix)[k]?),
   λa1 H2 h=>⟨l.length - (i+1),by lia,rfl,a2,h⟩,λx H2 hy=>?_⟩
  obtain⟨S2,V2⟩:=yl x H2 hy;refine hg.run _ O H2 B x l[i] _ _ (E'.stay (zl.same S2)) V2 (it i l[i] B n' q al hI) λag U r3 E3 f3=>?_;have Y:∀k∈zK M cix,ag[k]?=(xA σ cix)[k]?/\U[k]?=(uG ρ cix)[k]?:=λk hk=>⟨(f3 k hk).1.trans (an k hk).1,(f3 k hk).2.trans (an k hk).2⟩;refine ht.run _ ag H2 U n' _ _ E3 (P'.same S2) r3 λb m3 H4 r4 g4=>?_;have Z:=(zl.same S2).trans g4.st
  cases b with
  | false=>
   rw[if_neg (by decide)];exact⟨U,m3,q,xs,E3.stay g4.st,g4.pn,r4,Z.lst as,⟨ad,zaF.up (zp Z) a0⟩,by lia,st.trans (zp Z),s1.trans Z,Y⟩
  | true=>
   rw[if_pos rfl];refine he.run _ ag H4 U m3 _ _ (E3.stay g4.st) g4.pn r4  ?_;intro w5 m5 v5 H5 r5 V5 g5 _;have ac:=Z.trans g5.st;have E5:=(E3.stay g4.st).stay g5.st;have a3:=ac.lst as;refine⟨xs,a3,zbK (by lia),U,m5,q++[w5],xs++[v5],E5.upd (.inr rfl) (key ag U H5 E5 Y) NP.lst rfl,g5.pn.upd (.inr rfl),r5,zf,⟨by simp[ad],λj w v e1 e2=>?_⟩,by simp_all,?_,?_,Y⟩
   ·rw[zC (.inr rfl)];by_cases hj:j<q.length
    ·rw[bt hj] at e1;rw[bt (by lia)] at e2;exact WAt.up (zp ac) (zp ac) (a0 j w v e1 e2)
    ·rw[bf (by lia)] at e1 e2;rw[ad] at e2
     have a5:j - q.length=0:=by have:=(af.mp e1).1;simp at this;lia
     rw[a5] at e1 e2;simp only[List.getElem?_cons_zero,Option.some.injEq] at e1 e2;subst e1 e2;exact V5
   ·rw[zC (.inr rfl)];exact st.trans (zp ac)
   ·exact λb o e nn=>by rw[zd (zg e F)];exact s1.trans ac b o e nn
 ·refine Or.inl ?_;have a7:i=l.length:=by lia
  subst a7;have a4:yM (zz (λb=>A b\/b=acc) H') (zz A H'):=yb λb z=>.inl z;exact⟨iv.stop _ H' st (λ_=>s1),k _ n' _ H' (ie B n' q hI) ⟨acc,rfl,xs,.inl (zn (E1.new F) as),ad,zaF.up (zl.same a4) a0⟩ (g1.trans ⟨s1,P'.less λa z=>.inl z⟩) λz=>by cases z⟩⟩
def znF(F:X.calm=true)(cc:CompOk X scope N cix)(hi:JI X Pn M ow tg iter q)(I:∀C s H ex,JG (zj X scope N C s H ex) (zK M cix) (zK M cix) tg mg)(J:∀C s H ex,JTs (zj X scope N C s H ex) Pn (zK M cix) ifs ft)(O:∀C s H ex,JE (zj X scope N C s H ex) Pn (zK M cix) fr' elt B)(U:(cix.filterMap id).Nodup:=by decide)(hs:∀x,foldedSetIterable iter X.env x=pure x:=by intro _;rfl):JE X Pn M false (.ListComp elt [⟨tg,iter,ifs,0⟩] scope pos) (zmw q mg ft B cix):=by
 obtain⟨ti,Y,Z⟩:=hi.ex;obtain⟨g,qg,rg⟩:=zfR I;obtain⟨tt,qt,rt⟩:=zfS J;obtain⟨te,qe,re⟩:=zkd O;exact⟨_,zgI F cc Y qg qt qe hs,zlC U Z rg rt re⟩
@[reducible] def ztK (w:W) (P:CuW->Prop):Prop:=match w with | .cu k=>P k | _=>False
def zn6:ztK w P = ∃k,w = .cu k/\P k:=propext ⟨λh=>by cases w <;> first | exact False.elim h | exact⟨_,rfl,h⟩,by rintro⟨k,rfl,h⟩;exact h⟩
def zpQ{α:Type}(xs:List α)(I:α->W)(hl:l=xs.map I)(J:Ev->Prop)(E:α->W)(O:xs.length<=lim)(j0:J F)(h:∀a∈xs,∀ B,J B->∀C:Ev->Nat->W->Prop,(∀ {q},J q->C q n (E a))->mg (I a) B λq=>Y q n λx n3=>C q n3 x)(fin:Q (.cu (lsW (xs.map E))) n):zmf mg zss Y F Q l n:=by
 subst hl;refine⟨by rw[ab];exact O,λi B U acc=>U=n/\J B/\acc=(xs.take i).map E,⟨rfl,j0,rfl⟩,?_,?_⟩
 ·rintro i w B U acc Z ⟨rfl,hj,rfl⟩;rw[aE] at Z;obtain⟨a,ha,rfl⟩:=aF.mp Z;exact h a (aA ha) B hj (λq n3 x=>n3=U/\J q/\(xs.take i).map E++[x]=(xs.take (i+1)).map E) λ{q} j1=>⟨rfl,j1,by rw[zi ha,aP];rfl⟩
 ·rintro B U acc ⟨rfl,hj,rfl⟩;rw[ab,bz];exact fin
@[reducible] def zsS (f:Ev->Mo W):Ev->Mo (List W):=λρ n Q=>f ρ n λx m=>ztK x λk=>∃q,k=lsW q/\Q q m
def zti(K:PySem.W.Frag)(Y:X.K=K)(h:JE X Pn M fr e f):JI X Pn M false tg e (zsS f):=by
 obtain⟨te,q,r⟩:=h.ex;refine⟨_,zdo K Y q,⟨λA σ H ρ n Q R E P Z k=>?_⟩⟩;refine r.run A σ H ρ n _ _ E P Z ?_;intro w m v H1 I hv g _;rw[zn6] at I;obtain⟨_,rfl,ws,rfl,I⟩:=I;obtain⟨O,rfl,xs,F,B,hx⟩:=hv;have J:∀ {A2:Addr->Prop} {H2:Hp},zl (zz A H1) (zz A2 H2)->Rd H2 O (.lst xs):=λs=>F.imp (λh=>zt _ _ (s _ _ h NP.lst)) λ⟨o,h⟩=>⟨o,zt _ _ (s _ _ h λ_ z=>by cases z)⟩;refine⟨O,rfl,⟨xs,.inl F.sub⟩,k _ m _ H1 I ⟨λi w A2 H2 U s _ _=>?_,λA2 H2 s _=>⟨xs,.inl (J s),by rw[B];exact ah _⟩⟩ g⟩;have hi:i<xs.length:=by rw[B];exact (af.mp U).1
 refine⟨⟨xs,xs[i],.inl (J s),aj hi⟩,?_⟩;rintro y H3 ⟨rfl,hy⟩;have:=hy xs (.inl (J s));rw[aj hi] at this;cases this;exact⟨λ_ _ z=>z,WAt.up s s (hx i w _ U (aj hi))⟩
@[reducible] def dMinW (fs:Ev->Mo (List W)):Ev->Mo W:=λρ n Q=>fs ρ n λB m=>on1 B λx=>ztK x λk=>∃q:List (List Dt),k=lsW (q.map W.fl)/\0<q.length/\∀ (i:Nat) (l:List Dt),q[i]?=some l->(∀ (j:Nat) (l':List Dt),q[j]?=some l'->l.length<=l'.length/\(j<i->l.length<l'.length))->Q (.fl l) m
end
end L3
namespace L2
open PySem PyProof.Rows
def zin:Bool->Keyed->Array Keyed->Nat->Nat->Nat->StateT SortSt Sem (Option Nat):=sortPriv% PySem.Builtin.gallop
def zk9:Array Keyed->Array Keyed->StateT SortSt Sem (Array Keyed):=sortPriv% PySem.Builtin.mergeLo
def zk8:Array Keyed->Array Keyed->StateT SortSt Sem (Array Keyed):=sortPriv% PySem.Builtin.mergeHi
def zbi (M:Model)(A:Around)(s:Shared)(κ:SortKind)(L0:List Keyed)(f:Keyed->Int):Prop:=
 ∀x y,x∈L0->y∈L0->∀ (Q:Bool->Shared->Prop) (E:Value->Shared->Prop),Q (decide (f x<f y)) s->wpAny M A (keyLt' κ x.1 y.1) Q E s
section
variable {M:Model}{A:Around}{E:Value->Shared->Prop}{s:Shared}{κ:SortKind}{L0:List Keyed}{f:Keyed->Int}
def zrQ (R:zbi M A s κ L0 f){x y:Keyed}(q:x∈L0)(B:y∈L0){st:SortSt}(F:kindOf st=κ){Q:Option Bool->SortSt->Prop}(h:Q (some (decide (f x<f y))) st):wpS M A E s (lt' x y) Q st:=by rw[lt'_eq];refine wpS_bind (wpS_get ?_);rw[F];exact wpS_bind (wpS_lift (dS (R x y q B _ _ ⟨rfl,wpS_pure h⟩)))
def yi {a:Array Keyed}{i:Nat}{x:Keyed}(e:a[i]?=some x){st:SortSt}{Q:Keyed->SortSt->Prop}(h:Q x st):wpS M A E s (elem' a i) Q st:=by rw[elem'_eq,e];exact wpS_pure h
def xq (f:Keyed->Int)(left:Bool)(key x:Keyed):Bool:=if left=true then decide (f x<f key) else !decide (f key<f x)
def zph (R:zbi M A s κ L0 f){key x:Keyed}(q:x∈L0)(B:key∈L0){left:Bool}{st:SortSt}(F:kindOf st=κ){Q:Option Bool->SortSt->Prop}(h:Q (some (xq f left key x)) st) :
  wpS M A E s (if left=true then lt' x key else lt' key x >>= λr=>pure (Option.map (λb=>!b) r)) Q st:=by
 unfold xq at h
 cases left with
 | true=>rw[if_pos rfl] at h ⊢;exact zrQ R q B F h
 | false=>rw[if_neg ar] at h ⊢;exact wpS_bind (zrQ R B q F (wpS_pure h))
def zlS (R:zbi M A s κ L0 f){left:Bool}{key:Keyed}{a:Array Keyed}{base n hint:Nat}(hy:key∈L0)(ha:∀x∈a,x∈L0)(hn:base+n<=a.size)(hh:hint<n){B:Nat->Bool}(hB:∀i x,i<n->a[base+i]?=some x->xq f left key x=B i)(Z:∀i j,i<=j->j<n->B j=true->B i=true)
  {st:SortSt} (hk:kindOf st=κ) {Q:Option Nat->SortSt->Prop} (h:∀k,k<=n->(∀i,i<k->B i=true)->(∀i,k<=i->i<n->B i=false)->Q (some k) st):wpS M A E s (zin left key a base n hint) Q st:=by
 have O:∀i,i<n->∀ {Q:Option Bool->SortSt->Prop},Q (some (B i)) st->wpS M A E s (elem' a (base+i) >>= λx=>if left=true then lt' x key else lt' key x >>= λr=>pure (Option.map (λb=>!b) r)) Q st:=λi hi {Q} hq=>by have e:a[base+i]?=some a[base+i]:=aR (by lia);refine wpS_bind (yi e (zph R (ha _ (dy _)) hy hk ?_));rw[hB i _ hi e];exact hq
 have up:∀i j,i<=j->j<n->B i=false->B j=false:=λi j h1 h2 F=>by
  cases e:B j with
  | false=>rfl
  | true=>rw[Z i j h1 h2 e] at F;cases F
 have fin:∀lo hi,lo<=hi->hi<=n->(∀i,i<lo->B i=true)->(∀i,hi<=i->i<n->B i=false)->∀ {G:Option (Option Nat)×Nat×Nat->SortSt->Prop},(∀l k,k<=n->(∀i,i<k->B i=true)->(∀i,k<=i->i<n->B i=false)->G (none,l,k) st)->∀ {body:Nat->Option (Option Nat)×Nat×Nat->StateT SortSt Sem (ForInStep (Option (Option Nat)×Nat×Nat))},
   (∀x lo hi (G':ForInStep (Option (Option Nat)×Nat×Nat)->SortSt->Prop),lo ≥ hi->G' (.done (none,lo,hi)) st->wpS M A E s (body x (none,lo,hi)) G' st)->
   (∀x lo hi (G':ForInStep (Option (Option Nat)×Nat×Nat)->SortSt->Prop),lo<hi->hi<=n->(B (lo+(hi - lo) / 2)=true->G' (.yield (none,lo+(hi - lo) / 2+1,hi)) st)->(B (lo+(hi - lo) / 2)=false->G' (.yield (none,lo,lo+(hi - lo) / 2)) st)->wpS M A E s (body x (none,lo,hi)) G' st)->
   wpS M A E s (forIn [0:n] (none,lo,hi) body) G st:=by
  intro lo hi h1 h2 F J G hG body b1 b2;refine bI (I:=λx c q=>q=st/\∃lo hi,c=(none,lo,hi)/\lo<=hi/\hi<=n/\(∀i,i<lo->B i=true)/\(∀i,hi<=i->i<n->B i=false)/\hi - lo+x<=n) ?_ ?_ ⟨rfl,lo,hi,rfl,h1,h2,F,J,by lia⟩
  ·rintro x c q _ hx ⟨rfl,lo,hi,rfl,h1,h2,F,J,h5⟩;by_cases e:lo ≥ hi
   ·refine b1 x lo hi _ e ?_;obtain rfl:lo=hi:=by lia
    exact hG _ _ h2 F J
   ·refine b2 x lo hi _ (by lia) h2 (λhb=>?_) (λhb=>?_)
    ·exact⟨rfl,_,_,rfl,by lia,h2,λi ac=>Z i _ (by lia) (by lia) hb,J,by lia⟩
    ·exact⟨rfl,_,_,rfl,by lia,by lia,F,λi h1 h2=>up _ i h1 h2 hb,by lia⟩
  ·rintro c q ⟨rfl,lo,hi,rfl,h1,h2,F,J,h5⟩;obtain rfl:lo=hi:=by lia
   exact hG _ _ h2 F J
 refine wpS_bind (O hint hh ?_);dsimp only
 cases eB:B hint with
 | true=>
  rw[if_pos rfl];refine wpS_bind (wpS_mono (bI (I:=λx c q=>q=st/\∃l o,c=(none,l,o)/\l<o/\hint+l<n/\B (hint+l)=true/\x+1<=o) (Q:=λc q=>q=st/\∃l o,c=(none,l,o)/\l<o/\hint+l<n/\B (hint+l)=true/\(o ≥ n - hint\/(hint+o<n/\B (hint+o)=false))) ?_ ?_ ⟨rfl,0,1,rfl,by lia,by lia,eB,by lia⟩) ?_)
  ·rintro x c q _ hx ⟨rfl,l,o,rfl,h1,h2,F,J⟩;dsimp only;by_cases e:o ≥ n - hint
   ·rw[if_pos e];exact wpS_pure ⟨rfl,l,o,rfl,h1,h2,F,.inl e⟩
   ·rw[if_neg e];refine wpS_bind (O (hint+o) (by lia) ?_)
    cases eo:B (hint+o) with
    | true=>exact wpS_pure ⟨rfl,o,2 * o+1,rfl,by lia,by lia,eo,by lia⟩
    | false=>exact wpS_pure ⟨rfl,l,o,rfl,h1,h2,F,.inr ⟨by lia,eo⟩⟩
  ·rintro c q ⟨rfl,l,o,rfl,h1,h2,F,J⟩;exact⟨rfl,l,o,rfl,h1,h2,F,.inl (by lia)⟩
  ·rintro c q ⟨rfl,l,o,rfl,h1,h2,F,J⟩;dsimp only;refine wpS_bind (fin (hint+l+1) (hint+min o (n - hint)) (by lia) (by lia) (λi hi=>Z i _ (by lia) h2 F) (λi h5 h6=>?_) (λl' k k1 k2 k3=>?_) (λx lo hi G' e hg=>?_) (λx lo hi G' e e2 U Y=>?_))
   ·rcases J with J | ⟨J,h7⟩
    ·lia
    ·exact up _ i (by lia) h6 h7
   ·exact wpS_pure (h k k1 k2 k3)
   ·dsimp only;rw[if_pos e];exact wpS_pure hg
   ·dsimp only;rw[if_neg (by lia)];refine wpS_bind (O _ (by lia) ?_)
    cases eb:B (lo+(hi - lo) / 2) with
    | true=>exact wpS_pure (U eb)
    | false=>exact wpS_pure (Y eb)
 | false=>
  rw[if_neg ar];refine wpS_bind (wpS_mono (bI (I:=λx c q=>q=st/\∃l o,c=(none,l,o)/\l<o/\l<=hint/\B (hint - l)=false/\x+1<=o) (Q:=λc q=>q=st/\∃l o,c=(none,l,o)/\l<o/\l<=hint/\B (hint - l)=false/\(o ≥ hint+1\/(o<=hint/\B (hint - o)=true))) ?_ ?_ ⟨rfl,0,1,rfl,by lia,by lia,eB,by lia⟩) ?_)
  ·rintro x c q _ hx ⟨rfl,l,o,rfl,h1,h2,F,J⟩;dsimp only;by_cases e:o ≥ hint+1
   ·rw[if_pos e];exact wpS_pure ⟨rfl,l,o,rfl,h1,h2,F,.inl e⟩
   ·rw[if_neg e];refine wpS_bind (O (hint - o) (by lia) ?_)
    cases eo:B (hint - o) with
    | true=>exact wpS_pure ⟨rfl,l,o,rfl,h1,h2,F,.inr ⟨by lia,eo⟩⟩
    | false=>exact wpS_pure ⟨rfl,o,2 * o+1,rfl,by lia,by lia,eo,by lia⟩
  ·rintro c q ⟨rfl,l,o,rfl,h1,h2,F,J⟩;exact⟨rfl,l,o,rfl,h1,h2,F,.inl (by lia)⟩
  ·rintro c q ⟨rfl,l,o,rfl,h1,h2,F,J⟩;dsimp only;refine wpS_bind (fin (hint+1 - min o (hint+1)) (hint - l) (by lia) (by lia) (λi hi=>?_) (λi h5 h6=>up _ i h5 h6 F) (λl' k k1 k2 k3=>?_) (λx lo hi G' e hg=>?_) (λx lo hi G' e e2 U Y=>?_))
   ·rcases J with J | ⟨J,h7⟩
    ·lia
    ·exact Z i _ (by lia) (by lia) h7
   ·exact wpS_pure (h k k1 k2 k3)
   ·dsimp only;rw[if_pos e];exact wpS_pure hg
   ·dsimp only;rw[if_neg (by lia)];refine wpS_bind (O _ (by lia) ?_)
    cases eb:B (lo+(hi - lo) / 2) with
    | true=>exact wpS_pure (U eb)
    | false=>exact wpS_pure (Y eb)
def zgV{key x y:Keyed}(h:f x<=f y)(e:xq f left key y=true):xq f left key x=true:=by
 unfold xq at e ⊢
 cases left with
 | true=>rw[if_pos rfl] at e ⊢;have:=bj e;exact aD (by lia)
 | false=>
  rw[if_neg ar] at e ⊢;simp only[ez,bP] at e ⊢;lia
abbrev leF (f:Keyed->Int)(x y:Keyed):Prop:=f x<=f y
def zhq (R:zbi M A s κ L0 f){left:Bool}{key:Keyed}{a:Array Keyed}{base n hint:Nat}(hy:key∈L0)(ha:∀x∈a,x∈L0)(hn:base+n<=a.size)(hh:hint<n)(hs:((a.toList.drop base).take n).Pairwise (leF f))
  {st:SortSt} (hk:kindOf st=κ) {Q:Option Nat->SortSt->Prop} (h:∀k,k<=n->(∀x∈(a.toList.drop base).take k,xq f left key x=true)->(∀x∈((a.toList.drop base).take n).drop k,xq f left key x=false)->Q (some k) st):wpS M A E s (zin left key a base n hint) Q st:=by
 have J:((a.toList.drop base).take n).length=n:=by simp;lia
 have q:∀i,i<n->∃x,a[base+i]?=some x/\((a.toList.drop base).take n)[i]?=some x:=λi hi=>by refine⟨a[base+i],aR (by lia),?_⟩;rw[bT hi,fJ,bU,aR (by lia)]
 refine zlS R hy ha hn hh (B:=λi=>match a[base+i]? with | some x=>xq f left key x | none=>false) (λi x hi e=>by rw[e]) (λi j al hj U=>?_) hk λk Y h1 h2=>h k Y (λx Z=>?_) (λx Z=>?_)
 ·obtain⟨x,F,I⟩:=q i (by lia);obtain⟨y,e3,O⟩:=q j hj;rw[F];rw[e3] at U;by_cases e:i=j
  ·subst e;rw[F] at e3;cases e3;exact U
  ·refine zgV ?_ U;obtain⟨ac,q1⟩:=af.mp I;obtain⟨ad,q2⟩:=af.mp O;have:=bR.mp hs i j ac ad (by lia);rw[q1,q2] at this;exact this
 ·obtain⟨i,hi,e⟩:=b5.mp Z;have ag:i<k:=by simp at hi;lia
  have:=h1 i ag;obtain⟨y,F,I⟩:=q i (by lia);rw[F] at this;rw[bT (by lia)] at I;rw[fW] at e;obtain⟨_,O⟩:=af.mp I;rw[<- e,O];exact this
 ·obtain⟨i,hi,e⟩:=b5.mp Z;rw[cm,J] at hi;have:=h2 (k+i) (by lia) (by lia);obtain⟨y,F,I⟩:=q (k+i) (by lia);rw[F] at this;rw[List.getElem_drop] at e;obtain⟨_,O⟩:=af.mp I;rw[<- e,O];exact this
end
structure Mg (R:Keyed->Keyed->Prop)(T out ra rb:List Keyed):Prop where
 perm:(out++(ra++rb)).Perm T
 up:out.Pairwise R
 le:∀x∈out,∀y∈ra++rb,R x y
 ua:ra.Pairwise R
 ub:rb.Pairwise R
section
variable {R:Keyed->Keyed->Prop}{T out ra rb c:List Keyed}
def Mg.a (h:Mg R T out (c++ra) rb)(k:∀x∈c,∀y∈rb,R x y):Mg R T (out++c) ra rb:=by
 have F:=bh.mp h.ua;refine⟨?_,bh.mpr ⟨h.up,F.1,λx B y q=>h.le x B y (by simp[q])⟩,λx B y q=>?_,F.2.1,h.ub⟩
 ·have:=h.perm;simpa only[ax] using this
 ·rcases av.mp B with B | B
  ·exact h.le x B y (by rcases av.mp q with q | q <;> simp[q])
  ·rcases av.mp q with q | q
   ·exact F.2.2 x B y q
   ·exact k x B y q
def Mg.b (h:Mg R T out ra (c++rb))(k:∀x∈c,∀y∈ra,R x y):Mg R T (out++c) ra rb:=by
 have F:=bh.mp h.ub;refine⟨?_,bh.mpr ⟨h.up,F.1,λx B y q=>h.le x B y (by simp[q])⟩,λx B y q=>?_,h.ua,F.2.1⟩
 ·refine List.Perm.trans ?_ h.perm;rw[ax];refine eJ _ ?_;rw[<- ax,<- ax];exact List.Perm.append_right _ List.perm_append_comm
 ·rcases av.mp B with B | B
  ·exact h.le x B y (by rcases av.mp q with q | q <;> simp[q])
  ·rcases av.mp q with q | q
   ·exact k x B y q
   ·exact F.2.2 x B y q
def zco (R:Keyed->Keyed->Prop)(T out:List Keyed):Prop:=out.Perm T/\out.Pairwise R
def Mg.told (h:Mg R T out [] []):zco R T out:=⟨by have:=h.perm;simpa using this,h.up⟩
def Mg.doneA (h:Mg R T out ra []):zco R T (out++ra):=(Mg.a (c:=ra) (ra:=[]) (by simpa using h) (λ_ _ _ q=>by simp at q)).told
def Mg.doneB (h:Mg R T out [] rb):zco R T (out++rb):=(Mg.b (c:=rb) (rb:=[]) (by simpa using h) (λ_ _ _ q=>by simp at q)).told
def Mg.last(h:Mg R T out [z] rb)(k:∀y∈rb,R y z):zco R T (out++rb++[z]):=(Mg.b (c:=rb) (rb:=[]) (by simpa using h) (λx q y B=>by rw[ao.mp B];exact k x q)).doneA
def Mg.lastB(h:Mg R T out ra [z])(k:∀y∈ra,R y z):zco R T (out++ra++[z]):=(Mg.a (c:=ra) (ra:=[]) (by simpa using h) (λx q y B=>by rw[ao.mp B];exact k x q)).doneB
end
def zg3{a:Array Keyed}(h:i<a.size):∃x,a[i]?=some x/\x∈a/\a.toList.drop i=x::a.toList.drop (i+1):=
 ⟨a[i],aR h,dy h,by rw[cK (by simpa using h)];rfl⟩
def zcY (a:Array Keyed)(i:Nat):(a.extract i a.size).toList=a.toList.drop i:=by simp[a8]
def zhY (l:List Keyed)(i k:Nat):(l.drop i).take k++l.drop (i+k)=l.drop i:=by rw[<- dG,aM]
def zgd (a:Array Keyed)(i k:Nat):(a.extract i (i+k)).toList=(a.toList.drop i).take k:=by simp
structure Like (st st':SortSt):Prop where
 kind:kindOf st'=kindOf st
 arr:arrOf st'=arrOf st
 pend:pendingOf st'=pendingOf st
 fail:failedOf st'=failedOf st
section
variable {M:Model}{A:Around}{E:Value->Shared->Prop}{s:Shared}{κ:SortKind}{L0:List Keyed}{f:Keyed->Int}
structure LoI (f:Keyed->Int)(T:List Keyed)(a b:Array Keyed)(out:Array Keyed)(ia ib:Nat):Prop where
 mg:Mg (leF f) T out.toList (a.toList.drop ia) (b.toList.drop ib)
 la:ia+1<a.size
 lb:ib<b.size
def zgp {T:List Keyed}{a b out:Array Keyed}{ia q:Nat}(mg:Mg (leF f) T out.toList (a.toList.drop ia) (b.toList.drop q))(e:(ia+1==a.size)=true)(B:∀x∈b,∀y,a[a.size - 1]?=some y->f x<=f y):zco (leF f) T (out++b.extract q b.size++a.extract ia a.size).toList:=by
 have e:=b7 e;obtain⟨z,F,U,I⟩:=zg3 (a:=a) (i:=ia) (by lia);have J:a.toList.drop (ia+1)=[]:=by rw[eV];simp;lia
 rw[be,be,zcY,zcY];rw[I,J] at mg ⊢;refine mg.last λy O=>B y ?_ z ?_
 ·have:=bF O;simpa using this
 ·rw[<- F];congr 1;lia
def zdW {T:List Keyed}{a b out:Array Keyed}{ia q:Nat}(mg:Mg (leF f) T out.toList (a.toList.drop ia) (b.toList.drop q))(e:q=b.size\/ia=a.size):zco (leF f) T (out++a.extract ia a.size++b.extract q b.size).toList:=by
 rw[be,be,zcY,zcY];rcases e with e | e
 ·have B:b.toList.drop q=[]:=by rw[eV];simp;lia
  rw[B] at mg ⊢;rw[bD];exact mg.doneA
 ·have B:a.toList.drop ia=[]:=by rw[eV];simp;lia
  rw[B] at mg ⊢;rw[bD];exact mg.doneB
def zht {α q:Type}{G:Prop}(C:α->q->Prop)(P:α->q->Prop)(h:(∀a b,C a b->P a b)->G)(r:∀a b,C a b->P a b):G:=h r
def zps {α:Type}{c:Prop}[Decidable c]{x y:StateT SortSt Sem α}{Q:α->SortSt->Prop}{st:SortSt}(q:c)(h:wpS M A E s x Q st):wpS M A E s (if c then x else y) Q st:=by rw[if_pos q];exact h
def zpr {α:Type}{c:Prop}[Decidable c]{x y:StateT SortSt Sem α}{Q:α->SortSt->Prop}{st:SortSt}(q:¬c)(h:wpS M A E s y Q st):wpS M A E s (if c then x else y) Q st:=by rw[if_neg q];exact h
def zP {α:Type}{c:Prop}[Decidable c]{x y:StateT SortSt Sem α}{Q:α->SortSt->Prop}{st:SortSt}(h:c->wpS M A E s x Q st)(h':¬c->wpS M A E s y Q st):wpS M A E s (if c then x else y) Q st:=if hc:c then zps hc (h hc) else zpr hc (h' hc)
def ex4 {T0 T1 T2 T3:Type}{m p q:T0->T1->T2->T3->Prop}{X G:Prop}(H:X/\∃B F I J,m B F I J/\p B F I J/\q B F I J)(k:X->∀B F I J,m B F I J->p B F I J->q B F I J->G):G:=by obtain⟨x,B,F,I,J,e,h,h'⟩:=H;exact k x B F I J e h h'
def ex5 {T0 T1 T2 T3 T4:Type}{m p q:T0->T1->T2->T3->T4->Prop}{X G:Prop}(H:X/\∃B F I J O,m B F I J O/\p B F I J O/\q B F I J O)(k:X->∀B F I J O,m B F I J O->p B F I J O->q B F I J O->G):G:=by obtain⟨x,B,F,I,J,O,e,h,h'⟩:=H;exact k x B F I J O e h h'
def exO5 {T0 T1 T2 T3 T4 S:Type}{m p q:T0->T1->T2->T3->T4->Prop}{U t:S->T0->T1->T2->T3->T4->Prop}{X G:Prop}(H:X/\((∃r B F I J O,U r B F I J O/\t r B F I J O)\/∃B F I J O,m B F I J O/\p B F I J O/\q B F I J O))(Y:X->∀r B F I J O,U r B F I J O->t r B F I J O->G)(k:X->∀B F I J O,m B F I J O->p B F I J O->q B F I J O->G):G:=by
 rcases H with ⟨x,⟨r,B,F,I,J,O,e,h⟩ | ⟨B,F,I,J,O,e,h,h'⟩⟩
 ·exact Y x r B F I J O e h
 ·exact k x B F I J O e h h'
def ex6 {T0 T1 T2 T3 T4 T5:Type}{m p q:T0->T1->T2->T3->T4->T5->Prop}{X G:Prop}(H:X/\∃B F I J O U,m B F I J O U/\p B F I J O U/\q B F I J O U)(k:X->∀B F I J O U,m B F I J O U->p B F I J O U->q B F I J O U->G):G:=by obtain⟨x,B,F,I,J,O,U,e,h,h'⟩:=H;exact k x B F I J O U e h h'
def exO6 {T0 T1 T2 T3 T4 T5 S:Type}{m p q:T0->T1->T2->T3->T4->T5->Prop}{Y t:S->T0->T1->T2->T3->T4->T5->Prop}{X G:Prop}(H:X/\((∃r B F I J O U,Y r B F I J O U/\t r B F I J O U)\/∃B F I J O U,m B F I J O U/\p B F I J O U/\q B F I J O U))(Z:X->∀r B F I J O U,Y r B F I J O U->t r B F I J O U->G)(k:X->∀B F I J O U,m B F I J O U->p B F I J O U->q B F I J O U->G):G:=by
 rcases H with ⟨x,⟨r,B,F,I,J,O,U,e,h⟩ | ⟨B,F,I,J,O,U,e,h,h'⟩⟩
 ·exact Z x r B F I J O U e h
 ·exact k x B F I J O U e h h'
def zig {T:Type}{p q r:T->Prop}{G:Prop}(H:∃y,p y/\q y/\r y)(k:∀y,p y->q y->r y->G):G:=by obtain⟨y,a,b,c⟩:=H;exact k y a b c
def zj9 (R:zbi M A s κ L0 f){a b:Array Keyed}(ha:∀x∈a,x∈L0)(hb:∀x∈b,x∈L0)(sa:a.toList.Pairwise (leF f))(sb:b.toList.Pairwise (leF f))(na:1<=a.size)(nb:1<=b.size)
  (hf:∀x∈a,∀y,b[0]?=some y->f y<=f x) (hl:∀x∈b,∀y,a[a.size - 1]?=some y->f x<=f y) {st:SortSt} (hk:kindOf st=κ) {Q:Array Keyed->SortSt->Prop}
  (h:∀out Y,Like st Y->zco (leF f) (a.toList++b.toList) out.toList->Q out Y):wpS M A E s (zk9 a b) Q st:=by
 refine wpS_bind (wpS_lift (ck ⟨rfl,?_⟩));refine zig (zg3 (a:=b) (i:=0) (by lia)) λy y1 y2 y3=>?_;refine wpS_bind (yi y1 ?_)
 have m0:Mg (leF f) (a.toList++b.toList) (#[y]:Array Keyed).toList (a.toList.drop 0) (b.toList.drop 1):=by
  have h0:Mg (leF f) (a.toList++b.toList) [] a.toList ([y]++b.toList.drop 1):=by have e:b.toList=[y]++b.toList.drop 1:=y3;rw[<- e];exact⟨by simp,.nil,λ_ hx=>by simp at hx,sa,sb⟩
  exact h0.b λx hx z hz=>by rw[ao.mp hx];exact hf z (by simpa using hz) y y1
 dsimp only;refine zP (λe1=>?_) (λe1=>?_)
 ·exact wpS_pure (h _ _ ⟨rfl,rfl,rfl,rfl⟩ (zdW m0 (.inl (b7 e1))))
 refine zP (λe2=>?_) (λe2=>?_)
 ·exact wpS_pure (h _ _ ⟨rfl,rfl,rfl,rfl⟩ (zgp m0 e2 hl))
 have bd:1≠b.size:=λz=>e1 (by rw[<- z];rfl);have bl:1≠a.size:=λz=>e2 (by rw[<- z];rfl);refine wpS_bind (wpS_get ?_);refine wpS_bind (wpS_mono (bI (I:=λx c Y=>Like st Y/\∃out ia ib g,c=(none,out,ia,ib,g)/\LoI f (a.toList++b.toList) a b out ia ib/\x+1<=ia+ib) (Q:=λc Y=>Like st Y/\∃r out ia ib g,c=(some r,out,ia,ib,g)/\zco (leF f) (a.toList++b.toList) r.toList) ?_ ?_ ⟨⟨rfl,rfl,rfl,rfl⟩,_,0,1,_,rfl,⟨m0,by lia,by lia⟩,by lia⟩) ?_)
 ·intro x c a3 _ hx H;refine ex4 H λl1 out ia ib g e I hp=>?_;clear H;subst e;dsimp only
  refine wpS_bind (wpS_mono (bI (I:=λx c Y=>Like st Y/\∃B J O ac bc,c=(none,B,J,O,ac,bc)/\LoI f (a.toList++b.toList) a b B J O/\x+(ia+ib)<=J+O)
   (Q:=λc Y=>Like st Y/\((∃r B J O ac bc,c=(some r,B,J,O,ac,bc)/\zco (leF f) (a.toList++b.toList) r.toList)\/∃B J O ac bc,c=(none,B,J,O,ac,bc)/\LoI f (a.toList++b.toList) a b B J O/\ia+ib+1<=J+O)) ?_ ?_ ⟨l1,_,_,_,_,_,rfl,I,by lia⟩) ?_)
  ·intro x2 c a4 _ bo H;refine ex5 H λl2 o2 ag al ac bc e I2 a5=>?_;clear H;subst e;dsimp only;have la:=I2.la;have lb:=I2.lb;refine zig (zg3 lb) λy y1 y2 y3=>?_;refine zig (zg3 (a:=a) (i:=ag) (by lia)) λz z1 z2 z3=>?_;refine wpS_bind (yi y1 (wpS_bind (yi z1 (wpS_bind (zrQ R (hb _ y2) (ha _ z2) (l2.kind.trans hk) ?_)))));have mg:=I2.mg;by_cases a7:f y<f z
   ·rw[aD a7];dsimp only;refine zps rfl ?_;refine wpS_bind (yi y1 ?_);have ua:=mg.ua;rw[z3] at ua;have ua:=aS.mp ua
    have m2:Mg (leF f) (a.toList++b.toList) (o2.push y).toList (a.toList.drop ag) (b.toList.drop (al+1)):=by
     rw[y3] at mg;rw[bN];refine Mg.b (c:=[y]) mg λx hx w Z=>?_;rw[ao.mp hx];rw[z3] at Z;show f y<=f w;rcases ay.mp Z with rfl | Z
     ·lia
     ·have h9:f z<=f w:=ua.1 w Z;lia
    refine zP (λe3=>?_) (λe3=>?_)
    ·exact wpS_pure ⟨l2,.inl ⟨_,_,_,_,_,_,rfl,zdW m2 (.inl (b7 e3))⟩⟩
    ·have bb:al+1≠b.size:=λq=>e3 (by rw[q];exact cr _);split
     ·exact wpS_pure ⟨l2,.inr ⟨_,_,_,_,_,rfl,⟨m2,la,by lia⟩,by lia⟩⟩
     ·exact wpS_pure ⟨l2,_,_,_,_,_,rfl,⟨m2,la,by lia⟩,by lia⟩
   ·rw[aO a7];dsimp only;refine zpr ar ?_;refine wpS_bind (yi z1 ?_);have ub:=mg.ub;rw[y3] at ub;have ub:=aS.mp ub
    have m2:Mg (leF f) (a.toList++b.toList) (o2.push z).toList (a.toList.drop (ag+1)) (b.toList.drop al):=by
     rw[z3] at mg;rw[bN];refine Mg.a (c:=[z]) mg λx hx w Z=>?_;rw[ao.mp hx];rw[y3] at Z;show f z<=f w;rcases ay.mp Z with rfl | Z
     ·lia
     ·have h9:f y<=f w:=ub.1 w Z;lia
    refine zP (λe3=>?_) (λe3=>?_)
    ·exact wpS_pure ⟨l2,.inl ⟨_,_,_,_,_,_,rfl,zgp m2 e3 hl⟩⟩
    ·have bb:ag+1+1≠a.size:=λq=>e3 (by rw[q];exact cr _);split
     ·exact wpS_pure ⟨l2,.inr ⟨_,_,_,_,_,rfl,⟨m2,by lia,lb⟩,by lia⟩⟩
     ·exact wpS_pure ⟨l2,_,_,_,_,_,rfl,⟨m2,by lia,lb⟩,by lia⟩
  ·rintro c a4 ⟨l2,o2,ag,al,ac,bc,rfl,I2,a5⟩;have la:=I2.la;have lb:=I2.lb;lia
  ·intro c a4 H;refine exO5 H (λl2 r o2 ag al ac bc e ht=>?_) (λl2 o2 ag al ac bc e I2 a5=>?_)
   all_goals clear H
   all_goals subst e
   ·exact wpS_pure ⟨l2,_,_,_,_,_,rfl,ht⟩
   dsimp only;refine wpS_bind (wpS_lift (ck ⟨rfl,?_⟩))
   refine wpS_bind (wpS_mono (bI (I:=λx c Y=>Like st Y/\∃B J O g ac bc,c=(none,B,J,O,g,ac,bc)/\LoI f (a.toList++b.toList) a b B J O/\ag+al<=J+O)
    (Q:=λc Y=>Like st Y/\((∃r B J O g ac bc,c=(some r,B,J,O,g,ac,bc)/\zco (leF f) (a.toList++b.toList) r.toList)\/∃B J O g ac bc,c=(none,B,J,O,g,ac,bc)/\LoI f (a.toList++b.toList) a b B J O/\ag+al<=J+O)) ?_ ?_ ⟨l2,_,_,_,_,_,_,rfl,I2,ah _⟩) ?_)
   ·intro x3 c as _ bs H;refine ex6 H λl3 o3 U F g3 a0 a1 e I3 a2=>?_;clear H;subst e;dsimp only;have la:=I3.la;have lb:=I3.lb;have mg:=I3.mg;refine zig (zg3 lb) λy y1 y2 y3=>?_;have ub:=mg.ub;rw[y3] at ub;have ub:=aS.mp ub;refine' zht (λ(_:Nat) (_:Unit)=>True) _ (λzw=>?_) ?_;rotate_left
    ·by_cases g0:g3 > 1
     ·rw[if_pos g0];generalize g3 - 1=g4;generalize hu:()=u;exact zw g4 u trivial
     ·rw[if_neg g0];exact zw g3 () trivial
    rintro g4 u -
    all_goals
     refine wpS_bind (dB ?_);have lk:∀g,Like st (SortSt.mk' (kindOf as) (arrOf as) (pendingOf as) g (failedOf as)):=λg=>⟨l3.kind,l3.arr,l3.pend,l3.fail⟩;refine wpS_bind (yi y1 ?_);refine wpS_bind (zhq (n:=a.size - U) (left:=false) (hint:=0) R (hb _ y2) ha (by lia) (by lia) (mg.ua.sublist (cy _ _)) ((lk _).kind.trans hk) λk k1 k2 k3=>?_);dsimp only
     have h4:∀w∈a.toList.drop (U+k),f y<=f w:=λw Z=>by have:=k3 w (by rw[a8 (by simp),dG];exact Z);unfold xq at this;rw[if_neg ar,fM,ce] at this;lia
     have m4:Mg (leF f) (a.toList++b.toList) (o3++a.extract U (U+k)).toList (a.toList.drop (U+k)) (b.toList.drop F):=by
      rw[be,zgd];refine Mg.a (by rw[zhY];exact mg) λx hx w Z=>?_;have h5:=k2 x hx;unfold xq at h5;rw[if_neg ar,ez,bP] at h5;rw[y3] at Z;show f x<=f w;rcases ay.mp Z with rfl | Z
      ·lia
      ·have h9:f y<=f w:=ub.1 w Z;lia
     refine' zht (λ(o4:Array Keyed) (ad:Nat)=>Mg (leF f) (a.toList++b.toList) o4.toList (a.toList.drop ad) (b.toList.drop F)/\(∀w∈a.toList.drop ad,f y<=f w)/\ad+1<a.size/\U<=ad) _ (λzw=>?_) ?_;rotate_left;refine zP (λk0=>?pos) (λk0=>?neg)
     case pos=>
      refine zP (λe4=>?_) (λe4=>?_)
      ·exact wpS_pure ⟨lk _,.inl ⟨_,_,_,_,_,_,_,rfl,zgp m4 e4 hl⟩⟩
      refine zP (λe5=>?_) (λe5=>?_)
      ·exact wpS_pure ⟨lk _,.inl ⟨_,_,_,_,_,_,_,rfl,zdW m4 (.inr (b7 e5))⟩⟩
      have bx:U+k+1≠a.size:=λq=>e4 (by rw[q];exact cr _);have b0:U+k≠a.size:=λq=>e5 (by rw[q];exact cr _);have q1:U+k+1<a.size:=by lia
      have q2:U<=U+k:=by lia
      generalize ho:o3++a.extract U (U+k)=o4;generalize hi:U+k=ad;exact zw o4 ad (by rw[<- ho,<- hi];exact⟨m4,h4,q1,q2⟩)
     case neg=>
      have kz:k=0:=by lia
      rw[kz,gn] at h4;exact zw o3 U ⟨mg,h4,la,ah _⟩
     clear h4 m4 k1 k2 k3;intro o4 ad H;have m4:=H.1;have h4:=H.2.1;have q1:=H.2.2.1;have q2:=H.2.2.2;clear H
     all_goals
      refine wpS_bind (yi y1 ?_)
      have m5:Mg (leF f) (a.toList++b.toList) (o4.push y).toList (a.toList.drop ad) (b.toList.drop (F+1)):=by rw[y3] at m4;rw[bN];exact Mg.b (c:=[y]) m4 λx hx w Z=>by rw[ao.mp hx];exact h4 w Z
      refine zP (λe6=>?_) (λe6=>?_)
      ·exact wpS_pure ⟨lk _,.inl ⟨_,_,_,_,_,_,_,rfl,zdW m5 (.inl (b7 e6))⟩⟩
      have b1:F+1≠b.size:=λq=>e6 (by rw[q];exact cr _);refine zig (zg3 (a:=a) (i:=ad) (by lia)) λz z1 z2 z3=>?_;refine wpS_bind (yi z1 ?_);have ua:=m5.ua;rw[z3] at ua;have ua:=aS.mp ua;refine wpS_bind (zhq (n:=b.size - (F+1)) (left:=true) (hint:=0) R (ha _ z2) hb (by lia) (by lia) (m5.ub.sublist (cy _ _)) ((lk _).kind.trans hk) λj j1 j2 j3=>?_);dsimp only
      have h6:∀w∈b.toList.drop (F+1+j),f z<=f w:=λw Z=>by have:=j3 w (by rw[a8 (by simp),dG];exact Z);unfold xq at this;rw[if_pos rfl,bP] at this;lia
      have m6:Mg (leF f) (a.toList++b.toList) (o4.push y++b.extract (F+1) (F+1+j)).toList (a.toList.drop ad) (b.toList.drop (F+1+j)):=by
       rw[be,zgd];refine Mg.b (by rw[zhY];exact m5) λx hx w Z=>?_;have h5:=j2 x hx;unfold xq at h5;rw[if_pos rfl,ce] at h5;rw[z3] at Z;show f x<=f w;rcases ay.mp Z with rfl | Z
       ·lia
       ·have h9:f z<=f w:=ua.1 w Z;lia
      refine' zht (λ(o5:Array Keyed) (an:Nat)=>Mg (leF f) (a.toList++b.toList) o5.toList (a.toList.drop ad) (b.toList.drop an)/\(∀w∈b.toList.drop an,f z<=f w)/\an<b.size/\F<=an) _ (λzw=>?_) ?_;rotate_left;refine zP (λj0=>?pos) (λj0=>?neg)
      case pos=>
       refine zP (λe7=>?_) (λe7=>?_)
       ·exact wpS_pure ⟨lk _,.inl ⟨_,_,_,_,_,_,_,rfl,zdW m6 (.inl (b7 e7))⟩⟩
       have b2:F+1+j≠b.size:=λq=>e7 (by rw[q];exact cr _);have q3:F+1+j<b.size:=by lia
       have q4:F<=F+1+j:=by lia
       generalize ho:o4.push y++b.extract (F+1) (F+1+j)=o5;generalize hi:F+1+j=an;exact zw o5 an (by rw[<- ho,<- hi];exact⟨m6,h6,q3,q4⟩)
      case neg=>
       have jz:j=0:=by lia
       rw[jz,gn] at h6;exact zw (o4.push y) (F+1) ⟨m5,h6,by lia,by lia⟩
      clear h6 m6 j1 j2 j3;intro o5 an H;have m6:=H.1;have h6:=H.2.1;have q3:=H.2.2.1;have q4:=H.2.2.2;clear H
      all_goals
       refine wpS_bind (yi z1 ?_)
       have m7:Mg (leF f) (a.toList++b.toList) (o5.push z).toList (a.toList.drop (ad+1)) (b.toList.drop an):=by rw[z3] at m6;rw[bN];exact Mg.a (c:=[z]) m6 λx hx w Z=>by rw[ao.mp hx];exact h6 w Z
       refine zP (λe8=>?_) (λe8=>?_)
       ·exact wpS_pure ⟨lk _,.inl ⟨_,_,_,_,_,_,_,rfl,zgp m7 e8 hl⟩⟩
       have b3:ad+1+1≠a.size:=λq=>e8 (by rw[q];exact cr _);split
       ·exact wpS_pure ⟨lk _,.inr ⟨_,_,_,_,_,_,rfl,⟨m7,by lia,q3⟩,by lia⟩⟩
       ·exact wpS_pure ⟨lk _,_,_,_,_,_,_,rfl,⟨m7,by lia,q3⟩,by lia⟩
   ·rintro c as ⟨l3,o3,U,F,g3,a0,a1,rfl,I3,a2⟩;exact⟨l3,.inr ⟨_,_,_,_,_,_,rfl,I3,a2⟩⟩
   ·intro c as H;refine exO6 H (λl3 r o3 U F g3 a0 a1 e ht=>?_) (λl3 o3 U F g3 a0 a1 e I3 a2=>?_)
    all_goals clear H
    all_goals subst e
    ·exact wpS_pure ⟨l3,_,_,_,_,_,rfl,ht⟩
    ·dsimp only;exact wpS_bind (dB (wpS_pure ⟨⟨l3.kind,l3.arr,l3.pend,l3.fail⟩,_,_,_,_,rfl,I3,by lia⟩))
 ·rintro c a3 ⟨l1,out,ia,ib,g,rfl,I,hp⟩;have:=I.la;have:=I.lb;lia
 ·rintro c a3 ⟨l1,r,out,ia,ib,g,rfl,ht⟩;exact wpS_pure (h _ _ l1 ht)
abbrev geF (f:Keyed->Int)(x y:Keyed):Prop:=f y<=f x
def zdC(h:zco (geF f) T l):zco (leF f) T l.reverse:=⟨(fX l).trans h.1,eL.mpr h.2⟩
def zhs{a:Array Keyed}(h1:1<=n)(h:n<=a.size):∃x,a[n - 1]?=some x/\x∈a/\(a.toList.take n).reverse=x::(a.toList.take (n - 1)).reverse:=by obtain⟨i,rfl⟩:∃i,n=i+1:=⟨n - 1,by lia⟩;refine⟨a[i],aR (by lia),dy _,?_⟩;rw[List.take_succ_eq_append_getElem (by rw[aK];exact h),List.reverse_append];rfl
def zbp (a:Array Keyed)(n:Nat):(a.extract 0 n).toList=a.toList.take n:=by simp
def zii (a:Array Keyed)(i n:Nat):(a.extract i n).reverse.toList=((a.toList.take n).drop i).reverse:=by simp[List.drop_take]
def zhZ(l:List Keyed)(h:i<=n):((l.take n).drop i).reverse++(l.take i).reverse=(l.take n).reverse:=by
 rw[<- List.reverse_append];congr 1;have:l.take i=(l.take n).take i:=by rw[List.take_take,dY h]
 rw[this,aM]
structure HiI (f:Keyed->Int)(T:List Keyed)(a b:Array Keyed)(out:Array Keyed)(na nb:Nat):Prop where
 mg:Mg (geF f) T out.toList (a.toList.take na).reverse (b.toList.take nb).reverse
 la:1<=na
 ma:na<=a.size
 lb:2<=nb
 mb:nb<=b.size
def zc0{T:List Keyed}{a b out:Array Keyed}(mg:Mg (geF f) T out.toList (a.toList.take q).reverse (b.toList.take B).reverse)(e:(B==1)=true)(I:1<=b.size)(J:∀x∈a,∀y,b[0]?=some y->f y<=f x):zco (leF f) T (b.extract 0 B++a.extract 0 q++out.reverse).toList:=by
 have e:=b7 e;subst e;refine zig (zhs (a:=b) (n:=1) (ah _) I) λz O Z F=>?_;rw[be,be,zbp,zbp,Array.toList_reverse];rw[F] at mg;have mg:Mg (geF f) T out.toList (a.toList.take q).reverse [z]:=mg;have t:=zdC (mg.lastB λy U=>J y (by have:=bw (cZ.mp U);simpa using this) z O);have Y:b.toList.take 1=[z]:=by rw[<- List.reverse_reverse (b.toList.take 1),F];rfl
 rw[Y];simpa using t
def zdV{T:List Keyed}{a b out:Array Keyed}(mg:Mg (geF f) T out.toList (a.toList.take q).reverse (b.toList.take B).reverse)(e:q=0\/B=0):zco (leF f) T (a.extract 0 q++b.extract 0 B++out.reverse).toList:=by
 rw[be,be,zbp,zbp,Array.toList_reverse];rcases e with rfl | rfl
 ·have t:=zdC (Mg.doneB (by simpa using mg));simpa using t
 ·have t:=zdC (Mg.doneA (by simpa using mg));simpa using t
def zj8 (R:zbi M A s κ L0 f){a b:Array Keyed}(ha:∀x∈a,x∈L0)(hb:∀x∈b,x∈L0)(sa:a.toList.Pairwise (leF f))(sb:b.toList.Pairwise (leF f))(na:1<=a.size)(nb:1<=b.size)
  (hf:∀x∈a,∀y,b[0]?=some y->f y<=f x) (hl:∀x∈b,∀y,a[a.size - 1]?=some y->f x<=f y) {st:SortSt} (hk:kindOf st=κ) {Q:Array Keyed->SortSt->Prop}
  (h:∀out U,Like st U->zco (leF f) (a.toList++b.toList) out.toList->Q out U):wpS M A E s (zk8 a b) Q st:=by
 refine wpS_bind (wpS_lift (ck ⟨rfl,?_⟩));refine zig (zhs na (ah _)) λy y1 y2 y3=>?_;refine wpS_bind (yi y1 ?_)
 have m0:Mg (geF f) (a.toList++b.toList) (#[y]:Array Keyed).toList (a.toList.take (a.size - 1)).reverse (b.toList.take b.size).reverse:=by
  have ea:a.toList.take a.size=a.toList:=a8 (by simp);have eb:b.toList.take b.size=b.toList:=a8 (by simp)
  have h0:Mg (geF f) (a.toList++b.toList) [] ([y]++(a.toList.take (a.size - 1)).reverse) (b.toList.take b.size).reverse:=by
   have e:a.toList.reverse=[y]++(a.toList.take (a.size - 1)).reverse:=by rw[ea] at y3;exact y3
   rw[<- e,eb];exact⟨(fX _).append (fX _),.nil,λ_ hx=>by simp at hx,eL.mpr sa,eL.mpr sb⟩
  exact h0.a λx hx z hz=>by rw[ao.mp hx];exact hl z (by have:=bw (cZ.mp hz);simpa using this) y y1
 dsimp only;refine zP (λe1=>?_) (λe1=>?_)
 ·exact wpS_pure (h _ _ ⟨rfl,rfl,rfl,rfl⟩ (zdV m0 (.inl (b7 e1))))
 refine zP (λe2=>?_) (λe2=>?_)
 ·exact wpS_pure (h _ _ ⟨rfl,rfl,rfl,rfl⟩ (zc0 m0 e2 nb hf))
 have bb:a.size - 1≠0:=λz=>e1 (by rw[z];rfl);have bd:b.size≠1:=λz=>e2 (by rw[z];rfl);refine wpS_bind (wpS_get ?_);refine wpS_bind (wpS_mono (bI (I:=λx c U=>Like st U/\∃ia ib out g,c=(none,ia,ib,out,g)/\HiI f (a.toList++b.toList) a b out ia ib/\x+(ia+ib)+1<=a.size+b.size) (Q:=λc U=>Like st U/\∃r ia ib out g,c=(some r,ia,ib,out,g)/\zco (leF f) (a.toList++b.toList) r.toList) ?_ ?_ ⟨⟨rfl,rfl,rfl,rfl⟩,_,_,_,_,rfl,⟨m0,by lia,by lia,by lia,by lia⟩,by lia⟩) ?_)
 ·intro x c a1 _ hx H;refine ex4 H λl1 ia ib out g e I hp=>?_;clear H;subst e;dsimp only
  refine wpS_bind (wpS_mono (bI (I:=λx c U=>Like st U/\∃F J B ac bc,c=(none,F,J,B,ac,bc)/\HiI f (a.toList++b.toList) a b B F J/\x+(F+J)<=ia+ib)
   (Q:=λc U=>Like st U/\((∃r F J B ac bc,c=(some r,F,J,B,ac,bc)/\zco (leF f) (a.toList++b.toList) r.toList)\/∃F J B ac bc,c=(none,F,J,B,ac,bc)/\HiI f (a.toList++b.toList) a b B F J/\F+J+1<=ia+ib)) ?_ ?_ ⟨l1,_,_,_,_,_,rfl,I,by lia⟩) ?_)
  ·intro x2 c a2 _ bl H;refine ex5 H λl2 ad Z o2 ac bc e I2 a3=>?_;clear H;subst e;dsimp only;have la:=I2.la;have lb:=I2.lb;have ma:=I2.ma;have mb:=I2.mb;refine zig (zhs (a:=b) (n:=Z) (by lia) mb) λy y1 y2 y3=>?_;refine zig (zhs la ma) λz z1 z2 z3=>?_;refine wpS_bind (yi y1 (wpS_bind (yi z1 (wpS_bind (zrQ R (hb _ y2) (ha _ z2) (l2.kind.trans hk) ?_)))));have mg:=I2.mg;by_cases a4:f y<f z
   ·rw[aD a4];dsimp only;refine zps rfl ?_;refine wpS_bind (yi z1 ?_);have ub:=mg.ub;rw[y3] at ub;have ub:=aS.mp ub
    have m2:Mg (geF f) (a.toList++b.toList) (o2.push z).toList (a.toList.take (ad - 1)).reverse (b.toList.take Z).reverse:=by
     rw[z3] at mg;rw[bN];refine Mg.a (c:=[z]) mg λx hx w Y=>?_;rw[ao.mp hx];rw[y3] at Y;show f w<=f z;rcases ay.mp Y with rfl | Y
     ·lia
     ·have h9:f w<=f y:=ub.1 w Y;lia
    refine zP (λe3=>?_) (λe3=>?_)
    ·exact wpS_pure ⟨l2,.inl ⟨_,_,_,_,_,_,rfl,zdV m2 (.inl (b7 e3))⟩⟩
    ·have a5:ad - 1≠0:=λq=>e3 (by rw[q];rfl);split
     ·exact wpS_pure ⟨l2,.inr ⟨_,_,_,_,_,rfl,⟨m2,by lia,by lia,lb,mb⟩,by lia⟩⟩
     ·exact wpS_pure ⟨l2,_,_,_,_,_,rfl,⟨m2,by lia,by lia,lb,mb⟩,by lia⟩
   ·rw[aO a4];dsimp only;refine zpr ar ?_;refine wpS_bind (yi y1 ?_);have ua:=mg.ua;rw[z3] at ua;have ua:=aS.mp ua
    have m2:Mg (geF f) (a.toList++b.toList) (o2.push y).toList (a.toList.take ad).reverse (b.toList.take (Z - 1)).reverse:=by
     rw[y3] at mg;rw[bN];refine Mg.b (c:=[y]) mg λx hx w Y=>?_;rw[ao.mp hx];rw[z3] at Y;show f w<=f y;rcases ay.mp Y with rfl | Y
     ·lia
     ·have h9:f w<=f z:=ua.1 w Y;lia
    refine zP (λe3=>?_) (λe3=>?_)
    ·exact wpS_pure ⟨l2,.inl ⟨_,_,_,_,_,_,rfl,zc0 m2 e3 nb hf⟩⟩
    ·have a5:Z - 1≠1:=λq=>e3 (by rw[q];rfl);split
     ·exact wpS_pure ⟨l2,.inr ⟨_,_,_,_,_,rfl,⟨m2,la,ma,by lia,by lia⟩,by lia⟩⟩
     ·exact wpS_pure ⟨l2,_,_,_,_,_,rfl,⟨m2,la,ma,by lia,by lia⟩,by lia⟩
  ·rintro c a2 ⟨l2,ad,Z,o2,ac,bc,rfl,I2,a3⟩;have la:=I2.la;have lb:=I2.lb;lia
  ·intro c a2 H;refine exO5 H (λl2 r ad Z o2 ac bc e ht=>?_) (λl2 ad Z o2 ac bc e I2 a3=>?_)
   all_goals clear H
   all_goals subst e
   ·exact wpS_pure ⟨l2,_,_,_,_,_,rfl,ht⟩
   dsimp only;refine wpS_bind (wpS_lift (ck ⟨rfl,?_⟩))
   refine wpS_bind (wpS_mono (bI (I:=λx c U=>Like st U/\∃F J B g ac bc,c=(none,F,J,B,g,ac,bc)/\HiI f (a.toList++b.toList) a b B F J/\F+J<=ad+Z)
    (Q:=λc U=>Like st U/\((∃r F J B g ac bc,c=(some r,F,J,B,g,ac,bc)/\zco (leF f) (a.toList++b.toList) r.toList)\/∃F J B g ac bc,c=(none,F,J,B,g,ac,bc)/\HiI f (a.toList++b.toList) a b B F J/\F+J<=ad+Z)) ?_ ?_ ⟨l2,_,_,_,_,_,_,rfl,I2,ah _⟩) ?_)
   ·intro x3 c al _ bo H;refine ex6 H λl3 ag O o3 g3 an as e I3 a0=>?_;clear H;subst e;dsimp only;have la:=I3.la;have lb:=I3.lb;have ma:=I3.ma;have mb:=I3.mb;have mg:=I3.mg;refine zig (zhs (a:=b) (n:=O) (by lia) mb) λy y1 y2 y3=>?_;have ub:=mg.ub;rw[y3] at ub;have ub:=aS.mp ub;refine' zht (λ(_:Nat) (_:Unit)=>True) _ (λzw=>?_) ?_;rotate_left
    ·by_cases g0:g3 > 1
     ·rw[if_pos g0];generalize g3 - 1=g4;generalize hu:()=u;exact zw g4 u trivial
     ·rw[if_neg g0];exact zw g3 () trivial
    rintro g4 u -
    all_goals
     refine wpS_bind (dB ?_);have lk:∀g,Like st (SortSt.mk' (kindOf al) (arrOf al) (pendingOf al) g (failedOf al)):=λg=>⟨l3.kind,l3.arr,l3.pend,l3.fail⟩;refine wpS_bind (yi y1 ?_);refine wpS_bind (zhq (left:=false) (base:=0) (n:=ag) (hint:=ag - 1) R (hb _ y2) ha (by lia) (by lia) (sa.sublist ((cy _ _).trans (eA _ _))) ((lk _).kind.trans hk) λk k1 k2 k3=>?_);dsimp only;rw[dE] at k2 k3
     have h4:∀w∈(a.toList.take k).reverse,f w<=f y:=λw Y=>by have h5:=k2 w (cZ.mp Y);unfold xq at h5;rw[if_neg ar,ez,bP] at h5;lia
     have m4:Mg (geF f) (a.toList++b.toList) (o3++(a.extract k ag).reverse).toList (a.toList.take k).reverse (b.toList.take O).reverse:=by
      rw[be,zii];refine Mg.a (by rw[zhZ _ k1];exact mg) λx hx w Y=>?_;have h5:=k3 x (cZ.mp hx);unfold xq at h5;rw[if_neg ar,fM,ce] at h5;rw[y3] at Y;show f w<=f x;rcases ay.mp Y with rfl | Y
      ·lia
      ·have h9:f w<=f y:=ub.1 w Y;lia
     have q2:k<=a.size:=by lia
     have q5:k+O<=ad+Z:=by lia
     refine' zht (λ(o4:Array Keyed) (k:Nat)=>Mg (geF f) (a.toList++b.toList) o4.toList (a.toList.take k).reverse (b.toList.take O).reverse/\(∀w∈(a.toList.take k).reverse,f w<=f y)/\1<=k/\k<=a.size/\k+O<=ad+Z) _ (λzw=>?_) ?_;rotate_left;refine zP (λk0=>?pos) (λk0=>?neg)
     case pos=>
      refine zP (λe4=>?_) (λe4=>?_)
      ·exact wpS_pure ⟨lk _,.inl ⟨_,_,_,_,_,_,_,rfl,zdV m4 (.inl (b7 e4))⟩⟩
      have bs:k≠0:=λq=>e4 (by rw[q];rfl);have q1:1<=k:=by lia
      generalize ho:o3++(a.extract k ag).reverse=o4;generalize hi:k=k4;exact zw o4 k4 (by rw[<- ho,<- hi];exact⟨m4,h4,q1,q2,q5⟩)
     case neg=>
      have a7:k=ag:=by lia
      rw[a7] at h4 q5 ⊢;exact zw o3 ag ⟨mg,h4,la,ma,q5⟩
     clear h4 m4 q2 q5 k1 k2 k3;clear k;intro o4 k H;have m4:=H.1;have h4:=H.2.1;have q1:=H.2.2.1;have q2:=H.2.2.2.1;have q5:=H.2.2.2.2;clear H
     all_goals
      refine wpS_bind (yi y1 ?_)
      have m5:Mg (geF f) (a.toList++b.toList) (o4.push y).toList (a.toList.take k).reverse (b.toList.take (O - 1)).reverse:=by rw[y3] at m4;rw[bN];exact Mg.b (c:=[y]) m4 λx hx w Y=>by rw[ao.mp hx];exact h4 w Y
      refine zP (λe6=>?_) (λe6=>?_)
      ·exact wpS_pure ⟨lk _,.inl ⟨_,_,_,_,_,_,_,rfl,zc0 m5 e6 nb hf⟩⟩
      have bx:O - 1≠1:=λq=>e6 (by rw[q];rfl);refine zig (zhs q1 q2) λz z1 z2 z3=>?_;refine wpS_bind (yi z1 ?_);have ua:=m5.ua;rw[z3] at ua;have ua:=aS.mp ua;refine wpS_bind (zhq (left:=true) (base:=0) (n:=O - 1) (hint:=O - 1 - 1) R (ha _ z2) hb (by lia) (by lia) (sb.sublist ((cy _ _).trans (eA _ _))) ((lk _).kind.trans hk) λj j1 j2 j3=>?_);dsimp only;rw[dE] at j2 j3
      have h6:∀w∈(b.toList.take j).reverse,f w<=f z:=λw Y=>by have h5:=j2 w (cZ.mp Y);unfold xq at h5;rw[if_pos rfl,ce] at h5;lia
      have m6:Mg (geF f) (a.toList++b.toList) (o4.push y++(b.extract j (O - 1)).reverse).toList (a.toList.take k).reverse (b.toList.take j).reverse:=by
       rw[be,zii];refine Mg.b (by rw[zhZ _ j1];exact m5) λx hx w Y=>?_;have h5:=j3 x (cZ.mp hx);unfold xq at h5;rw[if_pos rfl,bP] at h5;rw[z3] at Y;show f w<=f x;rcases ay.mp Y with rfl | Y
       ·lia
       ·have h9:f w<=f z:=ua.1 w Y;lia
      refine' zht (λ(o5:Array Keyed) (j:Nat)=>Mg (geF f) (a.toList++b.toList) o5.toList (a.toList.take k).reverse (b.toList.take j).reverse/\(∀w∈(b.toList.take j).reverse,f w<=f z)/\2<=j/\j<=O - 1) _ (λzw=>?_) ?_;rotate_left;refine zP (λj0=>?pos) (λj0=>?neg)
      case pos=>
       refine zP (λe7=>?_) (λe7=>?_)
       ·exact wpS_pure ⟨lk _,.inl ⟨_,_,_,_,_,_,_,rfl,zc0 m6 e7 nb hf⟩⟩
       refine zP (λe8=>?_) (λe8=>?_)
       ·exact wpS_pure ⟨lk _,.inl ⟨_,_,_,_,_,_,_,rfl,zdV m6 (.inr (b7 e8))⟩⟩
       have b0:j≠1:=λq=>e7 (by rw[q];rfl);have b1:j≠0:=λq=>e8 (by rw[q];rfl);have q3:2<=j:=by lia
       generalize ho:o4.push y++(b.extract j (O - 1)).reverse=o5;generalize hi:j=j4;exact zw o5 j4 (by rw[<- ho,<- hi];exact⟨m6,h6,q3,j1⟩)
      case neg=>
       have hj:j=O - 1:=by lia
       rw[hj] at h6 ⊢;exact zw (o4.push y) (O - 1) ⟨m5,h6,by lia,ah _⟩
      clear h6 m6 j1 j2 j3;clear j;intro o5 j H;have m6:=H.1;have h6:=H.2.1;have q3:=H.2.2.1;have j1:=H.2.2.2;clear H
      all_goals
       refine wpS_bind (yi z1 ?_)
       have m7:Mg (geF f) (a.toList++b.toList) (o5.push z).toList (a.toList.take (k - 1)).reverse (b.toList.take j).reverse:=by rw[z3] at m6;rw[bN];exact Mg.a (c:=[z]) m6 λx hx w Y=>by rw[ao.mp hx];exact h6 w Y
       refine zP (λe9=>?_) (λe9=>?_)
       ·exact wpS_pure ⟨lk _,.inl ⟨_,_,_,_,_,_,_,rfl,zdV m7 (.inl (b7 e9))⟩⟩
       have b2:k - 1≠0:=λq=>e9 (by rw[q];rfl);split
       ·exact wpS_pure ⟨lk _,.inr ⟨_,_,_,_,_,_,rfl,⟨m7,by lia,by lia,q3,by lia⟩,by lia⟩⟩
       ·exact wpS_pure ⟨lk _,_,_,_,_,_,_,rfl,⟨m7,by lia,by lia,q3,by lia⟩,by lia⟩
   ·rintro c al ⟨l3,ag,O,o3,g3,an,as,rfl,I3,a0⟩;exact⟨l3,.inr ⟨_,_,_,_,_,_,rfl,I3,a0⟩⟩
   ·intro c al H;refine exO6 H (λl3 r ag O o3 g3 an as e ht=>?_) (λl3 ag O o3 g3 an as e I3 a0=>?_)
    all_goals clear H
    all_goals subst e
    ·exact wpS_pure ⟨l3,_,_,_,_,_,rfl,ht⟩
    ·dsimp only;exact wpS_bind (dB (wpS_pure ⟨⟨l3.kind,l3.arr,l3.pend,l3.fail⟩,_,_,_,_,rfl,I3,by lia⟩))
 ·rintro c a1 ⟨l1,ia,ib,out,g,rfl,I,hp⟩;have:=I.la;have:=I.lb;lia
 ·rintro c a1 ⟨l1,r,ia,ib,out,g,rfl,ht⟩;exact wpS_pure (h _ _ l1 ht)
end
def kA (f:Keyed->Int)(a:Array Keyed)(i:Nat):Int:=match a[i]? with | some x=>f x | none=>0
def Seg (f:Keyed->Int)(a:Array Keyed)(lo hi:Nat):Prop:=∀i j,lo<=i->i<=j->j<hi->kA f a i<=kA f a j
def Gse (f:Keyed->Int)(a:Array Keyed)(lo hi:Nat):Prop:=∀i j,lo<=i->i<=j->j<hi->kA f a j<=kA f a i
structure Lk (lo:Nat)(st st':SortSt):Prop where
 kind:kindOf st'=kindOf st
 pend:pendingOf st'=pendingOf st
 fail:failedOf st'=failedOf st
 perm:(arrOf st').Perm (arrOf st)
 low:∀k,k<lo->(arrOf st')[k]?=(arrOf st)[k]?
section
variable {M:Model}{A:Around}{E:Value->Shared->Prop}{s:Shared}{κ:SortKind}{L0:List Keyed}{f:Keyed->Int}
def zaj(h:a[i]?=b[j]?):kA f a i=kA f b j:=by unfold kA;rw[h]
def Lk.refl (lo:Nat)(st:SortSt):Lk lo st st:=⟨rfl,rfl,rfl,.refl _,λ_ _=>rfl⟩
def Lk.trans {lo:Nat}{st B q:SortSt}(h:Lk lo st B)(k:Lk lo B q):Lk lo st q:=⟨k.kind.trans h.kind,k.pend.trans h.pend,k.fail.trans h.fail,k.perm.trans h.perm,λi hi=>(k.low i hi).trans (h.low i hi)⟩
def Lk.size {lo:Nat}{st q:SortSt}(h:Lk lo st q):(arrOf q).size=(arrOf st).size:=h.perm.size_eq
def Lk.mem {lo:Nat}{st q:SortSt}(h:Lk lo st q)(k:∀x∈arrOf st,x∈L0):∀x∈arrOf q,x∈L0:=λx B=>k x (h.perm.mem_iff.mp B)
def zeI (R:zbi M A s κ L0 f){st:SortSt}{i j:Nat}(I:kindOf st=κ)(q:∀x∈arrOf st,x∈L0)(hi:i<(arrOf st).size)(J:j<(arrOf st).size){Q:Option Bool->SortSt->Prop}(h:Q (some (decide (kA f (arrOf st) i<kA f (arrOf st) j))) st):wpS M A E s (ltAt' i j) Q st:=by rw[ltAt'_eq];refine wpS_bind (wpS_get ?_);have B:(arrOf st)[i]?=some (arrOf st)[i]:=aR hi;have F:(arrOf st)[j]?=some (arrOf st)[j]:=aR J;refine wpS_bind (yi B (wpS_bind (yi F (zrQ R (q _ (dy _)) (q _ (dy _)) I ?_))));unfold kA at h;rw[B,F] at h;exact h
def zlT{st:SortSt}{Q:Unit->SortSt->Prop}(h:Q () (setArr st (mirror (arrOf st) i j ((j - i) / 2)))):wpS M A E s (reverseSlice' i j) Q st:=by rw[reverseSlice'_eq];exact dB h
def Lk.rev {lo:Nat}(st:SortSt){i j:Nat}(h1:lo<=i)(h2:j<=(arrOf st).size):Lk lo st (setArr st (mirror (arrOf st) i j ((j - i) / 2))):=⟨rfl,rfl,rfl,mirror_perm _ _ _ _,λk q=>by show (mirror (arrOf st) i j ((j - i) / 2))[k]?=_;rw[getElem?_mirror_all h2,if_neg (by lia)]⟩
def zbJ(h2:j<=a.size)(k:Nat):kA f (mirror a i j ((j - i) / 2)) k=if i<=k/\k<j then kA f a (i+j - 1 - k) else kA f a k:=by
 have e:=getElem?_mirror_all (i:=i) h2 k;by_cases h:i<=k/\k<j
 ·rw[if_pos h] at e ⊢;exact zaj e
 ·rw[if_neg h] at e ⊢;exact zaj e
def uw {a:Array Keyed}{i j:Nat}(h2:j<=a.size)(h:∀k,i<=k->k<j->kA f a k=kA f a (j - 1))(k:Nat):kA f (mirror a i j ((j - i) / 2)) k=kA f a k:=by
 rw[zbJ h2];split
 ·rw[h _ (by lia) (by lia),h k (by lia) (by lia)]
 ·rfl
def Gse.turn {a:Array Keyed}{i j:Nat}(h2:j<=a.size)(h:Gse f a i j):Seg f (mirror a i j ((j - i) / 2)) i j:=λp q B I F=>by rw[zbJ h2,zbJ h2,if_pos ⟨B,by lia⟩,if_pos ⟨by lia,F⟩];exact h _ _ (by lia) (by lia) (by lia)
def zhp (R:zbi M A s κ L0 f){st:SortSt}{lo nrem:Nat}(hk:kindOf st=κ)(ha:∀x∈arrOf st,x∈L0)(h1:1<=nrem)(hz:lo+nrem<=(arrOf st).size){Q:Option Nat->SortSt->Prop}
  (h:∀m st',Lk lo st st'->1<=m->m<=nrem->Seg f (arrOf st') lo (lo+m)->Q (some m) st'):wpS M A E s (countRun' lo nrem) Q st:=by
 rw[countRun'_eq]
 have asc:∀ (n:Nat) (st1:SortSt),Lk lo st st1->1<=n->n<=nrem->Seg f (arrOf st1) lo (lo+n)->∀ {G:Option (Option Nat)×Nat->SortSt->Prop} {body:Nat->Option (Option Nat)×Nat->StateT SortSt Sem (ForInStep (Option (Option Nat)×Nat))},
   (∀m,n<=m->m<=nrem->Seg f (arrOf st1) lo (lo+m)->(m<nrem->kA f (arrOf st1) (lo+m)<kA f (arrOf st1) (lo+m - 1))->G (none,m) st1)->
   (∀x m (G':ForInStep (Option (Option Nat)×Nat)->SortSt->Prop),n<=m->m<nrem->(kA f (arrOf st1) (lo+m)<kA f (arrOf st1) (lo+m - 1)->G' (.done (none,m)) st1)->(¬ kA f (arrOf st1) (lo+m)<kA f (arrOf st1) (lo+m - 1)->G' (.yield (none,m+1)) st1)->wpS M A E s (body x (none,m)) G' st1)->
   wpS M A E s (forIn [n:nrem] (none,n) body) G st1:=by
  intro n st1 l1 hn1 hn2 hs G body hG hb;have hz1:=l1.size;refine bI (I:=λx c st2=>st2=st1/\c=(none,x)/\n<=x/\Seg f (arrOf st1) lo (lo+x)) ?_ ?_ ⟨rfl,rfl,ah _,hs⟩
  ·rintro x c st2 hx1 hx2 ⟨rfl,rfl,_,hs2⟩;refine hb x x _ hx1 hx2 (λe=>hG x hx1 (by lia) hs2 λ_=>e) (λe=>?_)
   ·refine⟨rfl,rfl,by lia,λi j p q r=>?_⟩;by_cases e1:j<lo+x
    ·exact hs2 i j p q e1
    ·obtain rfl:j=lo+x:=by lia
     by_cases e2:i=lo+x
     ·subst e2;exact cW _
     ·have:=hs2 i (lo+x - 1) p (by lia) (by lia);lia
  ·rintro c st2 ⟨rfl,rfl,_,hs2⟩;have e:max n nrem=nrem:=by lia
   rw[e] at hs2 ⊢;exact hG nrem hn2 (ah _) hs2 λz=>by lia
 have step:∀ (st1:SortSt),Lk lo st st1->∀m,1<=m->m<nrem->∀ (G':ForInStep (Option (Option Nat)×Nat)->SortSt->Prop),(kA f (arrOf st1) (lo+m)<kA f (arrOf st1) (lo+m - 1)->G' (.done (none,m)) st1)->(¬ kA f (arrOf st1) (lo+m)<kA f (arrOf st1) (lo+m - 1)->G' (.yield (none,m+1)) st1)->
   ∀ {k:Option Bool->StateT SortSt Sem (ForInStep (Option (Option Nat)×Nat))},k (some true)=pure (.done (none,m))->k (some false)=pure (.yield (none,m+1))->wpS M A E s (ltAt' (lo+m) (lo+m - 1) >>= k) G' st1:=by
  intro st1 l1 m h2 h3 G' g1 g2 k k1 k2;have hz1:=l1.size;refine wpS_bind (zeI R (l1.kind.trans hk) (l1.mem ha) (by lia) (by lia) ?_);by_cases e:kA f (arrOf st1) (lo+m)<kA f (arrOf st1) (lo+m - 1)
  ·rw[aD e,k1];exact wpS_pure (g1 e)
  ·rw[aO e,k2];exact wpS_pure (g2 e)
 refine wpS_bind (asc 1 st (Lk.refl _ _) (ah _) h1 (λi j p q r=>by rw[show i=j by lia];exact cW _) (λm hm1 hm2 hs hd=>?_) (λx m G' q1 q2 g1 g2=>step st (Lk.refl _ _) m (by lia) q2 G' g1 g2 rfl rfl))
 have fall:∀st1,Lk lo st st1->m<nrem->Gse f (arrOf st1) lo (lo+(m+1))->∀ {G:Option (Option Nat)×Nat×Nat->SortSt->Prop} {body:Nat->Option (Option Nat)×Nat×Nat->StateT SortSt Sem (ForInStep (Option (Option Nat)×Nat×Nat))},
   (∀n q st2,Lk lo st st2->m+1<=n->n<=nrem->q+1<=n->Gse f (arrOf st2) lo (lo+n)->(∀k,lo+n - (q+1)<=k->k<lo+n->kA f (arrOf st2) k=kA f (arrOf st2) (lo+n - 1))->G (none,n,q) st2)->
   (∀x n q st2 (G':ForInStep (Option (Option Nat)×Nat×Nat)->SortSt->Prop),Lk lo st st2->m+1<=n->n<nrem->q+1<=n->
    (kA f (arrOf st2) (lo+n)<kA f (arrOf st2) (lo+n - 1)->q > 0->G' (.yield (none,n+1,0)) (setArr st2 (mirror (arrOf st2) (lo+n - (q+1)) (lo+n) ((lo+n - (lo+n - (q+1))) / 2))))->(kA f (arrOf st2) (lo+n)<kA f (arrOf st2) (lo+n - 1)->¬ q > 0->G' (.yield (none,n+1,0)) st2)->
    (kA f (arrOf st2) (lo+n - 1)<kA f (arrOf st2) (lo+n)->G' (.done (none,n,q)) st2)->(kA f (arrOf st2) (lo+n)=kA f (arrOf st2) (lo+n - 1)->G' (.yield (none,n+1,q+1)) st2)->wpS M A E s (body x (none,n,q)) G' st2)->
   wpS M A E s (forIn [m+1:nrem] (none,m+1,0) body) G st1:=by
  intro st1 l1 hmn hg G body hG hb;refine bI (I:=λx c st2=>∃q,c=(none,x,q)/\Lk lo st st2/\m+1<=x/\q+1<=x/\Gse f (arrOf st2) lo (lo+x)/\∀k,lo+x - (q+1)<=k->k<lo+x->kA f (arrOf st2) k=kA f (arrOf st2) (lo+x - 1)) ?_ ?_ ⟨0,rfl,l1,ah _,by lia,hg,λk p q=>by congr 1;lia⟩
  ·rintro x c st2 hx1 hx2 ⟨q,rfl,l2,p1,p2,p3,p4⟩;have hz2:=l2.size
   have more:∀st3:SortSt,(∀k,kA f (arrOf st3) k=kA f (arrOf st2) k)->kA f (arrOf st2) (lo+x)<=kA f (arrOf st2) (lo+x - 1)->Gse f (arrOf st3) lo (lo+(x+1)):=λst3 e3 hle i j a1 a2 a3=>by
    rw[e3,e3];by_cases e1:j<lo+x
    ·exact p3 i j a1 a2 e1
    ·obtain rfl:j=lo+x:=by lia
     by_cases e2:i=lo+x
     ·subst e2;exact cW _
     ·have:=p3 i (lo+x - 1) a1 (by lia) (by lia);lia
   refine hb x x q st2 _ l2 p1 hx2 p2 (λe hq=>?_) (λe hq=>?_) (λe=>?_) (λe=>?_)
   ·have e3:∀k,kA f (mirror (arrOf st2) (lo+x - (q+1)) (lo+x) ((lo+x - (lo+x - (q+1))) / 2)) k=kA f (arrOf st2) k:=uw (by lia) p4;exact⟨0,rfl,l2.trans (Lk.rev st2 (by lia) (by lia)),by lia,by lia,more _ e3 (by lia),λk a1 a2=>by congr 1;lia⟩
   ·exact⟨0,rfl,l2,by lia,by lia,more _ (λ_=>rfl) (by lia),λk a1 a2=>by congr 1;lia⟩
   ·exact hG x q st2 l2 p1 (by lia) p2 p3 p4
   ·refine⟨q+1,rfl,l2,by lia,by lia,more _ (λ_=>rfl) (by lia),λk a1 a2=>?_⟩;rw[show lo+(x+1) - 1=lo+x by lia];by_cases e1:k=lo+x
    ·rw[e1]
    ·rw[p4 k (by lia) (by lia),e]
  ·rintro c st2 ⟨q,rfl,l2,p1,p2,p3,p4⟩;have e:max (m+1) nrem=nrem:=by lia
   rw[e] at p1 p2 p3 p4 ⊢;exact hG nrem q st2 l2 p1 (ah _) p2 p3 p4
 dsimp only;by_cases e1:(m==nrem)=true
 ·rw[if_pos e1];exact wpS_pure (h m st (Lk.refl _ _) hm1 hm2 hs)
 rw[if_neg e1]
 have e1':m<nrem:=by have:m≠nrem:=λz=>e1 (by rw[z];exact cr _);lia
 have hd:=hd e1';by_cases e2:m > 1
 case' pos=>
  rw[if_pos e2];refine wpS_bind (zeI R hk ha (by lia) (by lia) ?_);by_cases e3:kA f (arrOf st) lo<kA f (arrOf st) (lo+m - 1)
  ·rw[aD e3];exact wpS_pure (h m st (Lk.refl _ _) hm1 hm2 hs)
  rw[aO e3];dsimp only;rw[if_neg ar];refine wpS_bind (zlT ?_);have l1:=Lk.rev (lo:=lo) st (i:=lo) (j:=lo+m) (ah _) (by lia)
  have eq0:∀k,lo<=k->k<lo+m->kA f (arrOf st) k=kA f (arrOf st) (lo+m - 1):=λk a1 a2=>by have h3:=hs lo k (ah _) a1 a2;have h4:=hs k (lo+m - 1) a1 (by lia) (by lia);lia
  have eq1:=uw (i:=lo) (by lia) eq0
  have g1:Gse f (mirror (arrOf st) lo (lo+m) ((lo+m - lo) / 2)) lo (lo+(m+1)):=λi j a1 a2 a3=>by
   rw[eq1,eq1];by_cases ej:j<lo+m
   ·rw[eq0 j (by lia) ej,eq0 i a1 (by lia)];exact cW _
   ·obtain rfl:j=lo+m:=by lia
    by_cases ei:i=lo+m
    ·rw[ei];exact cW _
    ·rw[eq0 i a1 (by lia)];lia
  have g1:Gse f (arrOf (setArr st (mirror (arrOf st) lo (lo+m) ((lo+m - lo) / 2)))) lo (lo+(m+1)):=g1;generalize setArr st (mirror (arrOf st) lo (lo+m) ((lo+m - lo) / 2))=st1 at l1 g1 ⊢
 case' neg=>
  rw[if_neg e2]
  obtain⟨st1,l1,g1,hst⟩:∃st1,Lk lo st st1/\Gse f (arrOf st1) lo (lo+(m+1))/\st1=st:=⟨st,Lk.refl _ _,λi j a1 a2 a3=>by
   by_cases e:i=j
   ·rw[e];exact cW _
   ·rw[show i=lo+m - 1 by lia,show j=lo+m by lia];lia,rfl⟩
  rw[<- hst]
 all_goals
  refine wpS_bind (wpS_lift (ck ⟨rfl,?_⟩));refine wpS_bind (fall st1 l1 e1' g1 (λn q st2 l2 n1 n2 q1 g2 g3=>?_) (λx n q st2 G' l2 n1 n2 q1 b1 b2 b3 b4=>?_))
  ·dsimp only;have hz2:=l2.size;by_cases e4:q > 0
   case' pos=>
    rw[if_pos e4];refine wpS_bind (zlT ?_);have l3:=l2.trans (Lk.rev (lo:=lo) st2 (i:=lo+n - (q+1)) (j:=lo+n) (by lia) (by lia));have eq3:=uw (i:=lo+n - (q+1)) (by lia) g3
    have g4:Gse f (arrOf (setArr st2 (mirror (arrOf st2) (lo+n - (q+1)) (lo+n) ((lo+n - (lo+n - (q+1))) / 2)))) lo (lo+n):=λi j a1 a2 a3=>by have:=g2 i j a1 a2 a3;rw[<- eq3 i,<- eq3 j] at this;exact this
    generalize setArr st2 (mirror (arrOf st2) (lo+n - (q+1)) (lo+n) ((lo+n - (lo+n - (q+1))) / 2))=st3 at l3 g4 ⊢
   case' neg=>
    rw[if_neg e4];obtain⟨st3,l3,g4,hst3⟩:∃st3,Lk lo st st3/\Gse f (arrOf st3) lo (lo+n)/\st3=st2:=⟨st2,l2,g2,rfl⟩;rw[<- hst3]
   all_goals
    refine wpS_bind (zlT ?_);have hz3:=l3.size;have l4:=l3.trans (Lk.rev (lo:=lo) st3 (i:=lo) (j:=lo+n) (ah lo) (by lia));have g5:=Gse.turn (by lia) g4;refine wpS_bind (asc n _ l4 (by lia) n2 g5 (λm' a1 a2 a3 a4=>?_) (λx m' G' q1 q2 c1 c2=>step _ l4 m' (by lia) q2 G' c1 c2 rfl rfl));exact wpS_pure (h m' _ l4 (by lia) a2 a3)
  ·dsimp only;have hz2:=l2.size;refine wpS_bind (zeI R (l2.kind.trans hk) (l2.mem ha) (by lia) (by lia) ?_);by_cases e5:kA f (arrOf st2) (lo+n)<kA f (arrOf st2) (lo+n - 1)
   ·rw[aD e5];dsimp only;rw[if_pos rfl];by_cases e6:q > 0
    ·rw[if_pos e6];exact wpS_bind (zlT (wpS_pure (b1 e5 e6)))
    ·rw[if_neg e6];exact wpS_pure (b2 e5 e6)
   ·rw[aO e5];dsimp only;rw[if_neg ar];refine wpS_bind (zeI R (l2.kind.trans hk) (l2.mem ha) (by lia) (by lia) ?_);by_cases e6:kA f (arrOf st2) (lo+n - 1)<kA f (arrOf st2) (lo+n)
    ·rw[aD e6];exact wpS_pure (b3 e6)
    ·rw[aO e6];exact wpS_pure (b4 (by lia))
def zrR{st:SortSt}{Q:Unit->SortSt->Prop}(h:Q () (setArr st (bubble (arrOf st) i (i - j)))):wpS M A E s (moveDown' i j) Q st:=by rw[moveDown'_eq];exact dB h
def Lk.move {lo:Nat}(st:SortSt){i j:Nat}(h1:lo<=j)(h2:i<(arrOf st).size)(q:j<=i):Lk lo st (setArr st (bubble (arrOf st) i (i - j))):=⟨rfl,rfl,rfl,bubble_perm _ _ _,λk B=>by show (bubble (arrOf st) i (i - j))[k]?=_;rw[getElem?_bubble h2 _ (by lia),if_neg (by lia),if_neg (by lia)]⟩
def zec(h2:i<a.size)(F:j<=i)(k:Nat):kA f (bubble a i (i - j)) k=if k=j then kA f a i else if j<k/\k<=i then kA f a (k - 1) else kA f a k:=by
 have e:=getElem?_bubble h2 (i - j) (by lia) k;rw[show i - (i - j)=j by lia] at e;by_cases q:k=j
 ·rw[if_pos q] at e ⊢;exact zaj e
 ·rw[if_neg q] at e ⊢;by_cases B:j<k/\k<=i
  ·rw[if_pos B] at e ⊢;exact zaj e
  ·rw[if_neg B] at e ⊢;exact zaj e
def zeH (R:zbi M A s κ L0 f){st:SortSt}{lo n U:Nat}(hk:kindOf st=κ)(ha:∀x∈arrOf st,x∈L0)(h1:U<=n)(hn:1<=n)(hz:lo+n<=(arrOf st).size)(hs:Seg f (arrOf st) lo (lo+U)){Q:Bool->SortSt->Prop}
  (h:∀q,Lk lo st q->Seg f (arrOf q) lo (lo+n)->Q true q):wpS M A E s (binarySort' lo n U) Q st:=by
 rw[binarySort'_eq];refine wpS_bind (wpS_mono (bI (I:=λx c q=>c=(none,())/\Lk lo st q/\Seg f (arrOf q) lo (lo+x)) (Q:=λc q=>c=(none,())/\Lk lo st q/\Seg f (arrOf q) lo (lo+n)) ?_ ?_ ⟨rfl,Lk.refl _ _,?_⟩) ?_)
 ·rintro k c B ad ag ⟨rfl,O,J⟩;have al:=O.size;dsimp only
  refine wpS_bind (wpS_mono (bI (I:=λx c q=>q=B/\∃l r,c=(none,l,r)/\l<=r/\r<=k/\(∀i,i<l->kA f (arrOf B) (lo+i)<=kA f (arrOf B) (lo+k))/\(∀i,r<=i->i<k->kA f (arrOf B) (lo+k)<kA f (arrOf B) (lo+i))/\r - l+x<=k)
   (Q:=λc q=>q=B/\∃l,c=(none,l,l)/\l<=k/\(∀i,i<l->kA f (arrOf B) (lo+i)<=kA f (arrOf B) (lo+k))/\(∀i,l<=i->i<k->kA f (arrOf B) (lo+k)<kA f (arrOf B) (lo+i))) ?_ ?_ ⟨rfl,0,k,rfl,by lia,by lia,λi hi=>by lia,λi a1 a2=>by lia,by lia⟩) ?_)
  ·rintro x c F _ hx ⟨rfl,l,r,rfl,p1,p2,p3,p4,p5⟩;dsimp only;by_cases e:l ≥ r
   ·rw[if_pos e];obtain rfl:l=r:=by lia
    exact wpS_pure ⟨rfl,l,rfl,p2,p3,p4⟩
   ·rw[if_neg e];refine wpS_bind (zeI R (O.kind.trans hk) (O.mem ha) (by lia) (by lia) ?_);by_cases e2:kA f (arrOf F) (lo+k)<kA f (arrOf F) (lo+(l+r) / 2)
    ·rw[aD e2];refine wpS_pure ⟨rfl,l,(l+r) / 2,rfl,by lia,by lia,p3,λi a1 a2=>?_,by lia⟩;have:=J (lo+(l+r) / 2) (lo+i) (by lia) (by lia) (by lia);lia
    ·rw[aO e2];refine wpS_pure ⟨rfl,(l+r) / 2+1,r,rfl,by lia,p2,λi a1=>?_,p4,by lia⟩;have:=J (lo+i) (lo+(l+r) / 2) (by lia) (by lia) (by lia);lia
  ·rintro c F ⟨rfl,l,r,rfl,p1,p2,p3,p4,p5⟩;obtain rfl:l=r:=by lia
   exact⟨rfl,l,rfl,p2,p3,p4⟩
  ·rintro c F ⟨rfl,l,rfl,p2,p3,p4⟩;dsimp only;refine wpS_bind (zrR (wpS_pure ⟨rfl,O.trans (Lk.move F (by lia) (by lia) (by lia)),λi j a1 a2 a3=>?_⟩));show kA f (bubble (arrOf F) (lo+k) (lo+k - (lo+l))) i<=kA f (bubble (arrOf F) (lo+k) (lo+k - (lo+l))) j;rw[zec (by lia) (by lia),zec (by lia) (by lia)];have up:=λx y b1 b2 b3=>J x y b1 b2 b3;by_cases ei:i=lo+l
   ·rw[if_pos ei];by_cases Y:j=lo+l
    ·rw[if_pos Y];exact cW _
    ·rw[if_neg Y,if_pos ⟨by lia,by lia⟩];have:=p4 (j - 1 - lo) (by lia) (by lia);rw[show lo+(j - 1 - lo)=j - 1 by lia] at this;lia
   ·rw[if_neg ei];by_cases Z:lo+l<i/\i<=lo+k
    ·rw[if_pos Z,if_neg (by lia),if_pos ⟨by lia,by lia⟩];exact J _ _ (by lia) (by lia) (by lia)
    ·rw[if_neg Z];by_cases Y:j=lo+l
     ·rw[if_pos Y];have:=p3 (i - lo) (by lia);rw[show lo+(i - lo)=i by lia] at this;exact this
     ·rw[if_neg Y];by_cases ac:lo+l<j/\j<=lo+k
      ·rw[if_pos ac];exact J _ _ (by lia) (by lia) (by lia)
      ·rw[if_neg ac];exact J _ _ (by lia) (by lia) (by lia)
 ·rintro c B ⟨rfl,O,J⟩;have e:max (max U 1) n=n:=by lia
  rw[e] at J;exact⟨rfl,O,J⟩
 ·by_cases e:1<=U
  ·rw[show max U 1=U by lia];exact hs
  ·intro i j a1 a2 a3;rw[show i=j by lia];exact cW _
 ·rintro c B ⟨rfl,O,J⟩;exact wpS_pure (h B O J)
end
def zkg (base:Nat):∀ (l:List Keyed) (n:Nat) (a:Array Keyed),base+n+l.length<=a.size->((l.zipIdx n).foldl (λa (p:Keyed×Nat)=>a.setIfInBounds (base+p.2) p.1) a).toList=a.toList.take (base+n)++(l++a.toList.drop (base+n+l.length))
 | [],n,a,_=>by simp
 | p::l,n,a,h=>by
  rw[aT] at h;rw[List.zipIdx_cons,List.foldl_cons,zkg base l (n+1) _ (by rw[Array.size_setIfInBounds];lia),Array.toList_setIfInBounds,List.set_eq_take_append_cons_drop,if_pos (by rw[aK];lia)];have e:a.toList.take (base+n)++p::a.toList.drop (base+n+1)=(a.toList.take (base+n)++[p])++a.toList.drop (base+n+1):=by simp
  have q:(a.toList.take (base+n)++[p]).length=base+n+1:=by simp;lia
  show List.take (base+(n+1)) (a.toList.take (base+n)++p::a.toList.drop (base+n+1))++(l++List.drop (base+(n+1)+l.length) (a.toList.take (base+n)++p::a.toList.drop (base+n+1)))=_;rw[e,fD (by rw[q];lia),<- dG,List.drop_left' (by rw[q];lia),dG,aT];rw[ax,show base+n+1+l.length=base+n+(l.length+1) by lia];rfl
def zkw{P A S:List Keyed}(h:P.length=n):(P++(A++S)).drop n=A++S:=List.drop_left' h
def zfQ{P A S:List Keyed}(h:P.length=n)(k:A.length=m):((P++(A++S)).drop n).take m=A:=by rw[zkw h,fD k]
section
variable {M:Model}{A:Around}{E:Value->Shared->Prop}{s:Shared}{κ:SortKind}{L0:List Keyed}{f:Keyed->Int}
def zih {a:Array Keyed}{P X S:List Keyed}{i j:Nat}(e:a.toList=P++(X++S))(h:P.length=i)(k:X.length+i=j):(a.extract i j).toList=X:=by
 have:(a.extract i j).toList=(a.toList.drop i).take (j - i):=by simp
 rw[this,e,zfQ h (by lia)]
def zma{a:Array Keyed}{P S:List Keyed}(e:a.toList=P++x::S)(h:P.length=i):a[i]?=some x:=by rw[<- bU,e,<- h,bf (ah _)];simp
def zl4 {st st':SortSt}{Q:PUnit->SortSt->Prop}(h:Q ⟨⟩ st'):wpS M A E s (set st':StateT SortSt Sem PUnit) Q st:=by unfold wpS;rw[StateT.run_set];exact ae ⟨rfl,h⟩
def zj7 (R:zbi M A s κ L0 f){st:SortSt}{i:Nat}{Z pv:List (Nat×Nat×Nat)}{P U V S:List Keyed}{p1 p2:Nat}(hk:kindOf st=κ)(ag:failedOf st=none)(ha:∀x∈arrOf st,x∈L0)
  (B:(arrOf st).toList=P++(U++(V++S))) (al:pendingOf st=(Z++(P.length,U.length,p1)::(P.length+U.length,V.length,p2)::pv).toArray) (hi:i=Z.length) (nu:U≠[]) (nv:V≠[]) (su:U.Pairwise (leF f)) (sv:V.Pairwise (leF f)) {Q:Bool->SortSt->Prop}
  (h:∀ (I:SortSt) (C:List Keyed),kindOf I=κ->failedOf I=none->(arrOf I).toList=P++(C++S)->C.Perm (U++V)->C.Pairwise (leF f)->pendingOf I=(Z++(P.length,U.length+V.length,p1)::pv).toArray->Q true I):wpS M A E s (mergeAt' i) Q st:=by
 subst hi;refine wpS_bind (wpS_get ?_);have g1:(pendingOf st)[Z.length]?=some (P.length,U.length,p1):=by rw[al];simp
 have g2:(pendingOf st)[Z.length+1]?=some (P.length+U.length,V.length,p2):=by rw[al];simp
 have g3:((pendingOf st).setIfInBounds Z.length (P.length,U.length+V.length,p1)).eraseIdxIfInBounds (Z.length+1)=(Z++(P.length,U.length+V.length,p1)::pv).toArray:=by rw[al];simp[List.eraseIdx_append_of_length_le]
 rw[g1,g2];dsimp only;refine wpS_bind (zl4 ?_);rw[g3]
 obtain⟨y,V',rfl⟩:∃y V',V=y::V':=by
  cases V with
  | nil=>exact absurd rfl nv
  | cons y V'=>exact⟨y,V',rfl⟩
 obtain⟨U',z,rfl⟩:∃U' z,U=U'++[z]:=⟨U.dropLast,U.getLast nu,(bv nu).symm⟩;have hy:(arrOf st)[P.length+(U'++[z]).length]?=some y:=zma (P:=P++(U'++[z])) (S:=V'++S) (by rw[B];simp) (by simp);have hz:(arrOf st)[P.length+(U'++[z]).length - 1]?=some z:=zma (P:=P++U') (S:=y::V'++S) (by rw[B];simp) (by simp);have hsz:(arrOf st).size=P.length+((U'++[z]).length+((y::V').length+S.length)):=by rw[<- aK,B];simp only[aq]
 have as:∀x∈U'++[z],x∈L0:=λx F=>ha x (by rw[<- b6,B];simp only[av] at F ⊢;rcases F with F | F <;> simp[F]);have inV:∀x∈y::V',x∈L0:=λx F=>ha x (by rw[<- b6,B];exact aW _ (aW _ (bZ _ F)));have cu:((arrOf st).toList.drop P.length).take (U'++[z]).length=U'++[z]:=by rw[B];exact zfQ rfl rfl
 have cv:((arrOf st).toList.drop (P.length+(U'++[z]).length)).take (y::V').length=y::V':=by rw[B,<- ax];exact zfQ (by simp) rfl
 have hV:∀w∈y::V',f y<=f w:=λw J=>by
  rcases ay.mp J with rfl | J
  ·exact cW _
  ·exact (aS.mp sv).1 w J
 have hU:∀w∈U'++[z],f w<=f z:=λw J=>by
  rcases av.mp J with J | J
  ·exact (bh.mp su).2.2 w J z (by simp)
  ·rw[ao.mp J];exact cW _
 generalize ac:U'++[z]=U at *;generalize an:y::V'=V at *;have yV:y∈V:=by rw[<- an];exact ak
 have zU:z∈U:=by rw[<- ac];simp
 have bx:1<=U.length:=by rw[<- ac];simp
 have b0:1<=V.length:=by rw[<- an];simp
 have ad:kindOf (SortSt.mk' (kindOf st) (arrOf st) (Z++(P.length,U.length+V.length,p1)::pv).toArray (gallopOf st) (failedOf st))=κ:=hk;refine wpS_bind (yi hy ?_);refine wpS_bind (zhq (left:=false) (base:=P.length) (n:=U.length) (hint:=0) R (inV _ yV) ha (by lia) (by lia) (by rw[cu];exact su) ad λk k1 k2 k3=>?_);dsimp only
 have a0:∀x∈U.take k,f x<=f y:=λx F=>by have O:=k2 x (by rw[<- cu,List.take_take,dY k1] at F;exact F);unfold xq at O;rw[if_neg ar,ez,bP] at O;lia
 have bc:∀x∈U.drop k,f y<f x:=λx F=>by have O:=k3 x (by rw[cu];exact F);unfold xq at O;rw[if_neg ar,fM,ce] at O;exact O
 clear k2 k3;by_cases e1:(U.length - k==0)=true
 ·rw[if_pos e1];have e1:=b7 e1;refine wpS_pure (h _ (U++V) hk ag (by rw[ax];exact B) (eF _) (bh.mpr ⟨su,sv,λa F b hb=>?_⟩) rfl);have h6:=a0 a (by rw[a8 (by lia)];exact F);have h7:=hV b hb;show f a<=f b;lia
 rw[if_neg e1];have b1:U.length - k≠0:=λq=>e1 (by rw[q];rfl);rw[show P.length+k+(U.length - k) - 1=P.length+U.length - 1 by lia];refine wpS_bind (yi hz ?_);refine wpS_bind (zhq (left:=true) (base:=P.length+U.length) (n:=V.length) (hint:=V.length - 1) R (as _ zU) ha (by lia) (by lia) (by rw[cv];exact sv) ad λj j1 j2 j3=>?_);dsimp only
 have bd:∀x∈V.take j,f x<f z:=λx F=>by have O:=j2 x (by rw[<- cv,List.take_take,dY j1] at F;exact F);unfold xq at O;rw[if_pos rfl,ce] at O;exact O
 have a1:∀x∈V.drop j,f z<=f x:=λx F=>by have O:=j3 x (by rw[cv];exact F);unfold xq at O;rw[if_pos rfl,bP] at O;lia
 clear j2 j3;by_cases e2:(j==0)=true
 ·rw[if_pos e2];have e2:=b7 e2;subst e2;refine wpS_pure (h _ (U++V) hk ag (by rw[ax];exact B) (eF _) (bh.mpr ⟨su,sv,λa F b hb=>?_⟩) rfl);have h6:=a1 b hb;have h7:=hU a F;show f a<=f b;lia
 rw[if_neg e2];have b2:j≠0:=λq=>e2 (by rw[q];rfl);have ex:((arrOf st).extract (P.length+k) (P.length+U.length)).toList=U.drop k:=zih (P:=P++U.take k) (S:=V++S) (by rw[B,ax,<- ax (U.take k),aM]) (by simp;lia) (by simp;lia);have ey:((arrOf st).extract (P.length+U.length) (P.length+U.length+j)).toList=V.take j:=zih (P:=P++U) (S:=V.drop j++S) (by rw[B,<- ax (V.take j),aM,ax]) (by simp) (by simp;lia);generalize hX:(arrOf st).extract (P.length+k) (P.length+U.length)=X at ex ⊢;generalize hY:(arrOf st).extract (P.length+U.length) (P.length+U.length+j)=Y at ey ⊢;have bl:X.size=U.length - k:=by rw[<- aK,ex];simp
 have b3:Y.size=j:=by rw[<- aK,ey];simp;lia
 have mX:∀x∈X,x∈U.drop k:=λx F=>by rw[<- ex];exact b6.mpr F
 have mY:∀x∈Y,x∈V.take j:=λx F=>by rw[<- ey];exact b6.mpr F
 have a2:∀x∈X,∀w,Y[0]?=some w->f w<=f x:=λx F w J=>by
  have h8:w=y:=by rw[<- bU,ey,bT (by lia),<- an] at J;exact (cj J).symm
  have:=bc x (mX x F);rw[h8];lia
 have a3:∀x∈Y,∀w,X[X.size - 1]?=some w->f x<=f w:=λx F w J=>by
  have h8:w=z:=by
   have ul:U.length=U'.length+1:=by rw[<- ac];simp
   rw[<- bU,ex,fJ,bl,show k+(U.length - k - 1)=U'.length by lia,<- ac] at J;simpa using J.symm
  have:=bd x (mY x F);rw[h8];lia
 have fin:∀ (out:Array Keyed),zco (leF f) (X.toList++Y.toList) out.toList->(U.take k++(out.toList++V.drop j)).Perm (U++V)/\(U.take k++(out.toList++V.drop j)).Pairwise (leF f)/\(out.toList.zipIdx.foldl (λa (p:Keyed×Nat)=>a.setIfInBounds (P.length+k+p.2) p.1) (arrOf st)).toList=P++((U.take k++(out.toList++V.drop j))++S):=λout tl=>by
  rw[ex,ey] at tl;have a4:out.toList.length=U.length - k+j:=by rw[tl.1.length_eq];simp;lia
  refine⟨?_,?_,?_⟩
  ·have h9:(U.take k++(out.toList++V.drop j)).Perm (U.take k++((U.drop k++V.take j)++V.drop j)):=(tl.1.append_right _).append_left _;have bo:U.take k++((U.drop k++V.take j)++V.drop j)=U++V:=by rw[ax (U.drop k),aM,<- ax,aM]
   rw[bo] at h9;exact h9
  ·have Z:=bh.mp (by rw[aM];exact su:(U.take k++U.drop k).Pairwise (leF f));have pv:=bh.mp (by rw[aM];exact sv:(V.take j++V.drop j).Pairwise (leF f));refine bh.mpr ⟨Z.1,bh.mpr ⟨tl.2,pv.2.1,λa h1 b h2=>?_⟩,λa h1 b h2=>?_⟩
   ·rcases av.mp (tl.1.mem_iff.mp h1) with h1 | h1
    ·have q1:=hU a (bF h1);have q2:=a1 b h2;show f a<=f b;lia
    ·exact pv.2.2 a h1 b h2
   ·have q1:=a0 a h1;show f a<=f b;rcases av.mp h2 with h2 | h2
    ·rcases av.mp (tl.1.mem_iff.mp h2) with h2 | h2
     ·exact Z.2.2 a h1 b h2
     ·have q2:=hV b (bw h2);lia
    ·have q2:=hV b (bF h2);lia
  ·have h9:=zkg (P.length+k) out.toList 0 (arrOf st) (by lia);rw[gn] at h9;rw[h9,B];have q1:P++(U++(V++S))=(P++U.take k)++(U.drop k++(V++S)):=by rw[ax,<- ax (U.take k),aM]
   have q2:P++(U++(V++S))=(P++(U++V.take j))++(V.drop j++S):=by rw[ax,ax,<- ax (V.take j),aM]
   have q3:List.take (P.length+k) (P++(U++(V++S)))=P++U.take k:=by rw[q1];exact fD (by simp;lia)
   have q4:List.drop (P.length+k+out.toList.length) (P++(U++(V++S)))=V.drop j++S:=by rw[q2,a4];exact List.drop_left' (by simp;lia)
   rw[q3,q4];simp
 have a5:∀x∈X,x∈L0:=λx F=>as x (bF (mX x F));have a7:∀x∈Y,x∈L0:=λx F=>inV x (bw (mY x F));have sX:X.toList.Pairwise (leF f):=by rw[ex];exact su.sublist (eA _ _)
 have sY:Y.toList.Pairwise (leF f):=by rw[ey];exact sv.sublist (cy _ _)
 by_cases e3:U.length - k<=j
 case' pos=>
  rw[if_pos e3];refine wpS_bind (zj9 R a5 a7 sX sY (by lia) (by lia) a2 a3 ad λout I lk tl=>?_)
 case' neg=>
  rw[if_neg e3];refine wpS_bind (zj8 R a5 a7 sX sY (by lia) (by lia) a2 a3 ad λout I lk tl=>?_)
 all_goals
  obtain⟨r1,r2,r3⟩:=fin out tl;have bs:arrOf I=arrOf st:=lk.arr;have bb:failedOf I=none:=lk.fail.trans ag;refine wpS_bind (dB (wpS_bind (wpS_get ?_)));have h9:=h (SortSt.mk' (kindOf I) (out.toList.zipIdx.foldl (λa (p:Keyed×Nat)=>a.setIfInBounds (P.length+k+p.2) p.1) (arrOf I)) (pendingOf I) (gallopOf I) (failedOf I)) _ (lk.kind.trans hk) bb (by rw[<- r3,<- bs]) r1 r2 lk.pend;refine wpS_pure ?_;show Q (failedOf I).isNone _;rw[bb];exact h9
end
def zbt:Nat->List (List Keyed×Nat)->List (Nat×Nat×Nat)
 | _,[]=>[]
 | s,(l,p)::r=>(s,l.length,p)::zbt (s+l.length) r
def zH (q:List (List Keyed×Nat)):List Keyed:=q.flatMap (·.1)
def zA (r:List Keyed×Nat)(v:List (List Keyed×Nat)):zH (r::v)=r.1++zH v:=by simp[zH]
def yo (u v:List (List Keyed×Nat)):zH (u++v)=zH u++zH v:=by simp[zH]
def xY:∀ (u v:List (List Keyed×Nat)) (s:Nat),zbt s (u++v)=zbt s u++zbt (s+(zH u).length) v
 | [],v,s=>by simp[zbt,zH]
 | (l,p)::u,v,s=>by rw[cG,zbt,zbt,xY u v,zA,aq,el];rfl
def zbu:∀ (u:List (List Keyed×Nat)) (s:Nat),(zbt s u).length=u.length
 | [],_=>rfl
 | (l,p)::u,s=>by rw[zbt,aT,zbu u,aT]
structure SI (κ:SortKind)(f:Keyed->Int)(T:List Keyed)(rs:List (List Keyed×Nat))(zw:List Keyed)(st:SortSt):Prop where
 kind:kindOf st=κ
 fail:failedOf st=none
 arr:(arrOf st).toList=zH rs++zw
 perm:(zH rs++zw).Perm T
 pend:pendingOf st=(zbt 0 rs).toArray
 ne:∀r∈rs,r.1≠[]
 up:∀r∈rs,r.1.Pairwise (leF f)
section
variable {M:Model}{A:Around}{E:Value->Shared->Prop}{s:Shared}{κ:SortKind}{T:List Keyed}{f:Keyed->Int}
def SI.size {q:List (List Keyed×Nat)}{zw:List Keyed}{st:SortSt}(h:SI κ f T q zw st):(arrOf st).size=T.length:=by rw[<- aK,h.arr,h.perm.length_eq]
def SI.len {q:List (List Keyed×Nat)}{zw:List Keyed}{st:SortSt}(h:SI κ f T q zw st):(zH q).length+zw.length=T.length:=by rw[<- h.perm.length_eq,aq]
def SI.mem {q:List (List Keyed×Nat)}{zw:List Keyed}{st:SortSt}(h:SI κ f T q zw st):∀x∈arrOf st,x∈T:=λx B=>h.perm.mem_iff.mp (by rw[<- h.arr];exact b6.mpr B)
def SI.psz {q:List (List Keyed×Nat)}{zw:List Keyed}{st:SortSt}(h:SI κ f T q zw st):(pendingOf st).size=q.length:=by rw[h.pend,aU,zbu]
def t_mg (R:zbi M A s κ T f){B:List (List Keyed×Nat)}{zw:List Keyed}{st:SortSt}(h:SI κ f T B zw st){i:Nat}(hi:i+1<B.length){Q:Bool->SortSt->Prop}(k:∀O I,SI κ f T O zw I->O.length+1=B.length->Q true I):wpS M A E s (mergeAt' i) Q st:=by
 obtain⟨u,U,p1,V,p2,v,rfl,hu⟩:∃u U p1 V p2 v,B=u++(U,p1)::(V,p2)::v/\i=u.length:=by refine⟨B.take i,B[i].1,B[i].2,B[i+1].1,B[i+1].2,B.drop (i+2),?_,by simp;lia⟩;have e1:B.drop i=B[i]::B.drop (i+1):=cK (by lia);have e2:B.drop (i+1)=B[i+1]::B.drop (i+2):=cK hi;show B=B.take i++B[i]::B[i+1]::B.drop (i+2);rw[<- e2,<- e1,aM]
 have J:=h.arr;have Y:=h.pend;rw[yo,zA,zA,ax,ax,ax] at J;rw[xY,zbt,zbt,fL] at Y;refine zj7 R h.kind h.fail h.mem J Y (by rw[zbu];exact hu) (h.ne (U,p1) (by simp)) (h.ne (V,p2) (by simp)) (h.up (U,p1) (by simp)) (h.up (V,p2) (by simp)) λI C c1 c2 c3 Z c5 c6=>k (u++(C,p1)::v) I ⟨c1,c2,?_,?_,?_,?_,?_⟩ (by simp;lia)
 ·rw[yo,zA,ax,ax];exact c3
 ·refine List.Perm.trans ?_ h.perm;rw[yo,yo,zA,zA,zA];refine List.Perm.append_right _ (eJ _ ?_);rw[<- ax];exact Z.append_right _
 ·rw[c6,xY,zbt,fL,Z.length_eq,aq,el]
 ·intro r F;rcases av.mp F with F | F
  ·exact h.ne r (by simp[F])
  ·rcases ay.mp F with rfl | F
   ·intro z;have z:C=[]:=z;have q:=Z.length_eq;rw[z,aq] at q;have n1:U≠[]:=h.ne (U,p1) (by simp);have q:0=U.length+V.length:=q;exact n1 (aY (by lia))
   ·exact h.ne r (by simp[F])
 ·intro r F;rcases av.mp F with F | F
  ·exact h.up r (by simp[F])
  ·rcases ay.mp F with rfl | F
   ·exact c5
   ·exact h.up r (by simp[F])
def zlK {a:Array Keyed}{lo n:Nat}(h:Seg f a lo (lo+n))(I:lo+n<=a.size):((a.toList.drop lo).take n).Pairwise (leF f):=by
 rw[bR];intro i j hi q B;have F:j<n:=by simp at q;lia
 have:=h (lo+i) (lo+j) (by lia) (by lia) (by lia);unfold kA at this;rw[aR (by lia),aR (by lia)] at this;simpa [fW,List.getElem_drop] using this
def SI.next {F:List (List Keyed×Nat)}{zw:List Keyed}{st B:SortSt}(h:SI κ f T F zw st)(l:Lk (zH F).length st B){n:Nat}(hn:1<=n)(hz:(zH F).length+n<=T.length)(U:Seg f (arrOf B) (zH F).length ((zH F).length+n)) :
  ∃L I,SI κ f T F (L++I) B/\L.length=n/\L.Pairwise (leF f)/\L≠[]:=by
 have hs:=h.size;have Y:=l.size
 have Z:(arrOf B).toList.take (zH F).length=zH F:=by
  have q:(arrOf B).toList.take (zH F).length=(arrOf st).toList.take (zH F).length:=by
   refine fV λi=>?_;rw[List.getElem?_take,List.getElem?_take];split
   ·rename_i hi;have:=l.low i hi;rw[bU,bU];exact this
   ·rfl
  rw[q,h.arr,fD rfl]
 have O:(arrOf B).toList=zH F++(((arrOf B).toList.drop (zH F).length).take n++(arrOf B).toList.drop ((zH F).length+n)):=by have q:=aM (zH F).length (arrOf B).toList;rw[Z] at q;rw[zhY];exact q.symm
 have J:(((arrOf B).toList.drop (zH F).length).take n).length=n:=by simp;lia
 refine⟨_,_,⟨l.kind.trans h.kind,l.fail.trans h.fail,O,?_,l.pend.trans h.pend,h.ne,h.up⟩,J,zlK U (by lia),λz=>by rw[z] at J;simp at J;lia⟩;rw[<- O];have q:=l.perm.toList;refine q.trans ?_;rw[h.arr];exact h.perm
def SI.push {B:List (List Keyed×Nat)}{L zw:List Keyed}{st:SortSt}(h:SI κ f T B (L++zw) st)(F:L≠[])(hs:L.Pairwise (leF f)){lo n:Nat}(h1:(zH B).length=lo)(h2:L.length=n) :
  SI κ f T (B++[(L,0)]) zw (setPending st ((pendingOf st).push (lo,n,0))):=by
 have e:zH (B++[(L,0)])++zw=zH B++(L++zw):=by rw[yo,zA];simp[zH]
 refine⟨h.kind,h.fail,by rw[e];exact h.arr,by rw[e];exact h.perm,?_,λr q=>?_,λr q=>?_⟩
 ·show (pendingOf st).push (lo,n,0)=_;rw[h.pend,xY,zbt,zbt,fL,h1,h2];simp
 ·rcases av.mp q with q | q
  ·exact h.ne r q
  ·rw[ao.mp q];exact F
 ·rcases av.mp q with q | q
  ·exact h.up r q
  ·rw[ao.mp q];exact hs
def SI.pow {I:List (List Keyed×Nat)}{zw:List Keyed}{st:SortSt}(h:SI κ f T I zw st)(Y:1<=I.length)(g:Nat×Nat×Nat->Nat×Nat×Nat)(J:Nat)(Z:∀a b c,g (a,b,c)=(a,b,J)) :
  ∃O,SI κ f T O zw (setPending st ((pendingOf st).modify ((pendingOf st).size - 1) g)):=by
 obtain⟨u,U,p,rfl⟩:∃u U p,I=u++[(U,p)]:=by
  rcases List.eq_nil_or_concat I with rfl | ⟨u,r,rfl⟩
  ·simp at Y
  ·exact⟨u,r.1,r.2,by simp⟩
 have F:∀q,zH (u++[(U,q)])=zH u++U:=λq=>by rw[yo,zA];simp[zH]
 refine⟨u++[(U,J)],h.kind,h.fail,by rw[F,<- F p];exact h.arr,by rw[F,<- F p];exact h.perm,?_,λr B=>?_,λr B=>?_⟩
 ·show (pendingOf st).modify ((pendingOf st).size - 1) g=_;rw[h.psz,h.pend,xY,xY,zbt,zbt,zbt,zbt,fL];apply eQ.mp;rw[Array.toList_modify];have e:(u++[(U,p)]).length - 1=(zbt 0 u).length:=by rw[zbu];simp
  rw[e];show List.modify (zbt 0 u++[((zH u).length,U.length,p)]) (zbt 0 u).length g=zbt 0 u++[((zH u).length,U.length,J)];rw[List.modify_eq_take_cons_drop (by simp)];simp[Z]
 ·rcases av.mp B with B | B
  ·exact h.ne r (by simp[B])
  ·rw[ao.mp B];exact h.ne (U,p) (by simp)
 ·rcases av.mp B with B | B
  ·exact h.up r (by simp[B])
  ·rw[ao.mp B];exact h.up (U,p) (by simp)
def zhr {st:SortSt}(R:zbi M A s κ (arrOf st).toList f)(hk:kindOf st=κ)(hfl:failedOf st=none)(hp:pendingOf st = #[])(h2:1<=(arrOf st).size){Q:Unit->SortSt->Prop}
  (h:∀st',failedOf st'=none->(arrOf st').toList.Perm (arrOf st).toList->(arrOf st').toList.Pairwise (leF f)->Q () st'):wpS M A E s sortRuns' Q st:=by
 rw[sortRuns'_eq];refine wpS_bind (wpS_get ?_);dsimp only;have S0:SI κ f (arrOf st).toList [] (arrOf st).toList st:=⟨hk,hfl,rfl,eF _,hp,λ_ hr=>by simp at hr,λ_ hr=>by simp at hr⟩;have hT:(arrOf st).toList.length=(arrOf st).size:=aK;generalize (arrOf st).toList=T at R h S0 hT;generalize (arrOf st).size=N at h2 hT ⊢;generalize minRun' N N 0=mr;clear hk hfl hp;refine wpS_bind (wpS_mono (bI (I:=λx c st'=>∃rs zw,c=(none,(zH rs).length)/\SI κ f T rs zw st'/\x<=(zH rs).length) (Q:=λc st'=>∃rs lo,c=(none,lo)/\SI κ f T rs [] st') ?_ ?_ ⟨[],T,rfl,S0,aN _⟩) ?_)
 ·rintro x c st1 _ hx ⟨rs,zw,rfl,S1,hx2⟩;have hz1:=S1.size;have hl1:=S1.len;dsimp only;by_cases e1:(zH rs).length ≥ N
  ·rw[if_pos e1];have:zw=[]:=aY (by lia);subst this;exact wpS_pure ⟨rs,_,rfl,S1⟩
  rw[if_neg e1];refine wpS_bind (zhp R S1.kind S1.mem (by lia) (by lia) λm st2 l2 m1 m2 sg=>?_);dsimp only;have hz2:=l2.size;by_cases e2:m<mr
  case' pos=>
   rw[if_pos e2];refine wpS_bind (wpS_lift (ck ⟨rfl,?_⟩));refine wpS_bind (zeH R (n:=min (N - (zH rs).length) mr) (l2.kind.trans S1.kind) (l2.mem S1.mem) (by lia) (by lia) (by lia) sg λst3 l3 sg3=>?_);rw[if_neg (by simp)];obtain⟨L,rest',S3,hL,sL,nL⟩:=S1.next (l2.trans l3) (n:=min (N - (zH rs).length) mr) (by lia) (by lia) sg3;generalize hn:min (N - (zH rs).length) mr=n at hL ⊢;have hn1:1<=n:=by lia
  case' neg=>
   rw[if_neg e2];obtain⟨L,rest',S3,hL,sL,nL⟩:=S1.next l2 (n:=m) (by lia) (by lia) sg;generalize hn:m=n at hL ⊢;have hn1:1<=n:=by lia
   generalize st2=st3 at S3 ⊢
  all_goals
   refine wpS_bind (wpS_get ?_);rcases List.eq_nil_or_concat rs with hrs | ⟨u,r,hrs⟩
   ·have hb:(pendingOf st3).back?=none:=by rw[S3.pend,hrs];rfl
    rw[hb];dsimp only;have S4:=S3.push nL sL rfl hL;exact wpS_bind (dB (wpS_pure ⟨_,rest',by rw[yo,aq,zA,aq,hL];rfl,S4,by rw[yo,aq,zA,aq,hL];lia⟩))
   ·obtain⟨⟨b1,b2,b3⟩,hb⟩:∃b,(pendingOf st3).back?=some b:=by
     rw[S3.pend,hrs,List.concat_eq_append,xY];cases r;exact⟨_,by simp[zbt];rfl⟩
    rw[hb];dsimp only;generalize power' N (2 * b1+b2) (2 * b1+b2+b2+n) N=pw;refine wpS_bind (wpS_mono (bI (I:=λx c st'=>∃rs',c=(none,())/\SI κ f T rs' (L++rest') st'/\1<=rs'.length) (Q:=λc st'=>∃rs',c=(none,())/\SI κ f T rs' (L++rest') st'/\1<=rs'.length) ?_ (λc st' q=>q) ⟨rs,rfl,S3,by rw[hrs];simp⟩) ?_)
    ·rintro x2 c st4 _ _ ⟨rs',rfl,S4,n4⟩;refine wpS_bind (wpS_get ?_);by_cases e3:(pendingOf st4).size > 1
     ·rw[if_pos e3];obtain⟨⟨c1,c2,c3⟩,hc⟩:∃b,(pendingOf st4)[(pendingOf st4).size - 2]?=some b:=⟨_,aR (by lia)⟩;rw[hc];dsimp only;by_cases e4:c3<=pw
      ·rw[if_pos e4];exact wpS_pure ⟨rs',rfl,S4,n4⟩
      ·rw[if_neg e4];rw[S4.psz] at e3;refine wpS_bind (t_mg R S4 (by rw[S4.psz];lia) λrs2 st5 S5 h5=>?_);exact wpS_pure ⟨rs2,rfl,S5,by lia⟩
     ·rw[if_neg e3];exact wpS_pure ⟨rs',rfl,S4,n4⟩
    ·rintro c st4 ⟨rs',rfl,S4,n4⟩;dsimp only;refine wpS_bind (dB ?_);obtain⟨rs2,S5⟩:=S4.pow n4 (λx=>match x with | (st,len,_)=>(st,len,pw)) pw (λa b c=>rfl);have hl3:=S3.len;have hl5:=S5.len;have S6:=S5.push nL sL (lo:=(zH rs).length) (by lia) hL;exact wpS_bind (dB (wpS_pure ⟨_,rest',by rw[yo,aq,zA,aq,hL,show (zH rs2).length=(zH rs).length by lia];rfl,S6,by rw[yo,aq,zA,aq,hL];lia⟩))
 ·rintro c st1 ⟨rs,zw,rfl,S1,hx2⟩;have hl1:=S1.len;have:zw=[]:=aY (by lia);subst this;exact⟨rs,_,rfl,S1⟩
 ·rintro c st1 ⟨rs,lo,rfl,S1⟩;dsimp only;have hl1:=S1.len
  have hlen:rs.length<=(zH rs).length:=by
   have:∀ (rs:List (List Keyed×Nat)),(∀r∈rs,r.1≠[])->rs.length<=(zH rs).length:=λrs=>by
    induction rs with
    | nil=>intro _;exact aN _
    | cons r v ih=>
     intro hn;have h1:=ih λr hr=>hn r (ai _ hr);have h2:=dN.mpr (hn r ak);rw[zA,aq,aT];lia
   exact this rs S1.ne
  have hne:1<=rs.length:=by
   cases rs with
   | nil=>simp[zH] at hl1;lia
   | cons r v=>simp
  rw[List.length_nil,gn] at hl1;refine wpS_bind (wpS_mono (bI (I:=λx c st'=>∃rs,c=(none,())/\SI κ f T rs [] st'/\1<=rs.length/\(rs.length<=1\/rs.length+x<=N)) (Q:=λc st'=>∃rs,c=(none,())/\SI κ f T rs [] st'/\rs.length=1) ?_ ?_ ⟨rs,rfl,S1,hne,.inr (by lia)⟩) ?_)
  ·rintro x c st2 _ hx ⟨rs,rfl,S2,n1,n2⟩;refine wpS_bind (wpS_get ?_);by_cases e1:(pendingOf st2).size<=1
   ·rw[if_pos e1];exact wpS_pure ⟨rs,rfl,S2,by rw[S2.psz] at e1;lia⟩
   rw[if_neg e1];rw[S2.psz] at e1;refine wpS_bind (t_mg R S2 ?_ λrs' st3 S3 h3=>?_)
   ·rw[S2.psz];have le1:∀ (b:Bool),(if b=true then rs.length - 2 - 1 else rs.length - 2)+1<rs.length:=λb=>by cases b <;> simp <;> lia
    exact le1 _
   ·exact wpS_pure ⟨rs',rfl,S3,by lia,by lia⟩
  ·rintro c st2 ⟨rs,rfl,S2,n1,n2⟩;exact⟨rs,rfl,S2,by lia⟩
  ·rintro c st2 ⟨rs,rfl,S2,n1⟩;obtain⟨r,rfl⟩:∃r,rs=[r]:=List.length_eq_one_iff.mp n1;have ha:=S2.arr;have hq:=S2.perm;rw[bD] at ha hq;rw[<- ha] at hq;rw[zA] at ha;exact wpS_pure (h st2 S2.fail hq (by rw[ha];simpa [zH] using S2.up r (by simp)))
end
open PySem PySem.Calls PyProof.Rows PySem.W
def zdl {α O:Type}(g:α->O):∀ {out m:List O},out.Perm m->∀l:List α,m=l.map g->∃l':List α,l'.Perm l/\out=l'.map g:=by
 intro out m h
 induction h with
 | nil=>intro l e;exact⟨l,.refl _,e⟩
 | cons x h U=>
  intro l e
  match l,e with
  | a::l,e=>
   obtain⟨B,F⟩:=eZ e;obtain⟨l',p,q⟩:=U l F;exact⟨a::l',.cons a p,by rw[au,<- q,B]⟩
 | swap x y l0=>
  intro l e
  match l,e with
  | a::b::l,e=>
   obtain⟨B,F⟩:=eZ e;obtain⟨Y,Z⟩:=eZ F;exact⟨b::a::l,.swap _ _ _,by rw[au,au,B,Y,Z]⟩
 | trans h1 h2 I J=>
  intro l e;obtain⟨l2,p2,q2⟩:=J l e;obtain⟨l1,p1,q1⟩:=I l2 q2;exact⟨l1,p1.trans p2,q1⟩
def Ask (prog:Program)(w:World)(A:Around)(κ:SortKind)(vs:List Value)(G:Array Nat->Prop)(s:Shared):Prop:=
 ∃f:Nat->Int,zaZ vs.length f/\(∀i j,i<vs.length->j<vs.length->vs.getD i .none=vs.getD j .none->i=j)/\
  (∀i j,i<vs.length->j<vs.length->∀ (Q:Bool->Shared->Prop) (E:Value->Shared->Prop),Q (decide (f i<f j)) s->wpAny (model prog w) A (keyLt' κ (vs.getD i .none) (vs.getD j .none)) Q E s)/\∀p:Array Nat,Up vs.length f p vs.length->G p
section
variable {prog:Program}{w:World}{A:Around}{E:Value->Shared->Prop}{s:Shared}{h₀:Heap}{L a:Addr}{m:Str->Option Value}{news:List (Addr×Obj)}{vs:List Value}{κ:SortKind}
def zpi(h2:2<=vs.length)(h:Ask prog w A κ vs G s) :
  wpAny (model prog w) A ((sortRuns').run (SortSt.mk' κ (vs.toArray.zip vs.toArray) #[] 7 none)) (λr s'=>s'=s/\∃p:Array Nat,p.size=vs.length/\(arrOf r.2).map (·.2)=List.toArray (p.toList.map λi=>vs.getD i .none)/\failedOf r.2=none/\G p) E s:=by
 obtain⟨f,hu,J,hc,hG⟩:=h
 have O:(vs.toArray.zip vs.toArray).toList=(List.range vs.length).map λi=>(vs.getD i .none,vs.getD i .none):=by
  refine fV λi=>?_;by_cases hi:i<vs.length
  ·simp[hi]
  ·simp[hi,Nat.le_of_not_lt hi]
 let F:Keyed->Int:=λx=>f (Classical.epsilon λi=>i<vs.length/\vs.getD i .none=x.1)
 have U:∀i,i<vs.length->F (vs.getD i .none,vs.getD i .none)=f i:=λi hi=>by have q:(Classical.epsilon λj=>j<vs.length/\vs.getD j .none=vs.getD i .none)<vs.length/\vs.getD (Classical.epsilon λj=>j<vs.length/\vs.getD j .none=vs.getD i .none) .none=vs.getD i .none:=Classical.epsilon_spec (p:=λj=>j<vs.length/\vs.getD j .none=vs.getD i .none) ⟨i,hi,rfl⟩;show f (Classical.epsilon λj=>j<vs.length/\vs.getD j .none=vs.getD i .none)=f i;rw[J _ _ q.1 hi q.2]
 refine zhr (E:=E) (st:=SortSt.mk' κ (vs.toArray.zip vs.toArray) #[] 7 none) (f:=F) (κ:=κ) (Q:=λ_ B=>∃p:Array Nat,p.size=vs.length/\(arrOf B).map (·.2)=List.toArray (p.toList.map λi=>vs.getD i .none)/\failedOf B=none/\G p) ?_ rfl rfl rfl ?_ ?_
 ·intro x y Y Z Q E hq;have Y:x∈(vs.toArray.zip vs.toArray).toList:=Y;have Z:y∈(vs.toArray.zip vs.toArray).toList:=Z;rw[O] at Y Z;obtain⟨i,hi,rfl⟩:=aG.mp Y;obtain⟨j,hj,rfl⟩:=aG.mp Z;have hi:=aQ.mp hi;have hj:=aQ.mp hj;rw[U i hi,U j hj] at hq;exact hc i j hi hj Q E hq
 ·show 1<=(vs.toArray.zip vs.toArray).size;simp;lia
 ·intro B h1 h3 h4;have h3:(arrOf B).toList.Perm (vs.toArray.zip vs.toArray).toList:=h3;obtain⟨p,hp,he⟩:=zdl _ h3 _ O;have I:∀i∈p,i<vs.length:=λi hi=>aQ.mp (hp.mem_iff.mp hi);have ac:p.length=vs.length:=by rw[hp.length_eq,bm]
  refine⟨p.toArray,by simpa using ac,?_,h1,hG _ ⟨?_,ah _,λk hk=>?_⟩⟩
  ·apply eQ.mp;rw[ge,he,aI];rfl
  ·show p.toArray.Perm (List.range vs.length).toArray;exact List.Perm.toArray hp
  ·have ad:p.Nodup:=hp.nodup_iff.mpr eP;rw[he] at h4;have h5:=bR.mp h4 k (k+1) (by simp;lia) (by simp;lia) (by lia);rw[cF,cF] at h5;have g1:p.toArray.getD k 0=p[k]:=by simp[Array.getD,show k<p.length by lia]
   have g2:p.toArray.getD (k+1) 0=p[k+1]:=by simp[Array.getD,show k+1<p.length by lia]
   have h5:F (vs.getD p[k] .none,vs.getD p[k] .none)<=F (vs.getD p[k+1] .none,vs.getD p[k+1] .none):=h5;rw[U _ (I _ (a9 _)),U _ (I _ (a9 _))] at h5;unfold key;rw[g1,g2]
   have h6:f p[k]≠f p[k+1]:=λz=>by have:=hu _ _ (I _ (a9 _)) (I _ (a9 _)) z;have:=(cD ad).mp this;lia
   lia
def zdA {n:Nat}{P:PySem.Fin->Shared->Prop}(F:Fr h₀ L s.heap m)(N:News h₀ L s.heap news)(ho:s.heap.get? a=some (seqObj "list" vs.toArray n))(haL:a≠L)(ha0:h₀.get? a=none)(hna:∀p∈news,p.1≠a)
  (h2:2<=vs.length) (hz:vs.length<=sizeLine)
  (h:∀e1 h',Fr h₀ L h' m->News h₀ L h' ((a,seqObj "list" #[] e1)::news)->
   wpAny (model prog w) A (keyKind' vs.toArray) (λκ s'=>Ask prog w A κ vs (λp=>KasFin h₀ L m a e1 (p.toList.map λi=>vs.getD i Value.none) (λs3=>P (.done (.ret .none)) s3) s') s') (λ_ _=>False) { s with heap:=h' }) :
  wpAny (model prog w) A (Builtin.«list.sort» ⟨[.ref a],[]⟩) P E s:=by
 have s1:=ba s.heap a (Obj.mapSeq λ_=>(#[]:Array Value));obtain⟨e1,ho1⟩:∃e1,(s.heap.update a (Obj.mapSeq λ_=>(#[]:Array Value))).get? a=some (seqObj "list" #[] e1):=⟨_,get?_update_seq ho λ_=>#[]⟩;have keep2:∀b x,(s.heap.update a (Obj.mapSeq λ_=>(#[]:Array Value))).get? b=some x->(((s.heap.update a (Obj.mapSeq λ_=>(#[]:Array Value))).push (seqObj "tuple" vs.toArray 0)).push (seqObj "list" #[] 0)).get? b=some x:=λb x e=>am _ (am _ e)
 have ask:=h e1 _ (((kas_fr F s1 haL ha0).push (seqObj "tuple" vs.toArray 0)).push (seqObj "list" #[] 0)) (λp hp=>by
  rcases ay.mp hp with rfl | hp
  ·exact⟨keep2 _ _ ho1,haL,ha0⟩
  ·exact (kas_news N s1 hna).grown keep2 p hp)
 rw[list_sort_plain];refine aa (gh ho rfl (aa (eY ho rfl ?_ (by rw[aU];exact hz) (aN _))));refine aa (seqEpoch_at ho1 rfl (aa (wpAny_newTuple ?_ (by show vs.length<=_;exact hz))));refine aa (fZ (bL ?_) (aN _));show wpAny (model prog w) A _ P E { s with heap:=((s.heap.update a (Obj.mapSeq λ_=>(#[]:Array Value))).push (seqObj "tuple" vs.toArray 0)).push (seqObj "list" #[] 0) };dsimp only;have hn2:¬ vs.toArray.size<2:=by rw[aU];lia
 rw[if_neg hn2,if_neg hn2];refine aa (aC ask (λκ s0 hk=>?_) λ_ _ x=>x.elim);refine aa (aC (zpi h2 hk) ?_ λ_ _ e=>e);rintro⟨⟨⟩,st'⟩ s' ⟨rfl,p,hp,hout,hf,news',g,F',N',U,k⟩;dsimp only;obtain⟨pre,post,e0,hg,x1,x2⟩:=U.split;rw[e0] at N';have na:=N' (a,seqObj "list" #[] e1) (aW _ (.head _));have hsz:(List.toArray (p.toList.map λi=>vs.getD i Value.none)).size=vs.length:=by rw[aU,ab,aK,hp]
 rw[hout];have s2:=ba s'.heap a (Obj.mapSeq λ_=>List.toArray (p.toList.map λi=>vs.getD i Value.none));obtain⟨c2,hc2⟩:∃c2,(s'.heap.update a (Obj.mapSeq λ_=>List.toArray (p.toList.map λi=>vs.getD i Value.none))).get? a=some (seqObj "list" (List.toArray (p.toList.map λi=>vs.getD i Value.none)) c2):=⟨_,get?_update_seq na.1 λ_=>List.toArray (p.toList.map λi=>vs.getD i Value.none)⟩;refine aa (seqEpoch_at na.1 rfl ?_);refine aa (eY na.1 rfl ?_ (aN _) (az (Nat.le_of_eq hsz) (Nat.le_succ_of_le hz)));rw[hf];simp only[fQ,aL,if_false];refine ae (k _ c2 (kas_fr F' s2 na.2.1 na.2.2) ?_);rw[hg];exact news_set N' x1 x2 s2 hc2
end
open PySem PySem.Spec PyProof.Rows PySem.W PySem.Calls
section
variable {P:Program}{w:World}
def zha {A:Around}{E:Value->Shared->Prop}{s:Shared}{L D:Addr}{m0:Str->Option Value}{vs:List Value}{n:Nat}{ft:Bool}{sts:List Dt}{Q:Value->Shared->Prop}(hu:A.units+60<cLine)(ac:s.heap.Ns L m0)(ag:D≠L)(ho:s.heap.get? D=some (seqObj "list" vs.toArray n))
  (hv:Paired (zl9 s.heap) vs sts) (hz:sts.length<=sizeLine) (hr:RowsOk ft sts)
  (h:∀h' c p,List.Perm p (List.range sts.length)->((p.map λi=>sts.getD i .non).Pairwise λa b=>HT.lexLt (enD a) (enD b)=true)->(∀b o,b≠L->b≠D->s.heap.get? b=some o->h'.get? b=some o)->h'.Ns L m0->
   h'.get? D=some (seqObj "list" (p.map λi=>vs.getD i .none).toArray c)->Q .none { s with heap:=h' }) :
  wpAny (model P w) A (call (.builtin "list.sort") [.ref D]) Q E s:=by
 have a7:=zaU hv;by_cases h2:2<=sts.length
 ·have B:∀p∈(uR s.heap L).filter (λq=>decide (q.1≠D)),s.heap.get? p.1=some p.2/\p.1≠L/\p.1≠D:=λp hp=>by
   have h1:=bG.mp hp;have h2:=yj.mp (show (p.1,p.2)∈uR s.heap L from h1.1)
   simp_all
  have J:∀b,(⟨#[],{}⟩:Heap).get? b=none:=λb=>by
   cases e:(⟨#[],{}⟩:Heap).get? b with
   | none=>rfl
   | some o'=>
    have:=aH e;simp at this
  refine aX slot_list_sort ⟨_,ho,rfl⟩ entry_list_sort ?_ (args_list_sort _);refine zdA (h₀:=(⟨#[],{}⟩:Heap)) (L:=L) (m:=m0) (news:=(uR s.heap L).filter (λq=>decide (q.1≠D))) ⟨ac,λb o e=>?_,aN _⟩ (λp hp=>?_) ho ag (J _) (λp hp=>(B p hp).2.2) (by lia) (by lia) λe1 h' F N=>?_
  ·simp_all
  ·exact⟨(B p hp).1,(B p hp).2.1,J _⟩
  ·have kp:∀b o,b≠L->b≠D->s.heap.get? b=some o->h'.get? b=some o:=λb o hb hD e=>(N (b,o) (ai _ (bG.mpr ⟨yj.mpr ⟨hb,e⟩,aD hD⟩))).1;have O:Paired (zl9 h') vs sts:=Paired.mapP hv λv st r=>r.keep ac ho kp;obtain⟨fs,k1,k2,k3⟩:=zed O (hr.first h2);refine W.kat_kind (T:=if ft then .type "tuple" else .type "int") (s:={ s with heap:=h' }) k1 (by lia) (λf hf=>?_) (by cases ft <;> decide) ?_
   ·obtain⟨t1,t2⟩:=k3 f hf;intro A' Q' E' s' bb hq
    cases ft with
    | false=>
     obtain⟨a,t,rfl⟩:=t1 rfl;exact cS (typeIs_int s' a t) hq
    | true=>
     obtain⟨a,o,rfl,g,hc⟩:=t2 rfl;exact cS (T := "tuple") ⟨o,bb _ _ g,hc⟩ hq
   ·have hu:zaZ sts.length (xj (sts.map enD)):=λi j hi I e=>by
     have e1:=zaN (sts:=sts.map enD) (i:=i) (j:=j) (by rwa[ab]) (by rwa[ab]);have e2:=zaN (sts:=sts.map enD) (i:=j) (j:=i) (by rwa[ab]) (by rwa[ab]);rw[e,aO (ga _)] at e1;rw[e,aO (ga _)] at e2;have gi:(sts.map enD).getD i []=enD sts[i]:=by simp[hi]
     have gj:(sts.map enD).getD j []=enD sts[j]:=by simp[I]
     rw[gi,gj] at e1 e2;rcases zaO (a:=enD sts[i]) (b:=enD sts[j]) with h | h | h
     ·exact (cD hr.nd).mp (zp1 (hr.cmp _ (a9 hi) _ (a9 I)) h)
     all_goals grind
    have Y:vs.length=sts.length:=by lia
    have al:∀i j,i<sts.length->j<sts.length->zdL (xj (sts.map enD)) i j=HT.lexLt (enD (sts.getD i .non)) (enD (sts.getD j .non)):=λi j hi I=>by have:=zaN (sts:=sts.map enD) (i:=i) (j:=j) (by rwa[ab]) (by rwa[ab]);rw[show zdL (xj (sts.map enD)) i j=decide (xj (sts.map enD) i<xj (sts.map enD) j) from rfl,this];simp[hi,I]
    refine⟨xj (sts.map enD),by rw[Y];exact hu,λi j hi I e=>?_,λi j hi I C E hC=>?_,λp Z=>?_⟩
    ·rw[Y] at hi I;obtain⟨a1,b1,c1,o1,an,r1⟩:=yD O .none .non hi;obtain⟨a2,b2,c2,o2,as,r2⟩:=yD O .none .non I;rw[b1,b2] at e;cases e;have es:sts.getD i .non=sts.getD j .non:=(zkv P w).inj (h:=h') (a:=a1) ⟨c1,o1,an,r1⟩ ⟨c2,o2,as,r2⟩;have gi:sts.getD i .non=sts[i]:=by simp[hi]
     have gj:sts.getD j .non=sts[j]:=by simp[I]
     rw[gi,gj] at es;exact (cD hr.nd).mp es
    ·rw[Y] at hi I;obtain⟨a1,b1,c1,o1,an,r1⟩:=yD O .none .non hi;obtain⟨a2,b2,c2,o2,as,r2⟩:=yD O .none .non I;have mi:sts.getD i .non∈sts:=by simp[hi]
     have mj:sts.getD j .non∈sts:=by simp[I]
     have ad:C (HT.lexLt (enD (sts.getD i .non)) (enD (sts.getD j .non))) { s with heap:=h' }:=by rw[<- al i j hi I];exact hC
     have U:=hr.cmp _ mi _ mj;obtain⟨d1,l1,e1,f1⟩:=hr.first h2 _ mi;obtain⟨d2,l2,e2,f2⟩:=hr.first h2 _ mj;show wpAny _ _ (keyLt' _ (vs.getD i .none) (vs.getD j .none)) C _ _;rw[b1,b2];rw[e1] at c1 o1 r1 U ad;rw[e2] at c2 o2 r2 U ad
     cases r1 with
     | @tuple _ b3 a0 n1 _ _ g1 b4 bc bd=>
     cases r2 with
     | @tuple _ ca a3 n2 _ _ g2 cb bl bo=>
     refine W.kat_lt (s:={ s with heap:=h' }) g1 bc g2 bl ?_;have i1:=xD o1;have i2:=xD o2;have j1:=yY.mp (show Dt.hks (d1::l1)=true from c1);have j2:=yY.mp (show Dt.hks (d2::l2)=true from c2);have:=zgk (P:=P) (w:=w) (A:=A.in1) (s:={ s with heap:=h' }) (Q:=C) (b:=((if ft then Value.type "tuple" else .type "int") != Value.type "tuple")) (by show A.units+1+40<cLine;lia) 0 (λd hd=>⟨j1 d hd,i1 d hd⟩) (λd hd=>⟨j2 d hd,i2 d hd⟩) (show Dt.cmps (d1::l1) (d2::l2)=true from U) bd bo (λhb _ d l' e=>?_) ad
     ·rw[show decide (a0.size<a3.size)=decide (a0.toList.length<a3.toList.length) from by simp];exact this
     ·cases e;rw[f1]
      cases ft with
      | false=>rfl
      | true=>exact absurd hb (by decide)
    ·rw[Y] at Z
     have a4:p.toList.Perm (List.range sts.length):=by have:=Z.perm.toList;simpa using this
     have a5:∀i∈p.toList,i<sts.length:=λi hi=>aQ.mp ((a4.mem_iff).mp hi);refine W.KasFin.intro F N (W.UpdF.head λq' bs=>(B q' bs).2.2) λbx c F'' N''=>?_;refine⟨_,rfl,h bx c p.toList a4 ?_ (λb o hb hD e=>(N'' (b,o) (ai _ (bG.mpr ⟨yj.mpr ⟨hb,e⟩,aD hD⟩))).1) F''.ns (N'' (D,_) ak).1⟩;have cd:p.size=sts.length:=xE Z.perm;rw[bR];intro i j hi I b0;rw[ab,aK] at hi I;have hk:=Z.lt_of b0 (by lia);rw[cF,cF,dD,dD];have e1:p.getD i 0=p[i]:=by simp[hi]
     have e2:p.getD j 0=p[j]:=by simp[I]
     unfold key at hk;rw[e1,e2] at hk;rw[<- al _ _ (a5 _ (by simp)) (a5 _ (by simp))];exact aD hk
 ·refine aX slot_list_sort ⟨_,ho,rfl⟩ entry_list_sort ?_ (args_list_sort _);refine uE ho (by lia) λh' c kp hD=>⟨_,rfl,?_⟩;refine h h' c (List.range sts.length) (eF _) ?_ (λb o _ hb e=>kp b o hb e) ?_ ?_
  ·match sts,h2 with
   | [],_=>exact .nil
   | [_],_=>exact dX _ _
   | _::_::_,h2=>exact absurd (by simp) h2
  ·obtain⟨o,es,ep,g,k⟩:=ac;exact⟨o,es,ep,kp _ _ (Ne.symm ag) g,k⟩
  ·rw[<- a7,uK];exact hD
end
section
variable {X:Cx}
def zjG:List V->Hp->VK->Prop:=λxs H Q=>∃ (l:Addr) (vs:List V) (sts:List Dt) (ft:Bool),xs=[.ref l]/\(Rd H l (.lst vs)\/H l=some (.tup vs))/\IsL H sts vs/\sts.length<=100000/\RowsOk ft sts/\
 ∀ (ys:List V) (q:List Dt),IsL H q ys->q.Perm sts->(q.Pairwise λa b=>HT.lexLt (enD a) (enD b)=true)->New H (.lst ys) Q
def zhV (hu:X.A.units+64<cLine):CallQ X (.builtin "sorted") zjG:=⟨by
 intro pins s σ H xs us Q I r h;obtain⟨l,vs,sts,ft,rfl,hl,hsts,hz64,hr,q⟩:=h;obtain⟨u,rfl,ru⟩:=zcm r;cases ru;have hvl:=hsts.length;obtain⟨m0,hns,_⟩:=id I.loc
 have rows0:∀ {sts:List Dt} {vs:List V} {is:List Value},(∀x∈sts,x.hk=true/\x.eqOk/\x.isTup=true)->IsL H sts vs->yn vs is->Paired (zl9 s.heap) is sts:=by
  intro sts
  induction sts with
  | nil=>intro vs is _ h1 h2;cases h1;cases h2;exact .nil
  | cons st sts ih=>
   intro vs is hk h1 h2;obtain⟨v,vs',rfl,hv,hr⟩:=h1;obtain⟨k1,k2,k3⟩:=hk st (by simp)
   cases h2 with
   | cons r1 r2=>
    refine .cons ?_ (ih (λx hx=>hk x (ai _ hx)) hr r2)
    cases st with
    | tup ll=>
     obtain⟨a,xs,rfl,ha,hx⟩:=id hv;cases r1;exact⟨a,rfl,zbq I k1 k2 hv⟩
    | _=>cases k3
 refine call_function_entry kind_sorted plain_sorted entry_sorted (args_sorted1 _) ?_;unfold Builtin.«sorted»;refine aa (m:=checkCount "sorted" 1 1 _) (ae ?_)
 have go:∀ (its:List Value) (h1:Heap),yn vs its->its.length<=sizeLine->(∀b o,s.heap.get? b=some o->h1.get? b=some o)->wpAny (model X.prog X.w) X.A.in1 (do
   let l <- newList its
   let _ <- holding [l] (call (.builtin "list.sort") [l])
   ret l) (λfin s'=>∃v,fin=PySem.Fin.done (Flow.ret v)/\EP X pins σ Q v s') X.xe { s with heap:=h1 }:=by
  intro its h1 rv hz hk
  have none0:∀b,(⟨#[],{}⟩:Heap).get? b=none:=λb=>by
   cases e:(⟨#[],{}⟩:Heap).get? b with
   | none=>rfl
   | some o'=>
    have:=aH e;simp at this
  have hil:=rv.length;refine aa (fZ ?_ hz);have F:Fr (⟨#[],{}⟩:Heap) X.env.locals s.heap m0:=⟨hns,λb o e=>(by simp_all),aN _⟩;have F1:=(F.keeps hk).push { cls:=.type "list",data:=.seq its.toArray }
  have hDn:s.heap.get? h1.objs.size=none:=by
   cases e:s.heap.get? h1.objs.size with
   | none=>rfl
   | some o=>exact absurd (aH (hk _ _ e)) (cT _)
  have hHD:H h1.objs.size=none:=by
   cases e:H h1.objs.size with
   | none=>rfl
   | some o=>
    obtain⟨o',ho'⟩:=zem (I.hok _ o e)
    grind
  have hLs:∃o,s.heap.get? X.env.locals=some o:=by obtain⟨o,_,_,h1,_⟩:=hns;exact⟨o,h1⟩
  have hDL:h1.objs.size≠X.env.locals:=λz=>by obtain⟨o,e⟩:=hLs;rw[z,e] at hDn;cases hDn
  have kp:∀b o,s.heap.get? b=some o->(h1.push { cls:=.type "list",data:=.seq its.toArray }).get? b=some o:=λb o e=>am _ (hk b o e);have rows:Paired (zl9 (h1.push { cls:=.type "list",data:=.seq its.toArray })) its sts:=Paired.mapP (rows0 hr.key hsts rv) λv x ⟨a,e,k1,k2,as,r⟩=>⟨a,e,k1,k2,as,x4 (λb o us n' g _ _=>kp b o g) k1 r⟩;refine aa (bL (aC (zha (L:=X.env.locals) (D:=h1.objs.size) (m0:=m0) (vs:=its) (n:=0) (ft:=ft) (sts:=sts) (s:={ s with heap:=h1.push { cls:=.type "list",data:=.seq its.toArray } }) (Q:=λ_ s'=>EP X pins σ Q (.ref h1.objs.size) s') (by show X.A.units+1+60<cLine;lia) F1.ns hDL (aw _ rfl) rows (az hz64 (by rw[b9];decide)) hr λh'' c p hp hup kp2 ns2 hD2=>?_) (λ_ s' x=>ae ⟨_,rfl,x⟩) λ_ _ e=>e));have hpi:∀i∈p,i<sts.length:=λi hi=>aQ.mp ((hp.mem_iff).mp hi);have hplen:p.length=sts.length:=by rw[hp.length_eq,bm]
  have I':=zix I hns (ys:=p.map λi=>vs.getD i .non) (λb o hb e=>kp2 b o hb (by grind) (kp b o e)) ns2 hDn hHD hD2 (zeM rv p λi hi=>by have:=hpi i hi;lia) (by rw[ab,hplen,b9];lia) s.toks;refine⟨.ref h1.objs.size,_,I',rfl,(q _ (p.map λi=>sts.getD i .non) (zd8 hsts hpi) ?_ hup).at hHD⟩;have:=hp.map λi=>sts.getD i .non;rwa[uK] at this
 rcases hl with hl | hl
 ·obtain⟨its,rv,pl,hz⟩:=I.list (.inl hl);have hil:=rv.length;refine aa (collect_list pl.isList (go its _ rv (by lia) λb o q=>?_) (by rw[b9];lia));have hlt:b<s.heap.objs.size:=aH q;rw[fj _ _ _ _ (a6 hlt),Heap.get?_push_ne _ _ _ (a6 hlt)];exact q
 ·obtain⟨its,rv,⟨o,ho,hc,n,hd⟩,hz⟩:=I.tuple (.of hl);have hil:=rv.length;exact aa (ze0 ho hc hd (by lia) λh1 hk=>go its h1 rv (by lia) hk)⟩
end
end L2
namespace L3
open PySem PySem.Spec L2
section
variable {Pn:PN}
@[reducible] def zh0:List W->Mo W:=λB n Q=>on1 B λx=>onS x λsts=>sts.length<=100000/\(∃ft,RowsOk ft sts)/\∀q:List Dt,q.Perm sts->q.Pairwise ltD->Q (.d (.lst q)) n
def zlW:FL Pn true zjG zh0:=⟨λA H xs ws n Q R O b P h k=>by
 simp only[zh0,zbP,zgD] at h;obtain⟨x,rfl,sts,Z,F,⟨ft,U⟩,h⟩:=h;obtain⟨v,rfl,Y⟩:=zcR b
 have I:∃a ys,v = .ref a/\(Rd H a (.lst ys)\/H a=some (.tup ys))/\IsL (zz A H) sts ys:=by
  rcases Z with rfl | rfl
  ·obtain⟨a,ys,e,h1,h2⟩:=Y;exact⟨a,ys,e,.inl h1,h2⟩
  ·obtain⟨a,ys,e,h1,h2⟩:=xK Y;exact⟨a,ys,e,.inr h1,h2⟩
 obtain⟨a,ys,rfl,ha,I⟩:=I;refine⟨a,ys,sts,ft,rfl,ha,I.stay (zl.same zt),F,U,λJ q hy hp hs p H' np g S=>?_⟩;have nl:Dt.noLs q=true:=zfe (yY.mpr λd hd=>(U.key d (hp.mem_iff.mp hd)).1);have B:IsL (zz A H) q J:=xO O.noT nl hy;exact k _ n _ H' (h q hp hs) (zaX B (zl.same S) (O.new np) g) (Go.same P S) λz=>zaL B S np g⟩
end
open PySem PySem.Spec L2
section
variable {X:Cx}{E:XK}{Pn:PN}{M:List Nat}{C:Addr}{e:Expr}{es:List Expr}{zw:List Stmt}{p pos p2:Pos}{x:Str}{j:Nat}
end
end L3
local macro_rules | `(tactic| left)=>`(tactic| ((try (with_reducible conv=>whnf));repeat (with_reducible refine L3.zpK ?_;try (with_reducible conv=>whnf)));try dsimp only)
local macro_rules | `(tactic| walk_at "ct")=>`(tactic| (with_reducible refine L3.zqA ?_ ?_;(first | decide | assumption | rfl));left)
local macro_rules | `(tactic| walk_at "cf")=>`(tactic| (with_reducible refine L3.zdi ?_ ?_;(first | decide | assumption | rfl));left)
namespace Law
open PySem L2 L3
abbrev lc:List Str:=["given","box","better","worse","standing","left_alone"]
abbrev ld:List Str:=["standing","box","worths","better","room","leads"]
abbrev lg:List Str:=["_law_pen_here","_law_room_here"]
abbrev lh:List Str:=["_law_pen_here","_law_room_here","_law_box","_law_given_here"]
abbrev li:List Str:=["_law_pen_here","_law_room_here","_law_box","_law_few"]
abbrev lj:List Str:=["given","box","better","worse"]
abbrev lm:List Str:=["_law_script"]
abbrev ln:List Str:=["_law_room_here","_law_whole","_law_book"]
abbrev lq:List Str:=["room"]
abbrev lr:List Str:=["_law_box","_law_worth_here","_law_one"]
abbrev lu:List Str:=["room","book"]
abbrev lv:List Str:=["_law_one","_law_given_here"]
abbrev lw:List Str:=["_law_pen_here","_law_many"]
abbrev lx:List Str:=["standing","box","worth"]
abbrev ly:List Str:=["room","book","standing","held"]
abbrev lz:List Str:=["_law_room_here","_law_book"]
abbrev lA:List Str:=["_law_pen_here","_law_most"]
abbrev lB:List Str:=["standing","box","better"]
abbrev lC:List Str:=["row","worth","worths"]
abbrev lD:List Str:=["leads","one","other"]
abbrev lE:List Str:=["standing","given"]
abbrev lF:List Str:=["at","worth","box"]
abbrev lG:List Str:=["_law_worth_here","_law_one"]
abbrev lH:List Str:=["_law_room_here"]
abbrev lI:List Str:=["room","books"]
abbrev lJ:List Str:=["choices"]
def top (i:Nat):Stmt:=PySem.Challenge.pw_allelse_k56_laid_one_by_one.main.body.getD i (.Pass ⟨0,0,0,0⟩)
abbrev zcF:Stmt:=top 24
abbrev zb5:Stmt:=top 25
abbrev zbg:Stmt:=top 5
abbrev zcH:Stmt:=top 6
abbrev uC:Stmt:=top 7
abbrev zcG:Stmt:=top 8
abbrev zb7:Stmt:=top 9
abbrev zey:Stmt:=top 10
abbrev zjR:Stmt:=top 12
abbrev zbf:Stmt:=top 14
abbrev ui:Stmt:=top 15
abbrev zgP:Stmt:=top 22
abbrev zb6:Stmt:=top 17
abbrev zgO:Stmt:=top 18
abbrev zmO:Stmt:=top 19
abbrev zmN:Stmt:=top 20
abbrev zb4:Stmt:=top 26
abbrev zb2:Stmt:=top 29
abbrev zbc:Stmt:=top 30
abbrev zb3:Stmt:=top 31
abbrev zcE:Stmt:=top 27
abbrev zbd:Stmt:=top 28
abbrev zbb:Stmt:=top 32
abbrev zbe:Stmt:=top 34
abbrev xc:Stmt:=top 37
abbrev zrH:Stmt:=top 38
def zfL:FnScope lm lm (zb zcF):=by walk_at "f"
def yh:FnScope ["_law_pen_here","_law_many","_law_found","_law_at","_law_cell","_law_mixed"] lw (zb zb5):=by walk_at "f"
def yT:FnScope ["room","many","worths"] lq (zb zbg):=by walk_at "f"
def zfM:FnScope lq lq (zb zcH):=by walk_at "f"
def zbn:FnScope lq lq (zb uC):=by walk_at "f"
def x6:FnScope ["choices","rows","worths"] lJ (zb zcG):=by walk_at "f"
def zeA:FnScope lq lq (zb zb7):=by walk_at "f"
def zhm:FnScope lx lx (zb zey):=by walk_at "f"
def zdv:FnScope ["standing","given","box","worth"] lE (zb zjR):=by walk_at "f"
def zax:FnScope ["room","book","standing","held","left_alone"] ly (zb zbf):=by walk_at "f"
def zaV:FnScope lu lu (zb ui):=by walk_at "f"
def zjU:FnScope ["book"] ["book"] (zb zgP):=by walk_at "f"
def zbh:FnScope ["standing","box","better","given"] lB (zb zb6):=by walk_at "f"
def zez:FnScope ["leads","one","other","lead"] lD (zb zgO):=by walk_at "f"
def zfN:FnScope ["room","books","leads","wishes"] lI (zb zmO):=by walk_at "f"
def zo3:FnScope lu lu (zb zmN):=by walk_at "f"
def yg:FnScope ["_law_pen_here","_law_most","_law_room_here","_law_size","_law_k","_law_many"] lA (zb zb4):=by walk_at "f"
def uD:FnScope ["_law_pen_here","_law_room_here","_law_box","_law_better"] lg (zb zb2):=by walk_at "f"
def x5:FnScope ["_law_pen_here","_law_room_here","_law_box","_law_few","_law_given_here","_law_at"] li (zb zbc):=by walk_at "f"
def yJ:FnScope ["_law_pen_here","_law_room_here","_law_box","_law_given_here","_law_at","_law_way","_law_where","_law_worth_here"] lh (zb zb3):=by walk_at "f"
def yE:FnScope ["_law_room_here","_law_found","_law_many","_law_longer","_law_one"] lH (zb zcE):=by walk_at "f"
def zdu:FnScope lv lv (zb zbd):=by walk_at "f"
def zr:FnScope ["_law_pen_here","_law_room_here","_law_books_here","_law_wishes","_law_k","_law_book","_law_j","_law_kind_here","_law_wish","_law_given_here","_law_box","_law_better","_law_worse","_law_turn"] lg (zb zbb):=by walk_at "f"
def zX:FnScope ["_law_room_here","_law_book","_law_found","_law_one","_law_given_here","_law_box","_law_better","_law_worse"] lz (zb zbe):=by walk_at "f"
def yQ:FnScope ["_law_room_here","_law_whole","_law_book","_law_mine"] ln (zb xc):=by walk_at "f"
def uj:FnScope ["_law_script","_law_pen_here","_law_turn","_law_room_here","_law_books_here","_law_whole","_law_book","_law_cut","_law_rest","_law_at","_law_again","_law_empty"] lm (zb zrH):=by walk_at "f"
set_option genInjectivity false in
structure Ad where
 f0:Addr
 d0:FuncData
 f1:Addr
 d1:FuncData
 f2:Addr
 d2:FuncData
 f3:Addr
 d3:FuncData
 f4:Addr
 d4:FuncData
 f5:Addr
 d5:FuncData
 f6:Addr
 d6:FuncData
 f7:Addr
 d7:FuncData
 f8:Addr
 d8:FuncData
 f9:Addr
 d9:FuncData
 f10:Addr
 d10:FuncData
 f11:Addr
 d11:FuncData
 f12:Addr
 d12:FuncData
 f13:Addr
 d13:FuncData
 f14:Addr
 d14:FuncData
 f15:Addr
 d15:FuncData
 f16:Addr
 d16:FuncData
 f17:Addr
 d17:FuncData
 f18:Addr
 d18:FuncData
 f19:Addr
 d19:FuncData
 f20:Addr
 d20:FuncData
 f21:Addr
 d21:FuncData
 f22:Addr
 d22:FuncData
 f23:Addr
 d23:FuncData
 f24:Addr
 d24:FuncData
 f25:Addr
 d25:FuncData
structure Txt (K:PySem.W.Frag)(mg:Str->Option Value)(t:Ad):Prop where
 q0:Dfn K mg "_law_pen" zcF lm t.f0 t.d0
 q1:Dfn K mg "_law_take" zb5 lw t.f1 t.d1
 q2:Dfn K mg "multiplied" zbg lq t.f2 t.d2
 q3:Dfn K mg "is_small" zcH lq t.f3 t.d3
 q4:Dfn K mg "must_be_small" uC lq t.f4 t.d4
 q5:Dfn K mg "combined" zcG lJ t.f5 t.d5
 q6:Dfn K mg "standings" zb7 lq t.f6 t.d6
 q7:Dfn K mg "changed" zey lx t.f7 t.d7
 q8:Dfn K mg "keeps" zjR lE t.f8 t.d8
 q9:DfnD K mg "betterings" zbf ly [Value.none] t.f9 t.d9
 q10:Dfn K mg "all_betterings" ui lu t.f10 t.d10
 q11:Dfn K mg "turned" zgP ["book"] t.f11 t.d11
 q12:Dfn K mg "full_wish" zb6 lB t.f12 t.d12
 q13:Dfn K mg "is_led" zgO lD t.f13 t.d13
 q14:Dfn K mg "laid" zmO lI t.f14 t.d14
 q15:Dfn K mg "full" zmN lu t.f15 t.d15
 q16:Dfn K mg "_law_room" zb4 lA t.f16 t.d16
 q17:Dfn K mg "_law_kind" zb2 lg t.f17 t.d17
 q18:Dfn K mg "_law_given" zbc li t.f18 t.d18
 q19:Dfn K mg "_law_near" zb3 lh t.f19 t.d19
 q20:Dfn K mg "_law_all" zcE lH t.f20 t.d20
 q21:Dfn K mg "_law_keeps" zbd lv t.f21 t.d21
 q22:Dfn K mg "_law_books" zbb lg t.f22 t.d22
 q23:Dfn K mg "_law_pairs" zbe lz t.f23 t.d23
 q24:Dfn K mg "_law_says_no_more" xc ln t.f24 t.d24
 q25:Dfn K mg "law" zrH lm t.f25 t.d25
 b_ValueError:mg "ValueError" = none
 b_sorted:mg "sorted" = none
 b_tuple:mg "tuple" = none
 b_range:mg "range" = none
 b_all:mg "all" = none
 b_len:mg "len" = none
 b_isinstance:mg "isinstance" = none
 b_int:mg "int" = none
 b_list:mg "list" = none
 b_enumerate:mg "enumerate" = none
 b_abs:mg "abs" = none
 b_bool:mg "bool" = none
 c_MOST_OF_SMALL:∃u,yr (.int 64) u/\mg "MOST_OF_SMALL" = some u
section
variable {P:Program}{w:World}{K:PySem.W.Frag}{mg:Str->Option Value}{base:Heap}{t:Ad}
def zfx (T:Txt K mg t):FnOk P w K mg base CX0 1 t.f0 t.d0 lm (zlP K):=by
 refine T.q0.F.okQ zfL (λvs H Q E h=>?_) (λY A outer s H vs Q E hr h=>?_)
 ·obtain⟨a,ns,rfl,_⟩:=h;rfl
 ·obtain⟨a,ns,rfl,Z,U,k⟩:=h;refine⟨_,(xw (za9 (zoG (zdp xn ⟨zoi (zdn zj2 (qv 0) zjA (zjB ym)).run⟩ (zdp xn ym (zdp xn ym zoO))) rfl rfl (by simp) (by decide)))),?_⟩;intro p hp;refine⟨_,rfl,_,rfl,a,_,rfl,(yM.upd hp).seq Z,λc J=>⟨c,_,rfl,zf,λob=>?_⟩⟩;have q:p≠c:=λe=>by subst e;rw[zf] at J;cases J
  have B:H c=none:=by rw[zd (Ne.symm q)] at J;exact J
  refine⟨by rw[zd q,zd q,zf],zaD c 0 0,rfl,(by show 3<=15;decide),?_⟩;rw[zqX]
  have I:zcb (ns.map V.int) none (some 63)=ns.map V.int:=by
   unfold zcb;rw[HT.sIx_none]
   have O:HT.sIx (ns.map V.int).length (ns.map V.int).length (some 63)=(ns.map V.int).length:=by have:=HT.sIx_nat (ns.map V.int).length (ns.map V.int).length 63;rw[ab] at this ⊢;rw[Nat.min_eq_right U] at this;exact this
   rw[O,dE,gg,bz]
  refine k p c _ ⟨⟨0,0,zf,by lia,by lia,by lia⟩,?_,U⟩ ?_
  ·refine⟨ob,?_⟩;rw[zd (Ne.symm q),zf];exact congrArg (λz=>some (HO.frz ob (HO.lst z))) I
  ·intro b o e;rw[zd (zg e hp),zd (zg e B),zd (zg e B),zd (zg e hp)];exact e
def zen (T:Txt K mg t):FnOk P w K mg base CX0 1 t.f1 t.d1 lw zmR:=by
 refine T.q1.F.okQ yh (λvs H Q E h=>?_) (λa2 A outer s H vs Q E hr h=>?_)
 ·obtain⟨p,c,ns,n,zB,rfl,_⟩:=h;rfl
 ·obtain⟨p,c,ns,n,zB,rfl,hP,hn,h1,h2,k⟩:=h;have O:=zg6 hr;obtain⟨⟨a,l,hp,Z,an,ac⟩,⟨ob,hc⟩,U⟩:=id hP;have Y:c≠p:=zje hc hp (by intro z;cases z)
  refine⟨_,(zS (zlx (zbZ zlf (xZ O (qv 0) xn (λ_ _=>rfl)) ym (zR _)) (zS (xG (i:=2) yh.nd rfl (Or.inl rfl) (yI zat (xZ O (qv 0) xn (λ_ _=>rfl)) (qv 1)))
   (zS (zfE O (qv 0) xn (yI zfA (xZ O (qv 0) xn (λ_ _=>rfl)) (qv 1)) rfl)
   (xw (za9 (qv 2))))) zdr)
   (zS (xG (i:=3) yh.nd rfl (Or.inl rfl) (xZ O (qv 0) xn (λ_ _=>rfl)))
   (zS (zfE O (qv 0) xn (yI yq (qv 3) ym) rfl)
   (zS (xG (i:=4) yh.nd rfl (Or.inl rfl) (yI yq (yI zbT ym (qv 3)) ym))
   (zS (zlx (zbZ zlf (xm xB (by rfl) T.b_len bK (yf (xZ O (qv 0) xn (λ_ _=>rfl)) yP)) ym (zR _)) (xw (xG (i:=4) yh.nd rfl (Or.inl rfl) (zrg zaY (xZ O (qv 0) xn (λ_ _=>rfl)) (yI zat (qv 3) (xm xB (by rfl) T.b_len bK (yf (xZ O (qv 0) xn (λ_ _=>rfl)) yP))) (λ_ _=>rfl)))) zdr)
   (zS (zlx (QW.pt (zmH (zbZ zoc (qv 3) (xm xB (by rfl) T.b_len bK (yf (xZ O (qv 0) xn (λ_ _=>rfl)) yP)) (zR _)) (zjD (zbZ ztR (xm zhU (by rfl) T.b_abs eM (yf (qv 4) yP)) (yI zjo ym ym) (zR _))))) (zS (zfE O (qv 0) xn (yI zfA (xm zhU (by rfl) T.b_abs eM (yf (qv 4) yP)) (qv 1)) rfl)
   (xw (za9 (yI zat (xm zhU (by rfl) T.b_abs eM (yf (qv 4) yP)) (qv 1))))) zdr)
   (zS (xG (i:=5) yh.nd rfl (Or.inl rfl) (yI zat (yI zjo (yI yq (yI yq (yI zat (qv 4) ym) (yI zbT ym (qv 3))) ym) ym) ym))
   (zS (xG (i:=5) yh.nd rfl (Or.inl rfl) (yI zat (yI zjo (yI yq (yI yq (qv 5) (yI zbT (yI zbT ym (qv 3)) (qv 3))) ym) ym) ym))
   (xw (za9 (yI zat (yI zfA (qv 5) ym) (qv 1)))))))))))),?_⟩
  refine⟨_,rfl,p,_,rfl,zjs hp,_,_,rfl,rfl,_,rfl,zsj (λhl=>?_) (λhl=>?_)⟩
  ·have a3:0<l:=bj hl;refine⟨_,rfl,p,_,rfl,zjs hp,_,rfl,_,_,rfl,rfl,(by show (0:Int)<zB;lia),?_⟩;refine⟨_,rfl,p,_,rfl,zjs hp,_,rfl,_,_,rfl,rfl,⟨by show (0:Int)<zB;lia,h2⟩,_,rfl,p,_,rfl,zmE hp _,?_⟩;refine⟨_,rfl,k _ _ (cA _ (by lia)) (bW _ (by lia)) ⟨⟨a,_,zf,Z,by lia,Int.ediv_nonneg ac (by lia)⟩,⟨ob,by rw[zd Y];exact hc⟩,U⟩ zeX⟩
  ·refine⟨_,rfl,p,_,rfl,zqW hp,?_⟩;refine⟨_,rfl,_,_,rfl,rfl,_,rfl,p,_,rfl,zq0 hp _,?_⟩;have I:upd H p (.dK (zaD c (a+1) l)) p=some (.dK (zaD c (a+1) l)):=zf;have J:upd H p (.dK (zaD c (a+1) l)) c=some (.frz ob (.lst (ns.map V.int))):=by rw[zd Y];exact hc
   generalize as:upd H p (.dK (zaD c (a+1) l))=H1 at I J ⊢;have ad:∀b o,b≠p->H b=some o->H1 b=some o:=as ▸ zeX;refine⟨_,rfl,_,_,rfl,rfl,.inl ⟨by lia,by lia⟩,_,_,rfl,rfl,?_⟩;refine' meet (α:=Int) _ (λzw=>?_) ?_;rotate_left
   ·
    refine⟨_,rfl,p,_,rfl,zgF I,_,_,rfl,.inl ⟨_,.inl (.inr ⟨ob,J⟩),rfl⟩,_,_,rfl,rfl,_,rfl,zsj (λhz=>?_) (λhz=>?_)⟩;have ag:0<((ns.map V.int).length:Int):=bj hz;obtain⟨B,al⟩:=zpJ ns a ag;refine⟨_,rfl,p,_,rfl,zgF I,_,rfl,_,rfl,p,_,rfl,zgF I,_,_,rfl,.inl ⟨_,.inl (.inr ⟨ob,J⟩),rfl⟩,_,_,rfl,rfl,ag,c,_,_,_,rfl,rfl,.inl (.inr ⟨ob,J⟩),al,?_⟩;exact zw B;exact zw (101 * a+7)
   ·intro B;have a4:∀ {q:Addr},H1 q=none->p≠q:=λhq=>zg I hq;refine' ztD _ (λzw=>?_) ?_;rotate_left
    ·refine⟨_,rfl,_,rfl,p,_,rfl,zgF I,_,_,rfl,.inl ⟨_,.inl (.inr ⟨ob,J⟩),rfl⟩,_,_,rfl,rfl,_,rfl,zsj (λh3=>?_) (λh3=>?_)⟩;rotate_left
     ·refine iteF ?_;exact zw
     refine⟨_,rfl,_,rfl,_,_,rfl,rfl,⟨by decide,by decide,by decide⟩,_,_,rfl,rfl,_,rfl,zsj (λh4=>?_) (λh4=>?_)⟩;rotate_left
     ·exact zw
     have ha:0<=(if B<0 then -B else B):=by split <;> lia
     refine⟨_,rfl,_,rfl,_,rfl,_,_,rfl,rfl,⟨by show (0:Int)<zB;lia,h2⟩,_,rfl,p,_,rfl,zmE I _,?_⟩;refine⟨_,rfl,_,rfl,_,rfl,_,_,rfl,rfl,(by show (0:Int)<zB;lia),k _ _ (cA _ (by lia)) (bW _ (by lia)) ⟨⟨a+1,_,zf,by lia,by lia,Int.ediv_nonneg ha (by lia)⟩,⟨ob,by rw[zd Y];exact J⟩,U⟩ (λb o z e=>zeX b o z (ad b o z e))⟩
    ·obtain⟨a0,a1⟩:=zlQ Z an hn;have a5:=cA B (show (2147483629:Int)≠0 by decide);have a7:=bW B (show (0:Int)<2147483629 by decide);refine⟨_,rfl,_,_,rfl,rfl,(by show (0:Int)<2147483629;decide),_,rfl,_,_,rfl,rfl,.inl ⟨by decide,by decide⟩,_,_,rfl,rfl,_,_,rfl,rfl,_,_,rfl,rfl,⟨by decide,by decide,?_⟩,_,_,rfl,rfl,(by show (0:Int)<2147483647;decide),?_⟩
     ·show (B % 2147483629+30011 * a+977).natAbs<2 ^ 64;lia
     ·generalize bb:((B % 2147483629+30011 * a+977) ^ (3:Int).toNat:Int)=w1;have w0:=cA w1 (show (2147483647:Int)≠0 by decide);have w2:=bW w1 (show (0:Int)<2147483647 by decide);refine⟨_,rfl,_,rfl,_,_,rfl,rfl,.inl ⟨by decide,by decide⟩,_,rfl,_,_,rfl,rfl,.inr ⟨by lia,by lia⟩,_,_,rfl,rfl,_,_,rfl,rfl,_,_,rfl,rfl,⟨by decide,by decide,?_⟩,_,_,rfl,rfl,(by show (0:Int)<2147483587;decide),?_⟩
      ·show (w1 % 2147483647+69621 * a * a+13).natAbs<2 ^ 64;have e1:69621 * a * a=69621 * (a * a):=Int.mul_assoc _ _ _;have e2:60013 * a * a=60013 * (a * a):=Int.mul_assoc _ _ _;rw[e2] at a0 a1;rw[e1];lia
      ·refine⟨_,rfl,_,_,rfl,rfl,⟨by decide,by decide⟩,_,rfl,_,_,rfl,rfl,(by show (0:Int)<zB;lia),?_⟩;exact k _ _ (cA _ (by lia)) (bW _ (by lia)) ⟨⟨a+1,l,I,by lia,by lia,ac⟩,⟨ob,J⟩,U⟩ ad
def yk (T:Txt K mg t):FnOk P w K mg base CX0 1 t.f1 t.d1 lw (spV 2 false zhz):=FnOk.lift (FnOk.mono (zen T) (by decide)) ziY
def zdd (T:Txt K mg t):FnOk P w K mg base CX0 1 t.f2 t.d2 lq zmQ:=by
 refine T.q2.F.okQ yT (λvs H Q E h=>?_) (λI A outer s H vs Q E O h=>?_)
 ·obtain⟨a,ns,rfl,_⟩:=h;rfl
 ·obtain⟨a,ns,rfl,q,J,k⟩:=h
  refine⟨_,(zS (xG (i:=1) yT.nd rfl (Or.inl rfl) ym)
   (zS (zjC bB rfl (zmG (qv 0)) (zbY (i:=2) yT.nd rfl (Or.inl rfl)) (xw (xG (i:=1) yT.nd rfl (Or.inl rfl) (yI zbT (qv 1) (qv 2)))))
   (xw (za9 (qv 1))))),?_⟩
  refine⟨_,rfl,a,rfl,⟨_,.of q⟩,zns (K:=K) (xs:=ns.map V.int) (λi σ H2=>H2=H/\∃v,σ=[some (.ref a),some (.int (yS (ns.take i))),v]) ⟨rfl,none,rfl⟩ (λi σ H2 _ ⟨e,_⟩=>e ▸ .of q) ?_ ?_⟩
  ·rintro i y σ H2 hi ⟨rfl,v,rfl⟩;rw[aE] at hi;obtain⟨z,B,rfl⟩:=aF.mp hi;have U:=J z (aA B);refine⟨_,rfl,_,rfl,_,_,rfl,rfl,.inr ⟨by lia,by lia⟩,rfl,some (.int z),?_⟩;rw[zi B,xF];rfl
  ·rintro σ H2 ⟨rfl,v,rfl⟩;refine⟨_,rfl,?_⟩;rw[ab,bz];exact k
def zcj (T:Txt K mg t):FnOk P w K mg base CX0 1 t.f2 t.d2 lq (spV 1 false zl7):=FnOk.lift (FnOk.mono (zdd T) (by decide)) ziX
@[reducible] def zmY:FV:=λ_ q n R=>∃rm:List Int,q=[.d (stD rm)]/\(∀r∈rm,2<=r/\r<=4)/\R (.d (.bl (decide (yS rm<=64)))) n
def zeq (T:Txt K mg t):FnOk P w K mg base CX0 2 t.f3 t.d3 lq (spV 1 false zmY):=by have G2:=zcj (P:=P) (w:=w) (base:=base) T;refine Fun.okW (k:=1) (fr:=false) [] 0 T.q3.F zfM rfl (by decide) rfl λq A outer s H E Pn B=>⟨_,(zk (zM (zkQ zqN u_le (JE.bo (wE zq <| yA T.q2 G2 B (za (kv 0) zc))) (JE.bo (znH rfl T.c_MOST_OF_SMALL)) (zR _)))),λO n R I=>?_⟩;obtain⟨rm,rfl,J,r⟩:=I;left;exact⟨rm,rfl,J,r⟩
@[reducible] def zpB:FV:=λ_ q n R=>∃rm:List Int,q=[.d (stD rm)]/\(∀r∈rm,2<=r/\r<=4)/\yS rm<=64/\R (.d .non) n
def zaT (T:Txt K mg t):FnOk P w K mg base CX0 3 t.f4 t.d4 lq (spV 1 false zpB):=by have G3:=zeq (P:=P) (w:=w) (base:=base) T;refine Fun.okW (k:=2) (fr:=false) [] 0 T.q4.F zbn rfl (by decide) rfl λq A outer s H E Pn B=>⟨_,(zk (wS z6 <| uq (wT zi8 <| zmt (wT zu <| zeb (JE.bo (wE zq <| yA T.q3 G3 B (za (kv 0) zc))))) (zk ztj) z5)),λO n R I=>?_⟩;obtain⟨rm,rfl,J,hp,r⟩:=I;left;refine⟨rm,rfl,J,?_⟩;rw[aD hp];left;exact r
def zfy (T:Txt K mg t):FnOk P w K mg base CX0 1 t.f5 t.d5 lJ (zcJ K):=by
 refine T.q5.F.okQ x6 (λvs H Q E h=>?_) (λcb A outer s H vs Q E hr h=>?_)
 ·obtain⟨ca,xs,cs,rfl,_⟩:=h;rfl
 ·obtain⟨ca,xs,cs,rfl,a4,hL,bo,a5,k⟩:=h;have ad:=zfW bo a5
  refine⟨_,(zS (xG (i:=1) x6.nd rfl (Or.inl rfl) (zjy (yf (zfC yP) yP)))
   (zS (zjC bB rfl (zfD (qv 0)) (zbY (i:=2) x6.nd rfl (Or.inr rfl)) (xw (zly (ix:=1) x6.nd rfl rfl (N:=lC) (cix:=[none,none,some 2]) rfl (by walk_at "c") (zfD (qv 1)) (λ_ _ _ _=>(zbY (i:=0) (show (lC:List Str).Nodup by decide +kernel) rfl (Or.inl rfl))) (λ_ _ _ _=>zfF) (λ_ _ _ _=>(zdo K rfl (qv 2))) (λ_ _ _ _=>(zbY (i:=1) (show (lC:List Str).Nodup by decide +kernel) rfl (Or.inl rfl))) (λ_ _ _ _=>zfF) (λ_ _ _ _=>(yI (zle K rfl) (qv 0) (zfC (yf (qv 1) yP)))))))
   (xw (za9 (qv 1))))),?_⟩
  refine⟨(by show 0<=sizeLine;decide),λe0 H1 _ g1 S1=>⟨(by show 1<=sizeLine;decide),λr0 H2 n2 g2 S2=>?_⟩⟩;have S02:yM H H2:=λb o e=>S2 _ _ (S1 _ _ e)
  have bs:H r0=none:=by
   cases e:H r0 with
   | none=>rfl
   | some o=>rw[S1 _ _ e] at n2;cases n2
  refine⟨_,rfl,ca,rfl,⟨xs,.inl (a4.same S02)⟩,zkF (K:=K) (xs:=xs) (λi σ H3=>∃ (ra:Addr) (ys:List V) (v2:Option V),σ=[some (.ref ca),some (.ref ra),v2]/\H ra=none/\H3 ra=some (.lst ys)/\IsL H3 ((z0 (cs.take i)).map stD) ys/\yM H H3)
   ⟨r0,_,none,rfl,bs,g2,⟨_,_,rfl,⟨e0,_,rfl,S2 _ _ g1,rfl⟩,rfl⟩,S02⟩ (λi σ H3 _ ⟨_,_,_,_,_,_,_,S⟩=>.inl (a4.same S)) ?_ ?_⟩
  ·rintro i x σ H3 hi ⟨ra,ys,v2,rfl,a7,ac,Y,S3⟩;have bx:=(af.mp hi).1;have Z:i<cs.length:=by rw[<- hL.1];exact bx
   obtain⟨wa,bb,bc⟩:=hL.2 i cs[i] (aj Z);rw[hi] at bb;cases bb;have ag:=a5 cs[i] (a9 Z);have as:cs.take (i+1)=cs.take i++[cs[i]]:=zi (aj Z);have b0:=ad i;have a0:=ad (i+1);rw[as,yv] at a0;have a1:=Y.length;rw[ab] at a1
   have al:∀I∈z0 (cs.take i),I.length<=8:=λI hr=>by rw[zcN _ _ hr,bn];lia
   generalize cs[i]=ws at bc ag as a0;generalize a2:z0 (cs.take i)=rows at Y b0 a0 a1 al;have an:=bc.same S3;refine⟨_,rfl,ra,rfl,⟨_,.of ac⟩,λacc O=>?_⟩;refine zgZ (xs:=ys) O (λj J H'=>(∃v0 v1,J=[v0,v1,some (.ref wa)])/\(∃zs,H' acc=some (.lst zs)/\IsL H' ((ue (rows.take j) ws).map stD) zs)/\yM H3 H') (λH' z1 z2=>⟨⟨_,_,rfl⟩,⟨[],z1,rfl⟩,z2⟩) (λ_ _ _ _ ⟨_,_,S⟩=>.of (S _ _ ac)) ?_ ?_
   ·rintro j y J H4 hy ⟨⟨v0,v1,rfl⟩,⟨zs,B,q⟩,S4⟩;obtain⟨d,hd,b1⟩:=(Y.stay (zl.same S4)).get hy;rw[aE] at hd;obtain⟨I,a3,rfl⟩:=aF.mp hd;obtain⟨rwa,rv,rfl,bd,b2⟩:=b1;obtain rfl:=b2.of_ints;have cd:=(af.mp a3).1;have ch:=al I (aA a3);show zhP _ zaW _ _ _ _ _ _ _ _ _;refine zmy ?_;refine⟨_,rfl,wa,rfl,⟨_,.inl (an.same S4)⟩,?_⟩;refine zg7 (xs:=ws.map V.int) (λm J H'=>(∃v1,J=[some (.ref rwa),v1,some (.ref wa)])/\(∃zs,H' acc=some (.lst zs)/\IsL H' ((ue (rows.take j) ws++(ws.take m).map λw=>I++[w]).map stD) zs)/\yM H3 H'/\H' rwa=some (.tup (I.map V.int))) ⟨⟨_,rfl⟩,⟨zs,B,by simpa using q⟩,S4,bd⟩ (λ_ _ _ _ ⟨_,_,S,_⟩=>.inl (an.same S)) ?_ ?_
    ·rintro m u J H5 hu ⟨⟨v1,rfl⟩,⟨zs,B,q⟩,S5,U⟩;rw[aE] at hu;obtain⟨wv,bl,rfl⟩:=aF.mp hu;have cn:=(af.mp bl).1;refine zpN ⟨_,rfl,_,rfl,(by show 1<=sizeLine;decide),λt1 H6 _ g6 S6=>?_⟩;refine⟨rwa,t1,_,_,rfl,rfl,S6 _ _ U,g6,cR (zeD (by rw[ab];show I.length+1<=1000;lia)),λt2 H7 g7 S7=>?_⟩;have S57:yM H5 H7:=λb o e=>S7 _ _ (S6 _ _ e);have b3:=q.length;rw[ab,aq,uH,ab,bn,bn] at b3;have co:=uH rows ws;have b4:(min j rows.length) * ws.length<=65536 * 4:=Nat.mul_le_mul (by lia) ag;refine⟨zs,S57 _ _ B,bC (show zs.length<=500000 by lia) (by decide),⟨_,rfl⟩,⟨_,zf,?_⟩,zlJ O λb o e=>S57 _ _ (S5 _ _ e),?_⟩
     ·refine IsL.stayT (zdK.app (S57 _ _ B)) (uJ _) ?_;rw[zi bl,aP (l₁:=ws.take m),<- ax,aP];refine (q.stay (zl.same S57)).append (IsL.one ⟨t2,_,rfl,g7,?_⟩);rw[aP];exact IsL.ints.append (IsL.ints (ns:=[wv]))
     ·rw[zd (zje (S57 _ _ U) (S57 _ _ B) (by intro z;cases z))];exact S57 _ _ U
    ·rintro J H5 ⟨⟨v1,rfl⟩,⟨zs,B,q⟩,S5,U⟩;rw[ab,bz] at q;refine⟨⟨_,_,rfl⟩,⟨zs,B,?_⟩,S5⟩;rw[zi a3,ze3];exact q
   ·rintro J H4 ⟨⟨v0,v1,rfl⟩,⟨zs,B,q⟩,S4⟩;rw[a1,bz] at q;refine⟨acc,zs,_,rfl,?_,B,?_,λb o e=>S4 _ _ (S3 _ _ e)⟩
    ·cases e:H acc with
     | none=>rfl
     | some o=>rw[S3 _ _ e] at O;cases O
    ·rw[as,yv,a2];exact q
  ·rintro σ H3 ⟨ra,ys,v2,rfl,a7,ac,Y,S3⟩;rw[hL.1,bz] at Y;exact⟨_,rfl,k ra ys H3 a7 ac Y S3⟩
def zep (T:Txt K mg t):FnOk P w K mg base CX0 1 t.f5 t.d5 lJ (spV 1 true zcn):=FnOk.lift (FnOk.mono (zfy T) (by decide)) zc8
inductive F_sts  (Pn:PN):List W->Nat->(W->Nat->Prop)->Prop
 | i {n:Nat} {R:W->Nat->Prop} {rm:List Int} (hR:RoomOk rm) (h:R (.d (zbw (z0 (rm.map zh)))) n)  : F_sts Pn [.d (stD rm)] n R
def zaq (T:Txt K mg t):FnOk P w K mg base CX0 2 t.f6 t.d6 lq (spV 1 true F_sts):=by
 have G5:=zep (P:=P) (w:=w) (base:=base) T;refine Fun.okW (k:=1) (fr:=true) [] 0 T.q6.F zeA rfl (by decide) rfl λI A outer s H E Pn J=>⟨_,(zk (zM (wE zq <| yA T.q5 G5 J (za (zbH (N:=["worths"]) (cix:=[none]) rfl (by walk_at "c") (wI uZ <| zbI K rfl (kv 0)) (λ_ _ _ _=>(wG zN <| zm (i:=0) (show (["worths"]:List Str).Nodup by decide +kernel))) (λ_ _ _ _=>xR) (λ_ _ _ _=>(wE zfs <| ziE T.b_list T.b_range (zo (kb 0) zx)))) zc)))),λws n R O=>?_⟩;obtain @⟨_,_,rm,q,r⟩:=O;left;refine zdS rm (λi=>W.d (.int i)) (by rw[aI];rfl) (λρ=>∃a,ρ=[a]) (λm=>lsD (zh m)) (az q.few (by decide)) ⟨_,rfl⟩ ?_ ?_
 ·rintro m B U ⟨a,rfl⟩ C Y;have hb:=q.box m B;left;refine⟨⟨by lia,by lia⟩,?_⟩;have Z:lsD (zh m)=Dt.lst (zlI m.toNat):=by unfold lsD zh zlI;rw[aI];rfl
  rw[<- Z];exact Y ⟨_,rfl⟩
 ·left;refine⟨rm.map zh,by rw[aI];rfl,by rw[ab];exact q.few,λc hc=>?_,r⟩;obtain⟨m,B,rfl⟩:=aG.mp hc;have:=q.box m B;rw[xH];lia
inductive F_chg  (Pn:PN):List W->Nat->(W->Nat->Prop)->Prop
 | i {n:Nat} {R:W->Nat->Prop} {st:List Int} {b x:Int} (b0:0<=b) (hz:st.length<=1000) (h:R (.d (stD (chg st b x))) n)  : F_chg Pn [.d (stD st),.d (.int b),.d (.int x)] n R
def zbO (T:Txt K mg t):FnOk P w K mg base CX0 1 t.f7 t.d7 lx (spV 3 false F_chg):=by refine Fun.okW (k:=0) (fr:=false) [] 0 T.q7.F zhm rfl (by decide) rfl λB A outer s H E Pn O=>⟨_,(zk (zM (uI yO uF (JE.bo (uI yO uF (JE.bo (wE uz <| zea (kb 0) y4 (wO yy <| y6 (kb 1)))) (JE.bo (yB (za (kv 2) zc))))) (JE.bo (wE uz <| zea (kb 0) (wO yy <| y6 (JE.bo (uI yq u4 (kb 1) (JE.bo zy)))) y4))))),λU n R I=>?_⟩;obtain @⟨_,_,st,b,x,J,q,r⟩:=I;left;refine⟨zf4 q,?_⟩;left;refine⟨zf5 q,?_⟩;rw[zhM J q];exact r
inductive F_kps  (Pn:PN):List W->Nat->(W->Nat->Prop)->Prop
 | i {n:Nat} {R:W->Nat->Prop} {st:List Int} {g:List (Int×Int)} (hg:∀q∈g,0<=q.1/\q.1<st.length) (h:R (.d (.bl (yz st g))) n)  : F_kps Pn [.d (stD st),.d (zeR g)] n R
def zjk (T:Txt K mg t):FnOk P w K mg base CX0 1 t.f8 t.d8 lE (spV 2 false F_kps):=by
 refine Fun.okW (k:=0) (fr:=false) [] 2 T.q8.F zdv rfl (by decide) rfl λZ A outer s H E Pn hr=>⟨_,(ze (ug bB rfl (wI uZ <| zbI K rfl (kv 1)) (wG zad <| zah (n:=2) K rfl rfl (wH zW <| zv (wG zN <| zm (i:=2) zdv.nd) (wH zW <| zv (wG zN <| zm (i:=3) zdv.nd) (wH zac xQ)))) (zk (wS z6 <| uq (wT zu <| zT zod zul (JE.bo (zc5 xo zaA (kb 0) (kb 2) (λ_ _=>rfl))) (kb 3) (zR _)) (zk (zM zki)) z5)))
   (zk (zM zki))),λws n R hF=>?_⟩
 obtain @⟨_,_,st,g,hg,r⟩:=hF;left;refine xN g (λq=>.d (ye q)) (by rw[aI];rfl) (λi ρ m=>m=n/\(∃J O,ρ=[some (.d (stD st)),some (.d (zeR g)),J,O])/\yz st (g.take i)=true) ⟨rfl,⟨_,_,rfl⟩,rfl⟩ ?_ ?_
 ·rintro i q ρ m U ⟨rfl,⟨J,O,rfl⟩,I⟩ C B E hC _ hE;have Y:=hg q (aA U);left;refine onA Y.1 Y.2 ?_;left;refine zn5 (λh=>?_) (λh=>?_)
  ·left;refine hE ?_
   have e:yz st g=false:=by unfold yz;exact List.all_eq_false.mpr ⟨q,aA U,λz=>h (bj z)⟩
   rw[e] at r;exact r
  ·left;refine hC ⟨rfl,⟨_,_,rfl⟩,?_⟩;unfold yz at I ⊢;rw[zi U,List.all_append,I];simp[h]
 ·rintro ρ m ⟨rfl,⟨J,O,rfl⟩,I⟩;rw[bz] at I;rw[I] at r;left;exact r
def zf1{rm:List Int}{bk:List Wi}{st hs:List Int}(J:RoomOk rm)(I:xf rm bk)(B:st.length=rm.length){Q:W->Nat->Prop}(r:Q (.d (zbw (xz bk st hs))) n):scR (eTp 4 (eCn (eN 0) (eCn (eN 1) (eCn (eN 2) (eCn (eN 3) eNl))))) (zsf (zpV (zmv dEq (zmv zsg (zg2 4) (zg2 1)) (zg2 3))) (zsf (zpV (zmv zcX (zg2 1) (zg2 5))) (zpV (dFn 2 (F_kps Pn) (zfq (zg2 4) (zfq (zg2 0) zsq))))))
  (dFn 3 (F_chg Pn) (zfq (zg2 4) (zfq (zg2 1) (zfq (zg2 2) zsq)))) [none,none,none,none,some (.d (stD st)),some (.d (stD hs))] (λks n'=>∃m,ks.length<64/\1<=m/\(∀st∈ks,st.length=m)/\∀l':List (List Int),l'.Perm ks->(l'.Pairwise λa b=>HT.lexLt a b=true)->Q (.d (zbw l')) n') ((bk.map zV).map W.d) n:=by
 have h8:=J.few;have F:∀ks:List (List Int),ks.Nodup->(∀z∈ks,z∈zfc bk st hs)->ks.length<=32:=λks h1 h2=>zd2 I h8 J.box h1 h2;refine zpa bk (λx=>W.d (zV x)) (by rw[aI];rfl) (λρ=>∃a b c d,ρ=[a,b,c,d,some (.d (stD st)),some (.d (stD hs))]) (λx=>xC st x&&!hs.contains x.b) (λx=>chg st x.b x.r) ⟨_,_,_,_,rfl⟩ ?_ (λks h1 h2=>by have:=F ks h1 h2;lia) ?_
 ·rintro x hx ac ⟨a,b,c,d,rfl⟩ C hY O;have U:=I x hx;have b0:=U.b0;have b1:=U.b1;left;refine onA b0 (by lia) ?_;left;refine zck (λY=>?_) (λY=>O (by unfold xC;rw[aO Y];simp) ⟨_,_,_,_,rfl⟩);left;refine⟨hs,rfl,?_⟩;left;refine zqz (λZ=>?_) (λZ=>O (by rw[Z];simp) ⟨_,_,_,_,rfl⟩);left;refine F_kps.i (λq hq=>?_) ?_
  ·have:=U.giv.ok q hq;rw[B];exact⟨this.1,this.2.1⟩
  left;refine zn4 (λhk=>?_) (λhk=>O (by unfold xC;rw[hk];simp) ⟨_,_,_,_,rfl⟩);left;refine F_chg.i b0 (by lia) ⟨_,rfl,hY ?_ ⟨_,_,_,_,rfl⟩⟩;unfold xC;rw[aD Y,hk,Z];rfl
 ·intro ks h1 h2;refine⟨rm.length,by have:=F ks h1 λz hz=>(h2 z).mp hz;lia,J.pos,λz hz=>zae I B z ((h2 z).mp hz),λl' hp hu=>?_⟩;rw[show l'=xz bk st hs from zlN (zae I B) hu λz=>(hp.mem_iff).trans (h2 z)];exact r
inductive F_bet  (Pn:PN):List W->Nat->(W->Nat->Prop)->Prop
 | i {n:Nat} {R:W->Nat->Prop} {rm:List Int} {bk:List Wi} {st hs:List Int} {v:W} (hv:v = .d (stD hs)\/(hs=[]/\v = .d .non)) (hR:RoomOk rm) (hB:xf rm bk) (hst:st.length=rm.length) (h:R (.d (zbw (xz bk st hs))) n)  : F_bet Pn [.d (stD rm),.d (zF bk),.d (stD st),v] n R
def zci (T:Txt K mg t):FnOk P w K mg base CX0 2 t.f9 t.d9 ly (spV 4 true F_bet):=by
 have G7:=zbO (P:=P) (w:=w) (base:=base) T;have G8:=zjk (P:=P) (w:=w) (base:=base) T
 refine FunD.okW (k:=1) (fr:=true) [] 1 T.q9.F zax rfl (by decide) rfl λO A outer s H E Pn B=>⟨_,(ze (wS zD <| zY (i:=4) zax.nd (wE zqr <| j_if (wT zu <| zqg (kb 3)) (yB zc) (kv 3)))
   (zk (zM (zkS T.b_sorted (zg6 B) (N:=lc) (cix:=[none,none,none,none,some 2,some 4]) rfl (by walk_at "c") (wI uZ <| zbI K rfl (kv 1)) (λ_ _ _ _=>(wG zad <| zah (n:=4) K rfl rfl (wH zW <| zv (wG zN <| zm (i:=0) (show (lc:List Str).Nodup by decide +kernel)) (wH zW <| zv (wG zN <| zm (i:=1) (show (lc:List Str).Nodup by decide +kernel)) (wH zW <| zv (wG zN <| zm (i:=2) (show (lc:List Str).Nodup by decide +kernel)) (wH zW <| zv (wG zN <| zm (i:=3) (show (lc:List Str).Nodup by decide +kernel)) (wH zac xQ))))))) (λ_ _ _ _=>(zc6 (JW.t (wW zaQ <| zct (wT zu <| zT zhg zpy (JE.bo (zc5 xo zaA (kb 4) (kb 1) (λ_ _=>rfl))) (kb 3) (zR _)) (wW zaQ <| zct (wT zu <| zT zet zlV (kb 1) (kb 5) (by with_unfolding_all rfl)) (zai (.inl rfl) (wT zu <| zeb (JE.bo (wE zq <| yA T.q8 G8 B (za (kv 4) (za (kv 0) zc))))))))))) (λ_ _ _ _=>(wE zq <| yA T.q7 G7 B (za (kv 4) (za (kv 1) (za (kv 2) zc))))))))),λZ n R U=>?_⟩
 obtain @⟨_,_,rm,bk,st,hs,v,Y,I,J,q,r⟩:=U;left;rcases Y with rfl | ⟨rfl,rfl⟩
 ·left;exact zf1 I J q r
 ·left;exact zf1 I J q r
structure Gr (V:List (List Int))(g:List Int->List (List Int)):Prop where
 nd:V.Nodup
 few:V.length<=256
 sub:∀s∈V,∀t∈g s,t∈V
 snd:∀s∈V,(g s).Nodup
 gl:∀s∈V,(g s).length<=32
def ldD (V:List (List Int))(g:List Int->List (List Int)):List (List Int×Dt):=V.map λs=>(s,zbw (g s))
def mkD (V:List (List Int))(c:List Int->Int):List (List Int×Dt):=V.map λs=>(s,.int (c s))
def zgx {f:List Int->Dt}{s:List Int}:∀ {V:List (List Int)},s∈V->yt (V.map λs=>(s,f s)) s=some (f s)
 | v::V,h=>by
  by_cases e:v=s
  ·simp[yt,e]
  ·have:=zgx (f:=f) ((ay.mp h).resolve_left λz=>e z.symm);simpa [yt,e] using this
def ztH {V:List (List Int)}{c:List Int->Int}{t:List Int}{x:Int}(h:t∈V):zex (mkD V c) t (.int x)=mkD V λs=>if s=t then x else c s:=by
 unfold zex mkD;rw[if_pos (gf.mpr ⟨(t,.int (c t)),aG.mpr ⟨t,h,rfl⟩,aD rfl⟩),aI];refine dM λs _=>?_;by_cases e:s=t
 ·simp[e]
 ·simp[e]
def zsm {V:List (List Int)}{g:List Int->List (List Int)}:((ldD V g).map λq=>W.d (stD q.1))=V.map λs=>W.d (stD s):=by unfold ldD;rw[aI];rfl
def zhH{rm:List Int}{s t:List Int}(B:xf rm bk)(hs:StOk rm s)(F:t∈xz bk s []):StOk rm t:=by obtain⟨x,I,_,_,rfl⟩:=yG.mp (zZ.mp F);have q:=B x I;exact zdx hs q.b0 q.b1 q.r0 q.r1
def bet_gr{rm:List Int}(B:RoomOk rm)(q:xf rm bk)(F:(z0 (rm.map zh)).length<=256):Gr (z0 (rm.map zh)) λs=>xz bk s [] where
 nd:=zfY rm
 few:=F
 sub:=λs hs t I=>zdy (zhH q (ya _ _ hs) I)
 snd:=λs hs=>zr0 (zm6 q (ya _ _ hs).len)
 gl:=λs hs=>zm5 q B.few B.box (ya _ _ hs).len
inductive F_ab  (Pn:PN):List W->Nat->(W->Nat->Prop)->Prop
 | i {n:Nat} {R:W->Nat->Prop} {rm:List Int} {bk:List Wi} (hR:RoomOk rm) (hB:xf rm bk) (h:R (.df (ldD (z0 (rm.map zh)) λs=>xz bk s [])) n)  : F_ab Pn [.d (stD rm),.d (zF bk)] n R
def zap (T:Txt K mg t):FnOk P w K mg base CX0 3 t.f10 t.d10 lu (spV 2 false F_ab):=by
 have G6:=zaq (P:=P) (w:=w) (base:=base) T;have G9:=zci (P:=P) (w:=w) (base:=base) T;refine Fun.okW (k:=2) (fr:=false) [] 0 T.q10.F zaV rfl (by decide) rfl λI A outer s H E Pn q=>⟨_,(zk (zM (ztf (zkR (zg6 q) (N:=["standing","room","book"]) (cix:=[none,some 0,some 1]) rfl (by walk_at "c") (wI uX <| uW K rfl (wE zq <| yA T.q6 G6 q (za (kv 0) zc))) (λ_ _ _ _=>(wG zN <| zm (i:=0) (show (["standing","room","book"]:List Str).Nodup by decide +kernel))) (λ_ _ _ _=>xR) (λ_ _ _ _=>(kb 0)) (λ_ _ _ _=>(zte T.q9 G9 q (za (kv 1) (za (kv 2) (za (kv 0) zc))))))))),λws n R J=>?_⟩;obtain @⟨_,_,rm,bk,B,O,r⟩:=J;left;refine F_sts.i B ?_;left;refine zku (z0 (rm.map zh)) (by rw[aI];rfl) (λρ=>∃a,ρ=[a,some (.d (stD rm)),some (.d (zF bk))]) (λ_=>true) (λs=>zbw (xz bk s [])) (zfY rm) (az (zm2 B) (by decide)) ⟨_,rfl⟩ ?_ ?_
 ·rintro s hs U ⟨a,rfl⟩ C Y Z;left;refine F_bet.i (.inr ⟨rfl,rfl⟩) B O (ya _ _ hs).len ?_;left;exact⟨_,rfl,Y rfl ⟨_,rfl⟩⟩
 ·rw[List.filter_eq_self.mpr λ_ _=>rfl];exact r
def zhK{rm:List Int}(h:xf rm bk):xf rm (bk.map xh):=λx q=>by obtain⟨y,B,rfl⟩:=aG.mp q;exact (h y B).turn
inductive F_trn  (Pn:PN):List W->Nat->(W->Nat->Prop)->Prop
 | i {n:Nat} {R:W->Nat->Prop} {bk:List Wi} (hl:bk.length<=3000) (h:R (.d (zF (bk.map xh))) n)  : F_trn Pn [.d (zF bk)] n R
def zhf (T:Txt K mg t):FnOk P w K mg base CX0 1 t.f11 t.d11 ["book"] (spV 1 false F_trn):=by
 refine Fun.okW (k:=0) (fr:=false) [] 0 T.q11.F zjU rfl (by decide) rfl λq A outer s H E Pn U=>⟨_,(zk (zM (xP yF zb9 (by rfl) T.b_tuple cw (zo (JE.bo (zbH (N:=lj) (cix:=[none,none,none,none]) rfl (by walk_at "c") (wI uZ <| zbI K rfl (kv 0)) (λ_ _ _ _=>(wG zad <| zah (n:=4) K rfl rfl (wH zW <| zv (wG zN <| zm (i:=0) (show (lj:List Str).Nodup by decide +kernel)) (wH zW <| zv (wG zN <| zm (i:=1) (show (lj:List Str).Nodup by decide +kernel)) (wH zW <| zv (wG zN <| zm (i:=2) (show (lj:List Str).Nodup by decide +kernel)) (wH zW <| zv (wG zN <| zm (i:=3) (show (lj:List Str).Nodup by decide +kernel)) (wH zac xQ))))))) (λ_ _ _ _=>xR) (λ_ _ _ _=>(yB (za (kv 0) (za (kv 1) (za (kv 3) (za (kv 2) zc)))))))) zx)))),λY n R B=>?_⟩;obtain @⟨_,_,bk,I,r⟩:=B;left;refine zdS bk (λx=>W.d (zV x)) (by rw[aI];rfl) (λρ=>∃a b c d,ρ=[a,b,c,d]) (λx=>zV (xh x)) (az I (by decide)) ⟨_,_,_,_,rfl⟩ ?_ ?_
 ·rintro x Z J ⟨a,b,c,d,rfl⟩ C O;left;exact O ⟨_,_,_,_,rfl⟩
 ·left;rw[show (bk.map λx=>zV (xh x))=(bk.map xh).map zV by rw[aI];rfl];exact r
def za0 (b:List Wi)(a c:List Int):Prop:=c∈xz b a []\/a∈xz b c []
noncomputable instance (b:List Wi) (a c:List Int):Decidable (za0 b a c):=Classical.propDecidable _
noncomputable def yC:List (List Wi)->List Int->List Int->Bool
 | [],_,_=>false
 | b::r,a,c=>if za0 b a c then decide (c∈xz b a []) else yC r a c
def yx{a c:List Int}:yC (b::r) a c=if za0 b a c then decide (c∈xz b a []) else yC r a c:=rfl
def zd3{a c:List Int}:za0 b a c↔za0 b c a:=⟨Or.symm,Or.symm⟩
def xU {a c:List Int}:∀ {x y:List (List Wi)},yC (x++y) a c=if (∃b∈x,za0 b a c) then yC x a c else yC y a c
 | [],y=>by simp
 | b::x,y=>by
  rw[cG,yx,yx];by_cases h:za0 b a c
  ·rw[if_pos h,if_pos ⟨b,by simp,h⟩,if_pos h]
  ·rw[if_neg h,if_neg h,xU];have e:(∃B∈b::x,za0 B a c)↔∃B∈x,za0 B a c:=⟨λ⟨z,F,q⟩=>(ay.mp F).elim (λe=>absurd (e ▸ q) h) λF=>⟨z,F,q⟩,λ⟨z,F,q⟩=>⟨z,ai _ F,q⟩⟩;by_cases h2:∃B∈x,za0 B a c
   ·rw[if_pos h2,if_pos (e.mpr h2)]
   ·rw[if_neg h2,if_neg λz=>h2 (e.mp z)]
def znP{a c:List Int}:yC [b] a c=decide (c∈xz b a []):=by
 rw[yx];split
 ·rfl
 ·rename_i h;exact (aO λz=>h (.inl z)).symm
def zfo {a c:List Int}:∀ {x:List (List Wi)},(yC x a c=true\/yC x c a=true)↔∃b∈x,za0 b a c
 | []=>by simp[yC]
 | b::x=>by
  rw[yx,yx];by_cases h:za0 b a c
  ·rw[if_pos h,if_pos (zd3.mp h)];refine⟨λ_=>⟨b,by simp,h⟩,λ_=>?_⟩;rcases h with h | h
   ·exact .inl (aD h)
   ·exact .inr (aD h)
  ·rw[if_neg h,if_neg λz=>h (zd3.mp z),zfo];exact⟨λ⟨z,B,q⟩=>⟨z,ai _ B,q⟩,λ⟨z,B,q⟩=>(ay.mp B).elim (λe=>absurd (e ▸ q) h) λB=>⟨z,B,q⟩⟩
def ziT{a c:List Int}(h:yC x a c=true):∃b∈x,c∈xz b a []:=by
 induction x with
 | nil=>cases h
 | cons b x q=>
  rw[yx] at h;split at h
  ·exact⟨b,by simp,bj h⟩
  ·obtain⟨B,h1,h2⟩:=q h;exact⟨B,ai _ h1,h2⟩
def zqm{a c:List Int}(q:∀B∈bks.take i,¬ za0 B a c)(F:bks[i]?=some b)(h:za0 b a c):yC bks a c=decide (c∈xz b a []):=by
 obtain⟨hi,e⟩:=af.mp F
 have I:bks=bks.take i++b::bks.drop (i+1):=by
  conv=>lhs;rw[<- aM i bks]
  rw[cK hi,e]
 rw[I,xU,if_neg λ⟨z,h1,h2⟩=>q z h1 h2,yx,if_pos h]
def ziS(h:b∈x)(a c:List Int):yC (x++b::y) a c=yC (x++y) a c:=by
 rw[xU,xU];split
 ·rfl
 ·rename_i n;rw[yx,if_neg λz=>n ⟨b,h,z⟩]
def znO(a c:List Int):yC (x++[]::y) a c=yC (x++y) a c:=by
 rw[xU,xU];split
 ·rfl
 ·rw[yx,if_neg];rintro (z | z)
  ·cases zZ.mp z
  ·cases zZ.mp z
def zsH (rm:List Int)(bk:List Wi)(f:List Int->List Int->Bool):Prop:=∀a∈z0 (rm.map zh),∀c,c∈xz bk a []↔f a c=true
def zak{rm:List Int}{a c:List Int}(h:zsH rm bk (yC x))(B:a∈z0 (rm.map zh))(F:c∈z0 (rm.map zh)):yC (bk::y) a c=yC (x++y) a c:=by
 rw[xU];have e:za0 bk a c↔∃b∈x,za0 b a c:=by rw[<- zfo];exact or_congr (h a B c) (h c F a)
 show (if za0 bk a c then decide (c∈xz bk a []) else yC y a c)=_;by_cases q:za0 bk a c
 ·rw[if_pos q,if_pos (e.mp q),bA,bQ];exact h a B c
 ·rw[if_neg q,if_neg λz=>q (e.mpr z)]
def zds (st:List Int)(b:Int):List (Int×Int):=((List.range st.length).filter λk:Nat=>decide ((k:Int)≠b)).map λk:Nat=>((k:Int),zB st k)
def zbD (st:List Int)(b v:Int):Wi:=⟨zds st b,b,v,zB st b⟩
noncomputable def zaw (rm:List Int)(f:List Int->List Int->Bool):List Wi:=(z0 (rm.map zh)).flatMap λst=>(List.range rm.length).flatMap λb:Nat=>((List.range (zB rm b).toNat).filter λv:Nat=>f st (chg st b v)).map λv:Nat=>zbD st b v
def zfJ{rm:List Int}{f:List Int->List Int->Bool}:x∈zaw rm f↔∃st∈z0 (rm.map zh),∃b:Nat,b<rm.length/\∃v:Nat,(v:Int)<zB rm b/\f st (chg st b v)=true/\x=zbD st b v:=by
 unfold zaw;simp only[eS,aQ,aG,bG];constructor
 ·rintro⟨st,h1,b,h2,v,⟨B,q⟩,rfl⟩;exact⟨st,h1,b,h2,v,by lia,q,rfl⟩
 ·rintro⟨st,h1,b,h2,v,B,q,rfl⟩;exact⟨st,h1,b,h2,v,⟨by lia,q⟩,rfl⟩
def zau {st:List Int}{b:Int}{q:Int×Int}:q∈zds st b↔0<=q.1/\q.1<st.length/\q.1≠b/\q.2=zB st q.1:=by
 unfold zds;simp only[aG,bG,aQ,bQ];constructor
 ·rintro⟨k,⟨h1,h2⟩,rfl⟩;exact⟨by simp,by simpa using h1,h2,rfl⟩
 ·rintro⟨h1,h2,B,F⟩;refine⟨q.1.toNat,⟨by lia,by rw[bu h1];exact B⟩,?_⟩;rw[bu h1,<- F]
def zjP {rm st:List Int}{b:Int}(h:StOk rm st):Giv rm (zds st b):=by
 refine⟨λq B=>?_,?_⟩
 ·obtain⟨h1,h2,_,F⟩:=zau.mp B;have:=h.box _ h1 (by rw[<- h.len];exact h2);rw[F];exact⟨h1,by rw[<- h.len];exact h2,this.1,this.2⟩
 ·unfold zds;refine bO.mpr ?_;have:(List.range st.length).Pairwise (· < ·):=c7;exact (this.sublist List.filter_sublist).imp λh=>by show (_:Int)<_;lia
def zaM {rm st a:List Int}{b:Int}(O:StOk rm a)(hs:StOk rm st):yz a (zds st b)=true↔∀k:Int,0<=k->k<rm.length->k≠b->zB a k=zB st k:=by
 unfold yz;rw[bJ];constructor
 ·intro h k B k1 kb;have:=h (k,zB st k) (zau.mpr ⟨B,by rw[hs.len];exact k1,kb,rfl⟩);exact bj this
 ·intro h q F;obtain⟨h1,h2,I,J⟩:=zau.mp F;exact aD (by rw[J];exact h _ h1 (by rw[<- hs.len];exact h2) I)
def zs2 {s t:List Int}(q:s.length=t.length)(h:∀c:Int,0<=c->c<s.length->zB s c=zB t c):s=t:=by refine eO q λi h1 h2=>?_;have:=h (i:Int) (by lia) (by lia);unfold zB at this;simpa [h1,h2] using this
def zgJ {rm st a:List Int}{b:Int}(q:StOk rm a)(hs:StOk rm st)(B:yz a (zds st b)=true)(F:zB a b=zB st b):a=st:=by
 have h:=(zaM q hs).mp B;refine zs2 (by rw[q.len,hs.len]) λc I J=>?_;by_cases e:c=b
 ·rw[e];exact F
 ·exact h c I (by rw[<- q.len];exact J) e
def NxF (rm:List Int)(f:List Int->List Int->Bool):Prop:=∀a∈z0 (rm.map zh),∀c,f a c=true->∃b v:Nat,b<rm.length/\(v:Int)<zB rm b/\zB a b≠v/\c=chg a b v
def ziU{rm:List Int}(F:∀b∈x,xf rm b):NxF rm (yC x):=λa Y c h=>by
 obtain⟨b,I,J⟩:=ziT h;obtain⟨w,O,B,_,rfl⟩:=yG.mp (zZ.mp J);have q:=F b I w O
 have U:zB a w.b=w.w:=by unfold xC at B;rw[aJ] at B;exact bj B.1
 have:=q.b0;have:=q.b1;have:=q.r0;have:=q.r1;have:=q.w0;refine⟨w.b.toNat,w.r.toNat,by lia,?_,?_,?_⟩
 ·rw[bu q.r0,bu q.b0];exact q.r1
 ·rw[bu q.r0,bu q.b0,U];exact λz=>q.ne z.symm
 ·rw[bu q.r0,bu q.b0]
def zmJ {rm:List Int}{f:List Int->List Int->Bool}(hf:NxF rm f):xf rm (zaw rm f):=λx hx=>by
 obtain⟨st,B,b,hb,v,hv,J,rfl⟩:=zfJ.mp hx;have O:=ya _ _ B;have F:=O.box (b:Int) (by lia) (by lia)
 have U:zB st b≠v:=by
  obtain⟨I,v',h1,h2,Z,h4⟩:=hf st B _ J;have hl:st.length=rm.length:=O.len;have e:zB (chg st b v) I=zB (chg st I v') I:=by rw[h4]
  rw[uS (by lia) (by lia) (by lia),uS (by lia) (by lia) (by lia),if_pos rfl] at e;by_cases Y:(I:Int)=b
  ·rw[if_pos Y] at e;rw[<- Y,e];exact Z
  ·rw[if_neg Y] at e;exact absurd e Z
 exact⟨zjP O,by show (0:Int)<=b;lia,by show (b:Int)<_;lia,λq hq=>(zau.mp hq).2.2.1,by show (0:Int)<=v;lia,hv,F.1,F.2,λz=>U z.symm⟩
def zjT{rm:List Int}{f:List Int->List Int->Bool}(Y:NxF rm f)(hp:bk.Perm (zaw rm f)):zsH rm bk f:=λa B c=>by
 have F:=ya _ _ B;constructor
 ·intro h;obtain⟨w,Z,q,_,rfl⟩:=yG.mp (zZ.mp h);obtain⟨st,I,b,O,v,U,J,rfl⟩:=zfJ.mp (hp.mem_iff.mp Z);unfold xC at q;rw[aJ] at q;have e:a=st:=zgJ F (ya _ _ I) q.2 (bj q.1);subst e;exact J
 ·intro h;obtain⟨b,v,O,U,_,rfl⟩:=Y a B c h;refine zZ.mpr (yG.mpr ⟨zbD a b v,hp.mem_iff.mpr (zfJ.mpr ⟨a,B,b,O,v,U,h,rfl⟩),?_,by simp,rfl⟩);unfold xC;rw[aJ];exact⟨aD rfl,(zaM F F).mpr λ_ _ _ _=>rfl⟩
def zbE {rm st q:List Int}{b F v I:Nat}(hs:StOk rm st)(B:StOk rm q)(h:zbD st b v=zbD q F I):st=q/\b=F/\v=I:=by
 unfold zbD at h;injection h with h1 h2 U J;have O:b=F:=by lia
 subst O;refine⟨(zgJ B hs ?_ J.symm).symm,rfl,by lia⟩;rw[h1];exact (zaM B B).mpr λ_ _ _ _=>rfl
def zo1 {rm:List Int}{f:List Int->List Int->Bool}:(zaw rm f).Nodup:=by
 unfold zaw;rw[dC,eK];have F:∀ {st},st∈z0 (rm.map zh)->StOk rm st:=λh=>ya _ _ h
 have B:∀ {st:List Int} {x:Wi},x∈((List.range rm.length).flatMap λb:Nat=>((List.range (zB rm b).toNat).filter λv:Nat=>f st (chg st b v)).map λv:Nat=>zbD st b v)->∃b v:Nat,x=zbD st b v:=λh=>by simp only[eS,aG] at h;obtain⟨b,_,v,_,rfl⟩:=h;exact⟨b,v,rfl⟩
 refine⟨λst q=>?_,?_⟩
 ·rw[eK];refine⟨λb _=>bO.mpr ?_,?_⟩
  ·have:(List.range (zB rm b).toNat).Pairwise (· < ·):=c7;exact (this.sublist List.filter_sublist).imp λh z=>by have:=(zbE (F q) (F q) z).2.2;lia
  ·have:(List.range rm.length).Pairwise (· < ·):=c7;refine this.imp λh x I y J z=>?_;simp only[aG] at I J;obtain⟨v,_,rfl⟩:=I;obtain⟨U,_,rfl⟩:=J;have:=(zbE (F q) (F q) z).2.1;lia
 ·have:=dC.mp (zfY rm);refine this.imp_of_mem λY Z O x I y J z=>?_;obtain⟨b,v,rfl⟩:=B I;obtain⟨b',U,rfl⟩:=B J;exact O (zbE (F Y) (F Z) z).1
def zeQ(h:zV x=zV y):x=y:=by obtain⟨g,b,r,w⟩:=x;obtain⟨g',F,I,w'⟩:=y;simp only[zV,Dt.tup.injEq,dU,Dt.int.injEq,and_true] at h;obtain⟨h1,h2,q,B⟩:=h;rw[zkG (show zeR g=zeR g' from by unfold zeR;rw[h1]),h2,q,B]
def zl2 (x:Wi):(zV x).hk=true:=by show (Dt.hks [_,_,_,_])=true;simp only[Dt.hks,bM,aJ];exact⟨(znu x.g).1,rfl,rfl,rfl⟩
def zie{rm:List Int}(h:WishOk rm x):(zV x).eqOk:=by
 have:PySem.W.kqdOk 8 (Dt.tup [zV x]).toW=true:=(ze7 (rm:=rm) (ds:=[zV x]) λd q=>by rw[ao.mp q];exact⟨x,rfl,h⟩).1
 have B:PySem.W.kqdOk 7 (zV x).toW=true:=by simp only[Dt.toW,Dt.toWs,PySem.W.kqdOk,cg,List.all_nil,bM] at this ⊢;exact this
 exact zeg B 8 (by decide)
def zfK {rm:List Int}{l:List Wi}(hl:xf rm l)(nd:l.Nodup):RowsOk true (l.map zV) where
 key:=λx hx=>by obtain⟨g,hg,rfl⟩:=aG.mp hx;exact⟨zl2 g,zie (hl g hg),rfl⟩
 cmp:=λx hx y hy=>by obtain⟨g,_,rfl⟩:=aG.mp hx;obtain⟨k,_,rfl⟩:=aG.mp hy;show Dt.cmps [_,_,_,_] [_,_,_,_]=true;simp only[Dt.cmps,bM,aJ];exact⟨zdR _ _,rfl,rfl,rfl⟩
 first:=λh2 x hx=>by obtain⟨g,hg,rfl⟩:=aG.mp hx;exact⟨_,_,rfl,rfl⟩
 nd:=by rw[dC] at *;exact bO.mpr (nd.imp λhne z=>hne (zeQ z))
def zbV {α q:Type}{f:α->q}:∀ {r:List α} {l:List q},l.Perm (r.map f)->∃k:List α,l=k.map f/\k.Perm r
 | [],l,h=>⟨[],h.eq_nil,.nil⟩
 | a::r,l,h=>by obtain⟨B,F,rfl⟩:=List.append_of_mem (h.mem_iff.mpr (List.mem_map_of_mem (f:=f) (ak (a:=a) (l:=r))));have h2:(B++F).Perm (r.map f):=(List.perm_middle.symm.trans h).cons_inv;obtain⟨k,e,I⟩:=zbV h2;obtain⟨k1,k2,rfl,rfl,rfl⟩:=List.append_eq_map_iff.mp e;exact⟨k1++a::k2,by simp,List.perm_middle.trans (I.cons a)⟩
def yL (rm:List Int)(f:List Int->List Int->Bool)(bk:List Wi):Prop:=bk.Perm (zaw rm f)/\(bk.map zV).Pairwise ltD
def xM {α q:Type}{f g:α->List q}:∀ {l:List α},(∀a∈l,f a=g a)->l.flatMap f=l.flatMap g
 | [],_=>rfl
 | a::l,h=>by rw[eC,eC,h a (by simp),xM λb B=>h b (ai _ B)]
def zo0 {rm:List Int}{f B:List Int->List Int->Bool}(h:∀a∈z0 (rm.map zh),∀c∈z0 (rm.map zh),f a c=B a c):zaw rm f=zaw rm B:=by unfold zaw;refine xM λst q=>xM λb F=>?_;have I:=ya _ _ q;have J:=aQ.mp F;congr 1;refine List.filter_congr λv O=>h st q _ (zdy (zdx I (by lia) (by lia) (by lia) ?_));have:=aQ.mp O;lia
def xT{rm:List Int}{f B:List Int->List Int->Bool}(h:yL rm f bk)(h':yL rm B q)(e:∀a∈z0 (rm.map zh),∀c∈z0 (rm.map zh),f a c=B a c):bk=q:=by have hp:(bk.map zV).Perm (q.map zV):=(h.1.trans ((zo0 e) ▸ h'.1.symm)).map _;have:=zgG (λ_=>znQ) (λ_ _ _=>zqp) hp h.2 h'.2;exact (dg λ_ _ z=>zeQ z).mp this
def xS{rm:List Int}(q:∀b∈x,xf rm b)(h:yL rm (yC x) bk):xf rm bk/\zsH rm bk (yC x):=⟨λw B=>zmJ (ziU q) w (h.1.mem_iff.mp B),zjT (ziU q) h.1⟩
def zdZ {α q:Type}{P:α->Bool}{g:α->q}:∀l:List α,(l.flatMap λx=>if P x=true then [g x] else [])=(l.filter P).map g
 | []=>rfl
 | a::l=>by rw[eC,List.filter_cons,zdZ l];cases P a <;> rfl
def zil {α q:Type}{f:α->List q}{k:Nat}:∀ {l:List α},(∀a∈l,(f a).length<=k)->(l.flatMap f).length<=l.length * k
 | [],_=>by simp
 | a::l,h=>by rw[eC,aq,aT,Nat.add_mul];have:=h a (by simp);have:=zil λb B=>h b (ai a B);lia
def zgN {rm:List Int}{f:List Int->List Int->Bool}(q:RoomOk rm)(hp:yS rm<=64):(zaw rm f).length<=2048:=by
 have h1:(z0 (rm.map zh)).length<=64:=by
  have:=xJ rm λn F=>by have:=q.box n F;lia
  lia
 have h2:(zaw rm f).length<=(z0 (rm.map zh)).length * 32:=zil λst I=>by
  refine az (zil (k:=4) λb J=>?_) ?_
  ·rw[ab];refine az (List.length_filter_le _ _) ?_;rw[bm];have B:=aQ.mp J;have:=(q.box (zB rm b) (by unfold zB;simp[B])).2;lia
  ·rw[bm];have:=q.few;lia
 lia
inductive F_fw  (Pn:PN):List W->Nat->(W->Nat->Prop)->Prop
 | i {n:Nat} {R:W->Nat->Prop} {st:List Int} {b v:Int} (b0:0<=b) (b1:b<st.length) (h8:st.length<=8) (h:R (.d (zV (zbD st b v))) n)  : F_fw Pn [.d (stD st),.d (.int b),.d (.int v)] n R
def zdh (T:Txt K mg t):FnOk P w K mg base CX0 1 t.f12 t.d12 lB (spV 3 false F_fw):=by
 refine Fun.okW (k:=0) (fr:=false) [] 1 T.q12.F zbh rfl (by decide) rfl λI A outer s H E Pn hr=>⟨_,(ze (wS zD <| zY (i:=3) zbh.nd (xP yF zb9 (by rfl) T.b_tuple cw (zo (JE.bo (zbH (N:=lF) (cix:=[none,none,some 1]) rfl (by walk_at "c") (wI zi7 <| ziF rfl T.b_enumerate (za (kv 0) zc)) (λ_ _ _ _=>(wG zad <| zah (n:=2) K rfl rfl (wH zW <| zv (wG zN <| zm (i:=0) (show (lF:List Str).Nodup by decide +kernel)) (wH zW <| zv (wG zN <| zm (i:=1) (show (lF:List Str).Nodup by decide +kernel)) (wH zac xQ))))) (λ_ _ _ _=>(zc6 (wT zu <| zT zod zul (kb 0) (kb 2) (zR _)))) (λ_ _ _ _=>(yB (za (kv 0) (za (kv 1) zc)))))) zx)))
   (zk (zM (yB (za (kv 3) (za (kv 1) (za (kv 2) (za (zc5 xo zaA (kb 0) (kb 1) (λ_ _=>rfl)) zc)))))))),λws n R J=>?_⟩
 obtain @⟨_,_,st,b,v,O,U,Y,r⟩:=J;left;refine zhO (List.range st.length) (λi:Nat=>W.d (.tup [.int (i:Int),.int (zB st i)])) (zic st) (λρ=>∃q B,ρ=[q,B,some (.d (.int b))]) (λi:Nat=>decide ((i:Int)≠b)) (λi:Nat=>ye ((i:Int),zB st i)) (by rw[bm];exact az Y (by decide)) ⟨_,_,rfl⟩ ?_ ?_
 ·rintro i hi Z ⟨q,B,rfl⟩ C hY hN;left;refine zn5 (λh=>?_) (λh=>?_)
  ·left;exact hY (aD h) ⟨_,_,rfl⟩
  ·exact hN (aO λz=>z h) ⟨_,_,rfl⟩
 ·left;refine onA O U ?_;left;rw[show ((List.range st.length).filter λi:Nat=>decide ((i:Int)≠b)).map (λi:Nat=>ye ((i:Int),zB st i))=(zds st b).map ye by unfold zds;rw[aI];rfl];exact r
noncomputable def ldW (rm:List Int)(bk:List Wi):W:=.df (ldD (z0 (rm.map zh)) λs=>xz bk s [])
def zc7{rm:List Int}{a:List Int}(h:a∈z0 (rm.map zh)):yt (ldD (z0 (rm.map zh)) λs=>xz bk s []) a=some (zbw (xz bk a [])):=zgx h
def zab{rm:List Int}{a:List Int}(F:RoomOk rm)(q:xf rm bk)(h:a∈z0 (rm.map zh)):(zbw (xz bk a [])).eqOk:=zky (n:=rm.length) λd B=>by obtain⟨s,hs,rfl⟩:=aG.mp B;exact⟨s,rfl,(zhH q (ya _ _ h) hs).len⟩
def zbs {a:List Int}{l:List (List Int)}:stD a∈l.map stD↔a∈l:=by
 constructor
 ·intro h;obtain⟨x,h1,h2⟩:=aG.mp h;have:x.map Dt.int=a.map Dt.int:=by simpa [stD] using h2
  rwa[<- (dg λ_ _ z=>by cases z;rfl).mp this]
 ·exact List.mem_map_of_mem
inductive F_led  (Pn:PN):List W->Nat->(W->Nat->Prop)->Prop
 | i {n:Nat} {R:W->Nat->Prop} {rm:List Int} {bks:List (List Wi)} {a c:List Int} (hR:RoomOk rm) (hB:∀b∈bks,xf rm b) (ha:a∈z0 (rm.map zh)) (hc:c∈z0 (rm.map zh)) (h:R (.d (.bl (yC bks a c))) n)  : F_led Pn [.cu (lsW (bks.map (ldW rm))),.d (stD a),.d (stD c)] n R
def zhe (T:Txt K mg t):FnOk P w K mg base CX0 1 t.f13 t.d13 lD (spV 3 false F_led):=by
 refine Fun.okW (k:=0) (fr:=false) [] 1 T.q13.F zez rfl (by decide) rfl λa0 A outer s H E Pn O=>⟨_,(ze (ug bB rfl (zti K rfl (kv 0)) (wG zN <| zm (i:=3) zez.nd) (zk (wS z6 <| uq (JW.t (wW zgv <| zkT (wT zu <| zT (zjm O.units) zpk (kb 2) (JE.bo (zfm (zg6 O) (kb 3) (kb 1) (λ_ _=>rfl))) (by with_unfolding_all rfl)) (zai (.inr rfl) (wT zu <| zT (zjm O.units) zpk (kb 1) (JE.bo (zfm (zg6 O) (kb 3) (kb 2) (λ_ _=>rfl))) (by with_unfolding_all rfl))))) (zk (zM (zkQ (zjm O.units) zpk (kb 2) (JE.bo (zfm (zg6 O) (kb 3) (kb 1) (λ_ _=>rfl))) (by with_unfolding_all rfl)))) z5)))
   (zk (zM zki))),λws n R hF=>?_⟩
 obtain @⟨_,_,rm,bks,a,c,hR,hB,U,hc,r⟩:=hF;left;refine⟨_,rfl,?_⟩;refine xN bks (ldW rm) rfl (λi ρ m=>m=n/\(∃v,ρ=[some (.cu (lsW (bks.map (ldW rm)))),some (.d (stD a)),some (.d (stD c)),v])/\∀b∈bks.take i,¬ za0 b a c) ⟨rfl,⟨none,rfl⟩,by simp⟩ ?_ ?_
 ·rintro i b ρ m Y ⟨rfl,⟨v,rfl⟩,Z⟩ C B E hC _ hE;have al:=aA Y;unfold ldW;left;have I:=hB b al;refine⟨a,rfl,?_⟩
  (with_reducible refine zer (zc7 U) ?_)
  left;refine⟨yX,zab hR I U,λq hq=>?_⟩;rw[zbs] at hq
  have fin:za0 b a c->∀J:Bool,(J=true↔c∈xz b a [])->E (.d (.bl J)) m:=λhs J h2=>by
   refine hE ?_;have e:yC bks a c=J:=by rw[zqm Z Y hs,bA,h2,bQ]
   rw[e] at r;exact r
  refine zn4 (λan=>?_) (λac=>?_)
  ·left;refine⟨a,rfl,?_⟩
   (with_reducible refine zer (zc7 U) ?_)
   left;refine⟨yX,zab hR I U,λJ h2=>?_⟩;rw[zbs] at h2;exact fin (.inl (hq.mp an)) J h2
  ·left;refine⟨c,rfl,?_⟩
   (with_reducible refine zer (zc7 hc) ?_)
   left;refine⟨yX,zab hR I hc,λq3 h3=>?_⟩;rw[zbs] at h3;refine zn4 (λas=>?_) (λad=>?_)
   ·left;refine⟨a,rfl,?_⟩
    (with_reducible refine zer (zc7 U) ?_)
    left;refine⟨yX,zab hR I U,λJ h2=>?_⟩;rw[zbs] at h2;exact fin (.inr (h3.mp as)) J h2
   ·left;refine hC ⟨rfl,⟨_,rfl⟩,λb' ag=>?_⟩;rw[zi Y] at ag;rcases av.mp ag with z | z
    ·exact Z b' z
    ·rw[ao.mp z];rintro (y | y)
     ·rw[hq.mpr y] at ac;cases ac
     ·rw[h3.mpr y] at ad;cases ad
 ·rintro ρ m ⟨rfl,⟨v,rfl⟩,Z⟩;rw[bz] at Z;left
  have e:yC bks a c=false:=by
   cases h:yC bks a c with
   | false=>rfl
   | true=>
    obtain⟨b,Y,hc⟩:=ziT h;exact absurd (.inl hc) (Z b Y)
  rw[e] at r;exact r
inductive F_laid  (Pn:PN):List W->Nat->(W->Nat->Prop)->Prop
 | i {n:Nat} {R:W->Nat->Prop} {rm:List Int} {bks:List (List Wi)} (hR:RoomOk rm) (hp:yS rm<=64) (hB:∀b∈bks,xf rm b) (hl:bks.length<=100) (h:∀bk,yL rm (yC bks) bk->R (.d (zF bk)) n)  : F_laid Pn [.d (stD rm),.d (.lst (bks.map zF))] n R
def zgC (T:Txt K mg t):FnOk P w K mg base CX0 4 t.f14 t.d14 lI (spV 2 false F_laid):=by
 have G4:=zaT (P:=P) (w:=w) (base:=base) T;have G6:=zaq (P:=P) (w:=w) (base:=base) T;have G7:=zbO (P:=P) (w:=w) (base:=base) T;have G10:=zap (P:=P) (w:=w) (base:=base) T;have G12:=zdh (P:=P) (w:=w) (base:=base) T;have G13:=zhe (P:=P) (w:=w) (base:=base) T
 refine Fun.okW (k:=3) (fr:=false) [] 2 T.q14.F zfN rfl (by decide) rfl λa5 A outer s H E Pn O=>⟨_,(ze (znJ (wE zq <| yA T.q4 G4 O (za (kv 0) zc)))
   (ze (wS zD <| zY (i:=2) zfN.nd (znF (N:=["book","room"]) (cix:=[none,some 0]) rfl (by walk_at "c") (wI uX <| uW K rfl (kv 1)) (λ_ _ _ _=>(wG zN <| zm (i:=0) (show (["book","room"]:List Str).Nodup by decide +kernel))) (λ_ _ _ _=>xR) (λ_ _ _ _=>(wE zq <| yA T.q10 G10 O (za (kv 1) (za (kv 0) zc))))))
   (ze (wS zD <| znM (i:=3) (ziG (ix:=3) zfN.nd rfl rfl (N:=ld) (cix:=[none,none,none,none,some 0,some 2]) rfl (by walk_at "c") (wI uX <| uW K rfl (wE zq <| yA T.q6 G6 O (za (kv 0) zc))) (λ_ _ _ _=>(wG zN <| zm (i:=0) (show (ld:List Str).Nodup by decide +kernel))) (λ_ _ _ _=>xR) (λ_ _ _ _=>(wI zi7 <| ziF rfl T.b_enumerate (za (kv 4) zc))) (λ_ _ _ _=>(wG zad <| zah (n:=2) K rfl rfl (wH zW <| zv (wG zN <| zm (i:=1) (show (ld:List Str).Nodup by decide +kernel)) (wH zW <| zv (wG zN <| zm (i:=2) (show (ld:List Str).Nodup by decide +kernel)) (wH zac xQ))))) (λ_ _ _ _=>xR) (λ_ _ _ _=>(wI uY <| yZ rfl T.b_range (zo (kb 2) zx))) (λ_ _ _ _=>(wG zN <| zm (i:=3) (show (ld:List Str).Nodup by decide +kernel))) (λ_ _ _ _=>(zc6 (wT zu <| zeb (JE.bo (wE zq <| yA T.q13 G13 O (za (kv 5) (za (kv 0) (za (wE zq <| yA T.q7 G7 O (za (kv 0) (za (kv 1) (za (kv 3) zc)))) zc)))))))) (λ_ _ _ _=>(wE zq <| yA T.q12 G12 O (za (kv 0) (za (kv 1) (za (kv 3) zc)))))))
   (zk (zM (xP yF zb9 (by rfl) T.b_tuple cw (zo (JE.bo (yN (zhV O.units) zlW (by rfl) T.b_sorted PyProof.Rows.boot_sorted (zo (kb 3) zx))) zx))))))),λws n R hF=>?_⟩
 obtain @⟨_,_,rm,bks,I,hp,hB,hl,r⟩:=hF;left;have h8:=I.few
 have a4:(z0 (rm.map zh)).length<=64:=by
  have:=xJ rm λn hn=>by have:=I.box n hn;lia
  lia
 refine⟨rm,rfl,I.box,hp,?_⟩;left;refine zpQ bks (λb=>.d (zF b)) (by rw[aI];rfl) (λρ=>∃v,ρ=[v,some (.d (stD rm))]) (ldW rm) (az hl (by decide)) ⟨_,rfl⟩ ?_ ?_
 ·rintro b hb U ⟨v,rfl⟩ C hC;left;refine F_ab.i I (hB b hb) ?_;exact hC ⟨_,rfl⟩
 left;refine F_sts.i I ?_;have J:=zgN (f:=yC bks) I hp
 have e1:((z0 (rm.map zh)).flatMap λst=>(List.range rm.length).flatMap λb:Nat=>(List.range (zB rm b).toNat).flatMap λv:Nat=>if yC bks st (chg st b v)=true then [zV (zbD st b v)] else [])=(zaw rm (yC bks)).map zV:=by unfold zaw;rw[List.map_flatMap];refine xM λst _=>?_;rw[List.map_flatMap];refine xM λb _=>?_;rw[zdZ,aI];rfl
 left;refine zeZ (z0 (rm.map zh)) (λY=>.d (stD Y)) (by rw[aI];rfl) (λρ=>∃v1 Z v3 q,ρ=[v1,Z,v3,q,some (.d (stD rm)),some (.cu (lsW (bks.map (ldW rm))))]) _ (by rw[e1,ab];exact az (by simp;exact J) (by decide)) ⟨_,_,_,_,rfl⟩ ?_ ?_
 ·rintro Y ac U ⟨v1,Z,v3,q,rfl⟩ ds K' ag hK;have hS:=ya _ _ ac;left;refine zeZ (List.range rm.length) (λb:Nat=>W.d (.tup [.int (b:Int),.int (zB rm b)])) (zic rm) (λρ=>∃Z v3 q,ρ=[some (.d (stD Y)),Z,v3,q,some (.d (stD rm)),some (.cu (lsW (bks.map (ldW rm))))]) _ ag ⟨_,_,_,rfl⟩ ?_ λ{ρ} ⟨Z,v3,q,e⟩=>hK ⟨_,_,_,_,e⟩;rintro b hb U ⟨Z,v3,q,rfl⟩ a7 K2 al an;have as:=aQ.mp hb;have bb:=I.box (zB rm b) (by unfold zB;simp[as]);left;refine⟨⟨by lia,by lia⟩,?_⟩;refine zeZ (List.range (zB rm b).toNat) (λv:Nat=>W.d (.int (v:Int))) (zgL _) (λρ=>∃q,ρ=[some (.d (stD Y)),some (.d (.int (b:Int))),some (.d (.int (zB rm b))),q,some (.d (stD rm)),some (.cu (lsW (bks.map (ldW rm))))]) _ al ⟨_,rfl⟩ ?_ λ{ρ} ⟨q,e⟩=>an ⟨_,_,_,e⟩;rintro v hv U ⟨q,rfl⟩ bc K3 ad B;have bd:=aQ.mp hv;have a0:Y.length<=8:=by rw[hS.len];exact h8
  left;refine F_chg.i (by lia) (by lia) ?_;left;refine F_led.i I hB ac (zdy (zdx hS (by lia) (by lia) (by lia) (by lia))) ?_;left
  cases hc:yC bks Y (chg Y b v) with
  | true=>
   rw[hc] at ad B;left;refine F_fw.i (by lia) (by rw[hS.len];lia) a0 ?_;left;exact⟨by simp at ad;lia,B ⟨_,rfl⟩⟩
  | false=>
   rw[hc] at B;left;have:=B ⟨some (.d (.int (v:Int))),rfl⟩;rw[if_neg (by decide),bD] at this;exact this
 ·rintro ρ ⟨v1,Z,v3,q,rfl⟩;left;rw[fq,e1];refine⟨by rw[ab];exact az J (by decide),⟨_,zfK (zmJ (ziU hB)) zo1⟩,λl' a1 a2=>?_⟩;left;obtain⟨bk,rfl,a3⟩:=zbV a1;exact r bk ⟨a3,a2⟩
inductive F_full  (Pn:PN):List W->Nat->(W->Nat->Prop)->Prop
 | i {n:Nat} {R:W->Nat->Prop} {rm:List Int} {b:List Wi} (hR:RoomOk rm) (hp:yS rm<=64) (hB:xf rm b) (h:∀bk,yL rm (yC [b]) bk->R (.d (zF bk)) n)  : F_full Pn [.d (stD rm),.d (zF b)] n R
def zld (T:Txt K mg t):FnOk P w K mg base CX0 5 t.f15 t.d15 lu (spV 2 false F_full):=by have G14:=zgC (P:=P) (w:=w) (base:=base) T;refine Fun.okW (k:=4) (fr:=false) [] 0 T.q15.F zo3 rfl (by decide) rfl λq A outer s H E Pn B=>⟨_,(zk (zM (wE zq <| yA T.q14 G14 B (za (kv 0) (za (uV (za (kv 1) zc)) zc))))),λY n R I=>?_⟩;obtain @⟨_,_,rm,b,J,hp,O,r⟩:=I;left;refine F_laid.i (bks:=[b]) J hp (λx U=>by rw[ao.mp U];exact O) (by simp) λbk h=>?_;exact r bk h
inductive F_mkR  (Pn:PN):List W->Nat->(W->Nat->Prop)->Prop
 | i {n:Nat} {R:W->Nat->Prop} {p:Addr} {most:Int} (hP:IsQ Pn p) (hm:most=64) (h:∀rm m,RoomOk rm->yS rm<=64->m<=n+20->R (.d (stD rm)) m) (hn:n+30<=1000000:=by lia):F_mkR Pn [.pen p,.d (.int most)] n R
def zdg (T:Txt K mg t):FnOk P w K mg base CX0 2 t.f16 t.d16 lA (spV 2 false F_mkR):=by
 have G1:=yk (P:=P) (w:=w) (base:=base) T
 refine Fun.okW (k:=1) (fr:=false) [] 4 T.q16.F yg rfl (by decide) rfl λag A outer s H E Pn J=>⟨_,(ze (wS z6 <| uq (wT zu <| zT zhg zpy (JE.bo (wE zq <| yA T.q1 G1 J (za (kv 0) (za zy zc)))) (JE.bo zy) (zR _)) (zk (zM (zc5 zaY zkc (JE.bo (uV (za (yB (za zy (za zy (za zy (za zy (za zy (za zy zc))))))) (za (yB (za zy (za zy (za zy zc)))) (za (yB (za zy (za zy (za zy (za zy zc))))) (za (yB (za zy (za zy (za zy (za zy zc))))) (za (yB (za zy (za zy (za zy (za zy (za zy zc)))))) zc))))))) (JE.bo (wE zq <| yA T.q1 G1 J (za (kv 0) (za zy zc)))) (λ_ _=>rfl)))) z5)
   (ze (wS zD <| zY (i:=2) yg.nd (yB zc))
   (ze (wS zD <| zY (i:=3) yg.nd zy)
   (ze (ug bB rfl (wI uY <| yZ rfl T.b_range (zo (JE.bo (uI yq u4 (JE.bo zy) (JE.bo (wE zq <| yA T.q1 G1 J (za (kv 0) (za zy zc)))))) zx)) (wG zN <| zm (i:=4) yg.nd) (ze (wS zD <| zY (i:=5) yg.nd (uI yq u4 (JE.bo zy) (JE.bo (wE zq <| yA T.q1 G1 J (za (kv 0) (za zy zc))))))
   (zk (wS z6 <| uq (wT zu <| zT zqN u_le (JE.bo (uI zbT zrW (kb 3) (kb 5))) (kb 1) (zR _)) (ze (wS zD <| zY (i:=2) yg.nd (uI yO uF (kb 2) (JE.bo (yB (za (kv 5) zc)))))
   (zk (wS zD <| zY (i:=3) yg.nd (uI zbT zrW (kb 3) (kb 5))))) z5))))
   (zk (zM (kv 2))))))),λws n R hF=>?_⟩
 obtain @⟨_,_,p,ad,U,hm,r,hn⟩:=hF;left;subst hm;refine tk U λal w0 w1=>?_;left;refine zck (λ_=>?_) (λ_=>?_)
 ·left;refine tk U λx x0 x1=>?_;left;refine zqx (L:=[_,_,_,_,_]) x0 x1 λy hy=>?_;simp only[ay,eR,or_false] at hy;left;rcases hy with rfl | rfl | rfl | rfl | rfl
  ·exact r [2,2,2,2,2,2] _ ⟨by decide,by decide,by decide⟩ (by decide) (by lia)
  ·exact r [4,4,4] _ ⟨by decide,by decide,by decide⟩ (by decide) (by lia)
  ·exact r [2,4,2,4] _ ⟨by decide,by decide,by decide⟩ (by decide) (by lia)
  ·exact r [3,3,3,2] _ ⟨by decide,by decide,by decide⟩ (by decide) (by lia)
  ·exact r [4,2,2,2,2] _ ⟨by decide,by decide,by decide⟩ (by decide) (by lia)
 left;refine tk U λt t0 t1=>?_;left;refine⟨⟨by lia,by lia⟩,zd0 (λi ρ m=>m=n+2+i/\i<=5/\∃I Y Z,ρ=[some (.pen p),some (.d (.int 64)),some (.d (stD I)),some (.d (.int (yS I))),Y,Z]/\(∀r∈I,2<=r/\r<=4)/\yS I<=64/\(0<i->I≠[])) ⟨by lia,by lia,[],none,none,rfl,by simp,by decide,by lia⟩ ?_ ?_⟩
 ·rintro i ρ m hi ⟨rfl,ac,I,Y,Z,rfl,q,hp,O⟩ C B E hC _ _;have an:=zjw (ns:=I) λr J=>by have:=q r J;lia
  have h8:I.length<=8:=za8 q (by lia);left;refine tk U λx x0 x1=>?_;left;refine⟨.inr ⟨by lia,by lia⟩,?_⟩;left;refine zck (λh=>?_) (λh=>?_)
  ·left;refine⟨len1 (az h8 (by decide)),?_⟩;rw[cat1];left;refine⟨.inr ⟨by lia,by lia⟩,?_⟩;left;rw[<- xF]
   exact hC ⟨by lia,by lia,I++[2+x],_,_,rfl,λr J=>by
    rcases av.mp J with z | z
    ·exact q r z
    ·rw[ao.mp z];lia,by rw[xF];exact h,λ_=>by simp⟩
  ·left;refine hC ⟨by lia,by lia,I,_,_,rfl,q,hp,λ_ z=>?_⟩;subst z;have e1:yS ([]:List Int)=1:=rfl;rw[e1] at h;lia
 ·rintro ρ m ⟨rfl,ac,I,Y,Z,rfl,q,hp,O⟩;left;exact r I _ ⟨O (by lia),za8 q (by lia),q⟩ hp (by lia)
inductive F_kind  (Pn:PN):List W->Nat->(W->Nat->Prop)->Prop
 | i {n:Nat} {R:W->Nat->Prop} {p:Addr} {rm:List Int} (hP:IsQ Pn p) (hR:RoomOk rm) (h:∀b x y:Int,0<=b->b<rm.length->0<=x->x<zB rm b->0<=y->y<zB rm b->x≠y->R (.d (.tup [.int b,.int x,.int y])) (n+3)) (hn:n+10<=1000000:=by lia):F_kind Pn [.pen p,.d (stD rm)] n R
def zde (T:Txt K mg t):FnOk P w K mg base CX0 2 t.f17 t.d17 lg (spV 2 false F_kind):=by
 have G1:=yk (P:=P) (w:=w) (base:=base) T
 refine Fun.okW (k:=1) (fr:=false) [] 2 T.q17.F uD rfl (by decide) rfl λY A outer s H E Pn I=>⟨_,(ze (wS zD <| zY (i:=2) uD.nd (wE zq <| yA T.q1 G1 I (za (kv 0) (za (yN xB zcl (by rfl) T.b_len bK (zo (kb 1) zx)) zc))))
   (ze (wS zD <| zY (i:=3) uD.nd (wE zq <| yA T.q1 G1 I (za (kv 0) (za (zc5 xo zaA (kb 1) (kb 2) (λ_ _=>rfl)) zc))))
   (zk (zM (yB (za (kv 2) (za (kv 3) (za (uI zat zrV (JE.bo (uI yq u4 (JE.bo (uI yq u4 (kb 3) (JE.bo zy))) (JE.bo (wE zq <| yA T.q1 G1 I (za (kv 0) (za (uI zmC zrX (JE.bo (zc5 xo zaA (kb 1) (kb 2) (λ_ _=>rfl))) (JE.bo zy)) zc)))))) (JE.bo (zc5 xo zaA (kb 1) (kb 2) (λ_ _=>rfl)))) zc)))))))),λws n R Z=>?_⟩
 obtain @⟨_,_,p,rm,J,O,r,hn⟩:=Z;left;have h8:=O.few;have h0:=dN.mpr O.ne;left;rw[ab];refine tk J λb q B=>?_;have hb:=zav O.box (b:=b) q B;left;refine onA q B ?_;left;refine tk J λx x0 U=>?_;left;refine onA q B ?_;left;refine tk J λy y0 y1=>?_;left;refine onA q B ?_;left;refine⟨by lia,?_⟩;left;refine r b x _ q B x0 U (cA _ (by lia)) (bW _ (by lia)) ?_;generalize zB rm b=M at hb U y1;have:M=2\/M=3\/M=4:=by lia
 rcases this with rfl | rfl | rfl <;> lia
inductive F_mkGv  (Pn:PN):List W->Nat->(W->Nat->Prop)->Prop
 | i {n:Nat} {R:W->Nat->Prop} {p:Addr} {rm:List Int} {box few:Int} (hP:IsQ Pn p) (hR:RoomOk rm) (hf:1<=few) (hf2:few<=10) (h:∀g m,Giv rm g->(∀q∈g,q.1≠box)->m<=n+20->R (.d (zeR g)) m) (hn:n+40<=1000000:=by lia):F_mkGv Pn [.pen p,.d (stD rm),.d (.int box),.d (.int few)] n R
def zcf (T:Txt K mg t):FnOk P w K mg base CX0 2 t.f18 t.d18 li (spV 4 false F_mkGv):=by
 have G1:=yk (P:=P) (w:=w) (base:=base) T
 refine Fun.okW (k:=1) (fr:=false) [4] 2 T.q18.F x5 rfl (by decide) rfl λag A outer s H E Pn hr=>⟨_,(ze (wS uy <| za1 (i:=4) x5.nd (uV zc))
   (ze (ug bB rfl (wI uY <| yZ rfl T.b_range (zo (JE.bo (yN xB zcl (by rfl) T.b_len bK (zo (kb 1) zx))) zx)) (wG zN <| zm (i:=5) x5.nd) (zk (wS z6 <| uq (JW.t (wW zaQ <| zct (wT zu <| zT zod zul (kb 5) (kb 2) (zR _)) (zai (.inl rfl) (wT zu <| zT zlf u_gt (JE.bo (wE zq <| yA T.q1 G1 hr (za (kv 0) (za (kv 3) zc)))) (JE.bo zy) (zR _))))) (zk (wS zc9 <| zgj 4 (yB (za (kv 5) (za (wE zq <| yA T.q1 G1 hr (za (kv 0) (za (zc5 xo zaA (kb 1) (kb 5) (λ_ _=>rfl)) zc))) zc))))) z5)))
   (zk (zM (xP yF zb9 (by rfl) T.b_tuple cw (zo (kb 4) zx)))))),λws n R hF=>?_⟩
 obtain @⟨_,_,p,rm,U,Z,hP,hR,hf,al,r,hn⟩:=hF;left;have h8:=hR.few;rw[ab];refine⟨⟨by lia,by lia⟩,zd0 (λi ρ m=>m<=n+2 * i/\i<=rm.length/\∃g v5,ρ=[some (.pen p),some (.d (stD rm)),some (.d (.int U)),some (.d (.int Z)),some (.d (.lst (g.map ye))),v5]/\Giv rm g/\(∀q∈g,q.1≠U)/\(∀q∈g,q.1<(i:Int))/\g.length<=i) ⟨by lia,aN _,[],_,rfl,⟨by simp,.nil⟩,by simp,by simp,by simp⟩ ?_ ?_⟩
 ·rintro i ρ m hi ⟨hm,ac,g,v5,rfl,Y,I,J,ad⟩ C B E hC _ _;have an:=zav hR.box (b:=(i:Int)) (by lia) (by lia);left;refine zn5 (λhb=>?_) (λ_=>?_);rotate_left
  ·left;exact hC ⟨by lia,by lia,g,_,rfl,Y,I,λq O=>by have:=J q O;lia,by lia⟩
  left;refine tk hP λt t0 t1=>?_;left;refine zck (λ_=>?_) (λ_=>?_);rotate_left
  ·left;exact hC ⟨by lia,by lia,g,_,rfl,Y,I,λq O=>by have:=J q O;lia,by lia⟩
  left;refine onA (by lia) (by lia) ?_;left;refine tk hP λu u0 u1=>?_;left;refine⟨by rw[ab];exact bC (by lia:_<=8) (by decide),hC ⟨by lia,by lia,g++[((i:Int),u)],_,by rw[aP];rfl,Y.snoc J (by lia) (by lia) u0 u1,λq O=>?_,λq O=>?_,by rw[aq];simp;lia⟩⟩
  ·rcases av.mp O with z | z
   ·exact I q z
   ·rw[ao.mp z];exact hb
  ·rcases av.mp O with z | z
   ·have:=J q z;lia
   ·rw[ao.mp z];show (i:Int)<((i+1:Nat):Int);lia
 ·rintro ρ m ⟨hm,ac,g,v5,rfl,Y,I,J,ad⟩;left;exact r g m Y I (by lia)
def znv{rm:List Int}{g:List (Int×Int)}(h:Giv rm g):Giv rm (g.take k++g.drop (k+1)):=by
 have hs:(g.take k++g.drop (k+1)).Sublist g:=by
  have e:=aM k g
  conv=>rhs;rw[<- e]
  refine List.Sublist.append (List.Sublist.refl _) ?_;rw[<- dG];exact eA 1 _
 exact⟨λq B=>h.ok q (hs.subset B),h.up.sublist hs⟩
def znw{rm:List Int}{g:List (Int×Int)}{q:Int×Int}{x:Int}(h:Giv rm g)(B:g[k]?=some q)(I:0<=x)(J:x<zB rm q.1):Giv rm (g.take k++[(q.1,x)]++g.drop (k+1)):=by
 have e:g=g.take k++[q]++g.drop (k+1):=by rw[<- zi B,aM]
 have O:(g.take k++[(q.1,x)]++g.drop (k+1)).map (·.1)=g.map (·.1):=by
  conv=>rhs;rw[e]
  simp
 refine⟨λF U=>?_,?_⟩
 ·rcases av.mp U with z | z
  ·rcases av.mp z with z | z
   ·exact h.ok F (bw z)
   ·rw[ao.mp z];have:=h.ok q (aA B);exact⟨this.1,this.2.1,I,J⟩
  ·exact h.ok F (bF z)
 ·have h2:(g.map (·.1)).Pairwise (· < ·):=bO.mpr h.up;rw[<- O] at h2;exact bO.mp h2
def zkX{g:List (Int×Int)}:∀q∈g.take k++g.drop (k+1),∃B∈g,q.1=B.1:=λq F=>⟨q,(av.mp F).elim bw bF,rfl⟩
def zkY{g:List (Int×Int)}{p:Int×Int}{x:Int}(hp:g[k]?=some p):∀q∈g.take k++[(p.1,x)]++g.drop (k+1),∃B∈g,q.1=B.1:=λq F=>by
 rcases av.mp F with z | z
 ·rcases av.mp z with z | z
  ·exact⟨q,bw z,rfl⟩
  ·rw[ao.mp z];exact⟨p,aA hp,rfl⟩
 ·exact⟨q,bF z,rfl⟩
inductive F_near  (Pn:PN):List W->Nat->(W->Nat->Prop)->Prop
 | i {n:Nat} {R:W->Nat->Prop} {p:Addr} {rm:List Int} {box:Int} {g:List (Int×Int)} (hP:IsQ Pn p) (hR:RoomOk rm) (hG:Giv rm g) (h:∀g' m,Giv rm g'->(∀q∈g',∃q2∈g,q.1=q2.1)->m<=n+2->R (.d (zeR g')) m) (hn:n+10<=1000000:=by lia):F_near Pn [.pen p,.d (stD rm),.d (.int box),.d (zeR g)] n R
def zdf (T:Txt K mg t):FnOk P w K mg base CX0 2 t.f19 t.d19 lh (spV 4 false F_near):=by
 have G1:=yk (P:=P) (w:=w) (base:=base) T
 refine Fun.okW (k:=1) (fr:=false) [] 4 T.q19.F yJ rfl (by decide) rfl λad A outer s H E Pn O=>⟨_,(ze (wS z6 <| uq (wT zu <| zT (zmB O.units) zrT (kb 3) (JE.bo (yB zc)) (zR _)) (zk (zM (kv 3))) z5)
   (ze (wS zD <| zY (i:=4) yJ.nd (wE zq <| yA T.q1 G1 O (za (kv 0) (za (yN xB zcl (by rfl) T.b_len bK (zo (kb 3) zx)) zc))))
   (ze (wS zD <| zY (i:=5) yJ.nd (wE zq <| yA T.q1 G1 O (za (kv 0) (za zy zc))))
   (ze (wS z6 <| uq (wT zu <| zT zhg zpy (kb 5) (JE.bo zy) (zR _)) (zk (zM (uI yO uF (JE.bo (wE uz <| zea (kb 3) y4 (wO yy <| y6 (kb 4)))) (JE.bo (wE uz <| zea (kb 3) (wO yy <| y6 (JE.bo (uI yq u4 (kb 4) (JE.bo zy)))) y4))))) z5)
   (ze (wS z6 <| uq (wT zu <| zT zhg zpy (kb 5) (JE.bo zy) (zR _)) (ze (zmr (zc5 xo zaA (kb 3) (kb 4) (λ_ _=>rfl)) (wG zad <| zah (n:=2) K rfl rfl (wH zW <| zv (wG zN <| zm (i:=6) yJ.nd) (wH zW <| zv (wG zN <| zm (i:=7) yJ.nd) (wH zac xQ)))))
   (zk (zM (uI yO uF (JE.bo (uI yO uF (JE.bo (wE uz <| zea (kb 3) y4 (wO yy <| y6 (kb 4)))) (JE.bo (yB (za (yB (za (kv 6) (za (uI zat zrV (JE.bo (uI yq u4 (kb 7) (JE.bo zy))) (JE.bo (zc5 xo zaA (kb 1) (kb 6) (λ_ _=>rfl)))) zc))) zc))))) (JE.bo (wE uz <| zea (kb 3) (wO yy <| y6 (JE.bo (uI yq u4 (kb 4) (JE.bo zy)))) y4)))))) z5)
   (zk (zM (kv 3)))))))),λws n R hF=>?_⟩
 obtain @⟨_,_,p,rm,ag,g,Y,Z,J,r,hn⟩:=hF;left;have h8:=zio J Z.few;refine⟨zcr.1,yX (ns:=[]),λc hc=>?_⟩;left
 cases c with
 | true=>
  left;exact r g _ J (λq I=>⟨q,I,rfl⟩) (by lia)
 | false=>
  have U:g≠[]:=λz=>by subst z;exact absurd (hc.mpr rfl) (by decide)
  have ac:=dN.mpr U;left;rw[ab];refine tk Y λa a0 a1=>?_;obtain⟨k,rfl⟩:∃k:Nat,a=(k:Int):=⟨a.toNat,by lia⟩;have hk:k<g.length:=by lia
  obtain⟨q,I⟩:∃q,g[k]?=some q:=⟨g[k],aj hk⟩;have e1:uf (g.map ye) none (some (k:Int))=(g.take k).map ye:=by rw[uv,zf6]
  have e2:uf (g.map ye) (some ((k:Int)+1)) none=(g.drop (k+1)).map ye:=by rw[uv,show ((k:Int)+1)=((k+1:Nat):Int) by lia,zdU]
  have l1:(g.take k).length<=100:=by rw[bn];lia
  have l2:(g.drop (k+1)).length<=100:=by rw[cm];lia
  left;refine tk Y λw w0 w1=>?_;left;refine zck (λ_=>?_) (λ_=>?_)
  ·left;rw[e1,e2];refine⟨by rw[ab,ab];exact az (by lia:_<=200) (by decide),?_⟩;rw[<- aP];exact r _ _ (znv J) zkX (by lia)
  ·left;refine zck (λ_=>?_) (λ_=>?_)
   ·have B:=J.ok q (aA I);have al:=zav Z.box (b:=q.1) B.1 B.2.1;left;refine onG I ?_;left;refine onA B.1 B.2.1 ?_;left;refine⟨by lia,?_⟩;left;rw[e1];refine⟨by rw[ab];exact az (fP l1 (ah 1)) (by decide),?_⟩;left;rw[e2];refine⟨by rw[aq,ab,ab];exact az (fP (fP l1 (ah 1)) l2) (by decide),?_⟩;have e3:(g.take k).map ye++[Dt.tup [Dt.int q.1,Dt.int ((q.2+1) % zB rm q.1)]]++(g.drop (k+1)).map ye=(g.take k++[(q.1,(q.2+1) % zB rm q.1)]++g.drop (k+1)).map ye:=by rw[aP,aP];rfl
    rw[e3];exact r _ _ (znw J I (cA _ (by lia)) (bW _ (by lia))) (zkY I) (by lia)
   ·left;exact r g _ J (λq I=>⟨q,I,rfl⟩) (by lia)
inductive F_allR  (Pn:PN):List W->Nat->(W->Nat->Prop)->Prop
 | i {n:Nat} {R:W->Nat->Prop} {rm:List Int} (hR:RoomOk rm) (h:R (.d (zbw (z0 (rm.map zh)))) n)  : F_allR Pn [.d (stD rm)] n R
def zeo (T:Txt K mg t):FnOk P w K mg base CX0 1 t.f20 t.d20 lH (spV 1 false F_allR):=by
 refine Fun.okW (k:=0) (fr:=false) [3] 4 T.q20.F yE rfl (by decide) rfl λag A outer s H E Pn hr=>⟨_,(ze (wS zD <| zY (i:=1) yE.nd (uV (za (yB zc) zc)))
   (ze (ug bB rfl (wI uZ <| zbI K rfl (kv 0)) (wG zN <| zm (i:=2) yE.nd) (ze (wS uy <| za1 (i:=3) yE.nd (uV zc))
   (ze (ug bB rfl (wI uX <| uW K rfl (kv 1)) (wG zN <| zm (i:=4) yE.nd) (zk (wS znT <| zqf 3 (zbH (N:=lG) (cix:=[none,some 4]) rfl (by walk_at "c") (wI uY <| yZ rfl T.b_range (zo (kb 2) zx)) (λ_ _ _ _=>(wG zN <| zm (i:=0) (show (lG:List Str).Nodup by decide +kernel))) (λ_ _ _ _=>xR) (λ_ _ _ _=>(uI yO uF (kb 1) (JE.bo (yB (za (kv 0) zc)))))))))
   (zk (wS zk6 <| znK (i:=1) 3 yE.nd rfl (Or.inl rfl))))))
   (zk (zM (kv 1))))),λws n R hF=>?_⟩
 obtain @⟨_,_,rm,hR,r⟩:=hF;left;have hb:=hR.box;refine xN rm (λi=>.d (.int i)) (by rw[aI];rfl) (λi ρ m=>m=n/\∃v2 v3 Y,ρ=[some (.d (stD rm)),some (.d (zbw (z0 ((rm.take i).map zh)))),v2,v3,Y]) ⟨rfl,none,none,none,rfl⟩ ?_ ?_
 ·rintro i a ρ m ha ⟨rfl,v2,v3,Y,rfl⟩ C B E hC _ _;have hm:=hb a (aA ha);obtain⟨w,rfl⟩:∃w:Nat,a=(w:Int):=⟨a.toNat,by lia⟩;have J:=zfX hR.few hb i;have O:∀q∈z0 ((rm.take i).map zh),q.length<=8:=λq I=>by rw[zcN _ _ I,ab,bn];have:=hR.few;lia
  have U:z0 ((rm.take (i+1)).map zh)=(z0 ((rm.take i).map zh)).flatMap λq=>(zh (w:Int)).map λx=>q++[x]:=by rw[zi ha,aP,au,eI,yv];rfl
  generalize z0 ((rm.take i).map zh)=rows at J U O;left;refine xN rows (λq=>.d (stD q)) (by rw[aI];rfl) (λj ρ m'=>m'=m/\∃Y,ρ=[some (.d (stD rm)),some (.d (zbw rows)),some (.d (.int (w:Int))),some (.d (zbw ((rows.take j).flatMap λq=>(zh (w:Int)).map λx=>q++[x]))),Y]) ⟨rfl,_,rfl⟩ ?_ ?_
  ·rintro j q ρ m' I ⟨rfl,Y,rfl⟩ C2 B2 E2 ac _ _;have h8:=O q (aA I);left;refine⟨⟨by lia,by lia⟩,?_⟩;have ad:(List.range w).map (λk:Nat=>q++[(k:Int)])=(zh (w:Int)).map λx=>q++[x]:=by unfold zh;rw[aI,bq];rfl
   have Z:w<=4:=by lia
   have hz:((rows.take j).flatMap λq=>(zh (w:Int)).map λx=>q++[x]).length<=262144:=by
    rw[List.length_flatMap]
    have e0:∀l:List (List Int),((l.map λq=>((zh (w:Int)).map λx=>q++[x]).length).sum)=l.length * w:=λl=>by
     induction l with
     | nil=>simp
     | cons y l ih=>rw[au,List.sum_cons,ih,ab,xH,aT,Nat.succ_mul,bq,Nat.add_comm]
    rw[e0,bn];exact az (Nat.mul_le_mul (az (gc _ _) J) Z) (by decide)
   rw[bq,zgL];refine zdS (List.range w) (λk:Nat=>W.d (.int (k:Int))) rfl (λρ=>∃v,ρ=[v,some (.d (stD q))]) (λk=>stD (q++[(k:Int)])) (by rw[bm];exact az Z (by decide)) ⟨_,rfl⟩ ?_ ?_
   ·rintro k hk al ⟨v,rfl⟩ C hC;left;refine⟨len1 (az h8 (by decide)),?_⟩;rw[cat1];exact hC ⟨_,rfl⟩
   ·left;refine⟨by rw[ab,ab,bm];exact az (fP hz Z) (by decide),?_⟩;refine ac ⟨rfl,some (.d (stD q)),?_⟩;rw[zi I,fB,List.flatMap_singleton,<- ad];simp only[zbw,aP,aI];rfl
  ·rintro ρ m' ⟨rfl,Y,rfl⟩;rw[bz,<- U];left;exact hC ⟨rfl,_,_,_,rfl⟩
 ·rintro ρ m ⟨rfl,v2,v3,Y,rfl⟩;rw[bz];left;exact r
inductive F_keepsL  (Pn:PN):List W->Nat->(W->Nat->Prop)->Prop
 | i {n:Nat} {R:W->Nat->Prop} {st:List Int} {g:List (Int×Int)} (hg:∀q∈g,0<=q.1/\q.1<st.length) (hl:g.length<=100) (h:R (.d (.bl (yz st g))) n)  : F_keepsL Pn [.d (stD st),.d (zeR g)] n R
def zcg (T:Txt K mg t):FnOk P w K mg base CX0 1 t.f21 t.d21 lv (spV 2 false F_keepsL):=by
 refine Fun.okW (k:=0) (fr:=false) [] 0 T.q21.F zdu rfl (by decide) rfl λI A outer s H E Pn hr=>⟨_,(zk (zM (yN (zpO rfl) zuk (by rfl) T.b_all PyProof.Rows.boot_all (zo (JE.bo (zbH (N:=lr) (cix:=[none,none,some 0]) rfl (by walk_at "c") (wI uZ <| zbI K rfl (kv 1)) (λ_ _ _ _=>(wG zad <| zah (n:=2) K rfl rfl (wH zW <| zv (wG zN <| zm (i:=0) (show (lr:List Str).Nodup by decide +kernel)) (wH zW <| zv (wG zN <| zm (i:=1) (show (lr:List Str).Nodup by decide +kernel)) (wH zac xQ))))) (λ_ _ _ _=>xR) (λ_ _ _ _=>(zkQ zhg zpy (JE.bo (zc5 xo zaA (kb 2) (kb 0) (λ_ _=>rfl))) (kb 1) (zR _))))) zx)))),λws n R J=>?_⟩;obtain @⟨_,_,st,g,O,U,r⟩:=J;left;refine zdS g (λq=>.d (ye q)) (by rw[aI];rfl) (λρ=>∃a b,ρ=[a,b,some (.d (stD st))]) (λq=>.bl (decide (zB st q.1=q.2))) (az U (by decide)) ⟨_,_,rfl⟩ ?_ ?_
 ·rintro q Y Z ⟨a,b,rfl⟩ C hC;have B:=O q Y;left;refine onA B.1 B.2 ?_;left;exact hC ⟨_,_,rfl⟩
 ·left;refine⟨g.map λq=>decide (zB st q.1=q.2),by rw[aI];rfl,?_⟩;have ea:(g.map λq=>decide (zB st q.1=q.2)).all id=yz st g:=by unfold yz;rw[List.all_map];rfl
  rw[ea];exact r
def eqW {bk:List Wi}:(Dt.lst (bk.map zV)).eqOk/\(Dt.tup (bk.map zV)).eqOk:=by
 have e:(Dt.toWs (bk.map zV)).all (PySem.W.kqdOk 7)=true:=by
  induction bk with
  | nil=>rfl
  | cons x l q=>simp only[au,Dt.toWs,cg,q,zgo x,bM]
 exact⟨e,e⟩
def Few (rm:List Int)(bks:List (List Wi))(k:Nat):Prop:=(∀b∈bks,xf rm b/\b.length<=5)/\bks.length=k
inductive F_books  (Pn:PN):List W->Nat->(W->Nat->Prop)->Prop
 | i {n:Nat} {R:W->Nat->Prop} {p:Addr} {rm:List Int} (hP:IsQ Pn p) (hR:RoomOk rm) (h:∀ (bks:List (List Wi)) (m:Nat),(∀b∈bks,xf rm b/\b.length<=5)->1<=bks.length->bks.length<=6->m<=n+2000->R (.d (.lst (bks.map zF))) m) (hn:n+3000<=1000000:=by lia):F_books Pn [.pen p,.d (stD rm)] n R
def zce (T:Txt K mg t):FnOk P w K mg base CX0 3 t.f22 t.d22 lg (spV 2 true F_books):=by
 have G1:=yk (P:=P) (w:=w) (base:=base) T;have G17:=zde (P:=P) (w:=w) (base:=base) T;have G18:=zcf (P:=P) (w:=w) (base:=base) T;have G19:=zdf (P:=P) (w:=w) (base:=base) T
 refine Fun.okW (k:=2) (fr:=true) [2,5] 12 T.q22.F zr rfl (by decide) rfl λcdv A outer s H E Pn hr=>⟨_,(ze (wS uy <| za1 (i:=2) zr.nd (uV zc))
   (ze (wS zD <| zY (i:=3) zr.nd (uV zc))
   (ze (ug bB rfl (wI uY <| yZ rfl T.b_range (zo (JE.bo (uI yq u4 (JE.bo zy) (JE.bo (wE zq <| yA T.q1 G1 hr (za (kv 0) (za zy zc)))))) zx)) (wG zN <| zm (i:=4) zr.nd) (ze (wS uy <| za1 (i:=5) zr.nd (uV zc))
   (ze (ug bB rfl (wI uY <| yZ rfl T.b_range (zo (JE.bo (wE zq <| yA T.q1 G1 hr (za (kv 0) (za zy zc)))) zx)) (wG zN <| zm (i:=6) zr.nd) (ze (wS zD <| zY (i:=7) zr.nd (wE zq <| yA T.q17 G17 hr (za (kv 0) (za (kv 1) zc))))
   (ze (wS zD <| zY (i:=8) zr.nd (uI yO uF (JE.bo (yB (za (wE zq <| yA T.q18 G18 hr (za (kv 0) (za (kv 1) (za (zc5 xo zaA (kb 7) (JE.bo zy) (λ_ _=>rfl)) (za (uI yq u4 (JE.bo zy) (JE.bo (wE zq <| yA T.q1 G1 hr (za (kv 0) (za zy zc))))) zc))))) zc))) (kb 7)))
   (ze (wS z6 <| uq (JW.t (wW zaQ <| zct (wT zu <| zT (za6 hr.units) zeJ (kb 3) (JE.bo (uV zc)) (zR _)) (zai (.inl rfl) (wT zu <| zT zlf u_gt (JE.bo (wE zq <| yA T.q1 G1 hr (za (kv 0) (za zy zc)))) (JE.bo zy) (zR _))))) (ze (zmr (zc5 zaY zkc (kb 3) (JE.bo (wE zq <| yA T.q1 G1 hr (za (kv 0) (za (yN xB zcl (by rfl) T.b_len bK (zo (kb 3) zx)) zc)))) (λ_ _=>rfl)) (wG zad <| zah (n:=4) K rfl rfl (wH zW <| zv (wG zN <| zm (i:=9) zr.nd) (wH zW <| zv (wG zN <| zm (i:=10) zr.nd) (wH zW <| zv (wG zN <| zm (i:=11) zr.nd) (wH zW <| zv (wG zN <| zm (i:=12) zr.nd) (wH zac xQ)))))))
   (ze (wS zD <| zY (i:=13) zr.nd (zc5 zaY zkc (JE.bo (uV (za (yB (za (kv 10) (za (kv 11) (za (kv 12) zc)))) (za (yB (za (kv 10) (za (kv 12) (za (kv 11) zc)))) zc)))) (JE.bo (wE zq <| yA T.q1 G1 hr (za (kv 0) (za zy zc)))) (λ_ _=>rfl)))
   (zk (wS zD <| zY (i:=8) zr.nd (uI yO uF (JE.bo (yB (za (wE zq <| yA T.q19 G19 hr (za (kv 0) (za (kv 1) (za (kv 10) (za (kv 9) zc))))) zc))) (kb 13)))))) z5)
   (zk (wS zc9 <| zgj 5 (kv 8)))))))
   (ze (wS zD <| zY (i:=3) zr.nd (uI zjl zmU (kb 3) (kb 5)))
   (zk (wS zc9 <| zgj 2 (xP yF zb9 (by rfl) T.b_tuple cw (zo (kb 5) zx))))))))
   (zk (wS zgw <| ziH 2))))),λws n R hF=>?_⟩
 obtain @⟨_,_,p,rm,hP,hR,r,hn⟩:=hF;left;refine tk hP λe e0 e1=>?_;left;refine⟨⟨by lia,by lia⟩,zd0 (λi ρ m=>m<=n+1+300 * i/\i<=6/\∃ (bks:List (List Wi)) (ws:List Wi) (v4 v5 v6 v7 v8 v9 va vb vc vd:Option W),ρ=[some (.pen p),some (.d (stD rm)),some (.d (.lst (bks.map zF))),some (.d (.lst (ws.map zV))),v4,v5,v6,v7,v8,v9,va,vb,vc,vd]/\Few rm bks i/\xf rm ws/\ws.length<=5 * i) ?_ ?_ ?_⟩
 ·exact⟨by lia,by lia,[],[],none,none,none,none,none,none,none,none,none,none,rfl,⟨by simp,rfl⟩,by intro x hx;simp at hx,by simp⟩
 ·rintro i ρ m hi ⟨hm,hi6,bks,ws,v4,v5,v6,v7,v8,v9,va,vb,vc,vd,rfl,hF,hW,hwl⟩ C B E hC _ _;left;refine tk hP λf f0 f1=>?_;left;refine⟨⟨by lia,by lia⟩,zd0 (λj ρ m2=>m2<=m+1+50 * j/\j<=5/\∃ (bk:List Wi) (v6 v7 v8 v9 va vb vc vd:Option W),ρ=[some (.pen p),some (.d (stD rm)),some (.d (.lst (bks.map zF))),some (.d (.lst (ws.map zV))),some (.d (.int (i:Int))),some (.d (.lst (bk.map zV))),v6,v7,v8,v9,va,vb,vc,vd]/\xf rm bk/\bk.length=j) ?_ ?_ ?_⟩
  ·exact⟨by lia,by lia,[],_,_,_,_,_,_,_,_,rfl,by intro x hx;simp at hx,rfl⟩
  ·rintro j ρ m2 hj ⟨hm2,hj5,bk,v6,v7,v8,v9,va,vb,vc,vd,rfl,hB,hbl⟩ C2 B2 E2 hC2 _ _;left;refine F_kind.i hP hR λb x y b0 b1 x0 x1 y0 y1 hne=>?_;left;rw[show atI [Dt.int b,Dt.int x,Dt.int y] 0=some (Dt.int b) from rfl];left;refine tk hP λt t0 t1=>?_;left;refine F_mkGv.i hP hR (by lia) (by lia) λg m3 hG hap hm3=>?_;left;refine⟨(show 1+3<=lim by decide),?_⟩;have hlt:(bk.map zV).length<lim:=by rw[ab];exact bC (by lia:_<=5) (by decide)
   have fin:∀ (z:Wi) (n1:Nat) (u7 u8 u9 ua ub uc ud:Option W),WishOk rm z->n1<=m2+40->C2 [some (.pen p),some (.d (stD rm)),some (.d (.lst (bks.map zF))),some (.d (.lst (ws.map zV))),some (.d (.int (i:Int))),some (.d (.lst (bk.map zV++[zV z]))),some (.d (.int (j:Int))),u7,u8,u9,ua,ub,uc,ud] n1:=λz n1 u7 u8 u9 ua ub uc ud hz hn1=>hC2 ⟨by lia,by lia,bk++[z],_,_,_,_,_,_,_,_,by rw[aP];rfl,λq hq=>(av.mp hq).elim (hB q) λh=>by rw[ao.mp h];exact hz,by rw[aq,hbl];rfl⟩;have hz0:WishOk rm ⟨g,b,x,y⟩:=⟨hG,b0,b1,hap,x0,x1,y0,y1,hne⟩;left;refine⟨eqW.1,zg4 (ns:=[]),λc hc=>?_⟩
   cases c with
   | true=>
    (with_reducible refine zdi rfl ?_);left;exact⟨hlt,fin ⟨g,b,x,y⟩ _ _ _ _ _ _ _ _ hz0 (by lia)⟩
   | false=>
    have hne2:ws≠[]:=λz=>by subst z;exact absurd (hc.mpr rfl) (by decide)
    have hpos:=dN.mpr hne2;(with_reducible refine zqA rfl ?_);left;refine tk hP λu u0 u1=>?_;left;refine zck (λ_=>?_) (λ_=>?_);rotate_left
    ·left;exact⟨hlt,fin ⟨g,b,x,y⟩ _ _ _ _ _ _ _ _ hz0 (by lia)⟩
    left;rw[ab];refine tk hP λa a0 a1=>?_;obtain⟨k,rfl⟩:∃k:Nat,a=(k:Int):=⟨a.toNat,by lia⟩;have hk:k<ws.length:=by lia
    have hw:=hW _ (a9 hk);left;refine onG (x:=ws[k]) (aj hk) ?_;left;refine tk hP λe2 e20 e21=>?_;left
    have two:∀ (Q:Dt->Prop),Q (.tup [.int ws[k].b,.int ws[k].r,.int ws[k].w])->Q (.tup [.int ws[k].b,.int ws[k].w,.int ws[k].r])->onO (atI [Dt.tup [.int ws[k].b,.int ws[k].r,.int ws[k].w],Dt.tup [.int ws[k].b,.int ws[k].w,.int ws[k].r]] e2) Q:=λQ q1 q2=>by
     refine zqx (L:=[_,_]) e20 e21 λd hd=>?_;simp only[ay,eR,or_false] at hd;rcases hd with rfl | rfl
     ·exact q1
     ·exact q2
    refine two _ ?_ ?_
    ·left;refine F_near.i hP hR hw.giv λg' m4 hG' hap' hm4=>?_;left;refine⟨(show 1+3<=lim by decide),?_⟩;left;exact⟨hlt,fin ⟨g',ws[k].b,ws[k].r,ws[k].w⟩ _ _ _ _ _ _ _ _ ⟨hG',hw.b0,hw.b1,λq hq=>by obtain⟨q2,hq2,e⟩:=hap' q hq;rw[e];exact hw.apart q2 hq2,hw.r0,hw.r1,hw.w0,hw.w1,hw.ne⟩ (by lia)⟩
    ·left;refine F_near.i hP hR hw.giv λg' m4 hG' hap' hm4=>?_;left;refine⟨(show 1+3<=lim by decide),?_⟩;left;exact⟨hlt,fin ⟨g',ws[k].b,ws[k].w,ws[k].r⟩ _ _ _ _ _ _ _ _ ⟨hG',hw.b0,hw.b1,λq hq=>by obtain⟨q2,hq2,e⟩:=hap' q hq;rw[e];exact hw.apart q2 hq2,hw.w0,hw.w1,hw.r0,hw.r1,hw.ne.symm⟩ (by lia)⟩
  ·rintro ρ m2 ⟨hm2,hj5,bk,v6,v7,v8,v9,va,vb,vc,vd,rfl,hB,hbl⟩;left;refine⟨by rw[ab,ab];exact az (by lia:_<=60) (by decide),?_⟩;left;refine⟨by rw[ab];exact bC (by have:=hF.2;lia:_<=6) (by decide),?_⟩;refine hC ⟨by lia,by lia,bks++[bk],ws++bk,_,_,_,_,_,_,_,_,_,_,by rw[aP,aP];rfl,⟨λq hq=>(av.mp hq).elim (hF.1 q) λh=>by rw[ao.mp h];exact⟨hB,by lia⟩,by rw[aq,hF.2];rfl⟩,λq hq=>(av.mp hq).elim (hW q) (hB q),by rw[aq];lia⟩
 ·rintro ρ m ⟨hm,hi6,bks,ws,v4,v5,v6,v7,v8,v9,va,vb,vc,vd,rfl,hF,hW,hwl⟩;left;exact r bks m hF.1 (by rw[hF.2];lia) (by rw[hF.2];lia) (by lia)
def kyP (q:List Int×List Int):Dt:=.tup [stD q.1,stD q.2]
def kvP (q:List Int×List Int):Dt×Dt:=(kyP q,.bl true)
def zfP {a c:List Int}(h:stD a=stD c):a=c:=(dg (λ_ _ z=>by cases z;rfl)).mp (show a.map Dt.int=c.map Dt.int by simpa [stD] using h)
def ziN {p q:List Int×List Int}(h:kyP p=kyP q):p=q:=by unfold kyP at h;simp only[Dt.tup.injEq,dU,and_true] at h;exact Prod.ext (zfP (congrArg Dt.tup h.1)) (zfP (congrArg Dt.tup h.2))
def ziO (q:List Int×List Int):(kyP q).ky:=by
 have k1:∀B:List Int,(stD B).hk=true:=λB=>yY.mpr λd I=>by obtain⟨i,_,rfl⟩:=aG.mp I;rfl
 refine⟨?_,?_,rfl⟩
 ·show Dt.hks [_,_]=true;simp only[Dt.hks,k1,bM]
 ·show PySem.W.kqdOk 8 (Dt.tup [_,_]).toW=true
  have k2:∀B:List Int,PySem.W.kqdOk 7 (stD B).toW=true:=λB=>by have:=yX (ns:=B);have h:PySem.W.kqdOk 8 (stD B).toW=true:=this;simp only[stD,Dt.toW,PySem.W.kqdOk] at h ⊢;rw[bJ] at h ⊢;intro x F;rw[uL,aI] at F;obtain⟨i,_,rfl⟩:=aG.mp F;rfl
  simp only[Dt.toW,Dt.toWs,PySem.W.kqdOk,cg,List.all_nil,bM,aJ];exact⟨k2 q.1,k2 q.2⟩
def zqn (ks:List (List Int×List Int))(q:List Int×List Int):(yt (ks.map kvP) (kyP q)).isSome=decide (q∈ks):=by
 unfold yt kvP;rw[dw,List.find?_map,dw,bA,List.find?_isSome,bQ];constructor
 ·rintro⟨x,h1,h2⟩;rwa[<- show x=q from ziN (bj h2)]
 ·exact λh=>⟨q,h,aD rfl⟩
def putP (ks:List (List Int×List Int))(q:List Int×List Int):zex (ks.map kvP) (kyP q) (.bl true)=(if q∈ks then ks else ks++[q]).map kvP:=by
 have e:(ks.map kvP).any (λkv=>decide (kv.1=kyP q))=decide (q∈ks):=by rw[bA,gm,gf,bQ];exact⟨λ⟨x,h1,h2⟩=>by rwa[<- show x=q from ziN (bj h2)],λh=>⟨q,h,aD rfl⟩⟩
 unfold zex;rw[e];by_cases h:q∈ks
 ·rw[if_pos (aD h),if_pos h,aI];refine dM λx _=>?_;show (if (kvP x).1=kyP q then ((kvP x).1,Dt.bl true) else kvP x)=kvP x;split <;> rfl
 ·rw[if_neg (by simpa using h),if_neg h,aP];rfl
def zsF (rm:List Int)(bk:List Wi)(ks:List (List Int×List Int)):Prop:=ks.Nodup/\∀a c,(a,c)∈ks↔a∈z0 (rm.map zh)/\c∈xz bk a []
def zeW{a c:List Int}:c∈xz bk a []↔∃w∈bk,xC a w=true/\c=chg a w.b w.r:=by unfold xz;rw[zZ,yG];simp
inductive F_pairs  (Pn:PN):List W->Nat->(W->Nat->Prop)->Prop
 | i {n:Nat} {R:W->Nat->Prop} {rm:List Int} {bk:List Wi} (hR:RoomOk rm) (hp:yS rm<=64) (hB:xf rm bk) (hl:bk.length<=2048) (h:∀ks,zsF rm bk ks->ks.length<=300000->R (.dn false (ks.map kvP)) n)  : F_pairs Pn [.d (stD rm),.d (zF bk)] n R
def zch (T:Txt K mg t):FnOk P w K mg base CX0 2 t.f23 t.d23 lz (spV 2 true F_pairs):=by
 have G20:=zeo (P:=P) (w:=w) (base:=base) T;have G21:=zcg (P:=P) (w:=w) (base:=base) T
 refine Fun.okW (k:=1) (fr:=true) [2] 6 T.q23.F zX rfl (by decide) rfl λa5 A outer s H E Pn hr=>⟨_,(ze (wS uy <| za1 (i:=2) zX.nd zqe)
   (ze (ug bB rfl (wI uX <| uW K rfl (wE zq <| yA T.q20 G20 hr (za (kv 0) zc))) (wG zN <| zm (i:=3) zX.nd) (zk (ug bB rfl (wI uZ <| zbI K rfl (kv 1)) (wG zad <| zah (n:=4) K rfl rfl (wH zW <| zv (wG zN <| zm (i:=4) zX.nd) (wH zW <| zv (wG zN <| zm (i:=5) zX.nd) (wH zW <| zv (wG zN <| zm (i:=6) zX.nd) (wH zW <| zv (wG zN <| zm (i:=7) zX.nd) (wH zac xQ)))))) (zk (wS z6 <| uq (JW.t (wW zaQ <| zct (wT zu <| zT zhg zpy (JE.bo (zc5 xo zaA (kb 3) (kb 5) (λ_ _=>rfl))) (kb 7) (zR _)) (zai (.inl rfl) (wT zu <| zeb (JE.bo (wE zq <| yA T.q21 G21 hr (za (kv 3) (za (kv 4) zc)))))))) (zk (znL 2 hr.units (JE.bo (yB (za (kv 3) (za (uI yO uF (JE.bo (uI yO uF (JE.bo (wE uz <| zea (kb 3) y4 (wO yy <| y6 (kb 5)))) (JE.bo (yB (za (kv 6) zc))))) (JE.bo (wE uz <| zea (kb 3) (wO yy <| y6 (JE.bo (uI yq u4 (kb 5) (JE.bo zy)))) y4))) zc)))) zki)) z5)))))
   (zk (wS zgw <| ziH 2)))),λws n R hF=>?_⟩
 obtain @⟨_,_,rm,bk,hR,hp,hB,hl,r⟩:=hF;left
 have a1:(z0 (rm.map zh)).length<=64:=by
  have:=xJ rm λn hn=>by have:=hR.box n hn;lia
  lia
 refine F_allR.i hR ?_;left;refine xN (z0 (rm.map zh)) (λI=>.d (stD I)) (by rw[aI];rfl) (λi ρ m=>m=n/\∃ks v3 v4 v5 v6 v7,ρ=[some (.d (stD rm)),some (.d (zF bk)),some (.dn false (ks.map kvP)),v3,v4,v5,v6,v7]/\ks.Nodup/\ks.length<=3000 * i/\∀a c,(a,c)∈ks↔a∈(z0 (rm.map zh)).take i/\c∈xz bk a []) ⟨rfl,[],_,_,_,_,_,rfl,eD,by simp,by simp⟩ ?_ ?_
 ·rintro i I ρ m Y ⟨rfl,ks,v3,v4,v5,v6,v7,rfl,J,Z,O⟩ C B E hC _ _;obtain⟨hi,a2⟩:=af.mp Y;have al:=aA Y;have hS:=ya _ _ al
  have a3:I∉(z0 (rm.map zh)).take i:=λz=>by have hn:=zfY rm;have:=List.nodup_append.mp (by rw[<- zi Y];exact hn.sublist (cy _ _):((z0 (rm.map zh)).take i++[I]).Nodup);exact this.2.2 I z I (by simp) rfl
  left;refine xN bk (λx=>.d (zV x)) (by rw[aI];rfl) (λj ρ m2=>m2=m/\∃ks v4 v5 v6 v7,ρ=[some (.d (stD rm)),some (.d (zF bk)),some (.dn false (ks.map kvP)),some (.d (stD I)),v4,v5,v6,v7]/\ks.Nodup/\ks.length<=3000 * i+j/\∀a c,(a,c)∈ks↔(a∈(z0 (rm.map zh)).take i/\c∈xz bk a [])\/a=I/\∃w∈bk.take j,xC a w=true/\c=chg a w.b w.r) ⟨rfl,ks,_,_,_,_,rfl,J,by simpa using Z,λa c=>by rw[O];simp⟩ ?_ ?_
  ·rintro j x ρ m2 hx ⟨rfl,ks,v4,v5,v6,v7,rfl,J,Z,O⟩ C2 B2 E2 ad _ _;have a7:=(af.mp hx).1;have hX:=hB x (aA hx);have an:x.b<I.length:=by rw[hS.len];exact hX.b1
   have ag:=hX.b0;have h8:I.length<=8:=by rw[hS.len];exact hR.few
   have ac:xC I x=false->C2 [some (.d (stD rm)),some (.d (zF bk)),some (.dn false (ks.map kvP)),some (.d (stD I)),some (.d (zeR x.g)),some (.d (.int x.b)),some (.d (.int x.r)),some (.d (.int x.w))] m2:=λhg=>ad ⟨rfl,ks,_,_,_,_,rfl,J,by lia,λa c=>by
    rw[O,zi hx];refine or_congr_right (and_congr_right λe=>?_);subst e;constructor
    ·rintro⟨w,U,q⟩;exact⟨w,bZ _ U,q⟩
    ·rintro⟨w,U,q⟩;rcases av.mp U with U | U
     ·exact⟨w,U,q⟩
     ·rw[ao.mp U,hg] at q;cases q.1⟩
   left;refine onA ag an ?_;left;refine zck (λU=>?_) (λU=>?_);rotate_left
   ·left;exact ac (by unfold xC;rw[aO U,Bool.false_and])
   left;refine F_keepsL.i (λq hq=>by have:=hX.giv.ok q hq;rw[hS.len];lia) (zio hX.giv hR.few) ?_
   cases hk:yz I x.g with
   | false=>
    left;exact ac (by unfold xC;rw[hk,Bool.and_false])
   | true=>
    have hg:xC I x=true:=by unfold xC;rw[hk,aD U];rfl
    left;refine⟨zf4 (by lia),?_⟩;left;refine⟨zf5 (by lia),?_⟩;rw[zhM ag (by lia)];left
    have a4:(if (I,chg I x.b x.r)∈ks then ks else ks++[(I,chg I x.b x.r)]).length<=ks.length+1:=by
     split
     ·lia
     ·simp
    refine⟨ziO (I,chg I x.b x.r),by rw[ab];exact bC (by lia:_<=300000) (by decide),?_⟩;rw[show (Dt.tup [stD I,Dt.tup ((chg I x.b x.r).map Dt.int)])=kyP (I,chg I x.b x.r) from rfl,putP];refine ad ⟨rfl,_,_,_,_,_,rfl,?_,by lia,λa c=>?_⟩
    ·split
     ·exact J
     ·rename_i as;exact List.nodup_append.mpr ⟨J,by simp,λp hp q hq e=>as (by rw[ao.mp hq] at e;rw[<- e];exact hp)⟩
    ·have hm:(a,c)∈(if (I,chg I x.b x.r)∈ks then ks else ks++[(I,chg I x.b x.r)])↔(a,c)∈ks\/(a,c)=(I,chg I x.b x.r):=by
      split
      ·rename_i a0;exact⟨.inl,λh=>h.elim id λe=>by rw[e];exact a0⟩
      ·rw[av,ao]
     rw[hm,O,zi hx];constructor
     ·rintro ((h | ⟨rfl,w,U,q⟩) | e)
      ·exact .inl h
      ·exact .inr ⟨rfl,w,bZ _ U,q⟩
      ·cases e;exact .inr ⟨rfl,x,by simp,hg,rfl⟩
     ·rintro (h | ⟨rfl,w,U,q⟩)
      ·exact .inl (.inl h)
      ·rcases av.mp U with U | U
       ·exact .inl (.inr ⟨rfl,w,U,q⟩)
       ·rw[ao.mp U] at q;exact .inr (by rw[q.2])
  ·rintro ρ m2 ⟨rfl,ks,v4,v5,v6,v7,rfl,J,Z,O⟩;have bb:=hl;refine hC ⟨rfl,ks,_,_,_,_,_,rfl,J,by lia,λa c=>?_⟩;rw[O,bz,zi Y,<- zeW];simp only[av,ao];constructor
   ·rintro (⟨h1,h2⟩ | ⟨h1,h2⟩)
    ·exact⟨.inl h1,h2⟩
    ·exact⟨.inr h1,h2⟩
   ·rintro⟨h1 | h1,h2⟩
    ·exact .inl ⟨h1,h2⟩
    ·exact .inr ⟨h1,h2⟩
 ·rintro ρ m ⟨rfl,ks,v3,v4,v5,v6,v7,rfl,J,Z,O⟩;rw[bz] at O;left;exact r ks ⟨J,O⟩ (by lia)
def zmc{rm:List Int}{a c:List Int}(q:xf rm bk)(B:a∈z0 (rm.map zh))(h:c∈xz bk a []):c∈z0 (rm.map zh):=zdy (zhH q (ya _ _ B) h)
inductive F_says  (Pn:PN):List W->Nat->(W->Nat->Prop)->Prop
 | i {n:Nat} {R:W->Nat->Prop} {rm:List Int} {wh bk:List Wi} (hR:RoomOk rm) (hp:yS rm<=64) (hW:xf rm wh) (hB:xf rm bk) (hwl:wh.length<=2048) (hbl:bk.length<=2048) (hs:∀a∈z0 (rm.map zh),∀c,c∈xz bk a []->za0 wh a c) (h:R (.d (.bl true)) n)  : F_says Pn [.d (stD rm),.d (zF wh),.d (zF bk)] n R
def uA (T:Txt K mg t):FnOk P w K mg base CX0 3 t.f24 t.d24 ln (spV 3 false F_says):=by
 have G23:=zch (P:=P) (w:=w) (base:=base) T
 refine Fun.okW (k:=2) (fr:=false) [] 1 T.q24.F yQ rfl (by decide) rfl λad A outer s H E Pn B=>⟨_,(ze (wS zD <| zY (i:=3) yQ.nd (zmq (wE zq <| yA T.q23 G23 B (za (kv 0) (za (kv 1) zc)))))
   (zk (zM (zkQ (zmB B.units) zrT (JE.bo (zbH (N:=["_law_pair","_law_mine"]) (cix:=[none,some 3]) rfl (by walk_at "c") (zth (zmq (wE zq <| yA T.q23 G23 B (za (kv 0) (za (kv 2) zc))))) (λ_ _ _ _=>(wG zN <| zm (i:=0) (show (["_law_pair","_law_mine"]:List Str).Nodup by decide +kernel))) (λ_ _ _ _=>(zc6 (JW.t (wW zaQ <| zct (wT zu <| zT (zjn B.units) zrU (kb 0) (kb 1) (by with_unfolding_all rfl)) (zai (.inl rfl) (wT zu <| zT (zjn B.units) zrU (JE.bo (yB (za (zc5 xo zaA (kb 0) (JE.bo zy) (λ_ _=>rfl)) (za (zc5 xo zaA (kb 0) (JE.bo zy) (λ_ _=>rfl)) zc)))) (kb 1) (by with_unfolding_all rfl))))))) (λ_ _ _ _=>(kv 0)))) (JE.bo (uV zc)) (zR _))))),λws n R hF=>?_⟩
 obtain @⟨_,_,rm,wh,bk,hR,hp,hW,hB,Y,Z,hs,r⟩:=hF;left;refine F_pairs.i hR hp hW Y λks I ag=>?_;left;refine F_pairs.i hR hp hB Z λJ O U=>?_;left;intro _;refine zhO J (λq=>.d (kyP q)) (by rw[aI];rfl) (λρ=>∃v,ρ=[v,some (.dn true (ks.map kvP))]) (λ_=>false) (λq=>kyP q) (az U (by decide)) ⟨_,rfl⟩ ?_ ?_
 ·rintro q hq al ⟨v,rfl⟩ C hY hN;obtain⟨q1,q2⟩:=(O.2 q.1 q.2).mp hq;have q3:=zmc hB q1 q2;left;refine⟨ziO q,?_⟩;rw[zqn];have ac:=hs q.1 q1 q.2 q2;by_cases h1:q∈ks
  ·rw[aD h1,show xr true true=false from rfl];left;exact hN rfl ⟨_,rfl⟩
  ·rw[aO h1,show xr true false=true from rfl]
   have h2:(q.2,q.1)∈ks:=by
    rcases ac with z | z
    ·exact absurd ((I.2 q.1 q.2).mpr ⟨q1,z⟩) h1
    ·exact (I.2 q.2 q.1).mpr ⟨q3,z⟩
   unfold kyP;left;rw[show atI [stD q.1,stD q.2] 1=some (stD q.2) from rfl];left;rw[show atI [stD q.1,stD q.2] 0=some (stD q.1) from rfl];left;refine⟨ziO (q.2,q.1),?_⟩;rw[show (Dt.tup [stD q.2,stD q.1])=kyP (q.2,q.1) from rfl,zqn,aD h2,show xr true true=false from rfl];left;exact hN rfl ⟨_,rfl⟩
 ·rw[show J.filter (λ_=>false)=[] by simp];left;refine⟨(eqW (bk:=[])).1,(eqW (bk:=[])).1,λc hc=>?_⟩;obtain rfl:c=true:=hc.mpr rfl;exact r
def ztE {α q B F:Type}{G:Prop}(C:α->q->B->F->Prop)(P:α->q->B->F->Prop)(h:(∀a b c d,C a b c d->P a b c d)->G)(r:∀a b c d,C a b c d->P a b c d):G:=h r
def zgr {rm:List Int}{a c:List Int}(B:a∈z0 (rm.map zh))(F:c∈z0 (rm.map zh)):∀ {bks:List (List Wi)},(∀b∈bks,xf rm b)->yC (bks.map λb=>b.map xh) a c=yC bks c a
 | [],_=>rfl
 | b::r,h=>by
  have I:=h b (by simp);have J:=(ya _ _ B).len;have O:=(ya _ _ F).len;have t1:c∈xz (b.map xh) a []↔a∈xz b c []:=zcQ I O J;have t2:a∈xz (b.map xh) c []↔c∈xz b a []:=zcQ I J O;rw[au,yx,yx,zgr B F λx U=>h x (ai _ U)];have e:za0 (b.map xh) a c↔za0 b c a:=or_congr t1 t2;by_cases q:za0 b c a
  ·rw[if_pos q,if_pos (e.mpr q),bA,bQ,bQ];exact t1
  ·rw[if_neg q,if_neg λz=>q (e.mp z)]
section
variable {rm:List Int}{bks:List (List Wi)}{wh bk:List Wi}
def zkh(q:∀b∈x,xf rm b)(B:yL rm (yC x) wh)(h:yL rm (yC (wh::y)) bk)(h2:yL rm (yC (x++y)) w2):bk=w2:=
 xT h h2 λ_ F _ I=>zak (xS q B).2 F I
def zr4(B:∀b∈bks,xf rm b)(q:yL rm (yC bks) wh)(F:b∈bks)(h:yL rm (yC [wh,b]) bk):bk=wh:=
 xT h q λa I c J=>by rw[zak (xS B q).2 I J,ziS F,bD]
def zpp(q:∀b∈bks,xf rm b)(I:yL rm (yC bks) wh)(B:b∈bks):∀a∈z0 (rm.map zh),∀c,c∈xz b a []->za0 wh a c:=λa F c h=>by
 have J:=zmc (q b B) F h;have hs:=(xS q I).2;rcases zfo.mpr ⟨b,B,(.inl h:za0 b a c)⟩ with z | z
 ·exact .inl ((hs a F c).mpr z)
 ·exact .inr ((hs c J a).mpr z)
def zr5(F:∀b∈x,xf rm b)(I:∀b∈y,xf rm b)(J:yL rm (yC (x++y)) wh)(h1:yL rm (yC x) w1)(h2:yL rm (yC y) w2)(h:yL rm (yC [w1,w2]) bk):bk=wh:=
 xT h J λa q c B=>by rw[zak (xS F h1).2 q B,xU,xU,zak (xS I h2).2 q B,bD]
def zl0(q:yL rm (yC bks) wh)(B:b∈bks.take i)(h:yL rm (yC (zdF bks i b)) bk):bk=wh:=
 xT h q λa _ c _=>by unfold zdF;rw[ziS B,aM]
def zl1(q:yL rm (yC bks) wh)(h:yL rm (yC (zdF bks i [])) bk):bk=wh:=
 xT h q λa _ c _=>by unfold zdF;rw[znO,aM]
def zpq(B:∀b∈bks,xf rm b)(I:yL rm (yC bks) wh)(h1:yL rm (yC (bks.map λb=>b.map xh)) w1)(h2:yL rm (yC [wh.map xh]) w2):w1=w2:=
 xT h1 h2 λa F c q=>by obtain⟨J,hs⟩:=xS B I;rw[zgr F q B,znP,bA,bQ,zcQ J (ya _ _ q).len (ya _ _ F).len];exact (hs c q a).symm
end
def zqV:PenJ J0:=λ_ _ _ _ _ _ _ _ _ _=>trivial
def zqw (T:Txt K mg t):FnOk P w K mg base CX0 6 t.f25 t.d25 lm (zj1 K):=by
 have G14:=zgC (P:=P) (w:=w) (base:=base) T;have G15:=zld (P:=P) (w:=w) (base:=base) T;have G11:=zhf (P:=P) (w:=w) (base:=base) T;have G0:FnOk P w K mg base CX0 1 t.f0 t.d0 lm (zlP K):=zfx T;have G1:=yk (P:=P) (w:=w) (base:=base) T;have G16:=zdg (P:=P) (w:=w) (base:=base) T;have G22:=zce (P:=P) (w:=w) (base:=base) T;have G24:=uA (P:=P) (w:=w) (base:=base) T
 refine ztJ (S:=[]) (k:=5) (r:=10) [8,10,11] T.q25.F uj rfl rfl (by decide) λc5 A outer s H E Pn I=>⟨_,_,_,rfl,(xG (i:=1) uj.nd rfl (Or.inl rfl) (zoH T.q0 G0 I (yf (qv 0) yP))),(ze (ug bB rfl (wI uY <| yZ rfl T.b_range (zo (JE.bo zy) zx)) (wG zN <| zm (i:=2) uj.nd) (ze (wS zD <| zY (i:=3) uj.nd (wE zq <| yA T.q16 G16 I (za (kv 1) (za zy zc))))
   (ze (wS zD <| zY (i:=4) uj.nd (wE zq <| yA T.q22 G22 I (za (kv 1) (za (kv 3) zc))))
   (ze (wS zD <| zY (i:=5) uj.nd (wE zq <| yA T.q14 G14 I (za (kv 3) (za (kv 4) zc))))
   (ze (ug bB rfl (wI uX <| uW K rfl (kv 4)) (wG zN <| zm (i:=6) uj.nd) (ze (wS z6 <| uq (wT zu <| zT (za6 I.units) zeJ (JE.bo (wE zq <| yA T.q14 G14 I (za (kv 3) (za (uV (za (kv 6) zc)) zc)))) (JE.bo (wE zq <| yA T.q15 G15 I (za (kv 3) (za (kv 6) zc)))) (zR _)) (zk (zM zki)) z5)
   (zk (wS z6 <| uq (JW.t (wW zgv <| zkT (wT zu <| zT (za6 I.units) zeJ (JE.bo (wE zq <| yA T.q14 G14 I (za (kv 3) (za (uV (za (kv 5) (za (kv 6) zc))) zc)))) (kb 5) (zR _)) (zai (.inr rfl) (wT zi8 <| zmt (wT zu <| zeb (JE.bo (wE zq <| yA T.q24 G24 I (za (kv 3) (za (kv 5) (za (kv 6) zc)))))))))) (zk (zM zki)) z5))))
   (ze (wS zD <| zY (i:=7) uj.nd (uI yq u4 (JE.bo zy) (JE.bo (wE zq <| yA T.q1 G1 I (za (kv 1) (za (yN xB zcl (by rfl) T.b_len bK (zo (kb 4) zx)) zc))))))
   (ze (wS uy <| za1 (i:=8) uj.nd (uV (za (wE zq <| yA T.q14 G14 I (za (kv 3) (za (wE zft <| znI (kb 4) y4 (wO yy <| y6 (kb 7))) zc))) zc)))
   (ze (wS z6 <| uq (wT zu <| zT zoc u_lt (kb 7) (JE.bo (yN xB zcl (by rfl) T.b_len bK (zo (kb 4) zx))) (zR _)) (zk (wS zc9 <| zgj 8 (wE zq <| yA T.q14 G14 I (za (kv 3) (za (wE zft <| znI (kb 4) (wO yy <| y6 (kb 7)) y4) zc))))) z5)
   (ze (wS z6 <| uq (JW.t (wW zgv <| zkT (wT zu <| zT (za6 I.units) zeJ (JE.bo (wE zfr <| znG T.q14 G14 I (zo (kb 3) (zo (kb 8) zx)))) (kb 5) (zR _)) (zai (.inr rfl) (wT zu <| zT (za6 I.units) zeJ (JE.bo (wE zq <| yA T.q14 G14 I (za (kv 3) (za (uI zjl zmU (JE.bo (uV (za (zc5 zaY zkc (kb 8) (JE.bo zy) (λ_ _=>rfl)) zc))) (JE.bo (wE zft <| znI (kb 4) (wO yy <| y6 (kb 7)) y4))) zc)))) (kb 5) (zR _))))) (zk (zM zki)) z5)
   (ze (wS z6 <| uq (wT zu <| zT zoc u_lt (JE.bo (yN xB zcl (by rfl) T.b_len bK (zo (kb 4) zx))) (JE.bo zy) (zR _)) (ze (wS zD <| zY (i:=9) uj.nd (wE zq <| yA T.q1 G1 I (za (kv 1) (za (yN xB zcl (by rfl) T.b_len bK (zo (kb 4) zx)) zc))))
   (ze (wS uy <| za1 (i:=10) uj.nd (xP zbA zmV (by rfl) T.b_list et (zo (kb 4) zx)))
   (ze (wS zi6 <| zms 10 (uI yq u4 (JE.bo (uI yq u4 (kb 9) (JE.bo zy))) (JE.bo (wE zq <| yA T.q1 G1 I (za (kv 1) (za (uI zmC zrX (JE.bo (yN xB zcl (by rfl) T.b_len bK (zo (kb 4) zx))) (kb 9)) zc))))) (zc5 zaY zkc (kb 4) (kb 9) (λ_ _=>rfl)))
   (ze (wS uy <| za1 (i:=11) uj.nd (xP zbA zmV (by rfl) T.b_list et (zo (kb 4) zx)))
   (ze (wS zi6 <| zms 11 (wE zq <| yA T.q1 G1 I (za (kv 1) (za (uI yq u4 (JE.bo (yN xB zcl (by rfl) T.b_len bK (zo (kb 4) zx))) (JE.bo zy)) zc))) (yB zc))
   (zk (wS z6 <| uq (JW.t (wW zgv <| zkT (wT zu <| zT (za6 I.units) zeJ (JE.bo (wE zfr <| znG T.q14 G14 I (zo (kb 3) (zo (kb 10) zx)))) (kb 5) (zR _)) (zai (.inr rfl) (wT zu <| zT (za6 I.units) zeJ (JE.bo (wE zfr <| znG T.q14 G14 I (zo (kb 3) (zo (kb 11) zx)))) (kb 5) (zR _))))) (zk (zM zki)) z5))))))) z5)
   (zk (wS z6 <| uq (wT zu <| zT (za6 I.units) zeJ (JE.bo (wE zq <| yA T.q14 G14 I (za (kv 3) (za (zbH (N:=["_law_book"]) (cix:=[none]) rfl (by walk_at "c") (wI uX <| uW K rfl (kv 4)) (λ_ _ _ _=>(wG zN <| zm (i:=0) (show (["_law_book"]:List Str).Nodup by decide +kernel))) (λ_ _ _ _=>xR) (λ_ _ _ _=>(wE zq <| yA T.q11 G11 I (za (kv 0) zc)))) zc)))) (JE.bo (wE zq <| yA T.q15 G15 I (za (kv 3) (za (wE zq <| yA T.q11 G11 I (za (kv 5) zc)) zc)))) (zR _)) (zk (zM zki)) z5))))))))))))
   (zk (zM zki))),λp c ns b0=>?_⟩
 subst b0;have hP:IsQ ⟨some (p,c,ns),J0⟩ p:=⟨⟨_,_,rfl⟩,zqV⟩;generalize (⟨some (p,c,ns),J0⟩:PN)=Pn at hP;refine zru ?_;left
 have bb:∀ {rm:List Int} {x y:List Wi},xf rm x->xf rm y->∀b∈[x,y],xf rm b:=λhx hy b O=>by
  simp only[ay,eR,or_false] at O;rcases O with rfl | rfl
  ·exact hx
  ·exact hy
 have bc:∀ {rm:List Int} {x:List Wi},xf rm x->∀b∈[x],xf rm b:=λhx b O=>by rw[ao.mp O];exact hx
 refine⟨⟨by lia,by lia⟩,zd0 (λi ρ m=>m<=3000 * i/\i<=2/\∃v2 v3 v4 v5 v6 v7 v8 v9 va vb,ρ=[none,some (.pen p),v2,v3,v4,v5,v6,v7,v8,v9,va,vb]) ⟨by lia,by lia,_,_,_,_,_,_,_,_,_,_,rfl⟩ ?_ ?_⟩
 ·rintro i ρ m hi ⟨hm,b1,v2,v3,v4,v5,v6,v7,v8,v9,va,vb,rfl⟩ C B E hC _ _;left;refine F_mkR.i hP rfl λrm m1 U hp c6=>?_;left;refine F_books.i hP U λbks m2 a3 h1 h6 da=>?_;have hB:∀b∈bks,xf rm b:=λb O=>(a3 b O).1;left;refine F_laid.i U hp hB (by lia) λwh hw=>?_;obtain⟨a4,db⟩:=xS hB hw;have b2:wh.length<=2048:=by rw[hw.1.length_eq];exact zgN U hp
  left;refine xN bks (λb=>.d (zF b)) (by rw[aI];rfl) (λk ρ m'=>m'=m2/\∃v6,ρ=[none,some (.pen p),some (.d (.int (i:Int))),some (.d (stD rm)),some (.d (.lst (bks.map zF))),some (.d (zF wh)),v6,v7,v8,v9,va,vb]) ⟨rfl,_,rfl⟩ ?_ ?_
  ·rintro k b ρ m' O ⟨rfl,v6,rfl⟩ C2 B2 E2 a5 _ _;have al:=aA O;have an:=hB b al;left;refine F_laid.i (bks:=[b]) U hp (bc an) (by simp) λw1 Y=>?_;left;refine F_full.i U hp an λw2 as=>?_;obtain rfl:w1=w2:=xT Y as λ_ _ _ _=>rfl;left;refine⟨eqW.2,eqW.2,λc Z=>?_⟩;obtain rfl:c=true:=Z.mpr rfl
   (with_reducible refine zdi rfl ?_)
   left;refine F_laid.i (bks:=[wh,b]) U hp (bb a4 an) (by simp) λw3 a7=>?_;obtain rfl:w3=wh:=zr4 hB hw al a7;left;refine⟨eqW.2,eqW.2,λc Z=>?_⟩;obtain rfl:c=true:=Z.mpr rfl
   (with_reducible refine zdi rfl ?_)
   left;refine F_says.i U hp a4 an b2 (by have:=(a3 b al).2;lia) (zpp hB hw al) ?_;left;exact a5 ⟨rfl,_,rfl⟩
  ·rintro ρ m' ⟨rfl,v6,rfl⟩;left;rw[ab];refine tk hP λcu c0 c1=>?_;obtain⟨ct,rfl⟩:∃ct:Nat,cu=(ct:Int):=⟨cu.toNat,by lia⟩;have ec:uf (bks.map zF) none (some (1+(ct:Int)))=(bks.take (ct+1)).map zF:=by rw[uv,show (1+(ct:Int))=((ct+1:Nat):Int) by lia,L3.zf6]
   have ed:uf (bks.map zF) (some (1+(ct:Int))) none=(bks.drop (ct+1)).map zF:=by rw[uv,show (1+(ct:Int))=((ct+1:Nat):Int) by lia,zdU]
   have ac:∀b∈bks.take (ct+1),xf rm b:=λb O=>hB b (bw O);have a2:∀b∈bks.drop (ct+1),xf rm b:=λb O=>hB b (bF O);have bd:yL rm (yC (bks.take (ct+1)++bks.drop (ct+1))) wh:=by rw[aM];exact hw
   left;rw[ec];refine F_laid.i (bks:=bks.take (ct+1)) U hp ac (by rw[bn];lia) λw1 Y=>?_;have ad:=(xS ac Y).1;left;rw[ab];refine' ztF (λ(rs:List (List Wi)) (m3:Nat)=>(∀bk,yL rm (yC rs) bk->bk=wh)/\(∀b∈rs,xf rm b)/\rs[0]?=some w1/\rs.length<=2/\m3=m'+1) _ (λzw=>?_) ?_;rotate_left
   ·refine zck (λb3=>?_) (λdd=>?_)
    ·left;rw[ed];refine F_laid.i (bks:=bks.drop (ct+1)) U hp a2 (by rw[cm];lia) λw2 as=>?_;have bl:=(xS a2 as).1;have ag:(∀bk,yL rm (yC [w1,w2]) bk->bk=wh)/\(∀b∈[w1,w2],xf rm b)/\[w1,w2][0]?=some w1/\[w1,w2].length<=2:=⟨λbk h=>zr5 ac a2 bd Y as h,bb ad bl,rfl,ah _⟩;left;refine⟨show 1<lim by decide,?_⟩;left;rw[show [zF w1]++[zF w2]=[w1,w2].map zF from rfl];generalize [w1,w2]=rs at ag ⊢;generalize b4:m'+1=m3;exact zw rs m3 ⟨ag.1,ag.2.1,ag.2.2.1,ag.2.2.2,b4.symm⟩
    ·have e:bks.take (ct+1)=bks:=a8 (by lia);left;refine zw [w1] (m'+1) ⟨λbk h=>?_,bc ad,rfl,(show 1<=2 by decide),rfl⟩;rw[e] at ac Y;exact zkh ac Y h (by rw[bD];exact hw)
   rintro rs m3 ⟨ca,cb,cd,de,rfl⟩;have nl:(zF wh).noL=true:=by simpa [Dt.noL] using zcy wh
   left;refine F_laid.i U hp cb (by lia) λw3 a7=>?_;obtain rfl:wh=w3:=(ca _ a7).symm;refine⟨nl,?_⟩;left;refine⟨eqW.2,eqW.2,λc Z=>?_⟩;obtain rfl:c=true:=Z.mpr rfl
   (with_reducible refine zdi rfl ?_)
   left;have h0:atI (rs.map zF) 0=some (zF w1):=zf0 (i:=0) (by rw[aE,cd];rfl)
   (with_reducible refine zer h0 ?_)
   left;rw[ed];refine⟨by rw[ab,cm];exact az (by simp;lia:_<=100) (by decide),?_⟩;rw[show [zF w1]++(bks.drop (ct+1)).map zF=(w1::bks.drop (ct+1)).map zF from rfl];left;refine F_laid.i (bks:=w1::bks.drop (ct+1)) U hp (λb O=>(ay.mp O).elim (λe=>by rw[e];exact ad) (a2 b)) (by rw[aT,cm];lia) λw4 ch=>?_;obtain rfl:wh=w4:=(zkh ac Y ch bd).symm;left;refine⟨eqW.2,eqW.2,λc Z=>?_⟩;obtain rfl:c=true:=Z.mpr rfl
   (with_reducible refine zdi rfl ?_)
   left;rw[ab];refine' ztE (λ(u9 ua ub:Option W) (m4:Nat)=>m4<=m'+5) _ (λzw=>?_) ?_;rotate_left
   ·refine zck (λb3=>?_) (λ_=>?_);rotate_left
    ·left;generalize cn:m'+1=m4;generalize v9=x9;generalize va=xa;generalize vb=xb;exact zw x9 xa xb m4 (by lia)
    ·left;rw[ab];refine tk hP λa a0 a1=>?_;obtain⟨J,rfl⟩:∃J:Nat,a=(J:Int):=⟨a.toNat,by lia⟩;have bs:J<bks.length:=by lia
     left;rw[ab];refine tk hP λt t0 t1=>?_;left;refine onG (x:=bks[J]) (aj bs) ?_;left;refine⟨⟨by lia,by lia,bC h6 (by decide)⟩,?_⟩;rw[show zdF (bks.map zF) ((J:Int)+1+t).toNat (zF bks[J])=(zdF bks ((J:Int)+1+t).toNat bks[J]).map zF from ziw zF bks _ _];left;rw[ab];refine tk hP λu u0 u1=>?_;left;refine⟨⟨by lia,by lia,bC h6 (by decide)⟩,?_⟩;rw[show zdF (bks.map zF) u.toNat (Dt.tup [])=(zdF bks u.toNat []).map zF from ziw zF bks _ []]
     have bx:∀ {k:Nat} {z:List Wi},xf rm z->∀b∈zdF bks k z,xf rm b:=λhz b O=>by
      rcases av.mp O with q | q
      ·exact hB b (bw q)
      ·rcases ay.mp q with q | q
       ·rw[q];exact hz
       ·exact hB b (bF q)
     left;refine F_laid.i (bks:=zdF bks ((J:Int)+1+t).toNat bks[J]) U hp (bx (hB _ (a9 bs))) (by rw[ziv];lia) λw5 co=>?_;obtain rfl:wh=w5:=(zl0 hw (List.mem_take_iff_getElem.mpr ⟨J,by lia,rfl⟩) co).symm;refine⟨nl,?_⟩;left;refine⟨eqW.2,eqW.2,λc Z=>?_⟩;obtain rfl:c=true:=Z.mpr rfl
     (with_reducible refine zdi rfl ?_)
     left;refine F_laid.i (bks:=zdF bks u.toNat []) U hp (bx (by intro x hx;simp at hx)) (by rw[ziv];lia) λw6 c2=>?_;obtain rfl:wh=w6:=(zl1 hw c2).symm;refine⟨nl,?_⟩;left;refine⟨eqW.2,eqW.2,λc Z=>?_⟩;obtain rfl:c=true:=Z.mpr rfl
     (with_reducible refine zdi rfl ?_)
     left;exact zw _ _ _ _ (by lia)
   intro u9 ua ub m4 cn;refine zdS bks (λb=>.d (zF b)) (by rw[aI];rfl) (λρ=>∃v,ρ=[v]) (λb=>zF (b.map xh)) (az h6 (by decide)) ⟨_,rfl⟩ ?_ ?_
   ·rintro b O df ⟨v,rfl⟩ C2 a5;left;refine F_trn.i (by have:=(a3 b O).2;lia) ?_;exact a5 ⟨_,rfl⟩
   ·left;rw[show bks.map (λb=>zF (b.map xh))=(bks.map λb=>b.map xh).map zF by rw[aI];rfl];refine F_laid.i U hp (λb O=>by obtain⟨x,hx,rfl⟩:=aG.mp O;exact zhK (hB x hx)) (by rw[ab];lia) λw7 c3=>?_;left;refine F_trn.i (by lia) ?_;left;refine F_full.i U hp (zhK a4) λw8 c4=>?_;obtain rfl:w7=w8:=zpq hB hw c3 c4;left;refine⟨eqW.2,eqW.2,λc Z=>?_⟩;obtain rfl:c=true:=Z.mpr rfl
    (with_reducible refine zdi rfl ?_)
    left;exact hC ⟨by lia,by lia,_,_,_,_,_,_,_,_,_,_,rfl⟩
 ·rintro ρ m ⟨hm,b1,v2,v3,v4,v5,v6,v7,v8,v9,va,vb,rfl⟩;left
end
def Dm{K:PySem.W.Frag}{h:Heap}{mg:Str->Option Value}{x:Str}{st:Stmt}{ps:List Str}{f:Addr}{J kV dc B q ct:Value}{O F:Option Addr}(X:K.In h)(G:h.Ns mainGlobals mg)(a:PySem.W.nsIn K mainGlobals x=some (some (.ref f)))(l:K.lookup f=some ⟨J,O,.func (PySem.W.fnOf x x (yw st) (zE st) (zb st) .none kV dc B F q ct),U⟩)(c:PySem.W.codeIn K q x=true)(k:PySem.W.keepIn K (.ref f)=true)(b:∀ (kV dc B:Value) (F:Option Addr) (q ct:Value) (I:List Value),I.length=ps.length->bindArgs (PySem.W.fnOf x x (yw st) (zE st) (zb st) .none kV dc B F q ct) ⟨I,[]⟩=pure (ps.zip I)):Dfn K mg x st ps f (PySem.W.fnOf x x (yw st) (zE st) (zb st) .none kV dc B F q ct):=⟨zmm l c k,(zmm l c k).binds b,PySem.W.mg_of X G a⟩
def DmD{K:PySem.W.Frag}{h:Heap}{mg:Str->Option Value}{x:Str}{st:Stmt}{ps:List Str}{ds:List Value}{f T:Addr}{U kV dc F B ct Y:Value}{Z I J:Option Addr}{sl O:Array (Option Value)}{its:Array Value}(X:K.In h)(G:h.Ns mainGlobals mg)(a:PySem.W.nsIn K mainGlobals x=some (some (.ref f)))(l:K.lookup f=some ⟨U,Z,.func (PySem.W.fnOf x x (yw st) (zE st) (zb st) (.ref T) kV dc F I B ct),sl⟩)(c:PySem.W.codeIn K B x=true)(k:PySem.W.keepIn K (.ref f)=true)(t:K.lookup T=some ⟨Y,J,.seq its n2,O⟩)(b:∀q:List Value,(q++[]).length=ps.length->∃k:Option (Array Value)->Sem (List (Str×Value)),bindArgs (PySem.W.fnOf x x (yw st) (zE st) (zb st) (.ref T) kV dc F I B ct) ⟨q,[]⟩=seqItems? (.ref T) >>= k/\k (some its)=pure (ps.zip (q++[])))(e:∀q:List Value,(q++ds).length=ps.length->∃k:Option (Array Value)->Sem (List (Str×Value)),bindArgs (PySem.W.fnOf x x (yw st) (zE st) (zb st) (.ref T) kV dc F I B ct) ⟨q,[]⟩=seqItems? (.ref T) >>= k/\k (some its)=pure (ps.zip (q++ds))):DfnD K mg x st ps ds f (PySem.W.fnOf x x (yw st) (zE st) (zb st) (.ref T) kV dc F I B ct):=⟨znt l c k,zmd l rfl t b,zmd l rfl t e,PySem.W.mg_of X G a⟩
def Ym{i:Int}(X:K.In h)(G:h.Ns mainGlobals mg)(a:PySem.W.nsIn K mainGlobals x=some (some (.int i u))):∃v,yr (.int i) v/\mg x=some v:=⟨_,⟨_,rfl⟩,PySem.W.mg_of X G a⟩
def fin {l:PySem.W.OpenLaw}{w:World}{K:PySem.W.Frag}{mg:Str->Option Value}{fa:Addr}{t:Ad}(q:mg "law" = some (.ref fa))(T:Txt K mg t)(b:∀ (s:Shared) (v:Value),BindsTo s t.d25 ⟨[v],[]⟩ [("_law_script",v)]):∃fd:FuncData,(∀ (s:Shared) (v:Value),BindsTo s fd ⟨[v],[]⟩ [("_law_script",v)])/\∀base:Heap,K.In base->base.Ns mainGlobals mg->FnOk l.prog w K mg base CX0 6 fa fd lm (zj1 K):=by have e:=q.symm.trans T.q25.m;cases e;exact⟨_,b,λbase _ _=>zqw T⟩
def walk {l:PySem.W.OpenLaw}{q:Program}{B:List Str}{XP:(Str->Option Value)->Heap->Prop}{YP:World->Heap->Prop}{d:DefRec}{K:Params->PySem.W.Frag}(J:l.most=some 63)(I:d.params.defaults=[])
  (O:∀ (w:World) (h:Heap),YP w h->(K w.params).In h)
  (F:∀ (w:World) (mg:Str->Option Value) (fa:Addr) (h:Heap),(K w.params).In h->h.Ns mainGlobals mg->mg d.name=some (.ref fa)->
   ∃fd:FuncData,(∀ (s:Shared) (u:Value),BindsTo s fd ⟨[u],[]⟩ [("_law_script",u)])/\∀base:Heap,(K w.params).In base->base.Ns mainGlobals mg->FnOk l.prog w (K w.params) mg base CX0 6 fa fd lm (zj1 (K w.params))) :
  PySem.W.WalkO q B XP YP l.row.toRowW d [] (λf vs=>PySem.call f vs):=
 L2.zpo (n:=63) (k:=6) (x := "_law_script") (CX:=λ_=>CX0) (sp:=λw=>zj1 (K w.params)) J (by decide) I ⟨rfl,by decide,by decide,rfl⟩ O F (λ_ _ a ns U _ Y=>⟨a,ns,rfl,Y,U,λ_=>rfl⟩) λ_ _ _ _ _ z=>z
end Law
open PySem PySem.W PyProof.Rows
theorem PySem.W.Fast.te8501751544886312601:True:=.intro
set_option maxRecDepth 100000 in
set_option maxHeartbeats 0 in
theorem PySem.Challenge.cw_allelse_k56_laid_one_by_one_holds : PySem.Challenge.rw_allelse_k56_laid_one_by_one.Holds := by
 w_on;refine holds_law (by decide +kernel) λ_=>?_;k_head;(case hw=>w_witness2)
 k_fill
 refine Law.walk (l:=PySem.Challenge.rw_allelse_k56_laid_one_by_one) rfl rfl (λw h Y=>PySem.W.kIn_of Y) ?F
 case F=>
  intro w mg fa h KX G J;refine' Law.fin (t:=⟨_,_,_,_,_,_,_,_,_,_,_,_,_,_,_,_,_,_,_,_,_,_,_,_,_,_,_,_,_,_,_,_,_,_,_,_,_,_,_,_,_,_,_,_,_,_,_,_,_,_,_,_⟩) J ⟨?D0,?D1,?D2,?D3,?D4,?D5,?D6,?D7,?D8,?D9,?D10,?D11,?D12,?D13,?D14,?D15,?D16,?D17,?D18,?D19,?D20,?D21,?D22,?D23,?D24,?D25,?z_ValueError,?z_sorted,?z_tuple,?z_range,?z_all,?z_len,?z_isinstance,?z_int,?z_list,?z_enumerate,?z_abs,?B,?y_MOST_OF_SMALL⟩ λs v=>?b
  (case D0 | D1 | D2 | D3 | D4 | D5 | D6 | D7 | D8 | D10 | D11 | D12 | D13 | D14 | D15 | D16 | D17 | D18 | D19 | D20 | D21 | D22 | D23 | D24 | D25=>(dsimp only;refine' Law.Dm (by assumption) (by assumption) ?da ?dl ?dc ?dk ?db;(case da=>k_is);(case dl=>k_is);(case dc=>k_is);(case dk=>k_is);(case db=>(intro _ _ _ _ _ _ I q;first | (obtain⟨_,e⟩:=L2.us_1 q;subst e;rfl) | (obtain⟨_,_,e⟩:=L2.us_2 q;subst e;rfl) | (obtain⟨_,_,_,e⟩:=L2.us_3 q;subst e;rfl) | (obtain⟨_,_,_,_,e⟩:=L2.us_4 q;subst e;rfl)))))
  (case D9=>(dsimp only;refine' Law.DmD (by assumption) (by assumption) ?da ?dl ?dc ?dk ?dt ?db ?O;(case da=>k_is);(case dl=>k_is);(case dc=>k_is);(case dk=>k_is);(case dt=>k_is);(case db=>(intro I q;first | (obtain⟨_,_,_,_,e⟩:=L2.us_4 (show I.length=4 by rw[List.append_nil] at q;exact q);subst e;exact⟨_,rfl,rfl⟩)));(case O=>(intro I q;first | (obtain⟨_,_,_,e⟩:=L2.us_3 (show I.length=3 by rw[List.length_append] at q;exact Nat.succ.inj q);subst e;exact⟨_,rfl,rfl⟩)))))
  (case z_ValueError | z_sorted | z_tuple | z_range | z_all | z_len | z_isinstance | z_int | z_list | z_enumerate | z_abs | B=>(refine' PySem.W.mg_none_of (by assumption) (by assumption) ?dz;(case dz=>k_is)))
  (case y_MOST_OF_SMALL=>(refine' Law.Ym (by assumption) (by assumption) ?dz;(case dz=>k_is)))
  (case b=>exact .of_eq rfl)


import PyProof.Rows.All
import Wide.All
import OpenK.AllK
import Wide.FinOn
import Lean
import PyProof.EqAt
import PyProof.EqKinds
import PyProof.TupleCall
import PySem.Challenge.RW_allelse_k30_local_rounds_and_tops
set_option Elab.async false
set_option linter.all false
set_option maxRecDepth 100000
set_option maxHeartbeats 4000000
namespace L2
open PySem PySem.Spec PyProof.Rows
abbrev aa:=@List.length_map
abbrev ab:=@wpAny_bind
abbrev ac:=@wpAny_pure
abbrev ae:=@List.getElem?_eq_some_iff
abbrev af:=@List.length_append
abbrev ag:=@Nat.le_refl
abbrev ah:=@List.mem_cons_self
abbrev ai:=@Heap.get?_push_of_some
abbrev aj:=@List.getElem?_eq_getElem
abbrev ak:=@List.mem_cons_of_mem
abbrev am:=@List.length_range
abbrev ao:=@List.map_cons
abbrev aq:=@List.size_toArray
abbrev ar:=@List.getElem?_set_ne
abbrev au:=@List.mem_append_right
abbrev aw:=@Heap.lt_size
abbrev ax:=@Nat.le_trans
abbrev ay:=@Bool.and_eq_true
abbrev az:=@List.map_map
abbrev aA:=@Bool.false_ne_true
abbrev aB:=@List.map_append
abbrev aC:=@List.getElem?_map
abbrev aD:=@Array.length_toList
abbrev aE:=@List.getD_eq_getElem?_getD
abbrev aF:=@List.mem_map
abbrev aG:=@List.mem_cons
abbrev aH:=@Option.map_eq_some_iff
abbrev aI:=@List.mem_of_getElem?
abbrev aJ:=@List.length_take
abbrev aK:=@List.mem_singleton
abbrev aL:=@Int.toNat_natCast
abbrev aM:=@List.getElem?_set_self
abbrev aN:=@decide_eq_false
abbrev aO:=@Nat.ne_of_lt
abbrev aP:=@Heap.get?_push_size
abbrev aQ:=@List.mem_range
abbrev aR:=@decide_eq_true
abbrev aS:=@List.length_cons
abbrev aT:=@Bool.false_eq_true
abbrev aU:=@Nat.lt_of_lt_of_le
abbrev aV:=@List.mem_filter
abbrev aW:=@PassesOwn.never
abbrev aX:=@List.length_set
abbrev aY:=@Array.getElem?_eq_getElem
abbrev aZ:=@PySem.boot_len
abbrev a6:=@List.getElem?_append_left
abbrev a8:=@Nat.zero_le
abbrev a9:=@List.lookup_cons
abbrev ba:=@List.getElem?_append_right
abbrev bc:=@Option.some.inj
abbrev be:=@Nat.lt_of_le_of_lt
abbrev bf:=@List.length_drop
abbrev bg:=@List.mem_append
abbrev bh:=@List.getElem_mem
abbrev bi:=@wpAny_mono
abbrev bj:=@wpAny_newObj_type
abbrev bm:=@wpAny_call_entry
abbrev bn:=@List.take_length
abbrev bp:=@Int.natCast_nonneg
abbrev bq:=@List.mem_iff_getElem
abbrev br:=@eq_of_beq
abbrev bt:=@List.eq_nil_of_length_eq_zero
abbrev bu:=@List.dropLast_concat_getLast
abbrev bv:=@Array.getD_eq_getD_getElem?
abbrev bw:=@List.getElem?_eq_none
abbrev bz:=@List.contains_iff_mem
abbrev bA:=@List.find?_cons
abbrev bB:=@List.all_eq_true
abbrev bC:=@of_decide_eq_true
abbrev bD:=@Classical.byContradiction
abbrev bE:=@wpAny_setState_of
abbrev bF:=@decide_eq_true_eq
abbrev bG:=@wpAny_askSetting
abbrev bH:=@List.getElem?_cons_succ
abbrev bI:=@sizeLine_eq
abbrev bJ:=@List.mem_of_mem_take
abbrev bK:=@List.take_of_length_le
abbrev bL:=@PySem.W.kia_one
abbrev bM:=@wpAny_holding
abbrev bN:=@Heap.SameBut.update
abbrev bO:=@List.append_assoc
abbrev bP:=@PySem.F.slot_dict_keyiterator_next
abbrev bQ:=@Nat.lt_irrefl
abbrev bR:=@Int.emod_lt_of_pos
abbrev bS:=@PySem.F.plainAttrs_list
abbrev bT:=@List.getElem_range
abbrev bU:=@List.mem_append_left
abbrev bV:=@List.getElem_inj
abbrev bW:=@Nat.lt_trans
abbrev bX:=@List.filterMap_cons
abbrev bZ:=@List.replicate_succ
abbrev b4:=@Int.toNat_of_nonneg
abbrev b6:=@wpAny_standAt
abbrev b7:=@List.pairwise_iff_getElem
abbrev b8:=@List.nodup_cons
abbrev b9:=@wpAny_comprehension_free
abbrev cb:=@List.pairwise_cons
abbrev ce:=@List.filter_append
abbrev cg:=@wpAny_typeNameOfWhole_keyiter
abbrev ci:=@List.any_cons
abbrev cj:=@PyProof.Rows.boot_tuple
abbrev ck:=@Nat.le_of_lt
abbrev cm:=@Nat.lt_trichotomy
abbrev cq:=@PyProof.Rows.callWith_type1
abbrev cr:=@Bool.eq_iff_iff
abbrev cu:=@Int.emod_nonneg
abbrev cv:=@List.map_congr_left
abbrev cw:=@List.getElem_replicate
abbrev cx:=@PyProof.Rows.boot_list
abbrev cy:=@Array.getElem?_eq_some_iff
abbrev cz:=@Nat.lt_succ_self
abbrev cA:=@List.not_mem_nil
abbrev cB:=@Heap.get?_update_self
abbrev cC:=@List.all_cons
abbrev cD:=@Obj.data_mapFields
abbrev cE:=@List.length_filter_le
abbrev cF:=@Nat.pow_le_pow_right
abbrev cG:=@wpAny_truthy_bool
abbrev cH:=@wpAny_passesOwn
abbrev cI:=@List.append_nil
abbrev cJ:=@List.flatten_cons
abbrev cK:=@Nat.not_lt_zero
abbrev cL:=@Nat.le_of_lt_succ
abbrev cM:=@List.pairwise_map
abbrev cN:=@wpAny_typeNameOf_keyiter
abbrev cO:=@PySem.mem_of_lookup
abbrev cP:=@List.pairwise_singleton
abbrev cQ:=@List.filter_sublist
abbrev cR:=@List.getElem_map
abbrev cS:=@wpAny_isInstance
abbrev cT:=@Int.mul_le_mul_of_nonneg_left
abbrev cU:=@List.drop_eq_nil_of_le
abbrev cV:=@List.mem_filterMap
abbrev cW:=@Nat.add_sub_cancel
abbrev cY:=@List.Sublist.eq_of_length_le
abbrev cZ:=@Array.getElem?_toList
abbrev c3:=@List.take_sublist
abbrev c4:=@List.reverse_cons
abbrev c5:=@wpAny_attempt
abbrev c6:=@wpAny_newFunctionEnv
abbrev c7:=@Array.getElem_toList
abbrev c8:=@Heap.size_push
abbrev c9:=@Int.mul_le_mul
abbrev da:=@wpAny_setField
abbrev db:=@PySem.F.args_dict_keyiterator_next_1
abbrev de:=@List.ext_getElem
abbrev df:=@List.any_eq_true
abbrev dg:=@Bool.or_eq_true_iff
abbrev dh:=@List.getElem?_range
abbrev di:=@PySem.F.entry_dict_keyiterator_next
abbrev dj:=@List.getElem?_take_of_lt
abbrev dl:=@PySem.F.args_tuple_add_2
abbrev dn:=@wpAny_typeOf
abbrev dq:=@PyProof.Rows.boot_sorted
abbrev dr:=@PySem.F.entry_tuple_add
abbrev du:=@Bool.and_true
abbrev dv:=@List.getElem?_drop
abbrev dw:=@Array.append_empty
abbrev dy:=@PySem.F.slot_tuple_add
abbrev dz:=@List.ext_getElem?
abbrev dA:=@List.nodup_append
abbrev dB:=@List.getElem_take
abbrev dC:=@List.drop_zero
abbrev dD:=@isSubtype_stop
abbrev dE:=@Nat.ne_of_gt
abbrev dF:=@List.length_replicate
abbrev dG:=@List.map_nil
abbrev dH:=@List.take_append_drop
abbrev dJ:=@Obj.isFreed_of_fields
abbrev dL:=@PyProof.Rows.boot_abs
abbrev dM:=@Nat.min_eq_right
abbrev dO:=@List.nodup_range
abbrev dP:=@Array.mem_toList_iff
abbrev dQ:=@List.length_dropLast
abbrev dR:=@Paired.length
abbrev dS:=@List.map_take
abbrev dU:=@Int.lt_irrefl
abbrev dW:=@Array.getElem?_setIfInBounds
abbrev dX:=@call_meets
abbrev dZ:=@beq_eq_false_iff_ne
abbrev ee:=@wpAny_execs_nil
abbrev ef:=@Nat.le_succ
abbrev eh:=@List.nil_append
abbrev ei:=@Nat.min_eq_left
abbrev el:=@List.length_reverse
abbrev en:=@Heap.get?_update_ne
abbrev eo:=@wpAny_setEntries_of
abbrev er:=@F.slot_zip_next
abbrev eA:=@Option.map_some
abbrev eB:=@List.length_pos_iff
abbrev eC:=@wpAny_Call_Name_kw
abbrev eD:=@List.filterMap_map
abbrev eE:=@Nat.succ_mul
abbrev eF:=@Nat.add_comm
abbrev eG:=@Nat.sub_zero
abbrev eI:=@Nat.sub_self
abbrev eJ:=@Nat.succ_pos
abbrev eK:=@Bool.and_false
abbrev eL:=@wpAny_fieldsOf
abbrev eM:=@Bool.eq_false_iff
abbrev eO:=@Nat.mod_lt
abbrev eP:=@Nat.lt_succ_of_le
abbrev eQ:=@Obj.cls_mapFields
abbrev eR:=@wpAny_pyIter_slot
abbrev eS:=@wpAny_dictEntries
abbrev eU:=@List.map_drop
abbrev eV:=@Bool.not_true
abbrev eW:=@List.cons.inj
abbrev eY:=@noFill_tuple_add
abbrev eZ:=@List.mem_flatMap
abbrev e7:=@wpAny_forIn_list
abbrev e8:=@Nat.lt_or_ge
abbrev ff:=@typeIs_int
abbrev fg:=@wpAny_rule
abbrev Key:=Sum Int Str
def zet:Key->Value->Bool
 | .inl k,v=>Value.isInt k v
 | .inr x,v=>Value.isStrOf x v
def keyH (w:World):Key->Int
 | .inl k=>hashInt k
 | .inr x=>hashStr w x
theorem zW:∀ {k:Key} {v:Value},zet k v=true->(∃i t,k=Sum.inl i/\v=Value.int i t)\/(∃x t,k=Sum.inr x/\v=Value.str x t)
 | .inl i,v,h=>by obtain⟨t,e⟩:=Value.isInt_shape (k:=i) (v:=v) h;exact .inl ⟨i,t,rfl,e⟩
 | .inr x,v,h=>by obtain⟨t,e⟩:=Value.isStrOf_shape (x:=x) (v:=v) h;exact .inr ⟨x,t,rfl,e⟩
theorem zeu (i:Int)(t:Tok):zet (.inl i) (.int i t)=true:=by simp[zet,Value.isInt]
theorem zir (x:Str)(t:Tok):zet (.inr x) (.str x t)=true:=by simp[zet,Value.isStrOf]
theorem zpx (a b:Int):decide ((Sum.inl a:Key)=Sum.inl b)=(a==b):=by
 by_cases e:a=b
 ·subst e;simp
 ·have h:¬ (Sum.inl a:Key)=Sum.inl b:=fun q=>e (Sum.inl.inj q);rw[aN h];exact (dZ.mpr e).symm
theorem zpA (a b:Str):decide ((Sum.inr a:Key)=Sum.inr b)=decide (a=b):=by
 by_cases e:a=b
 ·subst e;simp
 ·have h:¬ (Sum.inr a:Key)=Sum.inr b:=fun q=>e (Sum.inr.inj q);rw[aN h,aN e]
theorem zpy (a:Int)(b:Str):decide ((Sum.inl a:Key)=Sum.inr b)=false:=aN (fun q=>nomatch q)
theorem zpz (a:Str)(b:Int):decide ((Sum.inr a:Key)=Sum.inl b)=false:=aN (fun q=>nomatch q)
def zM (prog:Program)(w:World):PySem.KeyKind prog w Key where
 is:=zet
 hash:=keyH w
 inj:=fun v a b ha hb=>by
  rcases zW ha with ⟨i,t,rfl,rfl⟩ | ⟨x,t,rfl,rfl⟩
  ·rcases zW hb with ⟨j,u,rfl,e⟩ | ⟨y,u,rfl,e⟩
   ·injection e with e1 _;rw[e1]
   ·exact nomatch e
  ·rcases zW hb with ⟨j,u,rfl,e⟩ | ⟨y,u,rfl,e⟩
   ·exact nomatch e
   ·injection e with e1 _;rw[e1]
 byValue:=fun k v h=>by rcases zW h with ⟨i,t,rfl,rfl⟩ | ⟨x,t,rfl,rfl⟩ <;> rfl
 pyHash:=fun hv h=>by
  rcases zW hv with ⟨i,t,rfl,rfl⟩ | ⟨x,t,rfl,rfl⟩
  ·exact wpAny_pyHash_int h
  ·exact wpAny_pyHash_str h
 eqBool:=fun hu hv h=>by
  rcases zW hu with ⟨i,t,rfl,rfl⟩ | ⟨x,t,rfl,rfl⟩
  ·rcases zW hv with ⟨j,u,rfl,rfl⟩ | ⟨y,u,rfl,rfl⟩
   ·rw[zpx] at h;exact wpAny_eqBool_int h
   ·rw[zpy] at h;exact SeqAt.EqAt.int_str i t y u _ _ _ _ h
  ·rcases zW hv with ⟨j,u,rfl,rfl⟩ | ⟨y,u,rfl,rfl⟩
   ·rw[zpz] at h;exact SeqAt.EqAt.str_int x t j u _ _ _ _ h
   ·rw[zpA] at h;exact wpAny_eqBool_str h
 «strs»:=fun k x t v h=>by
  rcases zW h with ⟨i,u,rfl,e⟩ | ⟨y,u,rfl,e⟩
  ·exact nomatch e
  ·injection e with e1 _;subst e1;cases v <;> rfl
theorem zgU (prog:Program)(w:World)(k:Key)(v:Value):(zM prog w).is k v=zet k v:=rfl
theorem zfE (prog:Program)(w:World)(i:Int)(t:Tok):(zM prog w).is (.inl i) (.int i t)=true:=zeu i t
theorem zfF (prog:Program)(w:World)(x:Str)(t:Tok):(zM prog w).is (.inr x) (.str x t)=true:=zir x t
inductive V where
 | non | bl (b:Bool) | int (i:Int) | str (x:Str) | byt (b:Array UInt8) | flt (b:UInt64) | ref (a:Addr) | ty (n:String)
 deriving DecidableEq
def yN:V->Value->Prop
 | .non,u=>u=Value.none
 | .bl b,u=>u=Value.bool b
 | .int i,u=>∃t,u=Value.int i t
 | .str x,u=>∃t,u=Value.str x t
 | .byt b,u=>∃t,u=Value.bytes b t
 | .flt b,u=>∃t,u=Value.float b t
 | .ref a,u=>u=Value.ref a
 | .ty n,u=>u=Value.type n
abbrev z4:List V->List Value->Prop:=Paired yN
theorem z4.length {xs:List V}{us:List Value}(r:z4 xs us):xs.length=us.length:=dR r
theorem z4.get:∀ {xs:List V} {us:List Value} {i:Nat} {x:V},z4 xs us->xs[i]?=some x->∃u,us[i]?=some u/\yN x u
 | _,_,_,_,.nil,e=>by simp at e
 | _,_,0,_,.cons r _,e=>by simp at e;subst e;exact⟨_,rfl,r⟩
 | _,_,i+1,x,.cons _ t,e=>by obtain⟨u,h1,h2⟩:=z4.get (i:=i) (x:=x) t (by simpa using e);exact⟨u,by simpa using h1,h2⟩
theorem z4.set {x:V}{u:Value}(r:yN x u):∀ {xs:List V} {us:List Value} (i:Nat),z4 xs us->z4 (xs.set i x) (us.set i u)
 | _,_,_,.nil=>.nil
 | _,_,0,.cons _ t=>.cons r t
 | _,_,i+1,.cons q t=>.cons q (z4.set r i t)
theorem z4.append:∀ {xs ys:List V} {us ws:List Value},z4 xs us->z4 ys ws->z4 (xs++ys) (us++ws)
 | _,_,_,_,.nil,s=>s
 | _,_,_,_,.cons r t,s=>.cons r (z4.append t s)
theorem z4.take:∀ {xs:List V} {us:List Value} (n:Nat),z4 xs us->z4 (xs.take n) (us.take n)
 | _,_,0,_=>.nil
 | _,_,_+1,.nil=>.nil
 | _,_,n+1,.cons r t=>.cons r (z4.take n t)
theorem z4.drop:∀ {xs:List V} {us:List Value} (n:Nat),z4 xs us->z4 (xs.drop n) (us.drop n)
 | _,_,0,r=>r
 | _,_,_+1,.nil=>.nil
 | _,_,n+1,.cons _ t=>z4.drop n t
def zhf:Option V->Option Value->Prop
 | some v,some u=>yN v u
 | none,none=>True
 | _,_=>False
def KV {κ:Type}:List (κ×V)->List (κ×Value)->Prop:=Paired fun (p:κ×V) (q:κ×Value)=>p.1=q.1/\yN p.2 q.2
def kV:Key->V
 | .inl i=>.int i
 | .inr x=>.str x
inductive HO where
  | lst (xs:List V)
  | tup (xs:List V)
  | dK (kvs:List (Key×V)) | dT (kvs:List (List Key×V))
  | set (S:Int->Bool) (n:Nat)
  | ins (C dx:Addr) (fs:List (Str×V))
  | own (x:Addr)
  | xd (fs:List (Str×V))
  | met (f x:Addr)
  | rng (lo hi:Int)
  | frz (o:Obj) (u:HO)
  | tbl (ps:Array Value)
  | ext (φ:Heap->Prop)
abbrev Hp:=Addr->Option HO
def upd (H:Hp)(a:Addr)(o:HO):Hp:=fun b=>if b=a then some o else H b
theorem zj {H:Hp}{a:Addr}{o:HO}:upd H a o a=some o:=by unfold upd;rw[if_pos rfl]
theorem zh {H:Hp}{a b:Addr}{o:HO}(h:b≠a):upd H a o b=H b:=by unfold upd;rw[if_neg h]
theorem zgV {H:Hp}{a b:Addr}{o u:HO}(h:H a=some o)(h':H b=some u)(d:o≠u):a≠b:=by intro e;subst e;rw[h] at h';exact d (bc h')
theorem zc {H:Hp}{a b:Addr}{o:HO}(h:H a=some o)(h':H b=none):a≠b:=by intro e;subst e;rw[h] at h';cases h'
def u7 (h:Heap)(a:Addr)(items:Array Value):Prop:=∃o,h.get? a=some o/\o.cls = .type "tuple" /\ (∃n,o.data = .seq items n)/\o.dict=none
theorem u7.tup {h:Heap}{a:Addr}{items:Array Value}(x:u7 h a items):IsTup h a items:=let ⟨o,h1,h2,h3,_⟩:=x;⟨o,h1,h2,h3⟩
theorem u7.lt {h:Heap}{a:Addr}{items:Array Value}(x:u7 h a items):a<h.objs.size:=x.tup.lt
theorem u7.new (h:Heap)(items:Array Value):u7 (h.push { cls:=.type "tuple",data:=.seq items }) h.objs.size items:=⟨_,aP _ rfl,rfl,⟨_,rfl⟩,rfl⟩
section
variable (P:Program)(w:World)
def yy (H:Hp)(h:Heap)(a:Addr):HO->Prop
 | .lst xs=>xs.length<=sizeLine/\∃ (its:List Value) (n:Nat),z4 xs its/\h.get? a=some { cls:=.type "list",data:=.seq its.toArray n }
 | .tup xs=>xs.length<=sizeLine/\∃its:List Value,z4 xs its/\u7 h a its.toArray
 | .dK kvs=>kvs.length<=sizeLine/\(a==sysModules)=false/\∃vs,KV kvs vs/\h.DictOf (zM P w) a vs
 | .dT kvs=>kvs.length<=sizeLine/\(a==sysModules)=false/\∃xs:List (List Key×Addr×Value),
   Paired (fun (p:List Key×V) (q:List Key×Addr×Value)=>p.1=q.1/\H q.2.1=some (.tup (p.1.map kV))/\yN p.2 q.2.2) kvs xs/\
   ∃o es ep,h.get? a=some o/\o.ExactDict/\o.data = .dict es ep/\es.toList=xs.map (entryOfKey (tupleKind (zM P w)))/\(xs.map (·.1)).Nodup
 | .set S n=>h.SetOf (intKind P w) a S n
 | .ins C dx fs=>H dx=some (.own a)/\fs.length<=1000/\dx≠a/\h.get? a=some (PySem.W.instObj C dx)/\
   ∃mA,h.Ns1 dx mA/\(∀f,zhf (fs.lookup f) (mA f))/\PySem.Within mA (fs.map (·.1))
 | .own _=>∃o,h.get? a=some o
 | .xd fs=>∃mA,h.Ns1 a mA/\∀f,zhf (fs.lookup f) (mA f)
 | .rng lo hi=>∃t u v,h.get? a=some { cls:=.type "range",data:=.fields #[.int lo t,.int hi u,.int 1 v] }
 | .frz o u=>h.get? a=some o/\yy H h a u
 | .tbl ps=>h.get? a=some { cls:=.none,data:=.fields ps }
 | .met f x=>h.get? a=some (PySem.W.methodObj (.ref f) (.ref x))
 | .ext φ=>φ h/\(∃o,h.get? a=some o)/\∀h1 h2:Heap,φ h1->(∀o,h1.get? a=some o->h2.get? a=some o)->φ h2
def HOk (H:Hp)(h:Heap):Prop:=∀a o,H a=some o->yy P w H h a o
end
section
variable {P:Program}{w:World}{H H':Hp}{h h':Heap}{a:Addr}{o:HO}
theorem yy.lt (x:yy P w H h a o):a<h.objs.size:=by
 cases o with
 | lst xs=>obtain⟨_,_,_,_,e⟩:=x;exact aw e
 | tup xs=>obtain⟨_,_,_,p⟩:=x;exact p.lt
 | dK kvs=>obtain⟨_,_,_,_,o,_,_,e,_⟩:=x;exact aw e
 | dT kvs=>obtain⟨_,_,_,_,o,_,_,e,_⟩:=x;exact aw e
 | set S n=>obtain⟨o,_,_,_,e,_⟩:=x;exact aw e
 | ins C dx fs=>obtain⟨_,_,_,e,_⟩:=x;exact aw e
 | own y=>obtain⟨_,e⟩:=x;exact aw e
 | xd fs=>obtain⟨_,⟨_,_,_,e,_⟩,_⟩:=x;exact aw e
 | rng lo hi=>obtain⟨_,_,_,e⟩:=x;exact aw e
 | frz ob u=>obtain⟨e,_⟩:=x;exact aw e
 | tbl ps=>exact aw (show h.get? a=some _ from x)
 | met f y=>exact aw (show h.get? a=some _ from x)
 | ext φ=>obtain⟨_,⟨_,e⟩,_⟩:=x;exact aw e
theorem Paired.mapP {α β:Type}{F G:α->β->Prop}:∀ {l₁:List α} {l₂:List β},Paired F l₁ l₂->(∀a b,F a b->G a b)->Paired G l₁ l₂
 | _,_,.nil,_=>.nil
 | _,_,.cons r t,f=>.cons (f _ _ r) (Paired.mapP t f)
theorem yy.stay (x:yy P w H h a o)(k:∀b u,(b=a\/H b=some (.own a))->h.get? b=some u->h'.get? b=some u)
  (ho:∀b,H b=some (.own a)->H' b=some (.own a)) (ht:∀b xs,H b=some (.tup xs)->H' b=some (.tup xs)):yy P w H' h' a o:=by
 induction o with
 | lst xs=>obtain⟨z,its,n,r,e⟩:=x;exact⟨z,its,n,r,k _ _ (.inl rfl) e⟩
 | tup xs=>obtain⟨z,its,r,ob,e,c⟩:=x;exact⟨z,its,r,ob,k _ _ (.inl rfl) e,c⟩
 | dK kvs=>obtain⟨z,y,vs,r,ob,es,ep,e,c⟩:=x;exact⟨z,y,vs,r,ob,es,ep,k _ _ (.inl rfl) e,c⟩
 | dT kvs=>
  obtain⟨z,y,xs,r,ob,es,ep,e,c⟩:=x;exact⟨z,y,xs,Paired.mapP r fun p q z=>⟨z.1,ht _ _ z.2.1,z.2.2⟩,ob,es,ep,k _ _ (.inl rfl) e,c⟩
 | set S n=>obtain⟨ob,es,ep,t,e,c⟩:=x;exact⟨ob,es,ep,t,k _ _ (.inl rfl) e,c⟩
 | ins C dx fs=>
  obtain⟨d,z,ne,e,mA,⟨od,es,ep,e2,c⟩,r⟩:=x;exact⟨ho _ d,z,ne,k _ _ (.inl rfl) e,mA,⟨od,es,ep,k _ _ (.inr d) e2,c⟩,r⟩
 | own y=>obtain⟨ob,e⟩:=x;exact⟨ob,k _ _ (.inl rfl) e⟩
 | xd fs=>obtain⟨mA,⟨od,es,ep,e,c⟩,r⟩:=x;exact⟨mA,⟨od,es,ep,k _ _ (.inl rfl) e,c⟩,r⟩
 | rng lo hi=>obtain⟨t,u,v,e⟩:=x;exact⟨t,u,v,k _ _ (.inl rfl) e⟩
 | frz ob u ih=>obtain⟨e,q⟩:=x;exact⟨k _ _ (.inl rfl) e,ih q⟩
 | tbl ps=>
  have e:h.get? a=some { cls:=.none,data:=.fields ps }:=x;show h'.get? a=some { cls:=.none,data:=.fields ps };exact k a _ (.inl rfl) e
 | met f y=>
  have e:h.get? a=some (PySem.W.methodObj (.ref f) (.ref y)):=x;show h'.get? a=some (PySem.W.methodObj (.ref f) (.ref y));exact k a _ (.inl rfl) e
 | ext φ=>obtain⟨p,⟨o,e⟩,st⟩:=x;exact⟨st _ _ p fun o q=>k _ _ (.inl rfl) q,⟨o,k _ _ (.inl rfl) e⟩,st⟩
theorem HOk.lt (x:HOk P w H h)(e:H a=some o):a<h.objs.size:=(x a o e).lt
theorem HOk.fresh (x:HOk P w H h)(e:h.objs.size<=a):H a=none:=by
 cases q:H a with
 | none=>rfl
 | some u=>exact absurd (aU (x.lt q) e) (bQ _)
theorem HOk.kept (x:HOk P w H h)(k:∀b u,h.get? b=some u->h'.get? b=some u):HOk P w H h':=fun a o e=>
 (x a o e).stay (fun b u _ q=>k b u q) (fun _ q=>q) fun _ _ q=>q
theorem HOk.laid (x:HOk P w H h)(k:∀b u,h.get? b=some u->h'.get? b=some u)(hp:h.objs.size<=a)(new:yy P w (upd H a o) h' a o):HOk P w (upd H a o) h':=fun b u e=>by
 have hn:=x.fresh hp;by_cases hb:b=a
 ·subst hb;rw[zj] at e;cases e;exact new
 ·rw[zh hb] at e;exact (x b u e).stay (fun c v _ q=>k c v q) (fun c q=>by rw[zh (zc q hn)];exact q) fun c xs q=>by rw[zh (zc q hn)];exact q
end
def Rd (H:Hp)(a:Addr)(u:HO):Prop:=H a=some u\/∃o,H a=some (.frz o u)
theorem Rd.ok {P:Program}{w:World}{H:Hp}{h:Heap}{a:Addr}{u:HO}(r:Rd H a u)(x:HOk P w H h):yy P w H h a u:=by
 rcases r with r | ⟨o,r⟩
 ·exact x a u r
 ·obtain⟨_,q⟩:=x a _ r;exact q
def Mut:Option HO->Prop
 | some (.lst _)=>True
 | some (.dK _)=>True
 | some (.dT _)=>True
 | some (.set _ _)=>True
 | some (.ins _ _ _)=>True
 | some (.ext _)=>True
 | _=>False
section
variable {P:Program}{w:World}{H:Hp}{h h':Heap}{x e:Addr}{o':HO}
theorem HOk.write (ok:HOk P w H h)(mu:Mut (H x))(he:e=x\/H e=some (.own x))(k:∀b u,b≠e->h.get? b=some u->h'.get? b=some u)(heo:∃u,h'.get? e=some u)
  (new:yy P w (upd H x o') h' x o'):HOk P w (upd H x o') h':=fun b u q=>by
 have nown:∀c y,H c=some (.own y)->c≠x:=fun c y r z=>by subst z;rw[r] at mu;exact mu
 have ntup:∀c xs,H c=some (.tup xs)->c≠x:=fun c xs r z=>by subst z;rw[r] at mu;exact mu
 by_cases hb:b=x
 ·subst hb;rw[zj] at q;cases q;exact new
 ·rw[zh hb] at q;by_cases hbe:b=e
  ·have q':H b=some (.own x):=by
    rcases he with z | z
    ·exact absurd (hbe.trans z) hb
    ·rw[hbe];exact z
   rw[q] at q';cases q';obtain⟨v,hv⟩:=heo;exact⟨v,by rw[hbe];exact hv⟩
  ·refine (ok b u q).stay (fun c v hc r=>k c v ?_ r) (fun c r=>by rw[zh (nown c b r)];exact r) fun c xs r=>by rw[zh (ntup c xs r)];exact r
   rcases hc with rfl | hc
   ·exact hbe
   ·rintro rfl;rcases he with z | z
    ·exact nown c b hc z
    ·rw[hc] at z;cases z;exact hb rfl
end
structure Un (fs ex:List Addr)(H H':Hp)(h h':Heap):Prop where
 keep:∀b o,h.get? b=some o->H b=none->b∉fs->b∉ex->h'.get? b=some o
 slot:∀b o,h.get? b=some o->H b=none->b∈fs->b∉ex->∃sl,h'.get? b=some { o with slots:=sl }
 free:∀b o,h.get? b=some o->H b=none->b∉ex->H' b=none
 there:∀b o,h.get? b=some o->b∉ex->∃o',h'.get? b=some o'
 tups:∀b xs,H b=some (.tup xs)->H' b=some (.tup xs)
 frzs:∀b o u,H b=some (.frz o u)->H' b=some (.frz o u)
 tbls:∀b ps,H b=some (.tbl ps)->∃more,H' b=some (.tbl (ps++more))
section
variable {fs fs' ex ex':List Addr}{H H1 H2:Hp}{h h1 h2 h':Heap}{a x e:Addr}{o:HO}
theorem Un.any (u:Un fs ex H H1 h h1){b:Addr}{ob:Obj}(q:h.get? b=some ob)(n:H b=none)(hx:b∉ex):∃sl,h1.get? b=some { ob with slots:=sl }:=by
 by_cases hb:b∈fs
 ·exact u.slot b ob q n hb hx
 ·exact⟨ob.slots,u.keep b ob q n hb hx⟩
theorem Un.kept (k:∀b u,h.get? b=some u->h'.get? b=some u):Un fs ex H H h h':=
 ⟨fun b ob q _ _ _=>k b ob q,fun b ob q _ _ _=>⟨ob.slots,k b ob q⟩,fun _ _ _ n _=>n,fun b ob q _=>⟨ob,k b ob q⟩,fun _ _ q=>q,fun _ _ _ q=>q,fun _ ps q=>⟨#[],by rw[q];simp⟩⟩
theorem Un.refl:Un fs ex H H h h:=Un.kept fun _ _ q=>q
theorem Un.laid (k:∀b u,h.get? b=some u->h'.get? b=some u)(hp:h.objs.size<=a)(hn:H a=none):Un fs ex H (upd H a o) h h' where
 keep:=fun b u q _ _ _=>k b u q
 slot:=fun b u q _ _ _=>⟨u.slots,k b u q⟩
 free:=fun b u q n _=>by rw[zh (aO (aU (aw q) hp))];exact n
 there:=fun b u q _=>⟨u,k b u q⟩
 tups:=fun b xs q=>by rw[zh (zc q hn)];exact q
 frzs:=fun b u xs q=>by rw[zh (zc q hn)];exact q
 tbls:=fun b ps q=>⟨#[],by rw[zh (zc q hn),q];simp⟩
theorem Un.write (mu:Mut (H x))(he:e=x\/H e=some (.own x))(k:∀b u,b≠e->h.get? b=some u->h'.get? b=some u)(heo:∃u,h'.get? e=some u):Un fs ex H (upd H x o) h h':=by
 have hx:∀b,H b=none->b≠x:=fun b n z=>by subst z;rw[n] at mu;exact mu
 have hb:∀b,H b=none->b≠e:=fun b n z=>by
  subst z;rcases he with r | r
  ·exact hx b n r
  ·rw[n] at r;cases r
 have hm:∀b u,H b=some u->¬ Mut (some u)->b≠x:=fun b u q nm z=>by subst z;rw[q] at mu;exact nm mu
 refine⟨fun b u q n _ _=>k b u (hb b n) q,fun b u q n _ _=>⟨u.slots,k b u (hb b n) q⟩,fun b u q n _=>by rw[zh (hx b n)];exact n,fun b u q _=>?_,
  fun b xs q=>by rw[zh (hm b _ q fun z=>z)];exact q,fun b u xs q=>by rw[zh (hm b _ q fun z=>z)];exact q,fun b ps q=>⟨#[],by rw[zh (hm b _ q fun z=>z),q];simp⟩⟩
 by_cases hbe:b=e
 ·subst hbe;exact heo
 ·exact⟨u,k b u hbe q⟩
end
def trk (h:Heap)(H:Hp):List Addr:=(List.range h.objs.size).filter fun a=>(H a).isSome
def zkk (h:Heap)(H:Hp):Heap:=PySem.W.hideAll h (trk h H)
theorem zh3 (h:Heap)(H:Hp):(zkk h H).objs.size=h.objs.size:=PySem.W.hideAll_size _ _
theorem zkl {h:Heap}{H:Hp}{b:Addr}{o:Obj}(e:h.get? b=some o)(n:H b=none):(zkk h H).get? b=some o:=
 PySem.W.hideAll_get _ e fun hm=>by have q:(H b).isSome=true:=(aV.mp hm).2;rw[n] at q;simp at q
theorem znc {h:Heap}{H:Hp}{b:Addr}{o:Obj}(e:(zkk h H).get? b=some o):h.get? b=some o/\H b=none:=by
 have e':h.get? b=some o:=PySem.W.of_hideAll (trk h H) e;refine⟨e',?_⟩
 cases q:H b with
 | none=>rfl
 | some x=>
  have hm:b∈trk h H:=aV.mpr ⟨aQ.mpr (aw e'),by simp[q]⟩;have z:(zkk h H).get? b=none:=PySem.W.hideAll_none (trk h H) hm;rw[z] at e;cases e
def zl8 (g h:Heap)(L:Addr):List (Addr×Obj):=(List.range h.objs.size).filterMap fun a=>if a=L\/(g.get? a).isSome=true then none else (h.get? a).map fun o=>(a,o)
def zY (g h:Heap)(L d:Addr):List (Addr×Obj):=(zl8 g h L).filter fun p=>decide (p.1≠d)
structure Mod (K:PySem.W.Frag)(mg:Str->Option Value)(base:Heap):Prop where
 kin:K.In base
 glob:base.Ns mainGlobals mg
 blt:∃mb,base.Ns builtinsNs mb/\∀x:Str,x ≠ "__name__" -> mb x=bootBuiltins x
 nolimit:base.NoLimit
structure Cx where
 prog:Program
 w:World
 K:PySem.W.Frag
 mg:Str->Option Value
 base:Heap
 A:Around
 N:List Str
 s₀:Shared
 H₀:Hp
 env:Env
 outer:List Env
 stack:List Env
 ex:List Addr
 fn:Str->Bool
 calm:Bool
 pn:List (Addr×Obj)
 xe:Value->Shared->Prop
def frs (l:List Env):List Addr:=l.filterMap (·.frame)
abbrev Cx.fs (X:Cx):List Addr:=frs X.outer
def Vis (sc:Scope)(x:Str):Prop:=sc.names.lookup x=some .local\/sc.names.lookup x=some .cell\/sc.names.lookup x=some .free
def Loc (sc:Scope)(x:Str):Prop:=sc.names.lookup x=some .local\/sc.names.lookup x=some .cell
def Look (env:Env)(h:Heap)(m:Str->Option Value)(x:Str)(u:Value):Prop:=
 (env.kindOf x=some .local/\m x=some u)\/((env.kindOf x=some .cell\/env.kindOf x=some .free)/\∃c,env.cells.lookup x=some c/\h.IsCell c (some u))
structure Cx.Ok (X:Cx):Prop where
 mod:Mod X.K X.mg X.base
 kind:X.env.scope.kind = .function
 glob:X.env.globals=mainGlobals
 blt:X.env.builtins=builtinsNs
 above:X.s₀.heap.objs.size<=X.env.locals
 inj:∀x y c,X.env.cells.lookup x=some c->X.env.cells.lookup y=some c->x=y
 has:∀x,(X.env.kindOf x=some .cell\/X.env.kindOf x=some .free)->∃c,X.env.cells.lookup x=some c
 cab:∀x c,X.fn x=true->X.env.cells.lookup x=some c->X.s₀.heap.objs.size<=c
 hd:X.calm=true->X.A.handled=none
 frames:X.A.frames=some X.stack
 stk:X.stack=X.outer\/(X.stack=X.env::X.outer/\X.env.frame=some X.env.locals)
 exf:∀b∈X.ex,b≠X.env.locals/\∀x c,X.env.cells.lookup x=some c->c≠b
 bs:∀b o,X.base.get? b=some o->X.s₀.heap.get? b=some o/\X.H₀ b=none
 bsz:X.base.objs.size<=X.s₀.heap.objs.size
 noex:∀b o,X.base.get? b=some o->b∉X.ex
 exfs:∀b∈X.ex,b∉X.fs
 funs:X.s₀.heap.FunFrames X.base X.outer
 frf:∀b∈X.fs,X.H₀ b=none
structure Inv (X:Cx)(pins:List (Addr×Obj))(σ:List (Option V))(H:Hp)(s:Shared):Prop where
 ok:X.Ok
 os:s.os=X.s₀.os
 bare:AllBare s.gens
 base:Un X.fs X.ex X.H₀ H X.s₀.heap s.heap
 loc:∃m,s.heap.Ns X.env.locals m/\∀ (i:Nat) (x:Str) (v:V),X.N[i]?=some x->σ[i]?=some (some v)->Vis X.env.scope x->∃u,yN v u/\Look X.env s.heap m x u
 cell:∀x c,X.env.cells.lookup x=some c->∃v,s.heap.IsCell c v
 free:H X.env.locals=none
 freeC:∀x c,X.env.cells.lookup x=some c->H c=none
 pin:∀p∈X.pn++pins,s.heap.get? p.1=some p.2/\H p.1=none/\p.1≠X.env.locals/\p.1∉X.fs/\∀v,p.2.data≠.cell v
 hok:HOk X.prog X.w H s.heap
 len:σ.length=X.N.length
section
variable {X:Cx}{pins:List (Addr×Obj)}{σ:List (Option V)}{H H':Hp}{s:Shared}{h':Heap}
theorem Cx.Ok.nofr (ok:X.Ok){b:Addr}{o:Obj}(e:X.base.get? b=some o):b∉X.fs:=fun hb=>by have:=(ok.funs.mem hb).1;rw[e] at this;cases this
theorem Inv.bs (I:Inv X pins σ H s):∀b o,X.base.get? b=some o->s.heap.get? b=some o/\H b=none:=fun b o e=>
 ⟨I.base.keep b o (I.ok.bs b o e).1 (I.ok.bs b o e).2 (I.ok.nofr e) (I.ok.noex b o e),I.base.free b o (I.ok.bs b o e).1 (I.ok.bs b o e).2 (I.ok.noex b o e)⟩
theorem Inv.bk (I:Inv X pins σ H s):∀b o,X.base.get? b=some o->s.heap.get? b=some o:=fun b o e=>(I.bs b o e).1
theorem Inv.mod (I:Inv X pins σ H s):Mod X.K X.mg X.base:=I.ok.mod
theorem Inv.kIn (I:Inv X pins σ H s):X.K.In s.heap:=I.ok.mod.kin.keeps I.bk
theorem Inv.lt (I:Inv X pins σ H s):X.env.locals<s.heap.objs.size:=let ⟨_,hn,_⟩:=I.loc;hn.lt
theorem Inv.sz (I:Inv X pins σ H s):X.s₀.heap.objs.size<=s.heap.objs.size:=ax I.ok.above (ck I.lt)
theorem Inv.nofs (I:Inv X pins σ H s){a:Addr}(h:s.heap.objs.size<=a):a∉X.fs:=fun hb=>by obtain⟨_,o,ho,_⟩:=I.ok.funs.mem hb;exact absurd (aU (aw ho) (ax I.sz h)) (bQ _)
theorem Inv.cne (I:Inv X pins σ H s):∀x c,X.env.cells.lookup x=some c->c≠X.env.locals:=fun x c e z=>by obtain⟨v,o,ho,hd⟩:=I.cell x c e;obtain⟨m,⟨o',es,ep,ho',hd',_⟩,_⟩:=I.loc;rw[z,ho'] at ho;cases ho;rw[hd'] at hd;cases hd
theorem Inv.funs (I:Inv X pins σ H s):s.heap.FunFrames X.base X.outer:=by
 have all:∀ (l:List Env),(∀b∈frs l,b∈X.fs)->X.s₀.heap.FunFrames X.base l->s.heap.FunFrames X.base l:=by
  intro l
  induction l with
  | nil=>intro _ _;trivial
  | cons env r ih=>
   intro hs hl;obtain⟨hk,⟨L,o,hf,hn,ho,hd⟩,hr⟩:=hl;have hL:L∈X.fs:=hs L (by unfold frs;rw[bX,hf];exact ah);obtain⟨sl,e⟩:=I.base.slot L o ho (I.ok.frf L hL) hL fun z=>I.ok.exfs L z hL;exact⟨hk,⟨L,_,hf,hn,e,hd⟩,ih (fun b hb=>hs b (by unfold frs;rw[bX,hf];exact ak _ hb)) hr⟩
 exact all X.outer (fun _ hb=>hb) I.ok.funs
theorem Inv.stack (I:Inv X pins σ H s):s.heap.FunFrames X.base X.stack:=by
 rcases I.ok.stk with e | ⟨e,hf⟩
 ·rw[e];exact I.funs
 ·rw[e];obtain⟨m,hn,_⟩:=I.loc;refine .cons (by rw[I.ok.kind];decide) hf hn ?_ I.funs;exact Heap.get?_none_of_le (ax I.ok.bsz I.ok.above)
theorem Inv.stkSub (I:Inv X pins σ H s):∀b∈frs X.stack,b∈X.env.locals::X.fs:=fun b hb=>by
 rcases I.ok.stk with e | ⟨e,hf⟩
 ·rw[e] at hb;exact ak _ hb
 ·rw[e] at hb;unfold frs at hb;rw[bX,hf] at hb;exact hb
theorem Inv.stkFree (I:Inv X pins σ H s):∀b∈frs X.stack,H b=none:=fun b hb=>by
 rcases aG.mp (I.stkSub b hb) with e | hb
 ·rw[e];exact I.free
 ·obtain⟨_,o,ho,_⟩:=I.ok.funs.mem hb;exact I.base.free b o ho (I.ok.frf b hb) fun z=>I.ok.exfs b z hb
theorem Inv.step {g':Array GenState}{t':Nat}{d':Drawn}{ch:List Addr}(I:Inv X pins σ H s)
  (hch:∀b∈ch,(b∈X.ex\/X.s₀.heap.objs.size<=b)/\b≠X.env.locals/\(∀x c,X.env.cells.lookup x=some c->c≠b)/\∀p∈X.pn++pins,p.1≠b)
  (keep:∀b o,b≠X.env.locals->b∉X.fs->b∉ch->s.heap.get? b=some o->H b=none->h'.get? b=some o)
  (slot:∀b o,b≠X.env.locals->b∈X.fs->b∉ch->s.heap.get? b=some o->H b=none->∃sl,h'.get? b=some { o with slots:=sl }) (free:∀b o,b∉ch->s.heap.get? b=some o->H b=none->H' b=none)
  (there:∀b o,b∉ch->s.heap.get? b=some o->∃o',h'.get? b=some o')
  (tups:∀b xs,H b=some (.tup xs)->H' b=some (.tup xs)) (frzs:∀b o u,H b=some (.frz o u)->H' b=some (.frz o u)) (tbls:∀b ps,H b=some (.tbl ps)->∃more,H' b=some (.tbl (ps++more)))
  (ns:∀m,s.heap.Ns X.env.locals m->h'.Ns X.env.locals m) (hok:HOk X.prog X.w H' h') (hg:AllBare g') :
  Inv X pins σ H' { s with heap:=h',gens:=g',drawn:=d',toks:=t' }:=by
 have neL:∀b o,X.s₀.heap.get? b=some o->b≠X.env.locals:=fun b o e=>aO (aU (aw e) I.ok.above)
 have neC:∀b o,X.s₀.heap.get? b=some o->b∉X.ex->b∉ch:=fun b o e hx hb=>by
  rcases (hch b hb).1 with z | z
  ·exact hx z
  ·exact absurd (aU (aw e) z) (bQ _)
 have cellK:∀x c,X.env.cells.lookup x=some c->∀v,s.heap.IsCell c v->h'.IsCell c v:=by
  rintro x c e v ⟨o,ho,hd⟩;have nch:c∉ch:=fun z=>(hch c z).2.2.1 x c e rfl;by_cases hc:c∈X.fs
  ·obtain⟨sl,q⟩:=slot c o (I.cne x c e) hc nch ho (I.freeC x c e);exact⟨_,q,hd⟩
  ·exact⟨o,keep c o (I.cne x c e) hc nch ho (I.freeC x c e),hd⟩
 refine⟨I.ok,I.os,hg,⟨fun b o e n hb hx=>?_,fun b o e n hb hx=>?_,fun b o e n hx=>?_,fun b o e hx=>?_,fun b xs e=>tups b xs (I.base.tups b xs e),fun b o xs e=>frzs b o xs (I.base.frzs b o xs e),fun b ps e=>?_⟩,?_,fun x c e=>?_,?_,fun x c e=>?_,fun p hp=>?_,hok,I.len⟩
 ·exact keep b o (neL b o e) hb (neC b o e hx) (I.base.keep b o e n hb hx) (I.base.free b o e n hx)
 ·obtain⟨sl,e1⟩:=I.base.slot b o e n hb hx;obtain⟨sl',e2⟩:=slot b _ (neL b o e) hb (neC b o e hx) e1 (I.base.free b o e n hx);exact⟨sl',e2⟩
 ·obtain⟨o',e1⟩:=I.base.there b o e hx;exact free b o' (neC b o e hx) e1 (I.base.free b o e n hx)
 ·obtain⟨o',e1⟩:=I.base.there b o e hx;exact there b o' (neC b o e hx) e1
 ·obtain⟨m1,e1⟩:=I.base.tbls b ps e;obtain⟨m2,e2⟩:=tbls b _ e1;exact⟨m1++m2,by rw[e2,Array.append_assoc]⟩
 ·obtain⟨m,hn,hl⟩:=I.loc;refine⟨m,ns m hn,fun i x v e1 e2 e3=>?_⟩;obtain⟨u,r,l⟩:=hl i x v e1 e2 e3;refine⟨u,r,?_⟩;rcases l with l | ⟨k,c,e,z⟩
  ·exact .inl l
  ·exact .inr ⟨k,c,e,cellK x c e _ z⟩
 ·obtain⟨v,z⟩:=I.cell x c e;exact⟨v,cellK x c e v z⟩
 ·obtain⟨m,⟨o,_,_,ho,_⟩,_⟩:=I.loc;exact free _ o (fun z=>(hch _ z).2.1 rfl) ho I.free
 ·obtain⟨v,o,ho,hd⟩:=I.cell x c e;exact free c o (fun z=>(hch c z).2.2.1 x c e rfl) ho (I.freeC x c e)
 ·obtain⟨e,n,ne,nf,d⟩:=I.pin p hp;have nch:p.1∉ch:=fun z=>(hch p.1 z).2.2.2 p hp rfl;exact⟨keep p.1 p.2 ne nf nch e n,free p.1 p.2 nch e n,ne,nf,d⟩
theorem Inv.un {t':Nat}(I:Inv X pins σ H s)(u:Un X.fs [] H H' s.heap h')(hok:HOk X.prog X.w H' h'):Inv X pins σ H' { s with heap:=h',toks:=t' }:=by
 obtain⟨m,⟨o,es,ep,ho,r⟩,_⟩:=id I.loc;obtain⟨sl,hL⟩:=u.any ho I.free (by simp)
 exact I.step (g':=s.gens) (d':=s.drawn) (ch:=[]) (fun _ z=>nomatch z) (fun b o _ hb _ e n=>u.keep b o e n hb (by simp)) (fun b o _ hb _ e n=>u.slot b o e n hb (by simp)) (fun b o _ e n=>u.free b o e n (by simp)) (fun b o _ e=>u.there b o e (by simp)) u.tups u.frzs u.tbls (fun m' hm=>by obtain⟨o',es',ep',ho',r'⟩:=hm;rw[ho] at ho';cases ho';exact⟨_,es',ep',hL,r'⟩) hok I.bare
theorem Inv.call {g':Array GenState}{t':Nat}{d':Drawn}{ch:List Addr}(I:Inv X pins σ H s)(u:Un (frs X.stack) ch H H' s.heap h')(hok:HOk X.prog X.w H' h')(hg:AllBare g')
  (hch:∀b∈ch,(b∈X.ex\/X.s₀.heap.objs.size<=b)/\b≠X.env.locals/\(∀x c,X.env.cells.lookup x=some c->c≠b)/\∀p∈X.pn++pins,p.1≠b) :
  Inv X pins σ H' { s with heap:=h',gens:=g',drawn:=d',toks:=t' }:=by
 obtain⟨m,⟨o,es,ep,ho,r⟩,_⟩:=id I.loc;obtain⟨sl,hL⟩:=u.any ho I.free fun z=>(hch _ z).2.1 rfl
 exact I.step (ch:=ch) hch (fun b o hL hb hc e n=>u.keep b o e n (fun z=>(aG.mp (I.stkSub b z)).elim hL hb) hc) (fun b o _ _ hc e n=>u.any e n hc) (fun b o hc e n=>u.free b o e n hc) (fun b o hc e=>u.there b o e hc) u.tups u.frzs u.tbls (fun m' hm=>by obtain⟨o',es',ep',ho',r'⟩:=hm;rw[ho] at ho';cases ho';exact⟨_,es',ep',hL,r'⟩) hok hg
theorem Inv.turned {t':Nat}{it:Addr}(I:Inv X pins σ H s)(k:∀b o,b≠it->s.heap.get? b=some o->h'.get? b=some o)(hn:H it=none)(hL:it≠X.env.locals)
  (h1:it∈X.ex\/X.s₀.heap.objs.size<=it) (h2:∀x c,X.env.cells.lookup x=some c->c≠it) (h3:∀p∈X.pn++pins,p.1≠it):Inv X pins σ H { s with heap:=h',toks:=t' }:=by
 have nit:∀b u,H b=some u->b≠it:=fun b u e z=>by rw[z,hn] at e;cases e
 refine I.step (g':=s.gens) (d':=s.drawn) (ch:=[it]) (fun b hb=>?_) (fun b o _ _ hc e _=>k b o (fun z=>hc (by simp[z])) e) (fun b o _ _ hc e _=>⟨o.slots,k b o (fun z=>hc (by simp[z])) e⟩) (fun _ _ _ _ n=>n)
  (fun b o hc e=>⟨o,k b o (fun z=>hc (by simp[z])) e⟩) (fun _ _ e=>e) (fun _ _ _ e=>e) (fun b ps e=>⟨#[],by rw[e];simp⟩) (fun m hm=>?_) (fun b u e=>?_) I.bare
 ·have e:b=it:=by simpa using hb
  subst e;exact⟨h1,hL,h2,h3⟩
 ·obtain⟨o,es,ep,ho,r⟩:=hm;exact⟨o,es,ep,k _ o (Ne.symm hL) ho,r⟩
 ·refine (I.hok b u e).stay (fun c v hc q=>k c v ?_ q) (fun _ q=>q) fun _ _ q=>q;rcases hc with z | z
  ·rw[z];exact nit b u e
  ·exact nit c _ z
theorem Inv.tok (I:Inv X pins σ H s)(t:Nat):Inv X pins σ H { s with toks:=t }:=I.un (h':=s.heap) (t':=t) Un.refl I.hok
theorem Inv.kept {t':Nat}(I:Inv X pins σ H s)(k:∀b u,s.heap.get? b=some u->h'.get? b=some u):Inv X pins σ H { s with heap:=h',toks:=t' }:=I.un (Un.kept k) (I.hok.kept k)
theorem Inv.laid {a:Addr}{o:HO}{t':Nat}(I:Inv X pins σ H s)(k:∀b u,s.heap.get? b=some u->h'.get? b=some u)(hp:s.heap.objs.size<=a)(new:yy X.prog X.w (upd H a o) h' a o) :
  Inv X pins σ (upd H a o) { s with heap:=h',toks:=t' }:=I.un (Un.laid k hp (I.hok.fresh hp)) (I.hok.laid k hp new)
theorem Inv.write {x e:Addr}{o:HO}{t':Nat}(I:Inv X pins σ H s)(mu:Mut (H x))(he:e=x\/H e=some (.own x))(k:∀b u,b≠e->s.heap.get? b=some u->h'.get? b=some u)(heo:∃u,h'.get? e=some u)
  (new:yy X.prog X.w (upd H x o) h' x o):Inv X pins σ (upd H x o) { s with heap:=h',toks:=t' }:=I.un (Un.write mu he k heo) (I.hok.write mu he k heo new)
theorem Inv.pins_of {pins':List (Addr×Obj)}(I:Inv X pins σ H s)(h:∀p∈pins',s.heap.get? p.1=some p.2/\H p.1=none/\p.1≠X.env.locals/\p.1∉X.fs/\∀v,p.2.data≠.cell v):Inv X pins' σ H s:=
 ⟨I.ok,I.os,I.bare,I.base,I.loc,I.cell,I.free,I.freeC,fun p hp=>(bg.mp hp).elim (fun z=>I.pin p (bU _ z)) (h p),I.hok,I.len⟩
theorem zgo {N:List Str}(hN:N.Nodup){i j:Nat}{x:Str}(a:N[i]?=some x)(b:N[j]?=some x):i=j:=by obtain⟨h1,e1⟩:=ae.mp a;obtain⟨h2,e2⟩:=ae.mp b;exact (bV hN).mp (e1.trans e2.symm)
theorem zeV {M:Model}{A:Around}{E:Value->Shared->Prop}{i:Nat}{x:Str}{v:V}{u:Value}{Q:Unit->Shared->Prop}(I:Inv X pins σ H s)(hN:X.N.Nodup)(hi:X.N[i]?=some x)(hx:Loc X.env.scope x)(r:yN v u)
  (h:∀s',Inv X pins (σ.set i (some v)) H s'->(∃a,Heap.SameBut a s.heap s'.heap/\(a=X.env.locals\/X.env.cells.lookup x=some a))->Q () s') (hf:X.fn x=true\/X.env.scope.names.lookup x=some .local:=by first | exact .inl rfl | exact .inr rfl | assumption):wpAny M A (storeName X.env x u) Q E s:=by
 obtain⟨m,hn,hl⟩:=id I.loc;have hcls:(X.env.scope.kind==.class || (X.env.scope.kind==.module&&X.env.locals != X.env.globals))=false:=by rw[I.ok.kind];rfl
 have hiσ:i<σ.length:=by rw[I.len];exact (ae.mp hi).1
 have cne:=I.cne
 have tracked:∀ {a:Addr} {h':Heap},(∃o,s.heap.get? a=some o/\H a=none)->Heap.SameBut a s.heap h'->HOk X.prog X.w H h':=fun {a h'} ha hs b ob e=>by
  obtain⟨_,_,hfree⟩:=ha;refine (I.hok b ob e).stay (fun c w' hc q=>(hs.2 c ?_).trans q) (fun _ q=>q) fun _ _ q=>q;rintro rfl;rcases hc with rfl | hc
  ·rw[hfree] at e;cases e
  ·rw[hfree] at hc;cases hc
 rcases hx with hk | hk
 ·refine wpAny_storeName_local hk hn (fun h' hn' hs=>?_) hcls;obtain⟨oL,_,_,hoL,_⟩:=id hn;refine h _ ⟨I.ok,I.os,I.bare,⟨fun b o e n hb hx=>?_,fun b o e n hb hx=>?_,I.base.free,fun b o e hx=>?_,I.base.tups,I.base.frzs,I.base.tbls⟩,⟨_,hn',fun j y v' e1 e2 e3=>?_⟩,fun y c e=>?_,I.free,I.freeC,fun p hp=>?_,tracked ⟨oL,hoL,I.free⟩ hs,by simpa using I.len⟩ ⟨_,hs,.inl rfl⟩
  ·exact (hs.2 b (aO (aU (aw e) I.ok.above))).trans (I.base.keep b o e n hb hx)
  ·obtain⟨sl,e1⟩:=I.base.slot b o e n hb hx;exact⟨sl,(hs.2 b (aO (aU (aw e) I.ok.above))).trans e1⟩
  ·obtain⟨o',e1⟩:=I.base.there b o e hx;exact⟨o',(hs.2 b (aO (aU (aw e) I.ok.above))).trans e1⟩
  ·by_cases hj:j=i
   ·subst hj;rw[hi] at e1;cases e1;rw[aM hiσ] at e2;cases e2;exact⟨u,r,.inl ⟨hk,by simp⟩⟩
   ·rw[ar (Ne.symm hj)] at e2;obtain⟨u',r',q⟩:=hl j y v' e1 e2 e3;refine⟨u',r',?_⟩;rcases q with ⟨k,e⟩ | ⟨k,c,e,z⟩
    ·refine .inl ⟨k,?_⟩;have:y≠x:=fun e=>hj (zgo hN e1 (e ▸ hi));simp[this,e]
    ·exact .inr ⟨k,c,e,z.sameBut hs (cne y c e)⟩
  ·obtain⟨w',z⟩:=I.cell y c e;exact⟨w',z.sameBut hs (cne y c e)⟩
  ·obtain⟨e,n,ne,nf,d⟩:=I.pin p hp;exact⟨(hs.2 p.1 ne).trans e,n,ne,nf,d⟩
 ·have hfn:X.fn x=true:=by
   rcases hf with z | z
   ·exact z
   ·rw[z] at hk;cases hk
  obtain⟨c,hc⟩:=I.ok.has x (.inl hk);obtain⟨w',z⟩:=I.cell x c hc;refine wpAny_storeName_cell I.ok.kind hk hc z (fun h' hc' hs=>?_);obtain⟨oc,hoc,hocd⟩:=id z;refine h { s with heap:=h' } ⟨I.ok,I.os,I.bare,⟨fun b o e n hb hx=>?_,fun b o e n hb hx=>?_,I.base.free,fun b o e hx=>?_,I.base.tups,I.base.frzs,I.base.tbls⟩,⟨m,hn.sameBut hs (Ne.symm (cne x c hc)),fun j y v' e1 e2 e3=>?_⟩,fun y c' e=>?_,I.free,I.freeC,fun p hp=>?_,tracked ⟨oc,hoc,I.freeC x c hc⟩ hs,by simpa using I.len⟩ ⟨c,hs,.inr hc⟩
  ·exact (hs.2 b (aO (aU (aw e) (I.ok.cab x c hfn hc)))).trans (I.base.keep b o e n hb hx)
  ·obtain⟨sl,e1⟩:=I.base.slot b o e n hb hx;exact⟨sl,(hs.2 b (aO (aU (aw e) (I.ok.cab x c hfn hc)))).trans e1⟩
  ·obtain⟨o',e1⟩:=I.base.there b o e hx;exact⟨o',(hs.2 b (aO (aU (aw e) (I.ok.cab x c hfn hc)))).trans e1⟩
  ·by_cases hj:j=i
   ·subst hj;rw[hi] at e1;cases e1;rw[aM hiσ] at e2;cases e2;exact⟨u,r,.inr ⟨.inl hk,c,hc,hc'⟩⟩
   ·rw[ar (Ne.symm hj)] at e2;obtain⟨u',r',q⟩:=hl j y v' e1 e2 e3;refine⟨u',r',?_⟩;rcases q with q | ⟨k,c',e,z'⟩
    ·exact .inl q
    ·refine .inr ⟨k,c',e,z'.sameBut hs ?_⟩;rintro rfl;exact hj (zgo hN e1 (I.ok.inj _ _ _ e hc ▸ hi))
  ·by_cases hcc:c'=c
   ·subst hcc;exact⟨_,hc'⟩
   ·obtain⟨w2,z2⟩:=I.cell y c' e;exact⟨w2,z2.sameBut hs hcc⟩
  ·obtain⟨e,n,ne,nf,d⟩:=I.pin p hp;refine⟨(hs.2 p.1 ?_).trans e,n,ne,nf,d⟩;intro q;rw[q,hoc] at e;have q':oc=p.2:=bc e;exact d w' (by rw[<- q'];exact hocd)
theorem zgC {M:Model}{A:Around}{E:Value->Shared->Prop}{i:Nat}{x:Str}{v:V}{u:Value}{Q:Unit->Shared->Prop}(I:Inv X pins σ H s)(hN:X.N.Nodup)(hi:X.N[i]?=some x)(hx:Loc X.env.scope x)(r:yN v u)
  (h:∀s',Inv X pins (σ.set i (some v)) H s'->Q () s') (hf:X.fn x=true\/X.env.scope.names.lookup x=some .local:=by first | exact .inl rfl | exact .inr rfl | assumption):wpAny M A (storeName X.env x u) Q E s:=
 zeV I hN hi hx r (fun s' I' _=>h s' I') hf
theorem Inv.call' {s':Shared}{ch:List Addr}(I:Inv X pins σ H s)(ho:s'.os=s.os)(u:Un (frs X.stack) ch H H' s.heap s'.heap)(hok:HOk X.prog X.w H' s'.heap)(hg:AllBare s'.gens)
  (hch:∀b∈ch,(b∈X.ex\/X.s₀.heap.objs.size<=b)/\b≠X.env.locals/\(∀x c,X.env.cells.lookup x=some c->c≠b)/\∀p∈X.pn++pins,p.1≠b):Inv X pins σ H' s':=by
 obtain⟨h',g',d',t',o'⟩:=s';have e:o'=s.os:=ho;subst e;exact I.call (g':=g') (t':=t') (d':=d') u hok hg hch
end
abbrev XK:=Value->Option Addr->Hp->Prop
abbrev St:=List (Option V)
abbrev VK:=V->Hp->Prop
abbrev TE:=St->Hp->VK->Prop
abbrev TT:=St->Hp->(Bool->Hp->Prop)->Prop
abbrev TA:=St->Hp->(List V->Hp->Prop)->Prop
structure Ends where
 nx:St->Hp->Prop
 rt:VK
 bk:St->Hp->Prop:=fun _ _=>False
 ct:St->Hp->Prop:=fun _ _=>False
abbrev TS:=Ends->St->Hp->Prop
def EP (X:Cx)(pins:List (Addr×Obj))(σ:St)(Q:VK)(u:Value)(s':Shared):Prop:=∃v H',Inv X pins σ H' s'/\yN v u/\Q v H'
def TP (X:Cx)(pins:List (Addr×Obj))(σ:St)(Q:Bool->Hp->Prop)(b:Bool)(s':Shared):Prop:=∃H',Inv X pins σ H' s'/\Q b H'
def AP (X:Cx)(pins:List (Addr×Obj))(σ:St)(Q:List V->Hp->Prop)(us:List Value)(s':Shared):Prop:=∃vs H',Inv X pins σ H' s'/\z4 vs us/\Q vs H'
def SP (X:Cx)(pins:List (Addr×Obj))(D:Ends)(f:Flow)(s':Shared):Prop:=
 match f with
 | .next=>∃ σ' H',Inv X pins σ' H' s'/\D.nx σ' H'
 | .brk=>∃ σ' H',Inv X pins σ' H' s'/\D.bk σ' H'
 | .cont=>∃ σ' H',Inv X pins σ' H' s'/\D.ct σ' H'
 | .ret u=>∃v σ' H',Inv X pins σ' H' s'/\yN v u/\D.rt v H'
def PE (X:Cx)(e:Expr)(t:TE):Prop:=
 ∀ (pins:List (Addr×Obj)) (s:Shared) (σ:St) (H:Hp) (Q:VK),Inv X pins σ H s->t σ H Q->wpAny (model X.prog X.w) X.A (eval e X.env) (EP X pins σ Q) X.xe s
def PT (X:Cx)(e:Expr)(t:TT):Prop:=
 ∀ (pins:List (Addr×Obj)) (s:Shared) (σ:St) (H:Hp) (Q:Bool->Hp->Prop),Inv X pins σ H s->t σ H Q->wpAny (model X.prog X.w) X.A (isTrue e X.env (eval e X.env)) (TP X pins σ Q) X.xe s
def PW (X:Cx)(e:Expr)(t:TT):Prop:=
 ∀ (whole:Sem Value) (pins:List (Addr×Obj)) (s:Shared) (σ:St) (H:Hp) (Q:Bool->Hp->Prop),Inv X pins σ H s->t σ H Q->wpAny (model X.prog X.w) X.A (isTrue e X.env whole) (TP X pins σ Q) X.xe s
theorem PW.pt {X:Cx}{e:Expr}{t:TT}(h:PW X e t):PT X e t:=h _
def PA (X:Cx)(es:List Expr)(t:TA):Prop:=
 ∀ (pos:Pos) (pins:List (Addr×Obj)) (s:Shared) (σ:St) (H:Hp) (Q:List V->Hp->Prop),Inv X pins σ H s->t σ H Q->wpAny (model X.prog X.w) X.A (spliced (backTo pos (starEach es X.env))) (AP X pins σ Q) X.xe s
def PS (X:Cx)(st:Stmt)(t:TS):Prop:=
 ∀ (pins:List (Addr×Obj)) (s:Shared) (σ:St) (H:Hp) (D:Ends),Inv X pins σ H s->t D σ H->wpAny (model X.prog X.w) X.A (exec st X.env) (SP X pins D) X.xe s
def PSs (X:Cx)(st:List Stmt)(t:TS):Prop:=
 ∀ (pins:List (Addr×Obj)) (s:Shared) (σ:St) (H:Hp) (D:Ends),Inv X pins σ H s->t D σ H->wpAny (model X.prog X.w) X.A (execs st X.env) (SP X pins D) X.xe s
theorem thn {α:Type}{t:Sem α}{Q Q':α->Shared->Prop}{M:Model}{A:Around}{E:Value->Shared->Prop}{s:Shared}(h:wpAny M A t Q E s)(hQ:∀a s,Q a s->Q' a s):wpAny M A t Q' E s:=bi h hQ fun _ _ x=>x
section
variable {X:Cx}
def zlg (i:Nat):TE:=fun σ H Q=>∃v,σ[i]?=some (some v)/\Q v H
def tC (v:V):TE:=fun _ H Q=>Q v H
theorem zqe {i:Nat}{x:Str}{pos:Pos}(hN:X.N[i]?=some x)(hv:Vis X.env.scope x)(hd:(x==("__debug__" : Str))=false:=by decide)(hcd:(x==("__classdict__" : Str))=false:=by decide):PE X (.Name x pos) (zlg i):=by
 intro pins s σ H Q I h;obtain⟨v,e,h⟩:=h;obtain⟨m,hn,hl⟩:=I.loc;obtain⟨u,r,l⟩:=hl i x v hN e hv;have fin:EP X pins σ Q u s:=⟨v,H,I,r,h⟩;rcases l with ⟨hk,hm⟩ | ⟨hk,c,hc,hcell⟩
 ·exact wpAny_Name (wpAny_loadName_local I.ok.kind hk hn hm fin) hd
 ·rcases hk with hk | hk
  ·exact wpAny_Name (wpAny_loadName_cell I.ok.kind hk hc hcell fin) hd
  ·exact wpAny_Name (wpAny_loadName_free I.ok.kind hk hc hcell fin hcd) hd
theorem zlP {i j pos}:PE X (.Constant (.int i) j pos) (tC (.int i)):=fun _ _ _ H _ I h=>wpAny_Constant_int ⟨.int i,H,I.tok _,⟨_,rfl⟩,h⟩
theorem zta {b j pos}:PE X (.Constant (.bool b) j pos) (tC (.bl b)):=fun _ _ _ H _ I h=>Constant_bool ⟨.bl b,H,I,rfl,h⟩
theorem zqa {j pos}:PE X (.Constant .none j pos) (tC .non):=fun _ _ _ H _ I h=>Constant_none ⟨.non,H,I,rfl,h⟩
theorem zqc {x j pos}:PE X (.Constant (.str x) j pos) (tC (.str x)):=fun _ _ _ H _ I h=>Calls.Constant_str ⟨.str x,H,I.tok _,⟨_,rfl⟩,h⟩
def Gl (X:Cx)(x:Str):Prop:=X.env.kindOf x=some .globalImplicit
theorem zmU {E:Value->Shared->Prop}{pins:List (Addr×Obj)}{s:Shared}{σ:St}{H:Hp}{x:Str}{u:Value}{pos:Pos}{Q:Value->Shared->Prop}(I:Inv X pins σ H s)(hg:Gl X x)(hm:X.mg x=some u)(h:Q u s)
  (hd:(x==("__debug__" : Str))=false:=by decide):wpAny (model X.prog X.w) X.A (eval (.Name x pos) X.env) Q E s:=
 Calls.Name_function_global I.ok.kind hg (Calls.loadGlobal_global (by rw[I.ok.glob];exact I.mod.glob.keeps I.bk) hm h) hd
theorem zc0 {E:Value->Shared->Prop}{pins:List (Addr×Obj)}{s:Shared}{σ:St}{H:Hp}{x:Str}{u:Value}{pos:Pos}{Q:Value->Shared->Prop}(I:Inv X pins σ H s)(hg:Gl X x)(hm:X.mg x=none)(hv:bootBuiltins x=some u)(h:Q u s)
  (hn:x ≠ "__name__" := by decide) (hd:(x==("__debug__" : Str))=false:=by decide):wpAny (model X.prog X.w) X.A (eval (.Name x pos) X.env) Q E s:=by
 obtain⟨mb,h1,h2⟩:=I.mod.blt;exact Calls.Name_function_global I.ok.kind hg (Calls.loadGlobal_builtin (by rw[I.ok.glob];exact I.mod.glob.keeps I.bk) hm (by rw[I.ok.blt];exact h1.keeps I.bk) ((h2 x hn).trans hv) h) hd
theorem znj {x:Str}{v:V}{u:Value}{pos:Pos}(hg:Gl X x)(hm:X.mg x=none)(hv:bootBuiltins x=some u)(r:yN v u)(hn:x ≠ "__name__" := by decide)(hd:(x==("__debug__" : Str))=false:=by decide):PE X (.Name x pos) (tC v):=
 fun _ _ _ H _ I h=>zc0 I hg hm hv ⟨v,H,I,r,h⟩ hn hd
variable {a b:Expr}{ta tb:TE}{pos:Pos}
def PC (X:Cx)(op:CmpOp)(a b:Expr)(t:TE):Prop:=
 ∀ (pins:List (Addr×Obj)) (s:Shared) (σ:St) (H:Hp) (Q:VK),Inv X pins σ H s->t σ H Q->
  wpAny (model X.prog X.w) X.A (eval a X.env) (fun v s₁=>wpAny (model X.prog X.w) X.A (eval b X.env) (fun u s₂=>wpAny (model X.prog X.w) X.A (compareOp op v u) (EP X pins σ Q) X.xe s₂) X.xe s₁) X.xe s
theorem zgn (b:Expr){op:CmpOp}(h:op≠.In)(h2:op≠.NotIn):behindInMarks op b=false:=by
 have e1:(op==CmpOp.In)=false:=by cases op <;> first | rfl | exact absurd rfl h
 have e2:(op==CmpOp.NotIn)=false:=by cases op <;> first | rfl | exact absurd rfl h2
 cases b <;> simp[behindInMarks,e1,e2]
def ztA (ta:TE):TE:=fun σ H Q=>ta σ H fun x H1=>Q (.bl (decide (x = .non))) H1
theorem yN.none_iff {x:V}{v:Value}(r:yN x v):(v==Value.none)=decide (x = .non):=by
 cases x with
 | non=>cases r;rfl
 | bl _=>cases r;rfl
 | int _=>obtain⟨t,rfl⟩:=r;rfl
 | str _=>obtain⟨t,rfl⟩:=r;rfl
 | byt _=>obtain⟨t,rfl⟩:=r;rfl
 | flt _=>obtain⟨t,rfl⟩:=r;rfl
 | ref _=>cases r;rfl
 | ty _=>cases r;rfl
theorem zp8 {j pos'}(ha:PE X a ta):PC X .Is a (.Constant .none j pos') (ztA ta):=by intro pins s σ H Q I h;refine thn (ha pins s σ H _ I h)  ?_;rintro v s1 ⟨x,H1,I1,r1,q1⟩;exact Constant_none (is_none_gen ⟨.bl _,H1,I1,by rw[r1.none_iff];rfl,q1⟩)
def tB (t:TE):TT:=fun σ H Q=>t σ H fun x H1=>∃c,x = .bl c/\Q c H1
theorem zqs {op:CmpOp}{t:TE}(h:PC X op a b t)(h1:behindInMarks op b=false:=by first | exact zgn _ (by decide) (by decide) | rfl):PT X (.Compare a [op] [b] pos) (tB t):=by intro pins s σ H Q I hw;refine wpAny_isTrue_Compare1 (thn (h pins s σ H _ I hw) fun v s1 h1=>thn h1 fun u s2 h2=>thn h2 fun c s3 ⟨x,H1,I1,r1,q1⟩=>?_) h1;obtain⟨d,rfl,q⟩:=q1;cases r1;exact cG ⟨H1,I1,q⟩
theorem zqu {e:Expr}{t:TE}(h:PE X e t)(he:∀whole,isTrue e X.env whole=(do let v <- whole;standAt e.pos;holding [v] (truthy v)):=by intro _;rfl):PT X e (tB t):=by intro pins s σ H Q I hw;refine isTrue_plain (thn (h pins s σ H _ I hw) fun v s1 ⟨x,H1,I1,r1,q1⟩=>?_) (he _);obtain⟨d,rfl,q⟩:=q1;cases r1;exact cG ⟨H1,I1,q⟩
variable {tA tB':TT}{zY:List Expr}
def zty (t u:TT):TT:=fun σ H Q=>t σ H fun c H1=>if c=true then u σ H1 Q else Q false H1
def tOr (t u:TT):TT:=fun σ H Q=>t σ H fun c H1=>if c=true then Q true H1 else u σ H1 Q
def tNot (t:TT):TT:=fun σ H Q=>t σ H fun c H1=>Q (!c) H1
theorem znI (ha:PT X a tA):PW X (.BoolOp .And [a] pos) tA:=by
 intro wh pins s σ H Q I h;refine isTrue_and (thn (ha pins s σ H Q I h) fun c s1 e=>?_)
 cases c with
 | true=>exact isTrue_and_nil e
 | false=>exact e
theorem zqw (ha:PT X a tA):PW X (.BoolOp .Or [a] pos) tA:=by
 intro wh pins s σ H Q I h;refine isTrue_or (thn (ha pins s σ H Q I h) fun c s1 e=>?_)
 cases c with
 | false=>exact isTrue_or_nil e
 | true=>exact e
theorem zqv (ha:PT X a tA)(hb:PW X (.BoolOp .And (b::zY) pos) tB'):PW X (.BoolOp .And (a::b::zY) pos) (zty tA tB'):=by
 intro wh pins s σ H Q I h;refine isTrue_and (thn (ha pins s σ H _ I h)  ?_);rintro c s1 ⟨H1,I1,q1⟩
 cases c with
 | true=>exact hb wh pins s1 σ H1 Q I1 q1
 | false=>exact⟨H1,I1,q1⟩
theorem zth (ha:PT X a tA)(hb:PW X (.BoolOp .Or (b::zY) pos) tB'):PW X (.BoolOp .Or (a::b::zY) pos) (tOr tA tB'):=by
 intro wh pins s σ H Q I h;refine isTrue_or (thn (ha pins s σ H _ I h)  ?_);rintro c s1 ⟨H1,I1,q1⟩
 cases c with
 | true=>exact⟨H1,I1,q1⟩
 | false=>exact hb wh pins s1 σ H1 Q I1 q1
theorem zqt (ha:PT X a tA):PT X (.UnaryOp .Not a pos) (tNot tA):=by intro pins s σ H Q I h;exact isTrue_not (ha pins s σ H (fun c H1=>Q (!c) H1) I h)
def zrd (ta:TE):TE:=fun σ H Q=>ta σ H fun x H1=>∃c,x = .bl c/\Q (.bl (!c)) H1
theorem zqb (ha:PE X a ta):PE X (.UnaryOp .Not a pos) (zrd ta):=by intro pins s σ H Q I h;refine UnaryOp_ (thn (ha pins s σ H _ I h)  ?_);rintro v s1 ⟨x,H1,I1,r1,q1⟩;obtain⟨c,rfl,q1⟩:=q1;cases r1;exact not_of (cG ⟨.bl (!c),H1,I1,rfl,q1⟩)
end
def SqL (K:PySem.W.Frag)(H:Hp)(a:Addr)(xs:List V):Prop:=
 Rd H a (.lst xs)\/
  ∃ (o:Obj) (its:Array Value) (n:Nat),K.lookup a=some o/\o.cls = .type "list" /\ o.dict=none/\o.data = .seq its n/\its.size<=sizeLine/\z4 xs its.toList
def SqT (K:PySem.W.Frag)(H:Hp)(a:Addr)(xs:List V):Prop:=
 Rd H a (.tup xs)\/
  ∃ (o:Obj) (its:Array Value) (n:Nat),K.lookup a=some o/\o.cls = .type "tuple" /\ o.data = .seq its n/\its.size<=sizeLine/\z4 xs its.toList
def absV:Value->Option V
 | .none=>some .non
 | .bool b=>some (.bl b)
 | .int i _=>some (.int i)
 | .str x _=>some (.str x)
 | .bytes b _=>some (.byt b)
 | .float b _=>some (.flt b)
 | .ref a=>some (.ref a)
 | .type n=>some (.ty n)
 | _=>none
theorem yN.abs {x:V}{u:Value}(r:yN x u):absV u=some x:=by
 cases x with
 | non=>cases r;rfl
 | bl _=>cases r;rfl
 | int _=>obtain⟨t,rfl⟩:=r;rfl
 | str _=>obtain⟨t,rfl⟩:=r;rfl
 | byt _=>obtain⟨t,rfl⟩:=r;rfl
 | flt _=>obtain⟨t,rfl⟩:=r;rfl
 | ref _=>cases r;rfl
 | ty _=>cases r;rfl
theorem yN.inj {x y:V}{u:Value}(r:yN x u)(q:yN y u):x=y:=bc (r.abs.symm.trans q.abs)
theorem z4.inj:∀ {xs ys:List V} {us:List Value},z4 xs us->z4 ys us->xs=ys
 | _,_,_,.nil,.nil=>rfl
 | _,_,_,.cons r t,.cons r' t'=>by rw[r.inj r',z4.inj t t']
section
variable {X:Cx}{pins:List (Addr×Obj)}{σ:St}{H:Hp}{s:Shared}{a:Addr}{xs ys:List V}
theorem SqL.of {K:PySem.W.Frag}(h:H a=some (.lst xs)):SqL K H a xs:=.inl (.inl h)
theorem SqT.of {K:PySem.W.Frag}(h:H a=some (.tup xs)):SqT K H a xs:=.inl (.inl h)
theorem Inv.list (I:Inv X pins σ H s)(h:SqL X.K H a xs):∃its:List Value,z4 xs its/\PlainL s.heap a its.toArray/\xs.length<=sizeLine:=by
 rcases h with h | ⟨o,its,n,hk,hc,hd,hs,hz,r⟩
 ·obtain⟨z,its,n,r,e⟩:=h.ok I.hok;exact⟨its,r,⟨_,n,e,rfl,rfl,rfl⟩,z⟩
 ·refine⟨its.toList,r,⟨o,n,I.kIn a o hk,hc,hd,by simpa using hs⟩,?_⟩;have e:=r.length;simp only[aD] at e;lia
theorem Inv.tuple (I:Inv X pins σ H s)(h:SqT X.K H a xs):∃its:List Value,z4 xs its/\IsTup s.heap a its.toArray/\xs.length<=sizeLine:=by
 rcases h with h | ⟨o,its,n,hk,hc,hs,hz,r⟩
 ·obtain⟨z,its,r,p⟩:=h.ok I.hok;exact⟨its,r,p.tup,z⟩
 ·refine⟨its.toList,r,⟨o,I.kIn a o hk,hc,n,by simpa using hs⟩,?_⟩;have e:=r.length;simp only[aD] at e;lia
theorem Inv.list_inj (I:Inv X pins σ H s)(h:SqL X.K H a xs)(h':SqL X.K H a ys):xs=ys:=by
 obtain⟨its,r,⟨o,n,e,_,_,d⟩,_⟩:=I.list h;obtain⟨its',r',⟨o',n',e',_,_,d'⟩,_⟩:=I.list h';rw[e] at e';cases e';rw[d] at d';injection d' with d1 _;have:its=its':=by simpa using congrArg Array.toList d1
 subst this;exact r.inj r'
theorem Inv.tuple_inj (I:Inv X pins σ H s)(h:SqT X.K H a xs)(h':SqT X.K H a ys):xs=ys:=by
 obtain⟨its,r,⟨o,e,_,n,d⟩,_⟩:=I.tuple h;obtain⟨its',r',⟨o',e',_,n',d'⟩,_⟩:=I.tuple h';rw[e] at e';cases e';rw[d] at d';injection d' with d1 _;have:its=its':=by simpa using congrArg Array.toList d1
 subst this;exact r.inj r'
end
abbrev Cx.wish (X:Cx)(E:Value->Shared->Prop):Cx:={ X with xe:=E }
abbrev Cx.nox (X:Cx):Cx:=X.wish fun _ _=>False
theorem Cx.Ok.wish {X:Cx}(ok:X.Ok)(E:Value->Shared->Prop):(X.wish E).Ok:=
 ⟨ok.mod,ok.kind,ok.glob,ok.blt,ok.above,ok.inj,ok.has,ok.cab,ok.hd,ok.frames,ok.stk,ok.exf,ok.bs,ok.bsz,ok.noex,ok.exfs,ok.funs,ok.frf⟩
theorem Cx.Ok.unwish {X:Cx}{E:Value->Shared->Prop}(ok:(X.wish E).Ok):X.Ok:=
 ⟨ok.mod,ok.kind,ok.glob,ok.blt,ok.above,ok.inj,ok.has,ok.cab,ok.hd,ok.frames,ok.stk,ok.exf,ok.bs,ok.bsz,ok.noex,ok.exfs,ok.funs,ok.frf⟩
section
variable {X:Cx}{pins:List (Addr×Obj)}{σ:St}{H:Hp}{s:Shared}{E:Value->Shared->Prop}
theorem Inv.wish (I:Inv X pins σ H s)(E:Value->Shared->Prop):Inv (X.wish E) pins σ H s:=⟨I.ok.wish E,I.os,I.bare,I.base,I.loc,I.cell,I.free,I.freeC,I.pin,I.hok,I.len⟩
theorem Inv.unwish (I:Inv (X.wish E) pins σ H s):Inv X pins σ H s:=⟨I.ok.unwish,I.os,I.bare,I.base,I.loc,I.cell,I.free,I.freeC,I.pin,I.hok,I.len⟩
theorem SP.unwish {D:Ends}{f:Flow}{s':Shared}(h:SP (X.wish E) pins D f s'):SP X pins D f s':=by
 cases f with
 | next=>obtain⟨σ',H',I,q⟩:=h;exact⟨σ',H',I.unwish,q⟩
 | brk=>obtain⟨σ',H',I,q⟩:=h;exact⟨σ',H',I.unwish,q⟩
 | cont=>obtain⟨σ',H',I,q⟩:=h;exact⟨σ',H',I.unwish,q⟩
 | ret u=>obtain⟨v,σ',H',I,r,q⟩:=h;exact⟨v,σ',H',I.unwish,r,q⟩
theorem PSs.nox {st:List Stmt}{t:TS}(h:PSs X.nox st t):PSs X st t:=fun pins s σ H D I hw=>
 bi (h pins s σ H D (I.wish _) hw) (fun _ _ q=>q.unwish) fun _ _ z=>False.elim z
end
section
variable {X:Cx}{st:Stmt}{zY:List Stmt}{t u:TS}{e:Expr}{te:TE}{pos:Pos}
def zrc:TS:=fun D σ H=>D.nx σ H
def ztB (t u:TS):TS:=fun D σ H=>t { D with nx:=u D } σ H
theorem znD:PSs X [] zrc:=fun _ _ σ H _ I h=>ee ⟨σ,H,I,h⟩
theorem zkT (h1:PS X st t)(h2:PSs X zY u):PSs X (st::zY) (ztB t u):=by
 intro pins s σ H D I h;refine wpAny_execs_cons (thn (h1 pins s σ H { D with nx:=u D } I h) fun f s1 q=>?_)
 cases f with
 | next=>
  obtain⟨σ',H',I',q⟩:=q;exact h2 pins s1 σ' H' D I' q
 | ret v=>exact q
 | brk=>exact q
 | cont=>exact q
theorem znE (h1:PS X st t):PSs X [st] t:=by
 intro pins s σ H D I h;refine wpAny_execs_cons (thn (h1 pins s σ H D I h) fun f s1 q=>?_)
 cases f with
 | next=>exact ee q
 | ret v=>exact q
 | brk=>exact q
 | cont=>exact q
theorem Inv.quiet {pins:List (Addr×Obj)}{σ:St}{H:Hp}{s:Shared}(I:Inv X pins σ H s):interactive X.env=false:=by simp[interactive,I.ok.kind]
def zok (te:TE):TS:=fun D σ H=>te σ H fun _ H1=>D.nx σ H1
theorem znB (he:PE X e te)(hs:swapsWith e none pos.line X.env=pure false:=by rfl):PS X (.Expr e pos) (zok te):=by intro pins s σ H D I h;exact wpAny_Expr_any (thn (he pins s σ H _ I h) <| by rintro v s1 ⟨x,H1,I1,r1,q1⟩;exact⟨σ,H1,I1,q1⟩) I.quiet hs
def zrZ (te:TE):TS:=fun D σ H=>te σ H D.rt
theorem zqq (he:PE X e te):PS X (.Return (some e) pos) (zrZ te):=by intro pins s σ H D I h;exact wpAny_Return_some (thn (he pins s σ H _ I h) <| by rintro v s1 ⟨x,H1,I1,r1,q1⟩;exact⟨x,σ,H1,I1,r1,q1⟩)
def tIfS (c:TT)(t u:TS):TS:=fun D σ H=>c σ H fun b H1=>if b=true then t D σ H1 else u D σ H1
theorem ztg {c:Expr}{a b:List Stmt}{tc:TT}(hc:PT X c tc)(ha:PSs X a t)(hb:PSs X b u):PS X (.If c a b pos) (tIfS tc t u):=by
 intro pins s σ H D I h;refine wpAny_If (thn (hc pins s σ H _ I h)  ?_);rintro d s1 ⟨H1,I1,q1⟩
 cases d with
 | true=>exact ha pins s1 σ H1 D I1 q1
 | false=>exact hb pins s1 σ H1 D I1 q1
end
abbrev TG:=V->St->Hp->(St->Hp->Prop)->Prop
abbrev TGs:=List V->St->Hp->(St->Hp->Prop)->Prop
def PG (X:Cx)(target:Expr)(t:TG):Prop:=
 ∀ (pins:List (Addr×Obj)) (s:Shared) (σ:St) (H:Hp) (v:V) (u:Value) (Q:St->Hp->Prop),Inv X pins σ H s->yN v u->t v σ H Q->
  wpAny (model X.prog X.w) X.A (assign target X.env u) (fun _ s'=>∃ σ' H',Inv X pins σ' H' s'/\Q σ' H') X.xe s
def PGs (X:Cx)(ts:List Expr)(t:TGs):Prop:=
 ∀ (pins:List (Addr×Obj)) (s:Shared) (σ:St) (H:Hp) (vs:List V) (us:List Value) (Q:St->Hp->Prop),Inv X pins σ H s->z4 vs us->t vs σ H Q->
  wpAny (model X.prog X.w) X.A (assignInOrder ((assignEach ts X.env).map (·.2)) us) (fun _ s'=>∃ σ' H',Inv X pins σ' H' s'/\Q σ' H') X.xe s
abbrev zr7:=V->V->V->Hp->(Hp->Prop)->Prop
def PSet (X:Cx)(t:zr7):Prop:=
 ∀ (pins:List (Addr×Obj)) (s:Shared) (σ:St) (H:Hp) (o i v:V) (ov iv u:Value) (Q:Hp->Prop),Inv X pins σ H s->yN o ov->yN i iv->yN v u->t o i v H Q->
  wpAny (model X.prog X.w) X.A (setItem ov iv u) (fun _ s'=>∃H',Inv X pins σ H' s'/\Q H') X.xe s
section
variable {X:Cx}{pos:Pos}
def zag (i:Nat):TG:=fun v σ H Q=>Q (σ.set i (some v)) H
theorem zns {i:Nat}{x:Str}(hN:X.N.Nodup)(hi:X.N[i]?=some x)(hx:Loc X.env.scope x)(hf:X.fn x=true\/X.env.scope.names.lookup x=some .local:=by first | exact .inl rfl | exact .inr rfl | assumption):PG X (.Name x pos) (zag i):=by intro pins s σ H v u Q I r h;exact wpAny_assign_Name (zgC I hN hi hx r (fun s' I'=>⟨_,H,I',h⟩) hf)
def gNil:TGs:=fun vs σ H Q=>vs=[]/\Q σ H
def zpk (t:TG)(u:TGs):TGs:=fun vs σ H Q=>∃v r,vs=v::r/\t v σ H fun σ' H'=>u r σ' H' Q
theorem znt:PGs X [] gNil:=by intro pins s σ H vs us Q I r h;obtain⟨e,h⟩:=h;subst e;cases r;exact assignInOrder_nil ⟨σ,H,I,h⟩
theorem zkO {e:Expr}{es:List Expr}{t:TG}{u:TGs}(h1:PG X e t)(h2:PGs X es u)
  (hs:(assignEach (e::es) X.env).map (·.2)=assign e X.env::(assignEach es X.env).map (·.2):=by rfl):PGs X (e::es) (zpk t u):=by
 intro pins s σ H vs us Q I r h;obtain⟨v,vr,e1,h⟩:=h;subst e1
 cases r with
 | cons r rr=>
  rw[hs];refine assignInOrder_cons (thn (h1 pins s σ H _ _ _ I r h)  ?_);rintro _ s1 ⟨σ1,H1,I1,q1⟩;exact h2 pins s1 σ1 H1 _ _ Q I1 rr q1
def zsz (K:PySem.W.Frag)(n:Nat)(t:TGs):TG:=fun v σ H Q=>∃a xs,v = .ref a/\SqT K H a xs/\xs.length=n/\t xs σ H Q
theorem zql {es:List Expr}{k:Nat}{t:TGs}{n:Nat}(hc:X.calm=true)(h:PGs X es t)
  (hn:(assignEach es X.env).length=n:=by rfl) (hst:(assignEach es X.env).findIdx? (·.1)=none:=by rfl):PG X (.Tuple es k pos) (zsz X.K n t):=by
 intro pins s σ H v u Q I r hw;obtain⟨a,xs,e1,hq,hl,hw⟩:=hw;subst e1;cases r;obtain⟨its,rv,ht,hz⟩:=I.tuple hq;refine assign_Tuple_tuple (I.ok.hd hc) ht (by simp[hn,<- hl,rv.length]) hst fun h' hx=>?_;have I1:Inv X pins σ H { s with heap:=h' }:=I.kept (t':=s.toks) fun b o e=>hx b o (aO (aw e)) e;exact h pins _ σ H xs _ Q I1 (by simpa using rv) hw
def gSub (to ti:TE)(t:zr7):TG:=fun v σ H Q=>to σ H fun o H1=>ti σ H1 fun i H2=>t o i v H2 fun H3=>Q σ H3
theorem zqk {o i:Expr}{to ti:TE}{t:zr7}(ho:PE X o to)(hi:PE X i ti)(hs:PSet X t)
  (ha:∀v,assign (.Subscript o i pos) X.env v=(do
   let ov <- holding [v] (eval o X.env)
   let iv <- holding [v,ov] (eval i X.env)
   standAt pos
   holding [v,ov,iv] (setItem ov iv v)
   release [v,ov,iv] []):=by intro _;rfl):PG X (.Subscript o i pos) (gSub to ti t):=by
 intro pins s σ H v u Q I r h;rw[ha];refine ab (bM (thn (ho pins s σ H _ I h)  ?_));rintro ov s1 ⟨x,H1,I1,r1,q1⟩;refine ab (bM (thn (hi pins s1 σ H1 _ I1 q1)  ?_));rintro iv s2 ⟨y,H2,I2,r2,q2⟩;refine ab (b6 (ab (bM (thn (hs pins s2 σ H2 x y v ov iv u _ I2 r1 r2 r q2)  ?_))));rintro _ s3 ⟨H3,I3,q3⟩;exact wpAny_release ⟨σ,H3,I3,q3⟩
def zgD (te:TE)(g:TG):TS:=fun D σ H=>te σ H fun x H1=>g x σ H1 D.nx
theorem zqo {tg e:Expr}{te:TE}{g:TG}(he:PE X e te)(hg:PG X tg g)(hs:swapsWithSole [tg] e pos.line X.env=pure false:=by rfl)(hw:swappedStores [tg] e X.env=pure none:=by rfl)
  (h1:(assignEach [tg] X.env).map (·.2)=[assign tg X.env]:=by rfl):PS X (.Assign [tg] e pos) (zgD te g):=by
 intro pins s σ H D I h;refine wpAny_Assign_stores (thn (he pins s σ H _ I h) fun v s1 ⟨x,H1,I1,r1,q1⟩=>?_) hs hw;rw[h1];exact thn (hg pins s1 σ H1 x v _ I1 r1 q1) fun _ s2 q=>q
theorem zqr {i:Nat}{x:Str}{e:Expr}{te:TE}{pos':Pos}(hN:X.N.Nodup)(hi:X.N[i]?=some x)(hx:Loc X.env.scope x)(he:PE X e te)(hs:swapsWith e (some (.Name x pos')) pos.line X.env=pure false:=by rfl)(hf:X.fn x=true\/X.env.scope.names.lookup x=some .local:=by first | exact .inl rfl | exact .inr rfl | assumption) :
  PS X (.Assign [.Name x pos'] e pos) (zgD te (zag i)):=by
 intro pins s σ H D I h;refine wpAny_Assign_Name (thn (he pins s σ H _ I h) fun v s1 ⟨y,H1,I1,r1,q1⟩=>?_) hs;exact zgC I1 hN hi hx r1 (fun s2 I2=>⟨_,H1,I2,q1⟩) hf
end
section
variable {X:Cx}{pos:Pos}
def zrh (c:TT)(tb:TS):TS:=fun D σ H=>∃W:Nat->St->Hp->Prop,(∃m,W m σ H)/\∀m σ H,W m σ H->
 c σ H fun b H1=>if b=true then ∃N:St->Hp->Prop,(∀ σ' H',N σ' H'->∃m',m'<m/\W m' σ' H')/\tb { D with nx:=N,ct:=N,bk:=D.nx } σ H1 else D.nx σ H1
theorem zkS {c:Expr}{body:List Stmt}{tc:TT}{tb:TS}(hp:PassesOwn (model X.prog X.w) X.A X.env X.xe)(hc:PT X c tc)(hb:PSs X body tb):PS X (.While c body [] pos) (zrh tc tb):=by
 intro pins s σ H D I h;obtain⟨W,⟨m0,w0⟩,turn⟩:=h;refine wpAny_While (codeAny_whileLoop (fun n s'=>∃ σ' H',Inv X pins σ' H' s'/\W n σ' H') ?_ m0 ⟨σ,H,I,w0⟩);rintro n s1 ⟨σ1,H1,I1,w1⟩;refine cH hp (thn (hc pins s1 σ1 H1 _ I1 (turn n σ1 H1 w1))  ?_);rintro b s2 ⟨H2,I2,q2⟩
 cases b with
 | true=>
  obtain⟨N,hN,q2⟩:=q2;rw[if_pos rfl];refine cH hp (thn (hb pins s2 σ1 H2 _ I2 q2) fun f s3 q3=>?_)
  cases f with
  | next=>
   obtain⟨σ3,H3,I3,n3⟩:=q3;obtain⟨m',hm,w3⟩:=hN σ3 H3 n3;exact⟨m',hm,σ3,H3,I3,w3⟩
  | cont=>
   obtain⟨σ3,H3,I3,n3⟩:=q3;obtain⟨m',hm,w3⟩:=hN σ3 H3 n3;exact⟨m',hm,σ3,H3,I3,w3⟩
  | brk=>exact q3
  | ret v=>exact q3
 | false=>
  rw[if_neg aA];exact ee ⟨σ1,H2,I2,q2⟩
end
structure It where
 go:Nat->Hp->Prop
 yld:Nat->Hp->V->Hp->Prop
 stop:Nat->Hp->Prop
def zcO (X:Cx)(pins:List (Addr×Obj))(H:Hp)(b:Addr):Prop:=
 H b=none/\b≠X.env.locals/\b∉X.fs/\(b∈X.ex\/X.s₀.heap.objs.size<=b)/\(∀x c,X.env.cells.lookup x=some c->c≠b)/\∀p∈X.pn++pins,p.1≠b
theorem Inv.fpOk {X:Cx}{pins:List (Addr×Obj)}{σ:St}{H H':Hp}{s:Shared}{b:Addr}(I:Inv X pins σ H s)(hb:s.heap.objs.size<=b)(hn:H' b=none):zcO X pins H' b:=by
 refine⟨hn,dE (aU I.lt hb),I.nofs hb,.inr (ax I.sz hb),fun x c e z=>?_,fun p hp z=>?_⟩
 ·obtain⟨v,q⟩:=I.cell x c e;exact absurd (aU q.lt (by rw[z];exact hb)) (bQ _)
 ·exact absurd (aU (aw (I.pin p hp).1) (by rw[z];exact hb)) (bQ _)
structure Turn (P:Program)(w:World)(K:PySem.W.Frag)(tg:Expr)(J:It)(fp:List Addr)(it:Addr)(tn:Nat->Heap->Prop):Prop where
 mem:it∈fp
 obj:∀i h,tn i h->∀b∈fp,∃o,h.get? b=some o/\∀v,o.data≠.cell v
 keep:∀i h h',tn i h->(∀b∈fp,∀o,h.get? b=some o->h'.get? b=some o)->tn i h'
 item:∀ (X:Cx),X.prog=P->X.w=w->X.K=K->X.calm=true->∀ (i:Nat) (pins:List (Addr×Obj)) (s:Shared) (σ:St) (H:Hp) (E:Value->Shared->Prop),Inv X pins σ H s->(∀b∈fp,zcO X pins H b)->tn i s.heap->J.go i H->
  wpAny (model P w) X.A (pyNext (.ref it)) (fun r s1=>∃u,r=some u/\
   wpAny (model P w) X.A (letOwnedTupleGo tg (.ref it) u) (fun _ s2=>∃x H',Inv X pins σ H' s2/\yN x u/\J.yld i H x H'/\tn (i+1) s2.heap/\∀b∈fp,H' b=none) E s1) E s
 done:∀ (X:Cx),X.prog=P->X.w=w->X.K=K->X.calm=true->∀ (i:Nat) (pins:List (Addr×Obj)) (s:Shared) (σ:St) (H:Hp) (E:Value->Shared->Prop),Inv X pins σ H s->(∀b∈fp,zcO X pins H b)->tn i s.heap->J.stop i H->
  wpAny (model P w) X.A (pyNext (.ref it)) (fun r s1=>r=none/\Inv X pins σ H s1) E s
 self:∀ (A:Around) (i:Nat) (s:Shared) (Q:Value->Shared->Prop) (E:Value->Shared->Prop),tn i s.heap->Q (.ref it) s->wpAny (model P w) A (pyIter (.ref it)) Q E s
abbrev TI:=St->Hp->(It->Hp->Prop)->Prop
def PIE (X:Cx)(pins:List (Addr×Obj))(σ:St)(tg:Expr)(R:It->Hp->Prop)(itv:Value)(s2:Shared):Prop:=
 ∃ (it:Addr) (fp:List Addr) (tn:Nat->Heap->Prop) (J:It) (H':Hp),itv = .ref it/\Inv X pins σ H' s2/\Turn X.prog X.w X.K tg J fp it tn/\tn 0 s2.heap/\(∀b∈fp,zcO X pins H' b)/\R J H'
def PI (X:Cx)(tg iter:Expr)(wi:TI):Prop:=
 ∀ (pins:List (Addr×Obj)) (s:Shared) (σ:St) (H:Hp) (R:It->Hp->Prop),Inv X pins σ H s->wi σ H R->
  wpAny (model X.prog X.w) X.A (eval iter X.env) (fun v s1=>wpAny (model X.prog X.w) X.A (pyIter v) (PIE X pins σ tg R) X.xe s1) X.xe s
theorem zmE {M:Model}{A:Around}{E:Value->Shared->Prop}{s:Shared}{tg:Expr}{it:Addr}{u:Value}{o:Obj}{n:String}{vs:Array Value}{Q:Unit->Shared->Prop}(ho:s.heap.get? it=some o)(hc:o.cls = .type n)(hd:o.data = .fields vs)
  (hn:["enumerate","zip","dict_itemiterator","dict_reverseitemiterator","odict_iterator","itertools.zip_longest","itertools.pairwise"].contains n=false) (hQ:Q () s):wpAny M A (letOwnedTupleGo tg (.ref it) u) Q E s:=by
 unfold letOwnedTupleGo
 cases tg <;> first
  | exact ac hQ
  | (cases u <;> first
    | exact ac hQ
    | (refine ab (wpAny_load ho ?_)
       rw[hc,hd];show wpAny M A (if (["enumerate","zip","dict_itemiterator","dict_reverseitemiterator","odict_iterator","itertools.zip_longest","itertools.pairwise"].contains n&&vs[0]?==some (rawInt _))=true then _ else _) Q E s;rw[if_neg (by intro h;rw[hn,Bool.false_and] at h;cases h)];exact ac hQ))
def Itl (K:PySem.W.Frag)(a:Addr):It:=
 ⟨fun i H=>∃xs x,SqL K H a xs/\xs[i]?=some x,fun i H x H'=>H'=H/\∀xs,SqL K H a xs->xs[i]?=some x,fun i H=>∃xs,SqL K H a xs/\xs.length<=i⟩
def Itt (K:PySem.W.Frag)(a:Addr):It:=
 ⟨fun i H=>∃xs x,SqT K H a xs/\xs[i]?=some x,fun i H x H'=>H'=H/\∀xs,SqT K H a xs->xs[i]?=some x,fun i H=>∃xs,SqT K H a xs/\xs.length<=i⟩
def Itr (lo:Int)(n:Nat):It:=⟨fun i _=>i<n,fun i H x H'=>H'=H/\x = .int (lo+i),fun i _=>n<=i⟩
theorem zjJ {P:Program}{w:World}{K:PySem.W.Frag}{tg:Expr}(a it:Addr):Turn P w K tg (Itl K a) [it] it (fun i h=>h.IsListIter it a i) where
 mem:=by simp
 obj:=fun i h st b hb=>by
  have e:b=it:=by simpa using hb
  subst e;obtain⟨o,e,c,d⟩:=st;exact⟨o,e,fun v z=>by rw[d] at z;cases z⟩
 keep:=fun i h h' st k=>st.at fun o e=>k it (by simp) o e
 item:=by intro X hP hw hK hc i pins s σ H E I hf st hg;subst hP hw hK;obtain⟨xs,x,hq,hx⟩:=hg;obtain⟨its,rv,p,hz⟩:=I.list hq;obtain⟨u,hu,ru⟩:=rv.get hx;obtain⟨f0,f1,f2,f3,f4,f5⟩:=hf it (by simp);refine wpAny_pyNext_list_item st p.isList (x:=u) (by simpa using hu) fun h' st' sb=>?_;have I1:Inv X pins σ H { s with heap:=h' }:=I.turned (t':=s.toks) (fun b o hb e=>(sb.2 b hb).trans e) f0 f1 f3 f4 f5;obtain⟨o,e,c,d⟩:=id st';exact⟨u,rfl,zmE (s:={ s with heap:=h' }) e c d (by decide) ⟨x,H,I1,ru,⟨rfl,fun ys hy=>by rw[I.list_inj hy hq];exact hx⟩,st',fun b hb=>(hf b hb).1⟩⟩
 done:=by intro X hP hw hK hc i pins s σ H E I hf st hg;subst hP hw hK;obtain⟨xs,hq,hx⟩:=hg;obtain⟨its,rv,p,hz⟩:=I.list hq;obtain⟨f0,f1,f2,f3,f4,f5⟩:=hf it (by simp);have hl:=rv.length;exact wpAny_pyNext_list_end (I.ok.hd hc) st p.isList (by simp;lia) fun h' eb=>⟨rfl,I.turned (t':=s.toks) (fun b o hb e=>eb b o hb e) f0 f1 f3 f4 f5⟩
 self:=fun _ _ _ _ _ st h=>wpAny_pyIter_listiter st h
theorem zg9 {P:Program}{w:World}{K:PySem.W.Frag}{tg:Expr}(a it:Addr):Turn P w K tg (Itt K a) [it] it (fun i h=>h.IsTupleIter it a i) where
 mem:=by simp
 obj:=fun i h st b hb=>by
  have e:b=it:=by simpa using hb
  subst e;obtain⟨o,e,c,d⟩:=st;exact⟨o,e,fun v z=>by rw[d] at z;cases z⟩
 keep:=fun i h h' st k=>st.at fun o e=>k it (by simp) o e
 item:=by intro X hP hw hK hc i pins s σ H E I hf st hg;subst hP hw hK;obtain⟨xs,x,hq,hx⟩:=hg;obtain⟨its,rv,p,hz⟩:=I.tuple hq;obtain⟨u,hu,ru⟩:=rv.get hx;obtain⟨f0,f1,f2,f3,f4,f5⟩:=hf it (by simp);refine wpAny_pyNext_tuple_item st (show s.heap.IsTuple a its.toArray from p) (x:=u) (by simpa using hu) fun h' st' sb=>?_;have I1:Inv X pins σ H { s with heap:=h' }:=I.turned (t':=s.toks) (fun b o hb e=>(sb.2 b hb).trans e) f0 f1 f3 f4 f5;obtain⟨o,e,c,d⟩:=id st';exact⟨u,rfl,zmE (s:={ s with heap:=h' }) e c d (by decide) ⟨x,H,I1,ru,⟨rfl,fun ys hy=>by rw[I.tuple_inj hy hq];exact hx⟩,st',fun b hb=>(hf b hb).1⟩⟩
 done:=by intro X hP hw hK hc i pins s σ H E I hf st hg;subst hP hw hK;obtain⟨xs,hq,hx⟩:=hg;obtain⟨its,rv,p,hz⟩:=I.tuple hq;obtain⟨f0,f1,f2,f3,f4,f5⟩:=hf it (by simp);have hl:=rv.length;exact wpAny_pyNext_tuple_end (I.ok.hd hc) st (show s.heap.IsTuple a its.toArray from p) (by simp;lia) fun h' eb=>⟨rfl,I.turned (t':=s.toks) (fun b o hb e=>eb b o hb e) f0 f1 f3 f4 f5⟩
 self:=fun _ _ _ _ _ st h=>wpAny_pyIter_tupleiter st h
theorem zg8 {P:Program}{w:World}{K:PySem.W.Frag}{tg:Expr}(it:Addr)(lo:Int)(n:Nat):Turn P w K tg (Itr lo n) [it] it (fun i h=>IsRangeIter h it (lo+(i:Nat) * 1) ((n:Int) - (i:Nat)) 1) where
 mem:=by simp
 obj:=fun i h st b hb=>by
  have e:b=it:=by simpa using hb
  subst e
  exact⟨_,st,fun v z=>by have z':Data.fields _=Data.cell v:=z;cases z'⟩
 keep:=fun i h h' st k=>k it (by simp) _ st
 item:=by intro X hP hw hK hc i pins s σ H E I hf st hg;subst hP hw hK;obtain⟨f0,f1,f2,f3,f4,f5⟩:=hf it (by simp);have W:=Walks.range (prog:=X.prog) (w:=X.w) (I.ok.hd hc) it lo 1 n;refine W.item i s _ _ hg st fun v h' tk hv st' kk=>?_;obtain⟨t,rfl⟩:=hv;have I1:Inv X pins σ H { s with heap:=h',toks:=tk }:=I.turned (fun b o hb e=>kk b o (by simpa using hb) e) f0 f1 f3 f4 f5;refine⟨_,rfl,zmE (s:={ s with heap:=h',toks:=tk }) (n := "range_iterator") st' rfl rfl (by decide) ⟨.int (lo+i),H,I1,⟨t,?_⟩,⟨rfl,rfl⟩,st',fun b hb=>(hf b hb).1⟩⟩;rw[Int.mul_one]
 done:=by intro X hP hw hK hc i pins s σ H E I hf st hg;subst hP hw hK;obtain⟨f0,f1,f2,f3,f4,f5⟩:=hf it (by simp);exact wpAny_pyNext_range_end (I.ok.hd hc) st (by have:n<=i:=hg;lia) fun h' eb=>⟨rfl,I.turned (t':=s.toks) (fun b o hb e=>eb b o hb e) f0 f1 f3 f4 f5⟩
 self:=fun _ _ _ _ _ st h=>wpAny_pyIter_rangeiter st h
section
variable {X:Cx}{tg:Expr}
def zmH (K:PySem.W.Frag)(tl:TE):TI:=fun σ H R=>tl σ H fun x H1=>∃a,x = .ref a/\(∃xs,SqL K H1 a xs)/\R (Itl K a) H1
def zsB (K:PySem.W.Frag)(tl:TE):TI:=fun σ H R=>tl σ H fun x H1=>∃a,x = .ref a/\(∃xs,SqT K H1 a xs)/\R (Itt K a) H1
theorem znu {l:Expr}{tl:TE}(hl:PE X l tl):PI X tg l (zmH X.K tl):=by
 intro pins s σ H R I h;refine thn (hl pins s σ H _ I h)  ?_;rintro v s1 ⟨x,H1,I1,r1,q1⟩;obtain⟨a,e,⟨xs,hq⟩,q⟩:=q1;subst e;cases r1;obtain⟨its,rv,p,hz⟩:=I1.list hq;refine wpAny_pyIter_list p.isList ?_;refine⟨s1.heap.objs.size,[s1.heap.objs.size],_,_,H1,rfl,I1.kept (t':=s1.toks) fun b o e=>ai _ e,zjJ a _,⟨_,aP _ rfl,rfl,rfl⟩,fun b hb=>?_,q⟩;have e:b=s1.heap.objs.size:=by simpa using hb
 subst e;exact I1.fpOk (ag _) (I1.hok.fresh (ag _))
theorem zqm {l:Expr}{tl:TE}(hl:PE X l tl):PI X tg l (zsB X.K tl):=by
 intro pins s σ H R I h;refine thn (hl pins s σ H _ I h)  ?_;rintro v s1 ⟨x,H1,I1,r1,q1⟩;obtain⟨a,e,⟨xs,hq⟩,q⟩:=q1;subst e;cases r1;obtain⟨its,rv,p,hz⟩:=I1.tuple hq;refine wpAny_pyIter_tuple (show s1.heap.IsTuple a its.toArray from p) ?_;refine⟨s1.heap.objs.size,[s1.heap.objs.size],_,_,H1,rfl,I1.kept (t':=s1.toks) fun b o e=>ai _ e,zg9 a _,⟨_,aP _ rfl,rfl,rfl⟩,fun b hb=>?_,q⟩;have e:b=s1.heap.objs.size:=by simpa using hb
 subst e;exact I1.fpOk (ag _) (I1.hok.fresh (ag _))
theorem zk3 {pins:List (Addr×Obj)}{σ:St}{H:Hp}{s:Shared}{R:It->Hp->Prop}{E:Value->Shared->Prop}{lo hi:Int}{t u v:Tok}{tk:Nat}(I:Inv X pins σ H s)(h1:-(2 ^ 62)<=lo)(h2:lo<2 ^ 62)(h3:-(2 ^ 62)<=hi)(h4:hi<2 ^ 62)
  (q:R (Itr lo (hi - lo).toNat) H):wpAny (model X.prog X.w) X.A (pyIter (.ref s.heap.objs.size)) (PIE X pins σ tg R) E { s with heap:=s.heap.push { cls:=.type "range",data:=.fields #[.int lo t,.int hi u,.int 1 v] },toks:=tk }:=by
 refine wpAny_pyIter_range (IsRange.new ..) (small_one h1 h2 h3 h4) ?_;have I1:Inv X pins σ H { s with heap:=s.heap.push { cls:=.type "range",data:=.fields #[.int lo t,.int hi u,.int 1 v] },toks:=tk }:=I.kept fun b o e=>ai _ e
 refine⟨(s.heap.push { cls:=.type "range",data:=.fields #[.int lo t,.int hi u,.int 1 v] }).objs.size,[(s.heap.push { cls:=.type "range",data:=.fields #[.int lo t,.int hi u,.int 1 v] }).objs.size],_,_,H,rfl,
  I1.kept (t':=tk) fun b o e=>ai _ e,zg8 _ lo (hi - lo).toNat,?_,fun b hb=>?_,q⟩
 ·have e1:lo+((0:Nat):Int) * 1=lo:=by simp
  have e2:(((hi - lo).toNat:Nat):Int) - ((0:Nat):Int)=Builtin.Range.rangeSize lo hi 1:=by rw[rangeSize_one];split <;> lia
  show IsRangeIter _ _ (lo+((0:Nat):Int) * 1) ((((hi - lo).toNat:Nat):Int) - ((0:Nat):Int)) 1;rw[e1,e2];exact aP _ rfl
 ·have e:b=(s.heap.push { cls:=.type "range",data:=.fields #[.int lo t,.int hi u,.int 1 v] }).objs.size:=by simpa using hb
  subst e;exact I1.fpOk (ag _) (I1.hok.fresh (ag _))
def zpl (ta:TA):TI:=fun σ H R=>ta σ H fun vs H1=>∃j:Int,vs=[.int j]/\-(2 ^ 62)<=j/\j<2 ^ 62/\R (Itr 0 j.toNat) H1
theorem zjb {a:Expr}{ta:TA}{p pos:Pos}(hg:Gl X "range")(hm:X.mg "range" = none)(ha:PA X [a] ta)(hs:starEach [a] X.env=[(false,eval a X.env)]:=by rfl):PI X tg (.Call (.Name "range" p) [a] [] pos) (zpl ta):=by
 intro pins s σ H R I h;refine Call_ (zc0 I hg hm boot_range (cq (thn (ha pos pins s σ H _ I h) fun us s1 ⟨vs,H1,I1,r1,q1⟩=>?_) hs rfl));obtain⟨j,e,q1,q2,q⟩:=q1;subst e
 cases r1 with
 | cons r rr=>
  cases rr;obtain⟨t,rfl⟩:=r;exact call_range_1 (zk3 I1 (by lia) (by lia) q1 q2 (by simpa using q))
def ztz (wi:TI)(g:TG)(tb:TS):TS:=fun D σ H=>wi σ H fun J H1=>∃W:Nat->Nat->St->Hp->Prop,(∃m,W 0 m σ H1)/\∀i m σ H,W i m σ H->
 (J.stop i H/\D.nx σ H)\/(J.go i H/\∃N:St->Hp->Prop,(∀ σ' H',N σ' H'->∃m',m'<m/\W (i+1) m' σ' H')/\∀x H',J.yld i H x H'->g x σ H' fun σ2 H2=>tb { D with nx:=N,ct:=N,bk:=D.nx } σ2 H2)
def zaM (fp:List Addr)(h:Heap):List (Addr×Obj):=fp.filterMap fun b=>(h.get? b).map fun o=>(b,o)
theorem z5 {fp:List Addr}{h:Heap}{b:Addr}{o:Obj}(hb:b∈fp)(e:h.get? b=some o):(b,o)∈zaM fp h:=cV.mpr ⟨b,hb,by rw[e];rfl⟩
theorem ziX {fp:List Addr}{h:Heap}{p:Addr×Obj}(hp:p∈zaM fp h):p.1∈fp/\h.get? p.1=some p.2:=by
 obtain⟨b,hb,e⟩:=cV.mp hp
 cases q:h.get? b with
 | none=>rw[q] at e;cases e
 | some o=>
  rw[q] at e;have e':(b,o)=p:=bc e;subst e';exact⟨hb,q⟩
theorem Inv.pinned {pins:List (Addr×Obj)}{σ:St}{H:Hp}{s:Shared}{fp:List Addr}(I:Inv X pins σ H s)(hf:∀b∈fp,zcO X pins H b)(ho:∀b∈fp,∃o,s.heap.get? b=some o/\∀v,o.data≠.cell v):Inv X (pins++zaM fp s.heap) σ H s:=
 I.pins_of fun p hp=>(bg.mp hp).elim (fun z=>I.pin p (au _ z)) fun z=>by obtain⟨hb,e⟩:=ziX z;obtain⟨f0,f1,f2,_⟩:=hf p.1 hb;obtain⟨o,e',d⟩:=ho p.1 hb;rw[e] at e';cases e';exact⟨e,f0,f1,f2,d⟩
theorem Inv.unpinned {pins pl:List (Addr×Obj)}{σ:St}{H:Hp}{s:Shared}(I:Inv X (pins++pl) σ H s):Inv X pins σ H s:=I.pins_of fun p hp=>I.pin p (au _ (bU _ hp))
theorem zqp {iter:Expr}{body:List Stmt}{wi:TI}{g:TG}{tb:TS}{pos:Pos}(hp:PassesOwn (model X.prog X.w) X.A X.env X.xe)(hc:X.calm=true)(hi:PI X tg iter wi)(hg:PG X tg g)(hb:PSs X body tb)
  (hs:∀x,foldedSetIterable iter X.env x=pure x:=by intro _;rfl):PS X (.For tg iter body [] pos) (ztz wi g tb):=by
 intro pins s σ H D I h;refine wpAny_For (thn (hi pins s σ H _ I h) fun v s1 h1=>thn h1 fun itv s2 h2=>?_) hs;obtain⟨it,fp,tn,J,H2,e,I2,T,st2,f2,W,⟨m0,w0⟩,turn⟩:=h2;subst e;have stat:∀ {H':Hp},(∀b∈fp,H' b=none)->∀b∈fp,zcO X pins H' b:=fun hn b hb=>⟨hn b hb,(f2 b hb).2⟩;refine codeAny_forLoop_any (fun n s'=>∃i σ' H',Inv X pins σ' H' s'/\tn i s'.heap/\(∀b∈fp,H' b=none)/\W i n σ' H') ?_ m0 ⟨0,σ,H2,I2,st2,fun b hb=>(f2 b hb).1,w0⟩;rintro n s3 ⟨i,σ3,H3,I3,st3,fr3,w3⟩;rcases turn i n σ3 H3 w3 with ⟨stop,qn⟩ | ⟨go,N,hN,step⟩
 ·refine cH hp (thn (T.done X rfl rfl rfl hc i pins s3 σ3 H3 X.xe I3 (stat fr3) st3 stop)  ?_);rintro r s4 ⟨hr,I4⟩;subst hr;exact ee ⟨σ3,H3,I4,qn⟩
 ·refine cH hp (thn (T.item X rfl rfl rfl hc i pins s3 σ3 H3 X.xe I3 (stat fr3) st3 go)  ?_);rintro r s4 ⟨u,hr,h4⟩;subst hr;refine cH hp (thn h4  ?_);rintro _ s5 ⟨x,H5,I5,r5,y5,st5,fr5⟩;have I5':=I5.pinned (stat fr5) (T.obj _ _ st5);refine cH hp (thn (hg _ s5 σ3 H5 x u _ I5' r5 (step x H5 y5))  ?_);rintro _ s6 ⟨σ6,H6,I6,q6⟩;refine cH hp (thn (hb _ s6 σ6 H6 _ I6 q6) fun f s7 q7=>?_)
  have again:∀ {σ7:St} {H7:Hp},Inv X (pins++zaM fp s5.heap) σ7 H7 s7->N σ7 H7->∃m,m<n/\∃i σ' H',Inv X pins σ' H' s7/\tn i s7.heap/\(∀b∈fp,H' b=none)/\W i m σ' H':=fun {σ7 H7} I7 n7=>by obtain⟨m',hm,w7⟩:=hN σ7 H7 n7;refine⟨m',hm,i+1,σ7,H7,I7.unpinned,T.keep _ _ _ st5 fun b hb o e=>(I7.pin (b,o) (au _ (au _ (z5 hb e)))).1,fun b hb=>?_,w7⟩;obtain⟨o,e,d⟩:=T.obj _ _ st5 b hb;exact (I7.pin (b,o) (au _ (au _ (z5 hb e)))).2.1
  cases f with
  | next=>obtain⟨σ7,H7,I7,n7⟩:=q7;exact again I7 n7
  | cont=>obtain⟨σ7,H7,I7,n7⟩:=q7;exact again I7 n7
  | brk=>obtain⟨σ7,H7,I7,q7⟩:=q7;exact⟨σ7,H7,I7.unpinned,q7⟩
  | ret v=>obtain⟨x7,σ7,H7,I7,r7,q7⟩:=q7;exact⟨x7,σ7,H7,I7.unpinned,r7,q7⟩
end
abbrev R2:=V->V->Hp->VK->Prop
def OpR (X:Cx)(f:Value->Value->Sem Value)(r:R2):Prop:=
 ∀ (pins:List (Addr×Obj)) (s:Shared) (σ:St) (H:Hp) (x y:V) (v u:Value) (Q:VK),Inv X pins σ H s->yN x v->yN y u->r x y H Q->
  wpAny (model X.prog X.w) X.A (f v u) (EP X pins σ Q) X.xe s
def UnR (X:Cx)(f:Value->Sem Value)(r:V->Hp->VK->Prop):Prop:=
 ∀ (pins:List (Addr×Obj)) (s:Shared) (σ:St) (H:Hp) (x:V) (v:Value) (Q:VK),Inv X pins σ H s->yN x v->r x H Q->
  wpAny (model X.prog X.w) X.A (f v) (EP X pins σ Q) X.xe s
def zcy (X:Cx)(f:Value)(r:List V->Hp->VK->Prop):Prop:=
 ∀ (pins:List (Addr×Obj)) (s:Shared) (σ:St) (H:Hp) (xs:List V) (us:List Value) (Q:VK),Inv X pins σ H s->z4 xs us->r xs H Q->
  wpAny (model X.prog X.w) X.A (call f us) (EP X pins σ Q) X.xe s
def TruR (X:Cx)(r:V->Hp->(Bool->Hp->Prop)->Prop):Prop:=
 ∀ (pins:List (Addr×Obj)) (s:Shared) (σ:St) (H:Hp) (x:V) (v:Value) (Q:Bool->Hp->Prop),Inv X pins σ H s->yN x v->r x H Q->
  wpAny (model X.prog X.w) X.A (truthy v) (TP X pins σ Q) X.xe s
def tOp (r:R2)(ta tb:TE):TE:=fun σ H Q=>ta σ H fun x H1=>tb σ H1 fun y H2=>r x y H2 Q
def tUn (r:V->Hp->VK->Prop)(ta:TE):TE:=fun σ H Q=>ta σ H fun x H1=>r x H1 Q
def rI (C:Int->Int->Prop)(g:Int->Int->V):R2:=fun x y H Q=>∃i j,x = .int i/\y = .int j/\C i j/\Q (g i j) H
def rI0 (g:Int->Int->V):R2:=fun x y H Q=>∃i j,x = .int i/\y = .int j/\Q (g i j) H
def rU (g:Int->V):V->Hp->VK->Prop:=fun x H Q=>∃i,x = .int i/\Q (g i) H
section
variable {X:Cx}{a b c:Expr}{ta tb tc:TE}{pos:Pos}
theorem zsa (ha:PE X a ta)(hb:PE X b tb){pins:List (Addr×Obj)}{s:Shared}{σ:St}{H:Hp}{R:V->V->Hp->Prop}(I:Inv X pins σ H s)
  (h:ta σ H fun x H1=>tb σ H1 fun y H2=>R x y H2) {Q:Value->Shared->Prop} {f:Value->Value->Sem Value}
  (hf:∀v u s2 x y H2,Inv X pins σ H2 s2->yN x v->yN y u->R x y H2->wpAny (model X.prog X.w) X.A (f v u) Q X.xe s2) :
  wpAny (model X.prog X.w) X.A (eval a X.env) (fun v s₁=>wpAny (model X.prog X.w) X.A (eval b X.env) (fun u s₂=>wpAny (model X.prog X.w) X.A (f v u) Q X.xe s₂) X.xe s₁) X.xe s:=by
 refine thn (ha pins s σ H _ I h)  ?_;rintro v s1 ⟨x,H1,I1,r1,q1⟩;refine thn (hb pins s1 σ H1 _ I1 q1)  ?_;rintro u s2 ⟨y,H2,I2,r2,q2⟩;exact hf v u s2 x y H2 I2 r1 r2 q2
theorem ztd {op:Operator}{r:R2}(ho:OpR X (binaryOp op) r)(ha:PE X a ta)(hb:PE X b tb):PE X (.BinOp a op b pos) (tOp r ta tb):=by intro pins s σ H Q I h;exact wpAny_BinOp (zsa ha hb I h fun v u s2 x y H2 I2 rx ry q=>ho pins s2 σ H2 x y v u Q I2 rx ry q)
theorem zqd {op:UnaryOp}{r:V->Hp->VK->Prop}(ho:UnR X (unaryOp op) r)(ha:PE X a ta):PE X (.UnaryOp op a pos) (tUn r ta):=by intro pins s σ H Q I h;exact UnaryOp_ (thn (ha pins s σ H _ I h) <| by rintro v s1 ⟨x,H1,I1,r1,q1⟩;exact ho pins s1 σ H1 x v Q I1 r1 q1)
theorem opI {f:Value->Value->Sem Value}{C:Int->Int->Prop}{g:Int->Int->Int}
  (rule:∀ (i j:Int) (t u:Tok) (s:Shared) (Q:Value->Shared->Prop) (E:Value->Shared->Prop),C i j->Q (.int (g i j) s.toks) { s with toks:=s.toks+1 }->wpAny (model X.prog X.w) X.A (f (.int i t) (.int j u)) Q E s) :
  OpR X f (rI C fun i j=>.int (g i j)):=by
 intro pins s σ H x y v u Q I rx ry h;obtain⟨i,j,rfl,rfl,hc,q⟩:=h;obtain⟨t,rfl⟩:=rx;obtain⟨t',rfl⟩:=ry;exact rule i j t t' s _ _ hc ⟨.int (g i j),H,I.tok _,⟨_,rfl⟩,q⟩
theorem opI0 {f:Value->Value->Sem Value}{g:Int->Int->Int}
  (rule:∀ (i j:Int) (t u:Tok) (s:Shared) (Q:Value->Shared->Prop) (E:Value->Shared->Prop),Q (.int (g i j) s.toks) { s with toks:=s.toks+1 }->wpAny (model X.prog X.w) X.A (f (.int i t) (.int j u)) Q E s) :
  OpR X f (rI0 fun i j=>.int (g i j)):=by
 intro pins s σ H x y v u Q I rx ry h;obtain⟨i,j,rfl,rfl,q⟩:=h;obtain⟨t,rfl⟩:=rx;obtain⟨t',rfl⟩:=ry;exact rule i j t t' s _ _ ⟨.int (g i j),H,I.tok _,⟨_,rfl⟩,q⟩
theorem zrS {f:Value->Value->Sem Value}{g:Int->Int->Bool}
  (rule:∀ (i j:Int) (t u:Tok) (s:Shared) (Q:Value->Shared->Prop) (E:Value->Shared->Prop),Q (.bool (g i j)) s->wpAny (model X.prog X.w) X.A (f (.int i t) (.int j u)) Q E s) :
  OpR X f (rI0 fun i j=>.bl (g i j)):=by
 intro pins s σ H x y v u Q I rx ry h;obtain⟨i,j,rfl,rfl,q⟩:=h;obtain⟨t,rfl⟩:=rx;obtain⟨t',rfl⟩:=ry;exact rule i j t t' s _ _ ⟨.bl (g i j),H,I,rfl,q⟩
def zoy (i j:Int):Prop:=0<j/\j<1073741824
def CPow (i j:Int):Prop:=0<=j/\j<=1000000/\i.natAbs<2 ^ 64
def zrD (i j:Int):Prop:=(-(2 ^ 64)<i/\i<2 ^ 64)\/(-(2 ^ 64)<j/\j<2 ^ 64)
theorem zrD.ok {i j:Int}(h:zrD i j):IntMulOk i j:=by
 rcases h with ⟨h1,h2⟩ | ⟨h1,h2⟩
 ·exact .of_left (intBits_le_64 h1 h2)
 ·exact .of_right (intBits_le_64 h1 h2)
theorem zpV:OpR X (binaryOp .Add) (rI0 fun i j=>.int (i+j)):=opI0 fun _ _ _ _ _ _ _ q=>add_int q
theorem zp3:OpR X (binaryOp .Sub) (rI0 fun i j=>.int (i - j)):=opI0 fun _ _ _ _ _ _ _ q=>sub_int q
theorem zpZ:OpR X (binaryOp .Mult) (rI zrD fun i j=>.int (i * j)):=opI fun _ _ _ _ _ _ _ hc q=>mul_int q hc.ok
theorem zng:OpR X (binaryOp .FloorDiv) (rI zoy fun i j=>.int (i / j)):=opI fun i j _ _ _ _ _ hc q=>by have h1:(0:Int)<j:=hc.1;have h2:j<1073741824:=hc.2;exact floordiv_int (by lia) (by rw[Int.fdiv_eq_ediv_of_nonneg i (by lia)];exact q) (.inl (PyProof.noPylong_small (by lia)))
theorem zpY:OpR X (binaryOp .Mod) (rI (fun _ j=>0<j) fun i j=>.int (i % j)):=opI fun i j _ _ _ _ _ hc q=>by have h1:(0:Int)<j:=hc;exact mod_int' (by lia) (by rw[Int.fmod_eq_emod_of_nonneg i (by lia)];exact q)
theorem zp1:OpR X (binaryOp .Pow) (rI CPow fun i j=>.int (i ^ j.toNat)):=opI fun _ _ _ _ _ _ _ hc q=>pow_int_small hc.1 hc.2.1 hc.2.2 q
theorem unI {f:Value->Sem Value}{g:Int->Int}
  (rule:∀ (i:Int) (t:Tok) (s:Shared) (Q:Value->Shared->Prop) (E:Value->Shared->Prop),Q (.int (g i) s.toks) { s with toks:=s.toks+1 }->wpAny (model X.prog X.w) X.A (f (.int i t)) Q E s) :
  UnR X f (rU fun i=>.int (g i)):=by
 intro pins s σ H x v Q I rx h;obtain⟨i,rfl,q⟩:=h;obtain⟨t,rfl⟩:=rx;exact rule i t s _ _ ⟨.int (g i),H,I.tok _,⟨_,rfl⟩,q⟩
theorem zl6:UnR X (unaryOp .USub) (rU fun i=>.int (-i)):=unI fun _ _ _ _ _ q=>neg_int q
end
def ztw:V->V->Bool
 | .non,.non=>true | .non,.int _=>true | .int _,.non=>true | .non,.bl _=>true | .bl _,.non=>true | .non,.str _=>true | .str _,.non=>true
 | .int _,.int _=>true | .bl _,.bl _=>true | .str _,.str _=>true | .byt _,.byt _=>true
 | .int _,.str _=>true | .str _,.int _=>true | .bl _,.str _=>true | .str _,.bl _=>true
 | _,_=>false
def rEq:R2:=fun x y H Q=>ztw x y=true/\Q (.bl (decide (x=y))) H
def rNe:R2:=fun x y H Q=>ztw x y=true/\Q (.bl (!decide (x=y))) H
theorem zhH {i j:Int}:decide (V.int i=V.int j)=(i==j):=by rw[cr];simp
theorem zly {i j:Bool}:decide (V.bl i=V.bl j)=(i==j):=by rw[cr];simp
theorem zhI {i j:Str}:decide (V.str i=V.str j)=(i==j):=by rw[cr];simp
theorem zhG {i j:Array UInt8}:decide (V.byt i=V.byt j)=(i.toList==j.toList):=by rw[cr];cases i;cases j;simp
section
variable {X:Cx}{a b c:Expr}{ta tb tc:TE}{pos:Pos}
theorem z0 {pins:List (Addr×Obj)}{σ:St}{H:Hp}{s:Shared}{Q:VK}{k k':Bool}(I:Inv X pins σ H s)(q:Q (.bl k) H)(e:k=k'):EP X pins σ Q (.bool k') s:=by subst e;exact⟨.bl k,H,I,rfl,q⟩
theorem zs2:OpR X (compareOp .Eq) rEq:=by
 intro pins s σ H x y v u Q I rx ry h;obtain⟨hs,q⟩:=h
 cases x with
 | non=>
  cases rx
  cases y with
  | non=>cases ry;exact PySem.EqNone.eq_none_none (z0 I q (by simp))
  | bl j=>cases ry;exact PySem.EqNone.eq_none_bool (z0 I q (by simp))
  | int j=>obtain⟨t',rfl⟩:=ry;exact PySem.EqNone.eq_none_int (z0 I q (by simp))
  | str j=>obtain⟨t',rfl⟩:=ry;exact PySem.EqNone.eq_none_str (z0 I q (by simp))
  | _=>exact absurd (show false=true from hs) aA
 | bl i=>
  cases rx
  cases y with
  | non=>cases ry;exact PySem.EqNone.eq_bool_none (z0 I q (by simp))
  | bl j=>cases ry;exact eq_bool (z0 I q zly)
  | str j=>obtain⟨t',rfl⟩:=ry;exact PySem.EqMixed.eq_bool_str (z0 I q (by simp))
  | _=>exact absurd (show false=true from hs) aA
 | int i=>
  obtain⟨t,rfl⟩:=rx
  cases y with
  | non=>cases ry;exact PySem.EqNone.eq_int_none (z0 I q (by simp))
  | int j=>obtain⟨t',rfl⟩:=ry;exact eq_int (z0 I q zhH)
  | str j=>obtain⟨t',rfl⟩:=ry;exact PySem.EqMixed.eq_int_str (z0 I q (by simp))
  | _=>exact absurd (show false=true from hs) aA
 | str i=>
  obtain⟨t,rfl⟩:=rx
  cases y with
  | non=>cases ry;exact PySem.EqNone.eq_str_none (z0 I q (by simp))
  | bl j=>cases ry;exact PySem.EqMixed.eq_str_bool (z0 I q (by simp))
  | int j=>obtain⟨t',rfl⟩:=ry;exact PySem.EqMixed.eq_str_int (z0 I q (by simp))
  | str j=>obtain⟨t',rfl⟩:=ry;exact eq_str (z0 I q zhI)
  | _=>exact absurd (show false=true from hs) aA
 | byt i=>
  obtain⟨t,rfl⟩:=rx
  cases y with
  | byt j=>obtain⟨t',rfl⟩:=ry;exact PySem.W.eq_bytes (z0 I q zhG)
  | _=>exact absurd (show false=true from hs) aA
 | _=>cases y <;> exact absurd (show false=true from hs) aA
theorem zs7:OpR X (compareOp .NotEq) rNe:=by
 intro pins s σ H x y v u Q I rx ry h;obtain⟨hs,q⟩:=h
 cases x with
 | non=>
  cases rx
  cases y with
  | non=>cases ry;exact PySem.EqNone.ne_none_none (z0 I q (by simp))
  | bl j=>cases ry;exact PySem.EqNone.ne_none_bool (z0 I q (by simp))
  | int j=>obtain⟨t',rfl⟩:=ry;exact PySem.EqNone.ne_none_int (z0 I q (by simp))
  | str j=>obtain⟨t',rfl⟩:=ry;exact PySem.EqNone.ne_none_str (z0 I q (by simp))
  | _=>exact absurd (show false=true from hs) aA
 | bl i=>
  cases rx
  cases y with
  | non=>cases ry;exact PySem.EqNone.ne_bool_none (z0 I q (by simp))
  | bl j=>cases ry;exact ne_bool (z0 I q (congrArg not zly))
  | str j=>obtain⟨t',rfl⟩:=ry;exact PySem.EqMixed.ne_bool_str (z0 I q (by simp))
  | _=>exact absurd (show false=true from hs) aA
 | int i=>
  obtain⟨t,rfl⟩:=rx
  cases y with
  | non=>cases ry;exact PySem.EqNone.ne_int_none (z0 I q (by simp))
  | int j=>obtain⟨t',rfl⟩:=ry;exact ne_int (z0 I q (congrArg not zhH))
  | str j=>obtain⟨t',rfl⟩:=ry;exact PySem.EqMixed.ne_int_str (z0 I q (by simp))
  | _=>exact absurd (show false=true from hs) aA
 | str i=>
  obtain⟨t,rfl⟩:=rx
  cases y with
  | non=>cases ry;exact PySem.EqNone.ne_str_none (z0 I q (by simp))
  | bl j=>cases ry;exact PySem.EqMixed.ne_str_bool (z0 I q (by simp))
  | int j=>obtain⟨t',rfl⟩:=ry;exact PySem.EqMixed.ne_str_int (z0 I q (by simp))
  | str j=>obtain⟨t',rfl⟩:=ry;exact ne_str (z0 I q (congrArg not zhI))
  | _=>exact absurd (show false=true from hs) aA
 | byt i=>
  obtain⟨t,rfl⟩:=rx
  cases y with
  | byt j=>obtain⟨t',rfl⟩:=ry;exact PySem.W.ne_bytes (z0 I q (congrArg not zhG))
  | _=>exact absurd (show false=true from hs) aA
 | _=>cases y <;> exact absurd (show false=true from hs) aA
theorem zs6:OpR X (compareOp .Lt) (rI0 fun i j=>.bl (decide (i<j))):=zrS fun _ _ _ _ _ _ _ q=>lt_int q
theorem zs5:OpR X (compareOp .LtE) (rI0 fun i j=>.bl (decide (i<=j))):=zrS fun _ _ _ _ _ _ _ q=>le_int q
theorem zs4:OpR X (compareOp .Gt) (rI0 fun i j=>.bl (decide (j<i))):=zrS fun _ _ _ _ _ _ _ q=>gt_int q
theorem zs3:OpR X (compareOp .GtE) (rI0 fun i j=>.bl (decide (j<=i))):=zrS fun _ _ _ _ _ _ _ q=>ge_int q
theorem zD (b:Expr){op:CmpOp}(h:op≠.In:=by decide)(h2:op≠.NotIn:=by decide):behindInMarks op b=false:=by
 have e1:(op==CmpOp.In)=false:=by cases op <;> first | rfl | exact absurd rfl h
 have e2:(op==CmpOp.NotIn)=false:=by cases op <;> first | rfl | exact absurd rfl h2
 cases b <;> simp[behindInMarks,e1,e2]
theorem znl {op:CmpOp}{r:R2}(ho:OpR X (compareOp op) r)(ha:PE X a ta)(hb:PE X b tb)(hm:behindInMarks op b=false):PE X (.Compare a [op] [b] pos) (tOp r ta tb):=by intro pins s σ H Q I h;exact wpAny_Compare1 (zsa ha hb I h fun v u s2 x y H2 I2 rx ry q=>ho pins s2 σ H2 x y v u Q I2 rx ry q) hm
def zom (t:TE):TT:=fun σ H Q=>t σ H fun x H'=>∃k,x = .bl k/\Q k H'
theorem znF {op:CmpOp}{r:R2}(ho:OpR X (compareOp op) r)(ha:PE X a ta)(hb:PE X b tb)(hm:behindInMarks op b=false):PT X (.Compare a [op] [b] pos) (zom (tOp r ta tb)):=by
 intro pins s σ H Q I h
 refine wpAny_isTrue_Compare1 (thn (ha pins s σ H _ I h) fun v s1 ⟨x,H1,I1,r1,q1⟩=>thn (hb pins s1 σ H1 _ I1 q1) fun u s2 ⟨y,H2,I2,r2,q2⟩=>
  thn (ho pins s2 σ H2 x y v u _ I2 r1 r2 q2) fun c s3 ⟨z,H3,I3,r3,k,e,q3⟩=>?_) hm
 subst e;cases r3;exact cG ⟨H3,I3,q3⟩
def zr8 (K:PySem.W.Frag)(x:V)(H:Hp)(k:Bool):Prop:=
 match x with
 | .non=>k=false
 | .bl b=>k=b
 | .int i=>k=(i != 0)
 | .str y=>y.length<=sizeLine/\k=((y.length:Int) != 0)
 | .byt y=>y.size<=sizeLine/\k=((y.size:Int) != 0)
 | .ref p=>(∃xs,SqL K H p xs/\k = !xs.isEmpty)\/(∃xs,SqT K H p xs/\k = !xs.isEmpty)\/∃kvs,H p=some (.dK kvs)/\k = !kvs.isEmpty
 | _=>False
theorem zgQ {κ:Type}{kvs:List (κ×V)}{vs:List (κ×Value)}(r:KV kvs vs):(!vs.isEmpty) = !kvs.isEmpty:=by cases r <;> rfl
theorem zcU {xs:List V}{its:List Value}(r:z4 xs its):(!its.toArray.isEmpty) = !xs.isEmpty:=by cases r <;> simp
theorem zez:(sizeLine:Nat)<2 ^ 63:=by rw[bI];decide
theorem zri:TruR X (fun x H Q=>∃k,zr8 X.K x H k/\Q k H):=by
 intro pins s σ H x v Q I rx h;obtain⟨k,e,q⟩:=h;have hl:=zez;have hs:sizeLine=16777216:=bI
 cases x with
 | non=>
  cases rx;have e':k=false:=e;subst e';exact truthy_none ⟨H,I,q⟩
 | bl b=>
  cases rx;have e':k=b:=e;subst e';exact cG ⟨H,I,q⟩
 | int i=>
  obtain⟨t,rfl⟩:=rx;have e':k=(i != 0):=e;subst e';exact PySem.P.truthy_int ⟨H,I,q⟩
 | str y=>
  obtain⟨t,rfl⟩:=rx;obtain⟨hy,e'⟩:y.length<=sizeLine/\k=((y.length:Int) != 0):=e;subst e';exact PySem.P.truthy_str (by lia) ⟨H,I.tok _,q⟩
 | byt y=>
  obtain⟨t,rfl⟩:=rx;obtain⟨hy,e'⟩:y.size<=sizeLine/\k=((y.size:Int) != 0):=e;subst e';exact PySem.W.truthy_bytes (by lia) ⟨H,I.tok _,q⟩
 | ref p=>
  cases rx;have e':(∃xs,SqL X.K H p xs/\k = !xs.isEmpty)\/(∃xs,SqT X.K H p xs/\k = !xs.isEmpty)\/∃kvs,H p=some (.dK kvs)/\k = !kvs.isEmpty:=e;rcases e' with ⟨xs,hx,e'⟩ | ⟨xs,hx,e'⟩ | ⟨kvs,hx,e'⟩
  ·subst e';obtain⟨its,r,pl,hz⟩:=I.list hx;have hlen:=r.length;exact wpAny_truthy_list pl.isList (by simp only[aq];lia) ⟨H,I.tok _,by rw[zcU r];exact q⟩
  ·subst e';obtain⟨its,r,pl,hz⟩:=I.tuple hx;have hlen:=r.length;exact truthy_tuple pl (by simp only[aq];lia) ⟨H,I.tok _,by rw[zcU r];exact q⟩
  ·subst e';obtain⟨hz,hS,vs,r,m⟩:kvs.length<=sizeLine/\(p==sysModules)=false/\∃vs,KV kvs vs/\s.heap.DictOf (zM X.prog X.w) p vs:=I.hok p _ hx;have hlen:kvs.length=vs.length:=dR r;exact wpAny_truthy_dict hS m (by lia) ⟨H,I.tok _,by rw[zgQ r];exact q⟩
 | _=>exact (show False from e).elim
theorem zkU (ha:PE X a ta)(he:∀whole,isTrue a X.env whole=(do let v <- whole;standAt a.pos;holding [v] (truthy v))) :
  PT X a (fun σ H Q=>ta σ H fun x H'=>∃k,zr8 X.K x H' k/\Q k H'):=by
 intro pins s σ H Q I h;exact isTrue_plain (thn (ha pins s σ H _ I h) <| by rintro v s1 ⟨x,H1,I1,r1,q1⟩;exact zri pins s1 σ H1 x v Q I1 r1 q1) (he _)
theorem u6 {x:V}{us:List Value}(r:z4 [x] us):∃u,us=[u]/\yN x u:=by
 cases r with
 | cons r1 r2=>cases r2;exact⟨_,rfl,r1⟩
theorem ztS {x y:V}{us:List Value}(r:z4 [x,y] us):∃u w',us=[u,w']/\yN x u/\yN y w':=by
 cases r with
 | cons r1 r2=>
  cases r2 with
  | cons r3 r4=>cases r4;exact⟨_,_,rfl,r1,r3⟩
theorem zj2:zcy X (.builtin "abs") (fun xs H Q=>∃i,xs=[.int i]/\Q (.int (if i<0 then -i else i)) H):=by intro pins s σ H xs us Q I r h;obtain⟨i,rfl,q⟩:=h;obtain⟨u,rfl,t,rfl⟩:=u6 r;exact call_abs_int fun u tk=>⟨.int (if i<0 then -i else i),H,I.tok _,⟨_,rfl⟩,q⟩
def zoL (K:PySem.W.Frag)(x:V)(H:Hp)(n:Nat):Prop:=
 match x with
 | .str y=>y.length<=sizeLine/\n=y.length
 | .byt y=>y.size<=sizeLine/\n=y.size
 | .ref p=>(∃xs,SqL K H p xs/\n=xs.length)\/∃xs,SqT K H p xs/\n=xs.length
 | _=>False
theorem zj4:zcy X (.builtin "len") (fun xs H Q=>∃x n,xs=[x]/\zoL X.K x H n/\Q (.int n) H):=by
 intro pins s σ H xs us Q I r h;obtain⟨x,n,rfl,e,q⟩:=h;obtain⟨u,rfl,rx⟩:=u6 r;have hl:=zez;have hs:sizeLine=16777216:=bI
 cases x with
 | str y=>
  obtain⟨t,rfl⟩:=rx;obtain⟨hy,e'⟩:y.length<=sizeLine/\n=y.length:=e;subst e';exact len_str (by lia) ⟨.int _,H,I.tok _,⟨_,rfl⟩,q⟩
 | byt y=>
  obtain⟨t,rfl⟩:=rx;obtain⟨hy,e'⟩:y.size<=sizeLine/\n=y.size:=e;subst e';exact PySem.W.len_bytes (by lia) ⟨.int _,H,I.tok _,⟨_,rfl⟩,q⟩
 | ref p=>
  cases rx;have e':(∃xs,SqL X.K H p xs/\n=xs.length)\/∃xs,SqT X.K H p xs/\n=xs.length:=e;rcases e' with ⟨xs,hx,e'⟩ | ⟨xs,hx,e'⟩
  ·subst e';obtain⟨its,r',pl,hz⟩:=I.list hx;have hlen:=r'.length;exact Calls.call_len_list pl.isList (by simp only[aq];lia) ⟨.int xs.length,H,I.tok _,⟨_,by simp only[aq];rw[hlen]⟩,q⟩
  ·subst e';obtain⟨its,r',pl,hz⟩:=I.tuple hx;have hlen:=r'.length;exact len_tuple pl (by simp only[aq];lia) ⟨.int xs.length,H,I.tok _,⟨_,by simp only[aq];rw[hlen]⟩,q⟩
 | _=>exact (show False from e).elim
end
structure ObjM (h:Heap)(x dx C:Addr)(mA:Str->Option Value):Prop where
 obj:h.get? x=some (PySem.W.instObj C dx)
 ns:h.Ns1 dx mA
 ne:dx≠x
theorem ziA {h:Heap}{dx:Addr}{mA:Str->Option Value}(n:h.Ns1 dx mA):∃od,h.get? dx=some od/\∀name,PySem.W.lookIn name od=some (mA name):=by
 obtain⟨o,es,ep,ho,hd,hk,_,hm⟩:=n;refine⟨o,ho,fun name=>?_⟩;have e:=hm name;unfold nsFind findBy at e;rw[<- Array.find?_toList] at e;unfold PySem.W.lookIn;rw[hd];dsimp only;split
 ·rename_i y q;rw[q] at e;exact congrArg some e
 ·rename_i q;rw[q] at e
  have a:es.toList.any (·.refKey)=false:=by rw[List.any_eq_false];intro y hy;obtain⟨z,t,hkey⟩:=hk y (dP.mp hy);simp[DictEntry.refKey,hkey]
  have a':¬ es.toList.any (·.refKey)=true:=by rw[a];exact aA
  rw[if_neg a'];exact congrArg some e
theorem ObjM.look {h:Heap}{x dx C:Addr}{mA:Str->Option Value}(I:ObjM h x dx C mA):∃od,PySem.W.InstAt h x (PySem.W.instObj C dx) C (some od)/\∀name,PySem.W.lookIn name od=some (mA name):=
 let ⟨od,ho,hl⟩:=ziA I.ns
 ⟨od,⟨I.obj,rfl,rfl,ho⟩,hl⟩
section
variable {prog:Program}{w:World}{A:Around}{E:Value->Shared->Prop}{s:Shared}{K:PySem.W.Frag}{x dx C f:Addr}{mA:Str->Option Value}{name:Str}{v:Value}
end
theorem zhf.some_of {v:V}{o:Option Value}(r:zhf (some v) o):∃u,o=some u/\yN v u:=by
 cases o with
 | none=>exact (show False from r).elim
 | some u=>exact⟨u,rfl,r⟩
section
variable {P:Program}{w:World}{H H':Hp}{h h':Heap}{a C dx:Addr}{fs fs':List (Str×V)}
theorem zmJ (hok:HOk P w H h)(e:H a=some (.ins C dx fs)):∃mA,ObjM h a dx C mA/\(∀f,zhf (fs.lookup f) (mA f))/\PySem.Within mA (fs.map (·.1))/\fs.length<=1000/\H dx=some (.own a):=by obtain⟨d,z,ne,ob,mA,n,r,q⟩:=(show yy P w H h a (.ins C dx fs) from hok a _ e);exact⟨mA,⟨ob,n,ne⟩,r,q,z,d⟩
end
structure Cls (K:PySem.W.Frag)(C:Addr):Prop where
 pg:PySem.W.plainGet K C Str.empty=true
 hd:PySem.W.hasDictIn K C=true
 po:PySem.W.plainOver K C=true
 sa:PySem.W.findIn K (.ref C) "__setattr__" = some (some (.builtin "object.__setattr__"))
theorem Cls.get {K:PySem.W.Frag}{C:Addr}(c:Cls K C)(f:Str):PySem.W.plainGet K C f=true:=c.pg
section
variable {X:Cx}{pins:List (Addr×Obj)}{σ:St}{H:Hp}{s:Shared}{a C dx:Addr}{fs:List (Str×V)}{f:Str}{v:V}{A:Around}{E:Value->Shared->Prop}
end
section
variable {X:Cx}{o e value:Expr}{f:Str}{pos pos' tpos:Pos}{ta tv:TE}
end
section
variable {X:Cx}{pins:List (Addr×Obj)}{σ:St}{H:Hp}{s:Shared}{A:Around}{E:Value->Shared->Prop}{Q:Value->Shared->Prop}{c:Value}{b:Bool}
inductive TyOf (K:PySem.W.Frag) (H:Hp):V->Value->Prop where
 | non:TyOf K H .non (.type "NoneType")
 | bl (x:Bool):TyOf K H (.bl x) (.type "bool")
 | int (i:Int):TyOf K H (.int i) (.type "int")
 | str (x:Str):TyOf K H (.str x) (.type "str")
 | flt (x:UInt64):TyOf K H (.flt x) (.type "float")
 | lst {a:Addr} {xs:List V} (e:H a=some (.lst xs)):TyOf K H (.ref a) (.type "list")
 | frz {a:Addr} {o:Obj} {xs:List V} (e:H a=some (.frz o (.lst xs))):TyOf K H (.ref a) (.type "list")
 | tup {a:Addr} {xs:List V} (e:H a=some (.tup xs)):TyOf K H (.ref a) (.type "tuple")
 | dK {a:Addr} {kvs:List (Key×V)} (e:H a=some (.dK kvs)):TyOf K H (.ref a) (.type "dict")
 | dT {a:Addr} {kvs:List (List Key×V)} (e:H a=some (.dT kvs)):TyOf K H (.ref a) (.type "dict")
 | ins {a C dx:Addr} {fs:List (Str×V)} (e:H a=some (.ins C dx fs)) (cl:Cls K C) (ha:PySem.W.findIn K (.ref C) "__class__" = some (some (.builtin "object.__class__")))
   (hn:PySem.W.specialIn K (.builtin "object.__class__") "__get__" = some (some (.builtin "getset_descriptor.__get__"))) (htk:PySem.W.takesIn K (.builtin "object.__class__")=some true)
   (hm:PySem.W.mroIn K C (.type "object")=some true):TyOf K H (.ref a) (.ref C)
theorem zid {x:V}{u t:Value}(I:Inv X pins σ H s)(rx:yN x u)(ty:TyOf X.K H x t)(e:PySem.W.kitOne X.K t c=some b)(h:∀tk,Q (.bool b) { s with toks:=tk }) :
  wpAny (model X.prog X.w) A (call (.builtin "isinstance") [u,c]) Q E s:=by
 cases ty with
 | non=>cases (show u=Value.none from rx);exact bL PySem.W.kitx_none I.kIn True.intro e (fun z=>nomatch z) h
 | bl y=>cases (show u=Value.bool y from rx);exact bL PySem.W.kitx_bool I.kIn True.intro e (fun z=>nomatch z) h
 | int i=>obtain⟨t,q⟩:=(show ∃t,u=Value.int i t from rx);cases q;exact bL PySem.W.kitx_int I.kIn True.intro e (fun z=>nomatch z) h
 | str y=>obtain⟨t,q⟩:=(show ∃t,u=Value.str y t from rx);cases q;exact bL PySem.W.kitx_str I.kIn True.intro e (fun z=>nomatch z) h
 | flt y=>obtain⟨t,q⟩:=(show ∃t,u=Value.float y t from rx);cases q;exact bL PySem.W.kitx_float I.kIn True.intro e (fun z=>nomatch z) h
 | @lst a xs ea=>
  cases (show u=Value.ref a from rx);obtain⟨_,_,n,_,h1⟩:=(show yy X.prog X.w H s.heap a (.lst xs) from I.hok a _ ea);exact bL PySem.W.kitx_list I.kIn ⟨_,h1,rfl⟩ e (fun z=>nomatch z) h
 | @frz a ob xs ea=>
  cases (show u=Value.ref a from rx);obtain⟨_,_,_,n,_,h1⟩:=(show yy X.prog X.w H s.heap a (.frz ob (.lst xs)) from I.hok a _ ea);exact bL PySem.W.kitx_list I.kIn ⟨_,h1,rfl⟩ e (fun z=>nomatch z) h
 | @tup a xs ea=>
  cases (show u=Value.ref a from rx);obtain⟨_,_,_,p⟩:=(show yy X.prog X.w H s.heap a (.tup xs) from I.hok a _ ea);obtain⟨o,h1,h2,_⟩:=p;exact bL PySem.W.kitx_tuple I.kIn ⟨o,h1,h2⟩ e (fun z=>nomatch z) h
 | @dK a kvs ea=>
  cases (show u=Value.ref a from rx);obtain⟨_,_,vs,_,p⟩:=(show yy X.prog X.w H s.heap a (.dK kvs) from I.hok a _ ea);obtain⟨o,es,ep,h1,h2,_⟩:=p;exact bL PySem.W.kitx_dict I.kIn ⟨o,h1,h2.1⟩ e (fun z=>nomatch z) h
 | @dT a kvs ea=>
  cases (show u=Value.ref a from rx);obtain⟨_,_,xs,_,o,es,ep,h1,h2,_⟩:=(show yy X.prog X.w H s.heap a (.dT kvs) from I.hok a _ ea);exact bL PySem.W.kitx_dict I.kIn ⟨o,h1,h2.1⟩ e (fun z=>nomatch z) h
 | @ins a C dx fs ea cl ha hn htk hm=>
  cases (show u=Value.ref a from rx);obtain⟨mA,O,_⟩:=zmJ I.hok ea;obtain⟨od,J,_⟩:=O.look;exact bL (PySem.W.kitx_own (cl.get _) cl.hd ha hn htk hm) I.kIn J e (fun z=>nomatch z) h
end
structure Room (k:Nat)(A:Around):Prop where
 hd:A.handled=none
 dp:A.depth+3 * k+5<recursionLimit
 un:A.units+16 * k+200<cLine
theorem Room.mono {j k:Nat}{A:Around}(r:Room k A)(h:j<=k):Room j A:=⟨r.hd,by have:=r.dp;lia,by have:=r.un;lia⟩
theorem Room.deeper {k:Nat}{A:Around}(r:Room (k+1) A)(env:Env):Room k (A.deeper env):=
 ⟨r.hd,by have:=r.dp;show A.depth+1+3 * k+5<_;lia,by have:=r.un;show A.units+3+16 * k+200<_;lia⟩
theorem Room.depth {k:Nat}{A:Around}(r:Room k A):A.depth<recursionLimit:=by have:=r.dp;lia
theorem Room.units {k:Nat}{A:Around}(r:Room k A):A.units+64<cLine:=by have:=r.un;lia
def zl3:TA:=fun _ H Q=>Q [] H
def zct (ta:TE)(tr:TA):TA:=fun σ H Q=>ta σ H fun x H1=>tr σ H1 fun xs H2=>Q (x::xs) H2
section
variable {X:Cx}{e:Expr}{es:List Expr}{te:TE}{t:TA}{pos:Pos}
theorem zp7:PA X [] zl3:=fun _ _ _ _ H Q I h=>Calls.spliced_nil ⟨[],H,I,.nil,h⟩
theorem zni (ha:PE X e te)(hr:PA X es t)(hs:starEach (e::es) X.env=(false,eval e X.env)::starEach es X.env:=by rfl):PA X (e::es) (zct te t):=by intro pos pins s σ H Q I h;rw[hs];show wpAny _ _ (spliced ((false,eval e X.env)::backTo pos (starEach es X.env))) _ _ s;refine Calls.spliced_cons (thn (ha pins s σ H _ I h)  ?_);rintro u s1 ⟨x,H1,I1,r1,q1⟩;exact thn (hr pos pins s1 σ H1 _ I1 q1) <| by rintro us s2 ⟨xs,H2,I2,r2,q2⟩;exact⟨x::xs,H2,I2,.cons r1 r2,q2⟩
end
abbrev Sp:=List V->Hp->VK->XK->Prop
abbrev CXT:=List Env->Hp->Shared->XK->Value->Shared->Prop
structure Env0 (P:Program)(w:World)(K:PySem.W.Frag)(mg:Str->Option Value)(base:Heap)(A:Around)(outer:List Env)(s:Shared)(H:Hp):Prop where
 frames:A.frames=some outer
 mod:Mod K mg base
 bs:∀b o,base.get? b=some o->s.heap.get? b=some o/\H b=none
 bsz:base.objs.size<=s.heap.objs.size
 funs:s.heap.FunFrames base outer
 frf:∀b∈frs outer,H b=none
 hok:HOk P w H s.heap
 bare:AllBare s.gens
def CE (outer:List Env)(P:Program)(w:World)(H:Hp)(s:Shared)(Q:VK)(u:Value)(s':Shared):Prop:=
 ∃v H',s'.os=s.os/\AllBare s'.gens/\Un (frs outer) [] H H' s.heap s'.heap/\HOk P w H' s'.heap/\yN v u/\Q v H'
def CR (CX:CXT)(outer:List Env)(P:Program)(w:World)(H:Hp)(s:Shared)(Q:VK)(E:XK)(r:Result)(s':Shared):Prop:=
 match r with
 | .ok (.ret u)=>CE outer P w H s Q u s'
 | .ok _=>False
 | .error e=>CX outer H s E e s'
structure FnOk (P:Program)(w:World)(K:PySem.W.Frag)(mg:Str->Option Value)(base:Heap)(CX:CXT)(k:Nat)(f:Addr)(fd:FuncData)(ps:List Str)(sp:Sp):Prop where
 len:∀vs H Q E,sp vs H Q E->vs.length=ps.length
 run:∀ (A:Around) (outer:List Env) (s:Shared) (H:Hp) (args:Args) (us:List Value) (vs:List V) (Q:VK) (E:XK),Room k A->Env0 P w K mg base A outer s H->BindsTo s fd args (ps.zip us)->z4 vs us->sp vs H Q E->
  codeAny (model P w) A (.call (.ref f) args) (CR CX outer P w H s Q E) s
theorem FnOk.mono {P:Program}{w:World}{K:PySem.W.Frag}{mg:Str->Option Value}{base:Heap}{CX:CXT}{j k:Nat}{f:Addr}{fd:FuncData}{ps:List Str}{sp:Sp}(F:FnOk P w K mg base CX j f fd ps sp)(h:j<=k) :
  FnOk P w K mg base CX k f fd ps sp:=⟨F.len,fun A outer s H args us vs Q E hr=>F.run A outer s H args us vs Q E (hr.mono h)⟩
theorem FnOk.imp {P:Program}{w:World}{K:PySem.W.Frag}{mg:Str->Option Value}{base:Heap}{CX:CXT}{k:Nat}{f:Addr}{fd:FuncData}{ps:List Str}{sp sp':Sp}(F:FnOk P w K mg base CX k f fd ps sp)
  (h:∀vs H Q E,sp' vs H Q E->sp vs H Q E):FnOk P w K mg base CX k f fd ps sp':=
 ⟨fun vs H Q E q=>F.len vs H Q E (h _ _ _ _ q),fun A outer s H args us vs Q E hr he hb hv hs=>F.run A outer s H args us vs Q E hr he hb hv (h _ _ _ _ hs)⟩
section
variable {X:Cx}{pins:List (Addr×Obj)}{σ:St}{H:Hp}{s s':Shared}
theorem Inv.env0 (I:Inv X pins σ H s):Env0 X.prog X.w X.K X.mg X.base X.A X.stack s H:=
 ⟨I.ok.frames,I.ok.mod,I.bs,ax I.ok.bsz I.sz,I.stack,I.stkFree,I.hok,I.bare⟩
theorem Inv.after {Q:VK}{u:Value}(I:Inv X pins σ H s)(h:CE X.stack X.prog X.w H s Q u s'):EP X pins σ Q u s':=by obtain⟨v,H',os,bare,un,hok,r,q⟩:=h;obtain⟨hh,g,d,t,os'⟩:=s';obtain rfl:os'=s.os:=os;exact⟨v,H',I.call (h':=hh) (g':=g) (d':=d) (t':=t) (ch:=[]) un hok bare (fun b z=>absurd z (by simp)),r,q⟩
end
def zfS (sp:Sp)(dvs:List V)(E:XK)(t:TA):TE:=fun σ H Q=>t σ H fun vs H1=>sp (vs++dvs) H1 Q E
def zgI (K:PySem.W.Frag)(fd:FuncData)(ps:List Str)(ds:List Value):Prop:=
 ∀ (s:Shared) (us:List Value),K.In s.heap->(us++ds).length=ps.length->BindsTo s fd ⟨us,[]⟩ (ps.zip (us++ds))
theorem zgI.all {K:PySem.W.Frag}{fd:FuncData}{ps:List Str}(h:∀us:List Value,us.length=ps.length->bindArgs fd ⟨us,[]⟩=pure (ps.zip us)):zgI K fd ps []:=fun s us _ hl=>by rw[cI] at hl ⊢;exact .of_eq (h us hl)
def zhe (CX:CXT)(X:Cx)(E:XK):Prop:=∀ (pins:List (Addr×Obj)) (σ:St) (H:Hp) (s:Shared) (e:Value) (s':Shared),Inv X pins σ H s->CX X.stack H s E e s'->X.xe e s'
section
variable {X:Cx}{CX:CXT}{k:Nat}{f C:Addr}{fd:FuncData}{ps:List Str}{sp:Sp}{dvs:List V}{ds:List Value}{E:XK}{x m:Str}{p pos apos:Pos}{e o:Expr}{es:List Expr}{ta:TE}{t:TA}
theorem zq3 {pins:List (Addr×Obj)}{σ:St}{H:Hp}{s:Shared}{Q:VK}{us:List Value}{vs:List V}(F:FnOk X.prog X.w X.K X.mg X.base CX k f fd ps sp)(hr:Room k X.A)(hb:zgI X.K fd ps ds)(hd:z4 dvs ds)(hx:zhe CX X E)
  (I:Inv X pins σ H s) (r:z4 vs us) (h:sp (vs++dvs) H Q E):wpAny (model X.prog X.w) X.A (call (.ref f) us) (EP X pins σ Q) X.xe s:=by
 have r2:z4 (vs++dvs) (us++ds):=r.append hd;have hl:(us++ds).length=ps.length:=by rw[<- r2.length];exact F.len _ _ _ _ h
 refine wpAny_call (codeAny_mono (F.run X.A X.stack s H ⟨us,[]⟩ (us++ds) (vs++dvs) Q E hr I.env0 (hb s us I.kIn hl) r2 h) fun r s' hq=>?_)
 cases r with
 | error e=>exact hx pins σ H s e s' I hq
 | ok fl=>
  cases fl with
  | ret u=>exact I.after hq
  | next=>exact False.elim hq
  | brk=>exact False.elim hq
  | cont=>exact False.elim hq
theorem znk (F:FnOk X.prog X.w X.K X.mg X.base CX k f fd ps sp)(hr:Room k X.A)(hg:Gl X x)(hm:X.mg x=some (.ref f))(hk:PySem.W.keepIn X.K (.ref f)=true)(hb:zgI X.K fd ps ds)(hd:z4 dvs ds)(hx:zhe CX X E)
  (ha:PA X (e::es) t) (hdb:(x==("__debug__" : Str))=false:=by decide) (he:starEach (e::es) X.env=(false,eval e X.env)::starEach es X.env:=by rfl) (hpl:(backTo pos (starEach es X.env)).any (·.1)=false:=by rfl) :
  PE X (.Call (.Name x p) (e::es) [] pos) (zfS sp dvs E t):=by
 intro pins s σ H Q I h;refine eC (zmU I hg hm ?_ hdb);refine PySem.W.callWith_K (h₀:=X.base) I.ok.mod.kin hk (thn (ha pos pins s σ H _ I h) fun us s1 ⟨vs,H1,I1,r,q⟩=>⟨I1.kIn,?_⟩) he hpl;exact zq3 F hr hb hd hx I1 r q
end
section
variable {X:Cx}{CX:CXT}{k:Nat}{f C:Addr}{fd:FuncData}{ps ks:List Str}{sp:Sp}{E:XK}{x m:Str}{p pos apos kpos:Pos}{e o:Expr}{es:List Expr}{kws:List Keyword}{te ta:TE}{t tk:TA}{nm:Option Str}
variable {g:List Value->List Value->List Value}{gV:List V->List V->List V}
end
structure FnScope (N P:List Str)(sc:Scope):Prop where
 kind:sc.kind = .function
 co:sc.isCoroutine=false
 gen:sc.isGenerator=false
 nd:N.Nodup
 pre:N.take P.length=P
 par:∀x∈P,sc.names.lookup x=some .local\/sc.names.lookup x=some .cell
 nofree:∀y∈sc.names,y.2≠.free
theorem zec {kindOf:Str->Option NameKind}{x:Str}:∀ {binds:List (Str×Value)} {m:Str->Option Value},(∀v,(x,v)∉binds)->bindL kindOf binds m x=m x
 | [],_,_=>rfl
 | (n,v)::r,m,h=>by
  unfold bindL;rw[zec fun w hw=>h w (ak _ hw)];split
  ·have:x≠n:=by rintro rfl;exact h v ah
   simp[this]
  ·rfl
theorem zea {kindOf:Str->Option NameKind}{x:Str}:∀ {binds:List (Str×Value)} {m:Str->Option Value},(∀v,(x,v)∉binds)->bindC kindOf binds m x=m x
 | [],_,_=>rfl
 | (n,v)::r,m,h=>by
  unfold bindC;rw[zea fun w hw=>h w (ak _ hw)];split
  ·rfl
  ·have:x≠n:=by rintro rfl;exact h v ah
   simp[this]
theorem zeb {kindOf:Str->Option NameKind}{x:Str}{v:Value}:∀ {P:List Str} {vs:List Value} {i:Nat} {m:Str->Option Value},P.Nodup->P[i]?=some x->vs[i]?=some v->kindOf x=some .local->
  bindL kindOf (P.zip vs) m x=some v
 | [],_,_,_,_,h,_,_=>by simp at h
 | _::_,[],_,_,_,_,h,_=>by simp at h
 | p::P,w::vs,0,m,nd,h1,h2,hk=>by simp at h1 h2;subst h1;subst h2;show bindL kindOf ((p,w)::P.zip vs) m p=_;unfold bindL;rw[zec fun v hv=>(b8.mp nd).1 (List.of_mem_zip hv).1,if_pos hk];simp
 | p::P,w::vs,i+1,m,nd,h1,h2,hk=>by show bindL kindOf ((p,w)::P.zip vs) m x=_;unfold bindL;exact zeb (i:=i) (b8.mp nd).2 (by simpa using h1) (by simpa using h2) hk
theorem zd9 {kindOf:Str->Option NameKind}{x:Str}{v:Value}:∀ {P:List Str} {vs:List Value} {i:Nat} {m:Str->Option Value},P.Nodup->P[i]?=some x->vs[i]?=some v->kindOf x≠some .local->
  bindC kindOf (P.zip vs) m x=some v
 | [],_,_,_,_,h,_,_=>by simp at h
 | _::_,[],_,_,_,_,h,_=>by simp at h
 | p::P,w::vs,0,m,nd,h1,h2,hk=>by simp at h1 h2;subst h1;subst h2;show bindC kindOf ((p,w)::P.zip vs) m p=_;unfold bindC;rw[zea fun v hv=>(b8.mp nd).1 (List.of_mem_zip hv).1,if_neg hk];simp
 | p::P,w::vs,i+1,m,nd,h1,h2,hk=>by show bindC kindOf ((p,w)::P.zip vs) m x=_;unfold bindC;exact zd9 (i:=i) (b8.mp nd).2 (by simpa using h1) (by simpa using h2) hk
def xf (N:List Str)(vs:List V):St:=vs.map some++List.replicate (N.length - vs.length) none
def zdl (CX:CXT)(P:Program)(w:World)(K:PySem.W.Frag)(mg:Str->Option Value)(base:Heap)(N:List Str)(qual:Str)(scope:Scope)(f:Addr)(cd:Value)(A:Around)(outer:List Env)(s:Shared)(H:Hp)(E:XK):Cx where
 prog:=P
 w:=w
 K:=K
 mg:=mg
 base:=base
 A:=A.deeper (envOfC qual scope s.heap.objs.size f cd)
 N:=N
 s₀:=s
 H₀:=H
 env:=envOfC qual scope s.heap.objs.size f cd
 outer:=outer
 stack:=envOfC qual scope s.heap.objs.size f cd::outer
 ex:=[]
 calm:=true
 fn:=fun _=>true
 pn:=[]
 xe:=fun e s'=>wpAny (model P w) (A.deeper (envOfC qual scope s.heap.objs.size f cd)) (leaving (envOfC qual scope s.heap.objs.size f cd) e) (fun _ s''=>CX outer H s E e s'') (fun e' s''=>CX outer H s E e' s'') s'
theorem zf2 {sc:Scope}{n:Nat}{x:Str}(h:sc.names.lookup x=some .cell):∃c,(cellsFrom n sc.names []).lookup x=some c:=by have q:=PySem.W.cellsFrom_some sc.names n [] (.inl h);exact Option.isSome_iff_exists.mp q
theorem zh8 {CX:CXT}{P:Program}{w:World}{K:PySem.W.Frag}{mg:Str->Option Value}{base:Heap}{N ps:List Str}{qual:Str}{scope:Scope}{f:Addr}{cd:Value}{A:Around}{outer:List Env}{s s1:Shared}{H:Hp}{E:XK}{us:List Value}{vs:List V}
  (S:FnScope N ps scope) (hd:A.handled=none) (e0:Env0 P w K mg base A outer s H) (hl:vs.length=ps.length) (r:z4 vs us)
  (x:InCallC s s.heap.objs.size (bindL (envOfC qual scope s.heap.objs.size f cd).kindOf (ps.zip us) fun _=>none) (cellsFrom (s.heap.objs.size+1) scope.names []) (bindC (envOfC qual scope s.heap.objs.size f cd).kindOf (ps.zip us) fun _=>none) s1) :
  Inv (zdl CX P w K mg base N qual scope f cd A outer s H E) [] (xf N vs) H s1:=by
 have hpl:ps.length<=N.length:=by have:=congrArg List.length S.pre;rw[aJ] at this;lia
 obtain⟨h1,tk,rfl,hk⟩:=x.done;have noA:∀b:Addr,b∉(zdl CX P w K mg base N qual scope f cd A outer s H E).ex:=fun b z=>absurd (show b∈([]:List Addr) from z) (by simp)
 refine⟨⟨e0.mod,S.kind,rfl,rfl,ag _,fun y z c h1 h2=>?_,fun y hy=>?_,fun y c _ h=>?_,fun _=>hd,Around.frames_deeper e0.frames,.inr ⟨rfl,rfl⟩,fun b z=>absurd z (noA b),e0.bs,e0.bsz,fun b _ _=>noA b,fun b z=>absurd z (noA b),e0.funs,e0.frf⟩,
  rfl,e0.bare,Un.kept hk,⟨_,x.toInCall.ns,fun i y v h1 h2 h3=>?_⟩,fun y c h=>⟨_,x.cell y c h⟩,e0.hok.fresh (ag _),fun y c h=>?_,fun p hp=>absurd (show p∈([]:List (Addr×Obj)) from hp) (by simp),e0.hok.kept hk,?_⟩
 ·exact name_of_addr x.apart (cO h1) (cO h2)
 ·have hy:scope.names.lookup y=some .cell\/scope.names.lookup y=some .free:=hy;rcases hy with hy | hy
  ·exact zf2 hy
  ·exact absurd rfl (S.nofree _ (cO hy))
 ·exact ck (x.above y c (cO h))
 ·have hi:i<vs.length:=by
   unfold xf at h2;by_cases hi:i<vs.length
   ·exact hi
   ·rw[ba (by simpa using hi)] at h2;rw[List.getElem?_replicate] at h2;split at h2 <;> cases h2
  have ha:vs[i]?=some v:=by
   unfold xf at h2;rw[a6 (by simpa using hi),aC] at h2
   cases e:vs[i]? with
   | none=>rw[e] at h2;cases h2
   | some a=>rw[e] at h2;cases h2;rfl
  obtain⟨u,hu,rv⟩:=r.get ha
  have hp:ps[i]?=some y:=by rw[<- S.pre,dj (by lia)];exact h1
  have ndP:ps.Nodup:=by rw[<- S.pre];exact S.nd.sublist (c3 _ _)
  refine⟨u,rv,?_⟩;rcases S.par y (aI hp) with k | k
  ·exact .inl ⟨k,zeb ndP hp hu k⟩
  ·obtain⟨c,e⟩:=zf2 (n:=s.heap.objs.size+1) k;refine .inr ⟨.inl k,c,e,?_⟩;have q:=x.cell y c e;rw[zd9 ndP hp hu (by show scope.names.lookup y≠_;rw[k];decide)] at q;exact q
 ·exact e0.hok.fresh (ck (x.above y c (cO h)))
 ·unfold xf;show _=N.length;rw[af,aa,dF];lia
theorem zsy {CX:CXT}{P:Program}{w:World}{K:PySem.W.Frag}{mg:Str->Option Value}{base:Heap}{k:Nat}{f:Addr}{name qual:Str}{params:Arguments}{body:List Stmt}{scope:Scope}{dV kV doc pm cdv ct oc:Value}{an od:Option Addr}
  {osl:Array (Option Value)} {N ps:List Str} {sp:Sp} (lk:K.lookup f=some ⟨oc,od,.func (PySem.W.fnOf name qual params body scope dV kV doc pm an cdv ct),osl⟩) (hcd:PySem.W.codeIn K cdv qual=true) (S:FnScope N ps scope)
  (len:∀vs H Q E,sp vs H Q E->vs.length=ps.length)
  (hbody:∀ (A:Around) (outer:List Env) (s:Shared) (H:Hp) (vs:List V) (Q:VK) (E:XK),Room k (A.deeper (envOfC qual scope s.heap.objs.size f cdv))->sp vs H Q E->
   ∃t,PSs (zdl CX P w K mg base N qual scope f cdv A outer s H E) body t/\t { nx:=fun _ H'=>Q .non H',rt:=Q } (xf N vs) H) :
  FnOk P w K mg base CX (k+1) f (PySem.W.fnOf name qual params body scope dV kV doc pm an cdv ct) ps sp:=by
 refine⟨len,fun A outer s H args us vs Q E hr e0 hb r hsp=>?_⟩;have hl:=len _ _ _ _ hsp;have KX:K.In s.heap:=e0.mod.kin.keeps fun b o e=>(e0.bs b o e).1;have lim:s.heap.NoLimit:=e0.mod.nolimit.keeps fun b o e=>(e0.bs b o e).1
 have hkind:∀y∈ps.zip us,scope.names.lookup y.1=some .local\/(scope.names.lookup y.1=some .cell/\((cellsFrom (s.heap.objs.size+1) scope.names []).lookup y.1).isSome=true):=by
  rintro⟨n,v⟩ hy;rcases S.par n (List.of_mem_zip hy).1 with q | q
  ·exact .inl q
  ·exact .inr ⟨q,PySem.W.cellsFrom_some _ _ _ (.inl q)⟩
 refine codeAny_call_function hr.depth (KX _ _ lk) rfl S.co S.gen rfl (PySem.W.codeRec_of KX hcd) (hb _ _ _ _ ?_);refine wpAny_newFunctionEnv_cells S.kind hkind fun env he s1 x=>?_;subst he;refine⟨lim.keeps x.toInCall.keep,codeAny_func ?_⟩;obtain⟨t,ht,hq⟩:=hbody A outer s H vs Q E (hr.deeper _) hsp;have I:Inv (zdl CX P w K mg base N qual scope f cdv A outer s H E) [] (xf N vs) H s1:=zh8 S hr.hd e0 hl r x;refine bi (ht [] s1 (xf N vs) H _ I hq) (fun fl s' hs=>?_) fun e s' hs=>hs
 have fin:∀ {σ':St} {H':Hp} {v:V} {u:Value},Inv (zdl CX P w K mg base N qual scope f cdv A outer s H E) [] σ' H' s'->yN v u->Q v H'->CE outer P w H s Q u s':=
  fun {σ' H' v u} J rv q=>⟨v,H',J.os,J.bare,J.base,J.hok,rv,q⟩
 cases fl with
 | ret u=>
  obtain⟨v,σ',H',J,rv,q⟩:=hs;exact fin J rv q
 | next=>
  obtain⟨σ',H',J,q⟩:=hs;exact fin (v:=V.non) (u:=Value.none) J rfl q
 | brk=>
  obtain⟨_,_,_,q⟩:=hs;exact False.elim q
 | cont=>
  obtain⟨_,_,_,q⟩:=hs;exact False.elim q
section
variable {X:Cx}{x:Str}{p pos:Pos}{e:Expr}{es:List Expr}{t:TA}{id T:String}{r:List V->Hp->VK->Prop}
def tCB (r:List V->Hp->VK->Prop)(t:TA):TE:=fun σ H Q=>t σ H fun vs H1=>r vs H1 Q
theorem zkK (hc:zcy X (.builtin id) r)(hg:Gl X x)(hm:X.mg x=none)(hv:bootBuiltins x=some (.builtin id))(ha:PA X (e::es) t)(hn:x ≠ "__name__" := by decide)(hdb:(x==("__debug__" : Str))=false:=by decide)
  (he:starEach (e::es) X.env=(false,eval e X.env)::starEach es X.env:=by rfl) (hpl:(backTo pos (starEach es X.env)).any (·.1)=false:=by rfl):PE X (.Call (.Name x p) (e::es) [] pos) (tCB r t):=by
 intro pins s σ H Q I h;refine eC (zc0 I hg hm hv ?_ hn hdb);exact PyProof.Rows.callWith_builtin1 (thn (ha pos pins s σ H _ I h) <| by rintro us s1 ⟨vs,H1,I1,r1,q1⟩;exact hc pins s1 σ H1 vs us Q I1 r1 q1) he hpl
theorem zi9 (hc:zcy X (.type T) r)(hg:Gl X x)(hm:X.mg x=none)(hv:bootBuiltins x=some (.type T))(ha:PA X (e::es) t)(hn:x ≠ "__name__" := by decide)(hdb:(x==("__debug__" : Str))=false:=by decide)
  (he:starEach (e::es) X.env=(false,eval e X.env)::starEach es X.env:=by rfl) (hpl:(backTo pos (starEach es X.env)).any (·.1)=false:=by rfl):PE X (.Call (.Name x p) (e::es) [] pos) (tCB r t):=by
 intro pins s σ H Q I h;refine eC (zc0 I hg hm hv ?_ hn hdb);exact cq (thn (ha pos pins s σ H _ I h) <| by rintro us s1 ⟨vs,H1,I1,r1,q1⟩;exact hc pins s1 σ H1 vs us Q I1 r1 q1) he hpl
end
section
variable {κ:Type}[DecidableEq κ]
def za9 (kvs:List (κ×V))(k:κ):Option V:=(kvs.find? fun kv=>decide (kv.1=k)).map (·.2)
def u4 (kvs:List (κ×V))(k:κ)(v:V):List (κ×V):=
 if (kvs.any fun kv=>decide (kv.1=k))=true then kvs.map (fun kv=>if kv.1=k then (kv.1,v) else kv) else kvs++[(k,v)]
theorem xg {p:κ×V}{r:List (κ×V)}{k:κ}(e:p.1=k):za9 (p::r) k=some p.2:=by simp[za9,bA,e]
theorem xB {p:κ×V}{r:List (κ×V)}{k:κ}(e:¬ p.1=k):za9 (p::r) k=za9 r k:=by simp[za9,bA,e]
theorem zgF (k:κ):∀kvs:List (κ×V),(kvs.any fun kv=>decide (kv.1=k))=(za9 kvs k).isSome
 | []=>rfl
 | p::r=>by
  rw[ci];by_cases e:p.1=k
  ·simp only[xg e,aR e,Bool.true_or,Option.isSome_some]
  ·rw[xB e,aN e,Bool.false_or];exact zgF k r
theorem xH (kvs:List (κ×V))(k:κ)(v:V):(u4 kvs k v).length<=kvs.length+1:=by
 unfold u4;split
 ·rw[aa];lia
 ·rw[af,aS,List.length_nil];lia
theorem zhf.isSome_eq {o:Option V}{u:Option Value}(r:zhf o u):o.isSome=u.isSome:=by
 cases o with
 | none=>cases u with
  | none=>rfl
  | some _=>exact (show False from r).elim
 | some _=>cases u with
  | none=>exact (show False from r).elim
  | some _=>rfl
theorem KV.val {kvs:List (κ×V)}{vs:List (κ×Value)}(r:KV kvs vs)(k:κ):zhf (za9 kvs k) (valueAt vs k):=by
 unfold KV at r
 induction r with
 | nil=>exact True.intro
 | @cons p q ps qs h t ih=>
  obtain⟨h1,h2⟩:=h;by_cases e:p.1=k
  ·have e':q.1=k:=h1.symm.trans e;have b:valueAt (q::qs) k=some q.2:=by simp[valueAt,bA,e']
   rw[xg e,b];exact h2
  ·have e':¬ q.1=k:=fun z=>e (h1.trans z);have b:valueAt (q::qs) k=valueAt qs k:=by simp[valueAt,bA,e']
   rw[xB e,b];exact ih
theorem KV.any {kvs:List (κ×V)}{vs:List (κ×Value)}(r:KV kvs vs)(k:κ):(kvs.any fun kv=>decide (kv.1=k))=vs.any fun kv=>decide (kv.1=k):=by
 unfold KV at r
 induction r with
 | nil=>rfl
 | cons h t ih=>rw[ci,ci,ih,h.1]
theorem KV.repl {kvs:List (κ×V)}{vs:List (κ×Value)}(r:KV kvs vs)(k:κ){y:V}{u:Value}(ry:yN y u) :
  KV (kvs.map fun kv=>if kv.1=k then (kv.1,y) else kv) (vs.map fun kv=>if kv.1=k then (kv.1,u) else kv):=by
 unfold KV at r ⊢
 induction r with
 | nil=>exact .nil
 | @cons p q ps qs h t ih=>
  rw[ao,ao];refine .cons ?_ ih;obtain⟨h1,h2⟩:=h;by_cases e:p.1=k
  ·rw[if_pos e,if_pos (h1.symm.trans e)];exact⟨h1,ry⟩
  ·rw[if_neg e,if_neg (fun z=>e (h1.trans z))];exact⟨h1,h2⟩
theorem KV.put {kvs:List (κ×V)}{vs:List (κ×Value)}(r:KV kvs vs)(k:κ){y:V}{u:Value}(ry:yN y u):KV (u4 kvs k y) (stored vs k u):=by
 unfold u4 stored;rw[r.any k];by_cases e:(vs.any fun kv=>decide (kv.1=k))=true
 ·rw[if_pos e,if_pos e];exact r.repl k ry
 ·rw[if_neg e,if_neg e];exact Paired.snoc r ⟨rfl,ry⟩
theorem KV.length {kvs:List (κ×V)}{vs:List (κ×Value)}(r:KV kvs vs):kvs.length=vs.length:=dR r
end
theorem zio {P:Program}{w:World}{k:Key}{u:Value}(r:yN (kV k) u):(zM P w).is k u=true:=by
 cases k with
 | inl i=>obtain⟨t,e⟩:=(show ∃t,u=Value.int i t from r);subst e;exact zfE P w i t
 | inr x=>obtain⟨t,e⟩:=(show ∃t,u=Value.str x t from r);subst e;exact zfF P w x t
theorem zer {P:Program}{w:World}:∀ {ks:List Key} {us:List Value},z4 (ks.map kV) us->ItemsAre (zM P w) ks us
 | [],_,r=>by rw[dG] at r;cases r;exact .nil
 | k::ks,_,r=>by
  rw[ao] at r
  cases r with
  | cons h t=>exact .cons (zio h) (zer t)
abbrev KT (H:Hp):List (List Key×V)->List (List Key×Addr×Value)->Prop:=Paired fun p q=>p.1=q.1/\H q.2.1=some (.tup (p.1.map kV))/\yN p.2 q.2.2
theorem KT.val {H:Hp}{kvs:List (List Key×V)}{xs:List (List Key×Addr×Value)}(r:KT H kvs xs)(k:List Key):zhf (za9 kvs k) ((atKey xs k).map (·.2)):=by
 induction r with
 | nil=>exact True.intro
 | @cons p q ps qs h t ih=>
  obtain⟨h1,_,h2⟩:=h;by_cases e:p.1=k
  ·have e':q.1=k:=h1.symm.trans e;have b:atKey (q::qs) k=some q.2:=by simp[atKey,bA,e']
   rw[xg e,b];exact h2
  ·have e':¬ q.1=k:=fun z=>e (h1.trans z);have b:atKey (q::qs) k=atKey qs k:=by simp[atKey,bA,e']
   rw[xB e,b];exact ih
theorem KT.repl {H:Hp}{kvs:List (List Key×V)}{xs:List (List Key×Addr×Value)}(r:KT H kvs xs)(k:List Key){y:V}{u:Value}(ry:yN y u) :
  KT H (kvs.map fun kv=>if kv.1=k then (kv.1,y) else kv) (xs.map (putAt k u)):=by
 induction r with
 | nil=>exact .nil
 | @cons p q ps qs h t ih=>
  rw[ao,ao];refine .cons ?_ ih;obtain⟨h1,h2,h3⟩:=h;unfold putAt;by_cases e:p.1=k
  ·rw[if_pos e,if_pos (h1.symm.trans e)];exact⟨h1,h2,ry⟩
  ·rw[if_neg e,if_neg (fun z=>e (h1.trans z))];exact⟨h1,h2,h3⟩
theorem KT.put {H:Hp}{kvs:List (List Key×V)}{xs:List (List Key×Addr×Value)}(r:KT H kvs xs)(k:List Key){b:Addr}{y:V}{u:Value}(hb:H b=some (.tup (k.map kV)))(ry:yN y u) :
  KT H (u4 kvs k y) (storedH xs k b u):=by
 have e:(kvs.any fun kv=>decide (kv.1=k))=(atKey xs k).isSome:=by rw[zgF,(r.val k).isSome_eq,Option.isSome_map]
 unfold u4 storedH;rw[e];by_cases q:(atKey xs k).isSome=true
 ·rw[if_pos q,if_pos q];exact r.repl k ry
 ·rw[if_neg q,if_neg q];exact Paired.snoc r ⟨rfl,hb,ry⟩
theorem KT.keeps {H H':Hp}{kvs:List (List Key×V)}{xs:List (List Key×Addr×Value)}(r:KT H kvs xs)(ht:∀b ys,H b=some (.tup ys)->H' b=some (.tup ys)):KT H' kvs xs:=
 Paired.mapP r fun _ _ z=>⟨z.1,ht _ _ z.2.1,z.2.2⟩
section
variable {P:Program}{w:World}{H:Hp}{h:Heap}{a:Addr}
theorem zk4 {u:HO}(ok:HOk P w H h)(e:Rd H a u):yy P w H h a u:=e.ok ok
theorem zkf {kvs:List (Key×V)}(ok:HOk P w H h)(e:Rd H a (.dK kvs)):kvs.length<=sizeLine/\(a==sysModules)=false/\∃vs,KV kvs vs/\h.DictOf (zM P w) a vs:=
 show yy P w H h a (.dK kvs) from zk4 ok e
theorem zke {kvs:List (Key×V)}(ok:HOk P w H h)(e:H a=some (.dK kvs)):kvs.length<=sizeLine/\(a==sysModules)=false/\∃vs,KV kvs vs/\h.DictOf (zM P w) a vs:=zkf ok (.inl e)
theorem zgi {ks:List Key}(ok:HOk P w H h)(e:H a=some (.tup (ks.map kV))):(tupleKind (zM P w)).is h ks a:=by obtain⟨_,its,r,o,h1,h2,⟨n,h3⟩,_⟩:=(show yy P w H h a (.tup (ks.map kV)) from ok a _ e);exact⟨o,its.toArray,n,h1,h2,h3,by simpa using zer r⟩
theorem zmq {kvs:List (List Key×V)}(ok:HOk P w H h)(e:Rd H a (.dT kvs)):kvs.length<=sizeLine/\(a==sysModules)=false/\
  ∃xs,KT H kvs xs/\h.DictOfH (tupleKind (zM P w)) a xs:=by
 obtain⟨z,y,xs,r,o,es,ep,h1,h2,h3,h4,h5⟩:=(show yy P w H h a (.dT kvs) from zk4 ok e);refine⟨z,y,xs,r,o,es,ep,h1,h2,h3,h4,fun x hx=>?_,h5⟩
 have all:∀ {l:List (List Key×V)} {m:List (List Key×Addr×Value)},KT H l m->∀x∈m,(tupleKind (zM P w)).is h x.1 x.2.1:=by
  intro l m q
  induction q with
  | nil=>intro x hx;exact nomatch hx
  | @cons p q ps qs hq t ih=>
   intro x hx;rcases aG.mp hx with e | hx
   ·subst e;exact zgi ok (by rw[<- hq.1];exact hq.2.1)
   ·exact ih x hx
 exact all r x hx
theorem zpc {kvs:List (List Key×V)}(ok:HOk P w H h)(e:H a=some (.dT kvs)):kvs.length<=sizeLine/\(a==sysModules)=false/\
  ∃xs,KT H kvs xs/\h.DictOfH (tupleKind (zM P w)) a xs:=zmq ok (.inl e)
end
def zd5 (H:Hp)(a:Addr)(y:V)(r:Option V):Prop:=
 (∃kvs k,Rd H a (.dK kvs)/\y=kV k/\r=za9 kvs k)\/∃kvs k b,Rd H a (.dT kvs)/\y = .ref b/\H b=some (.tup (k.map kV))/\r=za9 kvs k
def zd6 (H:Hp)(a:Addr)(y v:V)(H':Hp):Prop:=
 (∃kvs k,H a=some (.dK kvs)/\y=kV k/\kvs.length<sizeLine/\H'=upd H a (.dK (u4 kvs k v)))\/
 ∃kvs k b,H a=some (.dT kvs)/\y = .ref b/\H b=some (.tup (k.map kV))/\kvs.length<sizeLine/\H'=upd H a (.dT (u4 kvs k v))
theorem zd5.k {H:Hp}{a:Addr}{kvs:List (Key×V)}{k:Key}(e:H a=some (.dK kvs)):zd5 H a (kV k) (za9 kvs k):=.inl ⟨kvs,k,.inl e,rfl,rfl⟩
theorem zd5.t {H:Hp}{a b:Addr}{kvs:List (List Key×V)}{k:List Key}(e:H a=some (.dT kvs))(eb:H b=some (.tup (k.map kV))):zd5 H a (.ref b) (za9 kvs k):=.inr ⟨kvs,k,b,.inl e,rfl,eb,rfl⟩
theorem zd6.k {H:Hp}{a:Addr}{kvs:List (Key×V)}{k:Key}{v:V}(e:H a=some (.dK kvs))(hl:kvs.length<sizeLine):zd6 H a (kV k) v (upd H a (.dK (u4 kvs k v))):=.inl ⟨kvs,k,e,rfl,hl,rfl⟩
theorem zd6.t {H:Hp}{a b:Addr}{kvs:List (List Key×V)}{k:List Key}{v:V}(e:H a=some (.dT kvs))(eb:H b=some (.tup (k.map kV)))(hl:kvs.length<sizeLine) :
  zd6 H a (.ref b) v (upd H a (.dT (u4 kvs k v))):=.inr ⟨kvs,k,b,e,rfl,eb,hl,rfl⟩
section
variable {X:Cx}{pins:List (Addr×Obj)}{σ:St}{H:Hp}{s:Shared}{a:Addr}{y v:V}{u r:Value}{o:Option V}{A:Around}{E:Value->Shared->Prop}
theorem Inv.big (I:Inv X pins σ H s):sysModules<s.heap.objs.size:=by have h:mainGlobals<s.heap.objs.size:=(I.mod.glob.keeps I.bk).lt;exact bW (by decide) h
theorem zhE {Q:Value->Shared->Prop}(hu:A.units+1<cLine)(I:Inv X pins σ H s)(g:zd5 H a y (some v))(ry:yN y u)(h:∀w' s',Inv X pins σ H s'->yN v w'->Q w' s') :
  wpAny (model X.prog X.w) A (getItem (.ref a) u) Q E s:=by
 rcases g with ⟨kvs,k,e,ey,l⟩ | ⟨kvs,k,b,e,ey,eb,l⟩
 ·subst ey;obtain⟨z,hd,vs,rel,dd⟩:=zkf I.hok e;obtain⟨w',hw,rw'⟩:=zhf.some_of (v:=v) (o:=valueAt vs k) (by rw[l];exact rel.val k);exact wpAny_getItem_of (zio ry) dd.mapOf hw (h w' _ (I.tok _) rw')
 ·subst ey;cases (show u=Value.ref b from ry);obtain⟨z,hd,xs,rel,dd⟩:=zmq I.hok e;obtain⟨w',hw,rw'⟩:=zhf.some_of (v:=v) (o:=(atKey xs k).map (·.2)) (by rw[l];exact rel.val k);obtain⟨p,hp,hp2⟩:=aH.mp hw;refine wpAny_getItem_heap (tupleKind_room_in1 hu) (zgi I.hok eb) dd hp ?_;rw[hp2];exact h w' _ (I.tok _) rw'
theorem zbS {h':Heap}{t':Nat}{ob:HO}(I:Inv X pins σ H s)(mu:Mut (H a))(hs:Heap.SameBut a s.heap h')(he:∃q,h'.get? a=some q)(new:yy X.prog X.w (upd H a ob) h' a ob) :
  Inv X pins σ (upd H a ob) { s with heap:=h',toks:=t' }:=
 I.write (x:=a) (e:=a) mu (.inl rfl) (fun b q hb z=>(hs.2 b hb).trans z) he new
theorem zhK {P:Program}{w:World}{H':Hp}{h':Heap}{kvs:List (Key×V)}{vs:List (Key×Value)}(z:kvs.length<=sizeLine)(hd:(a==sysModules)=false)(rel:KV kvs vs)(dd:h'.DictOf (zM P w) a vs) :
  yy P w H' h' a (.dK kvs):=⟨z,hd,vs,rel,dd⟩
theorem zhF {H':Hp}{Q:Unit->Shared->Prop}(hu:A.units+1<cLine)(I:Inv X pins σ H s)(g:zd6 H a y v H')(ry:yN y u)(rv:yN v r)(h:∀s',Inv X pins σ H' s'->Q () s') :
  wpAny (model X.prog X.w) A (setItem (.ref a) u r) Q E s:=by
 rcases g with ⟨kvs,k,e,ey,l,eH⟩ | ⟨kvs,k,b,e,ey,eb,l,eH⟩
 ·subst ey eH;obtain⟨z,hd,vs,rel,dd⟩:=zke I.hok e;have hz:vs.length<=sizeLine:=by rw[<- rel.length];exact z
  have hl:(u4 kvs k v).length<=sizeLine:=by have:=xH kvs k v;lia
  refine wpAny_setItem_pairs (hsz:=hz) (zio ry) dd fun h' dd' hs=>h _ ?_;have he:∃q,h'.get? a=some q:=let ⟨q,_,_,hq,_⟩:=dd';⟨q,hq⟩;exact zbS I (by rw[e];exact True.intro) hs he (zhK hl hd (rel.put k rv) dd')
 ·subst ey eH;cases (show u=Value.ref b from ry);obtain⟨z,hd,xs,rel,dd⟩:=zpc I.hok e;have hz:xs.length<=sizeLine:=by rw[<- dR rel];exact z
  have hl:(u4 kvs k v).length<=sizeLine:=by have:=xH kvs k v;lia
  refine wpAny_setItem_heap (hsz:=hz) (tupleKind_room_in1 hu) (zgi I.hok eb) dd fun h' dd' hs=>h _ ?_;obtain⟨q,es,ep,hq,h2,h3,h4,_,h5⟩:=dd';refine zbS I (by rw[e];exact True.intro) hs ⟨q,hq⟩ ⟨hl,hd,_,(rel.put k eb rv).keeps fun c ys ec=>?_,q,es,ep,hq,h2,h3,h4,h5⟩;rw[zh (zgV ec e (fun z=>nomatch z))];exact ec
end
section
variable {X:Cx}{pins:List (Addr×Obj)}{σ:St}{H:Hp}{s:Shared}{a:Addr}{kvs:List (Key×V)}{k:Key}{u:Value}{A:Around}{E:Value->Shared->Prop}
theorem zsm {Q:Value->Shared->Prop}(I:Inv X pins σ H s)(e:Rd H a (.dK kvs))(h:∀t s',Inv X pins σ H s'->Q (.int kvs.length t) s'):wpAny (model X.prog X.w) A (call (.builtin "len") [.ref a]) Q E s:=by obtain⟨z,hd,vs,rel,dd⟩:=zkf I.hok e;refine call_len_dict hd dd (by rw[<- rel.length];rw[bI] at z;lia) ?_;rw[<- rel.length];exact h _ _ (I.tok _)
end
def zoM (i:Expr):Prop:=∀ov iv,subscripted i false ov iv=operate [ov,iv] (getItem ov iv)
theorem zoi {prog:Program}{w:World}{A:Around}{E:Value->Shared->Prop}{s:Shared}{env:Env}{value slice:Expr}{pos:Pos}{T id:String}{Q:Value->Shared->Prop}
  (hl:typeLookup (.type T) "__getitem__" = pure (some (.builtin id))) (hs:zoM slice)
  (h:wpAny (model prog w) A (eval value env) (fun o s₁=>wpAny (model prog w) A (eval slice env) (fun i s₂=>s₂.TypeIs o T/\wpAny (model prog w) A (getItem o i) Q E s₂) E s₁) E s) :
  wpAny (model prog w) A (eval (.Subscript value slice pos) env) Q E s:=by
 refine Subscript_ (bi h (fun o s₁ h₁=>bi h₁ (fun i s₂ h₂=>?_) fun _ _ x=>x) fun _ _ x=>x);obtain⟨hT,h₂⟩:=h₂;unfold subscriptTail;refine ab ?_;rw[getitemInPython_of_ne hT.not_modules];refine ab (wpAny_specialOf hT hl ?_)
 have fin:wpAny (model prog w) A (subscripted slice false o i) (fun r s₃=>wpAny (model prog w) A (letTemporaryGo value o r >>= fun _=>pure r) Q E s₃) E s₂:=by rw[hs o i];exact wpAny_operating (bi h₂ (fun r s₃ h₃=>ab (wpAny_letTemporaryGo (ac h₃))) fun _ _ x=>x)
 first
  | exact ac (ab fin)
  | exact ab (ac (ab fin))
  | exact ab fin
theorem zfg {X:Cx}{pins:List (Addr×Obj)}{σ:St}{H:Hp}{s:Shared}{a:Addr}{y:V}{o:Option V}(I:Inv X pins σ H s)(g:zd5 H a y o):s.TypeIs (.ref a) "dict" := by
 rcases g with ⟨kvs,k,e,_,_⟩ | ⟨kvs,k,b,e,_,_,_⟩
 ·obtain⟨_,_,vs,_,dd⟩:=zkf I.hok e;exact dd.typeIs
 ·obtain⟨_,_,xs,_,dd⟩:=zmq I.hok e;exact dd.typeIs
def zq8 (td ty:TE):TE:=fun σ H Q=>td σ H fun x H1=>ty σ H1 fun y H2=>∃a v,x = .ref a/\zd5 H2 a y (some v)/\Q v H2
def zq4 (td ty tv:TE):TS:=fun D σ H=>tv σ H fun v H1=>td σ H1 fun x H2=>ty σ H2 fun y H3=>∃a H4,x = .ref a/\zd6 H3 a y v H4/\D.nx σ H4
section
variable {X:Cx}{o i e value:Expr}{pos pos' tpos:Pos}{td ty tv:TE}
theorem znn (hu:X.A.units+1<cLine)(ho:PE X o td)(hi:PE X i ty)(hs:zoM i):PE X (.Subscript o i pos) (zq8 td ty):=by intro pins s σ H Q I h;refine zoi PySem.F.slot_dict_getitem.lookup hs (thn (ho pins s σ H _ I h) fun u s1 ⟨x,H1,I1,rx,q1⟩=>thn (hi pins s1 σ H1 _ I1 q1)  ?_);rintro iv s2 ⟨y,H2,I2,ry,a,v,ex,g,q2⟩;subst ex;obtain rfl:u=Value.ref a:=rx;exact⟨zfg I2 g,zhE hu I2 g ry fun w' s3 I3 rw'=>⟨v,H2,I3,rw',q2⟩⟩
theorem znA (hu:X.A.units+1<cLine)(ho:PE X o td)(hi:PE X i ty)(hv:PE X value tv)(hs:swapsWith value (some (.Subscript o i pos')) pos.line X.env=pure false) :
  PS X (.Assign [.Subscript o i pos'] value pos) (zq4 td ty tv):=by
 intro pins s σ H D I h;refine wpAny_Assign_Subscript (thn (hv pins s σ H _ I h) fun r s1 ⟨v,H1,I1,rv,q1⟩=>thn (ho pins s1 σ H1 _ I1 q1) fun u s2 ⟨x,H2,I2,rx,q2⟩=>thn (hi pins s2 σ H2 _ I2 q2) fun iv s3 ⟨y,H3,I3,ry,a,H4,ex,g,q3⟩=>?_) hs;subst ex;obtain rfl:u=Value.ref a:=rx;exact zhF hu I3 g ry rv fun s4 I4=>⟨σ,H4,I4,q3⟩
end
theorem zdm {P:Program}{w:World}{H:Hp}(h:Heap)(hb:sysModules<h.objs.size):yy P w H (h.push { cls:=.type "dict",data:=.dict #[] }) h.objs.size (.dK []):=
 ⟨a8 _,dZ.mpr (Ne.symm (aO hb)),[],.nil,Heap.DictOf.new h⟩
theorem zdn {P:Program}{w:World}{H:Hp}(h:Heap)(hb:sysModules<h.objs.size):yy P w H (h.push { cls:=.type "dict",data:=.dict #[] }) h.objs.size (.dT []):=
 ⟨a8 _,dZ.mpr (Ne.symm (aO hb)),[],.nil,_,#[],0,aP _ rfl,⟨rfl,rfl,rfl⟩,rfl,rfl,List.nodup_nil⟩
def zq9:TE:=fun _ H Q=>∀p,H p=none->Q (.ref p) (upd H p (.dT []))
section
variable {X:Cx}{pos:Pos}
theorem zkL:PE X (.Dict [] [] pos) zq9:=fun pins s σ H Q I h=>
 wpAny_Dict_empty ⟨.ref s.heap.objs.size,_,I.laid (a:=s.heap.objs.size) (o:=.dT []) (t':=s.toks) (fun _ _ q=>ai _ q) (ag _) (zdn s.heap I.big),rfl,h _ (I.hok.fresh (ag _))⟩
end
def zjH:List (TE×TE)->St->Hp->(List (V×V)->Hp->Prop)->Prop
 | [],_,H,Q=>Q [] H
 | (tk,tv)::r,σ,H,Q=>tk σ H fun x H1=>tv σ H1 fun y H2=>zjH r σ H2 fun ps H3=>Q ((x,y)::ps) H3
abbrev VV:List (V×V)->List (Value×Value)->Prop:=Paired fun p q=>yN p.1 q.1/\yN p.2 q.2
def PPs (X:Cx)(pos:Pos)(keys:List (Option Expr))(values:List Expr)(trs:List (TE×TE)):Prop:=
 ∀ (pins:List (Addr×Obj)) (s:Shared) (σ:St) (H:Hp) (Q:List (V×V)->Hp->Prop),Inv X pins σ H s->zjH trs σ H Q->
  wpAny (model X.prog X.w) X.A (evalPairs (pairTrees keys values X.env pos)) (fun vs s'=>∃ps H',Inv X pins σ H' s'/\VV ps vs/\Q ps H') X.xe s
theorem zny {X:Cx}{pos:Pos}:PPs X pos [] [] []:=fun pins s σ H Q I h=>pairTrees_nil_walk ⟨[],H,I,.nil,h⟩
theorem zkR {X:Cx}{pos:Pos}{k v:Expr}{ks:List (Option Expr)}{vs:List Expr}{tk tv:TE}{trs:List (TE×TE)}(hk:PE X k tk)(hv:PE X v tv)(hr:PPs X pos ks vs trs) :
  PPs X pos (some k::ks) (v::vs) ((tk,tv)::trs):=fun pins s σ H Q I h=>
 pairTrees_cons_walk (thn (hk pins s σ H _ I h) fun u s1 ⟨x,H1,I1,rx,q1⟩=>thn (hv pins s1 σ H1 _ I1 q1) fun w2 s2 ⟨y,H2,I2,ry,q2⟩=>
  thn (hr pins s2 σ H2 _ I2 q2) <| by rintro ws s3 ⟨ps,H3,I3,rel,q3⟩;exact⟨(x,y)::ps,H3,I3,.cons ⟨rx,ry⟩ rel,q3⟩)
def zb8 (kvs more:List (Key×V)):List (Key×V):=more.foldl (fun acc kv=>u4 acc kv.1 kv.2) kvs
theorem KV.merge:∀ {more:List (Key×V)} {rs:List (Key×Value)} {kvs:List (Key×V)} {vs:List (Key×Value)},KV more rs->KV kvs vs->KV (zb8 kvs more) (merged vs rs):=by
 intro more rs kvs vs r;unfold KV at r
 induction r generalizing kvs vs with
 | nil=>intro q;exact q
 | @cons p q ps qs h t ih=>
  intro r0
  have e:KV (u4 kvs p.1 p.2) (stored vs q.1 q.2):=by have:=r0.put p.1 h.2;rw[<- h.1];exact this
  exact ih e
theorem zaB:∀ (more kvs:List (Key×V)),(zb8 kvs more).length<=kvs.length+more.length
 | [],kvs=>by show kvs.length<=kvs.length+0;lia
 | p::r,kvs=>by have h1:=zaB r (u4 kvs p.1 p.2);have h2:=xH kvs p.1 p.2;show (zb8 (u4 kvs p.1 p.2) r).length<=_;rw[aS];lia
theorem zcR {P:Program}{w:World}:∀ {kvs:List (Key×V)} {ws:List (Value×Value)},VV (kvs.map fun kv=>(kV kv.1,kv.2)) ws->∃rs,Carries (zM P w) ws rs/\KV kvs rs
 | [],_,r=>by rw[dG] at r;cases r;exact⟨[],True.intro,.nil⟩
 | p::kvs,_,r=>by
  rw[ao] at r
  cases r with
  | @cons a b as bs h t=>
   obtain⟨rs,c,q⟩:=zcR (P:=P) (w:=w) t;obtain⟨b1,b2⟩:=b;exact⟨(p.1,b2)::rs,⟨zio h.1,rfl,c⟩,.cons ⟨rfl,h.2⟩ q⟩
def zra (trs:List (TE×TE)):TE:=fun σ H Q=>∀p,H p=none->zjH trs σ (upd H p (.dK [])) fun ps H2=>H2 p=some (.dK [])/\∃kvs:List (Key×V),ps=kvs.map (fun kv=>(kV kv.1,kv.2))/\kvs.length<=15/\Q (.ref p) (upd H2 p (.dK (zb8 [] kvs)))
theorem zno {X:Cx}{pos:Pos}{keys:List (Option Expr)}{values:List Expr}{trs:List (TE×TE)}(h:PPs X pos keys values trs)(hall:keys.all (·.isSome)=true)(hl:keys.length=values.length)(h0:keys≠[])
  (h15:keys.length<=15):PE X (.Dict keys values pos) (zra trs):=by
 intro pins s σ H Q I q;have hn:=I.hok.fresh (ag s.heap.objs.size);have I1:=I.laid (a:=s.heap.objs.size) (o:=.dK []) (h':=s.heap.push { cls:=.type "dict",data:=.dict #[] }) (t':=s.toks) (fun _ _ q=>ai _ q) (ag _) (zdm s.heap I.big);refine wpAny_Dict_walk (knd:=zM X.prog X.w) hall hl h0 h15 (thn (h pins _ σ _ _ I1 (q _ hn))  ?_);rintro ws s2 ⟨ps,H2,I2,rel,e,kvs,ep,lk,q2⟩;subst ep;obtain⟨rs,c,rk⟩:=zcR (P:=X.prog) (w:=X.w) rel;obtain⟨z,hd,vs0,r0,dd⟩:=zke I2.hok e;cases r0;refine⟨rs,c,dd,fun h' dd' hs=>⟨.ref s.heap.objs.size,_,?_,rfl,q2⟩⟩
 have hz:(zb8 [] kvs).length<=sizeLine:=by have h1:=zaB kvs [];rw[List.length_nil] at h1;rw[bI];lia
 have he:∃q,h'.get? s.heap.objs.size=some q:=let ⟨q,_,_,hq,_⟩:=dd';⟨q,hq⟩;exact zbS I2 (by rw[e];exact True.intro) hs he (zhK hz hd (rk.merge .nil) dd')
section
variable {X:Cx}{pins:List (Addr×Obj)}{σ:St}{H:Hp}{s:Shared}{a:Addr}{y d:V}{u r:Value}{o:Option V}{A:Around}{E:Value->Shared->Prop}
end
section
variable {X:Cx}{o e f:Expr}{apos cpos:Pos}{td ty tx:TE}
end
section
variable {X:Cx}{pins:List (Addr×Obj)}{σ:St}{H:Hp}{s:Shared}{a:Addr}{kvs:List (Key×V)}{A:Around}{E:Value->Shared->Prop}
end
section
variable {X:Cx}{pins:List (Addr×Obj)}{σ:St}{H:Hp}{s:Shared}{a:Addr}{y:V}{u:Value}{A:Around}{E:Value->Shared->Prop}
end
end L2
namespace HT
open PySem PyProof.Rows
def lexLt:List Int->List Int->Bool
 | [],[]=>false
 | [],_::_=>true
 | _::_,[]=>false
 | x::xs,y::ys=>if x=y then lexLt xs ys else decide (x<y)
section
open PySem.SeqAt
open PySem.AutoSeq1 (wpAny_loadPart')
open PySem.MeetsSeq PySem.MeetsSeq2 PySem.MeetsSeq3
end
section
variable {prog:Program}{w:World}{A:Around}{E:Value->Shared->Prop}{s:Shared}
theorem cat_tup {t b:Addr}{vs ws:List Value}{Q:Value->Shared->Prop}(ht:IsTup s.heap t vs.toArray)(hb:IsTup s.heap b ws.toArray)(hv:vs≠[])
  (h1:ws=[]->Q (.ref t) s) (h2:ws≠[]->Q (.ref s.heap.objs.size) { s with heap:=s.heap.push { cls:=.type "tuple",data:=.seq (vs++ws).toArray } })
  (hsz:vs.length+ws.length<=sizeLine):wpAny (model prog w) A (binaryOp .Add (.ref t) (.ref b)) Q E s:=by
 obtain⟨⟨cls,dd,data,sl⟩,ho,hc,n,hd⟩:=id ht;obtain⟨⟨cls2,dd2,data2,sl2⟩,ho2,hc2,n2,hd2⟩:=id hb;simp only at hc hd hc2 hd2;subst hc hd hc2 hd2;have e:vs.toArray++ws.toArray=(vs++ws).toArray:=by simp
 by_cases hw:ws=[]
 ·exact concat_meets ⟨_,ho,rfl⟩ ⟨_,ho2,rfl⟩ noFill_tuple_add seq_tuple_add PySem.F.slot_tuple_add PySem.F.entry_tuple_add (PySem.F.args_tuple_add_2 _ _)
   (tuple_addW1 t b vs.toArray ws.toArray n n2 dd dd2 sl sl2 (by simpa using hv) (by simp[hw])) ⟨ho,ho2,h1 hw⟩
 ·refine concat_meets ⟨_,ho,rfl⟩ ⟨_,ho2,rfl⟩ noFill_tuple_add seq_tuple_add PySem.F.slot_tuple_add PySem.F.entry_tuple_add (PySem.F.args_tuple_add_2 _ _)
   (tuple_addW2 t b vs.toArray ws.toArray n n2 dd dd2 sl sl2 (by simpa using hv) (by simpa using hw) (by rw[List.size_toArray,List.size_toArray];exact hsz)) ⟨ho,ho2,?_⟩
  rw[e];exact h2 hw
def sIx (n d:Nat):Option Int->Nat
 | none=>d
 | some v=>if v<0 then (v+(n:Int)).toNat else min v.toNat n
theorem sIx_none (n d:Nat):sIx n d none=d:=rfl
theorem sIx_nat (n d k:Nat):sIx n d (some (k:Int))=min k n:=by show (if (k:Int)<0 then ((k:Int)+(n:Int)).toNat else min (k:Int).toNat n)=min k n;rw[if_neg (by lia),Int.toNat_natCast]
theorem zq5 (n d:Nat)(hd:d<=n)(o:Option Int):sIx n d o<=n:=by
 cases o with
 | none=>exact hd
 | some v=>
  show (if v<0 then (v+(n:Int)).toNat else min v.toNat n)<=n;by_cases hv:v<0
  ·rw[if_pos hv];lia
  ·rw[if_neg hv];exact Nat.min_le_right _ _
theorem zhr (v:Int)(n d:Nat):(if v<0 then max (v+(n:Int)) 0 else min v (n:Int))=((sIx n d (some v):Nat):Int):=by
 show (if v<0 then max (v+(n:Int)) 0 else min v (n:Int))=(((if v<0 then (v+(n:Int)).toNat else min v.toNat n):Nat):Int);by_cases hv:v<0
 ·simp only[if_pos hv];lia
 ·simp only[if_neg hv];lia
theorem zgK (lo hi:Option Int)(n:Nat):Builtin.Slice.sliceAdjust lo hi 1 (n:Int)=(((sIx n 0 lo:Nat):Int),((sIx n n hi:Nat):Int)):=by
 have h1:¬ ((1:Int)<0):=by lia
 unfold Builtin.Slice.sliceAdjust;simp only[h1,if_false];refine Prod.ext ?_ ?_
 ·cases lo with
  | none=>rfl
  | some v=>exact zhr v n 0
 ·cases hi with
  | none=>rfl
  | some v=>exact zhr v n n
theorem zg1 (i j:Nat):Builtin.Slice.slicePlaces (i:Int) (j:Int) 1=j - i:=by
 unfold Builtin.Slice.slicePlaces;have h1:(1:Int) > 0:=by lia
 simp only[h1,if_true,Int.ediv_one];split <;> lia
theorem zdd {v:Value}{o:Option Int}{Q:Option Int->Shared->Prop}(p:IsPart v o)(h:Q o s):wpAny (model prog w) A (Builtin.Slice.slicePartIndex v) Q E s:=by
 cases p with
 | none=>exact slicePart_none h
 | int i t=>exact slicePart_int h
theorem uB {sl:Addr}{vl vu:Value}{lo hi:Option Int}{n:Nat}{Q:Int×Int×Nat->Shared->Prop}(hs:s.heap.IsSliceOf sl vl vu .none)(pl:IsPart vl lo)(pu:IsPart vu hi)
  (h:Q (((sIx n 0 lo:Nat):Int),1,sIx n n hi - sIx n 0 lo) s):wpAny (model prog w) A (Builtin.Slice.sliceApplied (.ref sl) (pure (n:Int))) Q E s:=by
 obtain⟨os,hos,hcs,hds⟩:=id hs;unfold Builtin.Slice.sliceApplied Builtin.Slice.sliceFields;refine wpAny_bind (wpAny_bind (wpAny_field hos hds (x:=vl) rfl (wpAny_bind (wpAny_field hos hds (x:=vu) rfl (wpAny_bind (wpAny_field hos hds (x:=.none) rfl (wpAny_pure ?_)))))));refine wpAny_bind (slicePart_none ?_);show wpAny _ _ (if ((1:Int)==0)=true then _ else _) _ _ s;rw[if_neg (by decide)];refine wpAny_bind (zdd pl (wpAny_bind (zdd pu (wpAny_bind (wpAny_pure ?_)))));show wpAny _ _ (match Builtin.Slice.sliceAdjust lo hi 1 (n:Int) with | (lo,hi)=>pure (lo,(1:Int),Builtin.Slice.slicePlaces lo hi 1)) _ _ s;rw[zgK lo hi n];show wpAny _ _ (pure (((sIx n 0 lo:Nat):Int),(1:Int),Builtin.Slice.slicePlaces ((sIx n 0 lo:Nat):Int) ((sIx n n hi:Nat):Int) 1)) _ _ s;rw[zg1];exact wpAny_pure h
theorem zkQ (xs:Array Value)(i k:Nat):((List.range k).filterMap fun (m:Nat)=>xs[((i:Int)+(m:Int) * 1).toNat]?).toArray=((xs.toList.drop i).take k).toArray:=by
 have e:(fun (m:Nat)=>xs[((i:Int)+(m:Int) * 1).toNat]?)=fun m=>xs[i+m]?:=by
  funext m;have:((i:Int)+(m:Int) * 1).toNat=i+m:=by lia
  rw[this]
 rw[e];have:=pick_run xs i k;rw[List.filterMap_map] at this;have e2:((fun x=>xs[x]?) ∘ fun x=>i+x)=fun m=>xs[i+m]?:=rfl;rw[e2] at this;rw[this]
theorem getItem_tuple_cut {t sl:Addr}{items:Array Value}{vl vu:Value}{lo hi:Option Int}{Q:Value->Shared->Prop}(ht:IsTup s.heap t items)(hs:s.heap.IsSliceOf sl vl vu .none)(pl:IsPart vl lo)(pu:IsPart vu hi)
  (hw:¬ (sIx items.size 0 lo=0/\sIx items.size items.size hi=items.size))
  (h:Q (.ref s.heap.objs.size) { s with heap:=s.heap.push { cls:=.type "tuple",data:=.seq ((items.toList.drop (sIx items.size 0 lo)).take (sIx items.size items.size hi - sIx items.size 0 lo)).toArray } })
  (hsz:items.size<=sizeLine):wpAny (model prog w) A (getItem (.ref t) (.ref sl)) Q E s:=by
 have htake:sizeOk (.seq ((items.toList.drop (sIx items.size 0 lo)).take (sIx items.size items.size hi - sIx items.size 0 lo)).toArray):=by show ((items.toList.drop (sIx items.size 0 lo)).take (sIx items.size items.size hi - sIx items.size 0 lo)).toArray.size<=sizeLine;rw[List.size_toArray,List.length_take,List.length_drop,Array.length_toList];lia
 have hj:sIx items.size items.size hi<=items.size:=zq5 _ _ (Nat.le_refl _) hi;obtain⟨os,hos,hcs,hds⟩:=id hs;have hTs:s.TypeIs (.ref sl) "slice" := ⟨os,hos,hcs⟩;unfold getItem;try with_reducible refine wpAny_holding ?_
 first | refine wpAny_bind (wpAny_pure ?_) | skip
 refine wpAny_bind (wpAny_sequenceKey ht.typeIs (by decide) ?_)
 refine wpAny_bind (wpAny_callSpecial?_slot (name:=Str.ofString "__getitem__") ht.typeIs PyProof.Rows.slot_tuple_getitem
  (wpAny_call_entry PyProof.Rows.slot_tuple_getitem ht.typeIs entry_tuple_getitem ?_ (args_tuple_getitem _ _)))
 show wpAny _ _ (Builtin.Tuple.tupleItemsOf (.ref t) >>= _) _ _ s;refine wpAny_bind (tupleItemsOf_ ht ?_);refine wpAny_bind (wpAny_typeOf hTs ?_);rw[if_pos (by decide)];refine wpAny_bind (uB hs pl pu ?_)
 have hno:¬ ((((sIx items.size 0 lo:Nat):Int)==0&&(1:Int)==1&&(sIx items.size items.size hi - sIx items.size 0 lo)==items.size)=true):=by intro q;rw[Bool.and_eq_true,Bool.and_eq_true] at q;have q1:((sIx items.size 0 lo:Nat):Int)=0:=eq_of_beq q.1.1;have q2:sIx items.size items.size hi - sIx items.size 0 lo=items.size:=eq_of_beq q.2;exact hw ⟨by lia,by lia⟩
 show wpAny _ _ (if (((sIx items.size 0 lo:Nat):Int)==0&&(1:Int)==1&&(sIx items.size items.size hi - sIx items.size 0 lo)==items.size)=true then _ else _) _ _ s;rw[if_neg hno,zkQ]
 first
  | exact wpAny_bind (m:=Builtin.Tuple.tupleExact _) (wpAny_newObj_type (wpAny_pure ⟨_,rfl,wpAny_pure h⟩) htake)
  | exact wpAny_bind (m:=Builtin.Tuple.tupleExact _) (wpAny_newObj_type (wpAny_bind (wpAny_pure (wpAny_pure ⟨_,rfl,wpAny_pure h⟩))) htake)
  | exact wpAny_bind (wpAny_bind (m:=Builtin.Tuple.tupleExact _) (wpAny_newObj_type (wpAny_pure (wpAny_pure ⟨_,rfl,wpAny_pure h⟩)) htake))
  | exact wpAny_bind (wpAny_bind (m:=Builtin.Tuple.tupleExact _) (wpAny_newObj_type (wpAny_pure ⟨_,rfl,wpAny_pure h⟩) htake))
end
end HT
namespace L2
open PySem PySem.Spec PyProof.Rows
abbrev TO:=St->Hp->(Option Int->Hp->Prop)->Prop
def PO (X:Cx)(e:Option Expr)(t:TO):Prop:=
 ∀ (pins:List (Addr×Obj)) (s:Shared) (σ:St) (H:Hp) (Q:Option Int->Hp->Prop),Inv X pins σ H s->t σ H Q->
  wpAny (model X.prog X.w) X.A (evalPart e X.env) (fun u s'=>∃o H',Inv X pins σ H' s'/\IsPart u o/\Q o H') X.xe s
def zjG:TO:=fun _ H Q=>Q none H
def zre (t:TE):TO:=fun σ H Q=>t σ H fun x H1=>∃i,x = .int i/\Q (some i) H1
section
variable {X:Cx}{e:Expr}{te:TE}{lo hi:Option Expr}{tl th:TO}{pos p2:Pos}
theorem znw:PO X none zjG:=by intro pins s σ H Q I h;rw[evalPart_none];exact ac ⟨none,H,I,.none,h⟩
theorem znx (h:PE X e te):PO X (some e) (zre te):=by intro pins s σ H Q I hw;rw[evalPart_some];refine thn (h pins s σ H _ I hw)  ?_;rintro u s1 ⟨x,H1,I1,r1,q1⟩;obtain⟨i,rfl,q⟩:=q1;obtain⟨t,rfl⟩:=r1;exact⟨some i,H1,I1,.int i t,q⟩
def SlR (X:Cx)(r:V->Option Int->Option Int->Hp->VK->Prop):Prop:=
 ∀ (pins:List (Addr×Obj)) (s:Shared) (σ:St) (H:Hp) (x:V) (v vl vu:Value) (lo hi:Option Int) (sl:Addr) (Q:VK),Inv X pins σ H s->yN x v->s.heap.IsSliceOf sl vl vu .none->IsPart vl lo->IsPart vu hi->r x lo hi H Q->
  ∃T id,typeLookup (.type T) "__getitem__" = pure (some (.builtin id))/\s.TypeIs v T/\wpAny (model X.prog X.w) X.A (getItem v (.ref sl)) (EP X pins σ Q) X.xe s
def tSl (r:V->Option Int->Option Int->Hp->VK->Prop)(te:TE)(tl th:TO):TE:=fun σ H Q=>te σ H fun x H1=>tl σ H1 fun l H2=>th σ H2 fun u H3=>r x l u H3 Q
theorem zkM {r:V->Option Int->Option Int->Hp->VK->Prop}(hr:SlR X r)(he:PE X e te)(hl:PO X lo tl)(hu:PO X hi th):PE X (.Subscript e (.Slice lo hi none p2) pos) (tSl r te tl th):=by intro pins s σ H Q I h;refine Subscript_ (thn (he pins s σ H _ I h)  ?_);rintro v s1 ⟨x,H1,I1,r1,q1⟩;refine wpAny_Slice (thn (hl pins s1 σ H1 _ I1 q1) fun vl s2 ⟨l,H2,I2,pl,q2⟩=>thn (hu pins s2 σ H2 _ I2 q2)  ?_);rintro vu s3 ⟨u,H3,I3,pu,q3⟩;rw[evalPart_none];refine ac ?_;have I4:Inv X pins σ H3 { s3 with heap:=s3.heap.push { cls:=.type "slice",data:=.fields #[vl,vu,.none] } }:=I3.kept (t':=s3.toks) fun b ob q=>ai _ q;obtain⟨T,id,hT,ht,hg⟩:=hr pins { s3 with heap:=s3.heap.push { cls:=.type "slice",data:=.fields #[vl,vu,.none] } } σ H3 x v vl vu l u s3.heap.objs.size Q I4 r1 (Heap.IsSliceOf.new ..) pl pu q3;show wpAny (model X.prog X.w) X.A (subscriptTail e (.Slice lo hi none p2) v (.ref s3.heap.objs.size)) (EP X pins σ Q) X.xe { s3 with heap:=s3.heap.push { cls:=.type "slice",data:=.fields #[vl,vu,.none] } };exact tail_any (ops:=[.ref s3.heap.objs.size,v]) ht hT hg (by with_unfolding_all rfl)
def zcB (xs:List V)(lo hi:Option Int):List V:=(xs.drop (HT.sIx xs.length 0 lo)).take (HT.sIx xs.length xs.length hi - HT.sIx xs.length 0 lo)
theorem zbP (xs:List V)(lo hi:Option Int):(zcB xs lo hi).length<=xs.length:=by unfold zcB;rw[aJ,bf];lia
def rSlT (K:PySem.W.Frag):V->Option Int->Option Int->Hp->VK->Prop:=fun x lo hi H Q=>∃a xs,x = .ref a/\SqT K H a xs/\
 ¬ (HT.sIx xs.length 0 lo=0/\HT.sIx xs.length xs.length hi=xs.length)/\∀p,H p=none->Q (.ref p) (upd H p (.tup (zcB xs lo hi)))
theorem zq7:SlR X (rSlT X.K):=by
 intro pins s σ H x v vl vu lo hi sl Q I rx hs pl pu h;obtain⟨a,xs,rfl,hx,hw,q⟩:=h;cases rx;obtain⟨its,r,ht,hz⟩:=I.tuple hx;have hlen:its.toArray.size=xs.length:=by rw[aq];exact r.length.symm
 refine⟨"tuple",_,PyProof.Rows.slot_tuple_getitem.lookup,ht.typeIs,?_⟩;refine HT.getItem_tuple_cut ht hs pl pu (by rw[hlen];exact hw) ?_ (by rw[hlen];exact hz);rw[hlen];refine⟨.ref s.heap.objs.size,_,I.laid (t':=s.toks) (o:=.tup (zcB xs lo hi)) (fun b ob q=>ai _ q) (ag _) ?_,rfl,q _ (I.hok.fresh (ag _))⟩;exact⟨ax (zbP xs lo hi) hz,_,(r.drop (HT.sIx xs.length 0 lo)).take (HT.sIx xs.length xs.length hi - HT.sIx xs.length 0 lo),u7.new _ _⟩
def ztl (K:PySem.W.Frag):R2:=fun x y H Q=>∃a b xs ys,x = .ref a/\y = .ref b/\SqT K H a xs/\SqT K H b ys/\xs≠[]/\xs.length+ys.length<=sizeLine/\
 (ys=[]->Q (.ref a) H)/\(ys≠[]->∀p,H p=none->Q (.ref p) (upd H p (.tup (xs++ys))))
theorem z4.nil_iff {xs:List V}{us:List Value}(r:z4 xs us):us=[]↔xs=[]:=by
 cases r with
 | nil=>simp
 | cons _ _=>simp
theorem znf:OpR X (binaryOp .Add) (ztl X.K):=by intro pins s σ H x y v u Q I rx ry h;obtain⟨a,b,xs,ys,rfl,rfl,ha,hb,hx,hz,q1,q2⟩:=h;cases rx;cases ry;obtain⟨its,r1,p1,_⟩:=I.tuple ha;obtain⟨its2,r2,p2,_⟩:=I.tuple hb;refine HT.cat_tup p1 p2 (fun z=>hx (r1.nil_iff.mp z)) (fun z=>⟨.ref a,H,I,rfl,q1 (r2.nil_iff.mp z)⟩) (fun z=>?_) (by rw[<- r1.length,<- r2.length];exact hz);refine⟨.ref s.heap.objs.size,_,I.laid (t':=s.toks) (o:=.tup (xs++ys)) (fun b ob q=>ai _ q) (ag _) ?_,rfl,q2 (fun w=>z (r2.nil_iff.mpr w)) _ (I.hok.fresh (ag _))⟩;exact⟨by rw[af];exact hz,_,r1.append r2,u7.new _ _⟩
end
def ixN (n:Nat)(i:Int):Option Nat:=if 0<=i then (if i<n then some i.toNat else none) else if -(n:Int)<=i then some (i+n).toNat else none
def atI {α:Type}(xs:List α)(i:Int):Option α:=(ixN xs.length i).bind fun j=>xs[j]?
theorem zfu {n:Nat}{i:Int}{j:Nat}(h:ixN n i=some j):seqIndex? i n=some j/\j<n/\-(n:Int)<=i/\i<n:=by
 unfold ixN at h;by_cases h0:0<=i
 ·rw[if_pos h0] at h;by_cases h1:i<n
  ·rw[if_pos h1] at h;have e:i.toNat=j:=bc h;exact⟨by rw[seqIndex_of h0 h1,e],by lia,by lia,h1⟩
  ·rw[if_neg h1] at h;cases h
 ·rw[if_neg h0] at h;by_cases h1:-(n:Int)<=i
  ·rw[if_pos h1] at h;have e:(i+n).toNat=j:=bc h;exact⟨by rw[seqIndex_neg (by lia) h1,e],by lia,h1,by lia⟩
  ·rw[if_neg h1] at h;cases h
theorem zhj {α:Type}{xs:List α}{i:Int}{v:α}(h:atI xs i=some v):∃j,seqIndex? i xs.length=some j/\xs[j]?=some v/\j<xs.length/\-(xs.length:Int)<=i/\i<xs.length:=by
 unfold atI at h
 cases e:ixN xs.length i with
 | none=>rw[e] at h;cases h
 | some j=>
  rw[e] at h;obtain⟨h1,h2,h3,h4⟩:=zfu e;exact⟨j,h1,h,h2,h3,h4⟩
theorem zl9 {α:Type}{xs:List α}{j:Nat}{v:α}(h:xs[j]?=some v):atI xs (j:Int)=some v:=by
 have hj:j<xs.length:=(ae.mp h).1
 have e:ixN xs.length (j:Int)=some j:=by unfold ixN;rw[if_pos (by lia),if_pos (by lia)];simp
 unfold atI;rw[e];exact h
def ze5 (b:Expr):Prop:=∀o i,subscripted b false o i=operate [o,i] (getItem o i)
def IxR (X:Cx)(r:R2):Prop:=
 ∀ (value slice:Expr) (pins:List (Addr×Obj)) (s:Shared) (σ:St) (H:Hp) (x y:V) (v u:Value) (Q:VK),Inv X pins σ H s->yN x v->yN y u->r x y H Q->
  subscripted slice false v u=operate [v,u] (getItem v u)->wpAny (model X.prog X.w) X.A (subscriptTail value slice v u) (EP X pins σ Q) X.xe s
def MtR (X:Cx)(id:String)(r:V->List V->Hp->VK->Prop):Prop:=
 ∀ (pins:List (Addr×Obj)) (s:Shared) (σ:St) (H:Hp) (x:V) (xs:List V) (v:Value) (us:List Value) (Q:VK),Inv X pins σ H s->yN x v->z4 xs us->r x xs H Q->
  wpAny (model X.prog X.w) X.A (call (.builtin id) (v::us)) (EP X pins σ Q) X.xe s
section
variable {X:Cx}{a b:Expr}{ta tb:TE}{pos:Pos}
theorem ztc {r:R2}(hr:IxR X r)(ha:PE X a ta)(hb:PE X b tb)(hs:ze5 b):PE X (.Subscript a b pos) (tOp r ta tb):=by intro pins s σ H Q I h;exact Subscript_ (zsa ha hb I h fun v u s2 x y H2 I2 rx ry q=>hr a b pins s2 σ H2 x y v u Q I2 rx ry q (hs _ _))
def zrV (K:PySem.W.Frag):R2:=fun x y H Q=>∃p xs i v,x = .ref p/\y = .int i/\SqL K H p xs/\atI xs i=some v/\Q v H
def zrW (K:PySem.W.Frag):R2:=fun x y H Q=>∃p xs i v,x = .ref p/\y = .int i/\SqT K H p xs/\atI xs i=some v/\Q v H
theorem zmO:IxR X (zrV X.K):=by
 intro value slice pins s σ H x y v u Q I rx ry h hs;obtain⟨p,xs,i,z,rfl,rfl,hq,he,q⟩:=h;cases rx;obtain⟨t,rfl⟩:=ry;obtain⟨its,r,pl,hz⟩:=I.list hq;obtain⟨j,h1,h2,h3,h4,h5⟩:=zhj he;obtain⟨w,ew,rw'⟩:=r.get h2;have hl:=r.length;have hn:=zez;have fin:EP X pins σ Q w s:=⟨z,H,I,rw',q⟩;by_cases h0:0<=i
 ·have hj:i.toNat=j:=by
   rw[seqIndex_of h0 h5] at h1;exact bc h1
  exact item_listR pl.isList h0 (by lia) (by rw[hj];simpa using ew) fin hs
 ·have hj:(i+(its.toArray.size:Int)).toNat=j:=by
   rw[seqIndex_neg (by lia) h4] at h1;rw[aq,<- hl];exact bc h1
  exact subscriptTail_builtinR (x:=w) pl.isList.typeIs slot_list_getitem.lookup
   (wpAny_getItem_list_neg (Q:=fun r s'=>r=w/\EP X pins σ Q r s') pl.isList (by lia) (by rw[aq] <;> lia) (by lia) (by rw[hj];simpa using ew) ⟨rfl,fin⟩) hs
theorem zpo:IxR X (zrW X.K):=by
 intro value slice pins s σ H x y v u Q I rx ry h hs;obtain⟨p,xs,i,z,rfl,rfl,hq,he,q⟩:=h;cases rx;obtain⟨t,rfl⟩:=ry;obtain⟨its,r,pl,hz⟩:=I.tuple hq;obtain⟨j,h1,h2,h3,h4,h5⟩:=zhj he;obtain⟨w,ew,rw'⟩:=r.get h2;have hl:=r.length;have hn:=zez;have fin:EP X pins σ Q w s:=⟨z,H,I,rw',q⟩
 exact subscriptTail_builtinR (x:=w) pl.typeIs slot_tuple_getitem.lookup
  (getItem_tuple (j:=j) (Q:=fun r s'=>r=w/\EP X pins σ Q r s') pl (by lia) (by lia) (by rw[aq,<- hl];exact h1) (by simpa using ew) ⟨rfl,fin⟩) hs
theorem zgS (its:List Value)(n j:Nat)(u:Value):Obj.mapSeq (·.setIfInBounds j u) { cls:=.type "list",data:=.seq its.toArray n }={ cls:=.type "list",data:=.seq (its.set j u).toArray n }:=by simp[Obj.mapSeq]
theorem Inv.lst {pins:List (Addr×Obj)}{σ:St}{H:Hp}{s:Shared}{p:Addr}{xs:List V}(I:Inv X pins σ H s)(h:H p=some (.lst xs)) :
  ∃ (its:List Value) (n:Nat),z4 xs its/\s.heap.get? p=some { cls:=.type "list",data:=.seq its.toArray n }/\xs.length<=sizeLine:=by
 obtain⟨z,its,n,r,e⟩:=I.hok p _ h;exact⟨its,n,r,e,z⟩
theorem Inv.lstUpd {pins:List (Addr×Obj)}{σ:St}{H:Hp}{s:Shared}{p:Addr}{xs ys:List V}{its its':List Value}{n n':Nat}{f:Obj->Obj}(I:Inv X pins σ H s)(h:H p=some (.lst xs))
  (ho:s.heap.get? p=some { cls:=.type "list",data:=.seq its.toArray n }) (hf:f { cls:=.type "list",data:=.seq its.toArray n }={ cls:=.type "list",data:=.seq its'.toArray n' }) (r:z4 ys its') (hz:ys.length<=sizeLine) (t:Nat) :
  Inv X pins σ (upd H p (.lst ys)) { s with heap:=s.heap.update p f,toks:=t }:=by
 have e:(s.heap.update p f).get? p=some { cls:=.type "list",data:=.seq its'.toArray n' }:=by rw[cB f ho (by rw[hf] <;> rfl),hf]
 refine I.write (x:=p) (e:=p) (by rw[h];trivial) (.inl rfl) (fun b u hb q=>(Heap.get?_update_other _ _ (Ne.symm hb)).trans q) ⟨_,e⟩ ?_;exact⟨hz,its',n',r,e⟩
def zto:V->V->V->Hp->(Hp->Prop)->Prop:=fun o i v H Q=>∃p xs k j,o = .ref p/\i = .int k/\H p=some (.lst xs)/\ixN xs.length k=some j/\Q (upd H p (.lst (xs.set j v)))
theorem zk9:PSet X zto:=by
 intro pins s σ H o i v ov iv u Q I ro ri rv h;obtain⟨p,xs,k,j,rfl,rfl,hp,hj,q⟩:=h;cases ro;obtain⟨t,rfl⟩:=ri;obtain⟨its,n,r,ho,hz⟩:=I.lst hp;obtain⟨h1,h2,h3,h4⟩:=zfu hj;have hl:=r.length;have hn:=zez
 have I':Inv X pins σ (upd H p (.lst (xs.set j v))) { s with heap:=s.heap.update p (Obj.mapSeq (·.setIfInBounds j u)) }:=
  I.lstUpd hp ho (zgS its n j u) (r.set rv j) (by rw[aX];exact hz) s.toks
 by_cases h0:0<=k
 ·have hk:k.toNat=j:=by
   rw[seqIndex_of h0 h4] at h1;exact bc h1
  exact PySem.W.ki_setAt ho h0 (by lia) (by rw[aq,<- hl];exact h4) (by rw[hk];exact⟨_,I',q⟩)
 ·have hk:(k+(its.toArray.size:Int)).toNat=j:=by
   rw[seqIndex_neg (by lia) h3] at h1;rw[aq,<- hl];exact bc h1
  exact PySem.W.ki_setBack ho (by lia) (by rw[aq,<- hl];exact h3) (by lia) (by rw[hk];exact⟨_,I',q⟩)
theorem zeT (lo hi:Option Int)(n:Nat):(sliceBounds lo hi none n).1=((HT.sIx n 0 lo:Nat):Int)/\(sliceBounds lo hi none n).2.1=((HT.sIx n n hi:Nat):Int)/\(sliceBounds lo hi none n).2.2=1:=by
 refine⟨?_,?_,rfl⟩
 ·cases lo with
  | none=>simp[sliceBounds,HT.sIx]
  | some i=>
   simp only[sliceBounds,HT.sIx,Option.getD_none,show (1:Int) > 0 by decide,if_true];by_cases h:i<0
   ·simp only[h,if_true] <;> lia
   ·simp only[h,if_false] <;> lia
 ·cases hi with
  | none=>simp[sliceBounds,HT.sIx]
  | some i=>
   simp only[sliceBounds,HT.sIx,Option.getD_none,show (1:Int) > 0 by decide,if_true];by_cases h:i<0
   ·simp only[h,if_true] <;> lia
   ·simp only[h,if_false] <;> lia
theorem zdV (its:List Value)(lo hi:Option Int):slicePick its.toArray lo hi none=((its.drop (HT.sIx its.length 0 lo)).take (HT.sIx its.length its.length hi - HT.sIx its.length 0 lo)).toArray:=by obtain⟨h1,h2,h3⟩:=zeT lo hi its.toArray.size;unfold slicePick;rw[h1,h2,h3];simp only[sliceRange_one,pick_run,aq] <;> rfl
def rSlL (K:PySem.W.Frag):V->Option Int->Option Int->Hp->VK->Prop:=fun x lo hi H Q=>∃a xs,x = .ref a/\SqL K H a xs/\∀p,H p=none->Q (.ref p) (upd H p (.lst (zcB xs lo hi)))
theorem zoc:SlR X (rSlL X.K):=by intro pins s σ H x v vl vu lo hi sl Q I rx hs pl pu h;obtain⟨a,xs,rfl,hx,q⟩:=h;cases rx;obtain⟨its,r,ht,hz⟩:=I.list hx;have hlen:=r.length;refine⟨"list",_,slot_list_getitem.lookup,ht.isList.typeIs,?_⟩;refine wpAny_getItem_list_slice ht.isList hs pl pu .none (by simp) ?_ (by rw[aq] <;> lia);rw[zdV,<- hlen];refine⟨.ref s.heap.objs.size,_,I.laid (t':=s.toks) (o:=.lst (zcB xs lo hi)) (fun b ob q=>ai _ q) (ag _) ?_,rfl,q _ (I.hok.fresh (ag _))⟩;exact⟨ax (zbP xs lo hi) hz,_,0,(r.drop (HT.sIx xs.length 0 lo)).take (HT.sIx xs.length xs.length hi - HT.sIx xs.length 0 lo),aP _ rfl⟩
def zcD:V->Bool
 | .non=>true
 | .bl _=>true
 | .int _=>true
 | .str _=>true
 | _=>false
def eqV:V->V->Bool
 | .non,.non=>true
 | .bl a,.bl b=>a==b
 | .bl a,.int b=>(if a then 1 else 0)==b
 | .int a,.bl b=>a==(if b then 1 else 0)
 | .int a,.int b=>a==b
 | .str a,.str b=>a==b
 | _,_=>false
theorem zpe {A:Around}{s:Shared}{y x:V}{u v:Value}(ry:yN y u)(rx:yN x v)(fy:zcD y=true)(fx:zcD x=true):SeqAt.EqAt A s u v (eqV y x):=by
 cases y with
 | non=>
  cases ry
  cases x with
  | non=>cases rx;exact SeqAt.EqAt.same _
  | bl b=>cases rx;exact SeqAt.EqAt.none_bool b
  | int b=>obtain⟨t,rfl⟩:=rx;exact SeqAt.EqAt.none_int b t
  | str b=>obtain⟨t,rfl⟩:=rx;exact SeqAt.EqAt.none_str b t
  | _=>exact absurd (show false=true from fx) aA
 | bl a=>
  cases ry
  cases x with
  | non=>cases rx;exact SeqAt.EqAt.bool_none a
  | bl b=>cases rx;exact SeqAt.EqAt.bool_bool a b
  | int b=>obtain⟨t,rfl⟩:=rx;exact SeqAt.EqAt.bool_int a b t
  | str b=>obtain⟨t,rfl⟩:=rx;exact SeqAt.EqAt.bool_str a b t
  | _=>exact absurd (show false=true from fx) aA
 | int a=>
  obtain⟨t',rfl⟩:=ry
  cases x with
  | non=>cases rx;exact SeqAt.EqAt.int_none a t'
  | bl b=>cases rx;exact SeqAt.EqAt.int_bool a t' b
  | int b=>obtain⟨t,rfl⟩:=rx;exact SeqAt.EqAt.int_int a t' b t
  | str b=>obtain⟨t,rfl⟩:=rx;exact SeqAt.EqAt.int_str a t' b t
  | _=>exact absurd (show false=true from fx) aA
 | str a=>
  obtain⟨t',rfl⟩:=ry
  cases x with
  | non=>cases rx;exact SeqAt.EqAt.str_none a t'
  | bl b=>cases rx;exact SeqAt.EqAt.str_bool a t' b
  | int b=>obtain⟨t,rfl⟩:=rx;exact SeqAt.EqAt.str_int a t' b t
  | str b=>obtain⟨t,rfl⟩:=rx;exact SeqAt.EqAt.str_str a t' b t
  | _=>exact absurd (show false=true from fx) aA
 | _=>exact absurd (show false=true from fy) aA
def eqU (x:V)(u:Value):Bool:=match u with
 | .none=>eqV .non x
 | .bool b=>eqV (.bl b) x
 | .int i _=>eqV (.int i) x
 | .str z _=>eqV (.str z) x
 | _=>false
theorem zlz {x y:V}{u:Value}(r:yN y u)(f:zcD y=true):eqU x u=eqV y x:=by
 cases y with
 | non=>cases r;rfl
 | bl b=>cases r;rfl
 | int i=>obtain⟨t,rfl⟩:=r;rfl
 | str z=>obtain⟨t,rfl⟩:=r;rfl
 | _=>exact absurd (show false=true from f) aA
theorem zbK {x:V}:∀ {xs:List V} {us:List Value},z4 xs us->xs.all zcD=true->us.any (eqU x)=xs.any fun y=>eqV y x
 | _,_,.nil,_=>rfl
 | y::xs,u::us,.cons r t,f=>by rw[cC,ay] at f;rw[ci,ci,zlz r f.1,zbK t f.2]
theorem zaE {A:Around}{s:Shared}{x:V}{v:Value}(rx:yN x v)(fx:zcD x=true):∀ {xs:List V} {us:List Value},z4 xs us->xs.all zcD=true->∀u∈us,SeqAt.EqAt A s u v (eqU x u)
 | _,_,.nil,_=>fun u hu=>by cases hu
 | y::xs,u::us,.cons r t,f=>fun u' hu=>by
  rw[cC,ay] at f;rcases aG.mp hu with rfl | hu
  ·rw[zlz r f.1];exact zpe r rx f.1 fx
  ·exact zaE rx fx t f.2 u' hu
def inV (x:V)(xs:List V):Bool:=xs.any fun y=>eqV y x
def rIn (K:PySem.W.Frag)(neg:Bool):R2:=fun x y H Q=>∃p xs,y = .ref p/\(SqL K H p xs\/SqT K H p xs)/\zcD x=true/\xs.all zcD=true/\Q (.bl (if neg then !inV x xs else inV x xs)) H
theorem zi1:OpR X (compareOp .In) (rIn X.K false):=by
 intro pins s σ H x y v u Q I rx ry h;obtain⟨p,xs,rfl,hq,fx,fs,q⟩:=h;cases ry;rcases hq with hq | hq
 ·obtain⟨its,r,pl,hz⟩:=I.list hq;refine SeqAt.in_listAt (eqU x) pl.isList (fun w hw=>zaE rx fx r fs w (by simpa using hw)) ⟨.bl _,H,I,rfl,?_⟩;rw[show its.toArray.any (eqU x)=its.any (eqU x) by simp,zbK r fs];exact q
 ·obtain⟨its,r,pl,hz⟩:=I.tuple hq;refine SeqAt.in_tupleAt (eqU x) pl (fun w hw=>zaE rx fx r fs w (by simpa using hw)) ⟨.bl _,H,I,rfl,?_⟩;rw[show its.toArray.any (eqU x)=its.any (eqU x) by simp,zbK r fs];exact q
theorem zeH:OpR X (compareOp .NotIn) (rIn X.K true):=by
 intro pins s σ H x y v u Q I rx ry h;obtain⟨p,xs,rfl,hq,fx,fs,q⟩:=h;cases ry;rcases hq with hq | hq
 ·obtain⟨its,r,pl,hz⟩:=I.list hq;refine SeqAt.notIn_listAt (eqU x) pl.isList (fun w hw=>zaE rx fx r fs w (by simpa using hw)) ⟨.bl _,H,I,rfl,?_⟩;rw[show its.toArray.any (eqU x)=its.any (eqU x) by simp,zbK r fs];exact q
 ·obtain⟨its,r,pl,hz⟩:=I.tuple hq;refine SeqAt.notIn_tupleAt (eqU x) pl (fun w hw=>zaE rx fx r fs w (by simpa using hw)) ⟨.bl _,H,I,rfl,?_⟩;rw[show its.toArray.any (eqU x)=its.any (eqU x) by simp,zbK r fs];exact q
theorem zed:zcy X (.type "list") (fun xs H Q=>∃p ys,xs=[.ref p]/\(SqL X.K H p ys\/SqT X.K H p ys)/\∀l,H l=none->Q (.ref l) (upd H l (.lst ys))):=by
 intro pins s σ H xs us Q I r h;obtain⟨p,ys,rfl,hq,q⟩:=h;obtain⟨u,rfl,rx⟩:=u6 r;cases rx
 have fin:∀ (its:List Value),z4 ys its->ys.length<=sizeLine->∀ (h':Heap) (c':Nat),(∀b o',s.heap.get? b=some o'->h'.get? b=some o')->
   h'.get? s.heap.objs.size=some { cls:=.type "list",dict:=none,data:=.seq its.toArray c',slots:=#[] }->EP X pins σ Q (.ref s.heap.objs.size) { s with heap:=h' }:=fun its r' hz h' c' kp e=>
  ⟨.ref s.heap.objs.size,_,I.laid (t':=s.toks) kp (ag _) (show yy X.prog X.w _ h' _ (.lst ys) from ⟨hz,its,c',r',e⟩),rfl,q _ (I.hok.fresh (ag _))⟩
 rcases hq with hq | hq
 ·obtain⟨its,r',pl,hz⟩:=I.list hq;have hlen:=r'.length;obtain⟨o,ho,hc,n,hd⟩:=pl.isList;exact call_list_seq p (.inl rfl) ho hc hd (fun h' c' kp e=>fin its r' hz h' c' kp e) (by simp only[aq] <;> lia)
 ·obtain⟨its,r',pl,hz⟩:=I.tuple hq;have hlen:=r'.length;obtain⟨o,ho,hc,n,hd⟩:=pl;exact call_list_seq p (.inr rfl) ho hc hd (fun h' c' kp e=>fin its r' hz h' c' kp e) (by simp only[aq] <;> lia)
theorem zdj:zcy X (.type "tuple") (fun xs H Q=>∃p ys,xs=[.ref p]/\((SqL X.K H p ys/\∀l,H l=none->Q (.ref l) (upd H l (.tup ys)))\/(SqT X.K H p ys/\Q (.ref p) H))):=by
 intro pins s σ H xs us Q I r h;obtain⟨p,ys,rfl,h⟩:=h;obtain⟨u,rfl,rx⟩:=u6 r;cases rx;rcases h with ⟨hq,q⟩ | ⟨hq,q⟩
 ·obtain⟨its,r',pl,hz⟩:=I.list hq;have hlen:=r'.length;refine call_tuple_list pl.isList (fun h' kp=>?_) (by simp only[aq] <;> lia);have I1:Inv X pins σ H { s with heap:=h' }:=I.kept (t':=s.toks) kp
  have I2:Inv X pins σ (upd H h'.objs.size (.tup ys)) { s with heap:=h'.push { cls:=.type "tuple",data:=.seq its.toArray } }:=
   I1.laid (t':=s.toks) (fun b o e=>ai _ e) (ag _) (show yy X.prog X.w _ _ _ (.tup ys) from ⟨hz,its,r',u7.new _ _⟩)
  exact⟨.ref h'.objs.size,_,I2,rfl,q _ (I1.hok.fresh (ag _))⟩
 ·obtain⟨its,r',pl,hz⟩:=I.tuple hq;exact call_tuple_same pl ⟨.ref p,H,I,rfl,q⟩
def tyV (K:PySem.W.Frag)(T:String)(x:V)(H:Hp):Prop:=match x with
 | .str _=>T = "str"
 | .int _=>T = "int"
 | .ref p=>(T = "list" /\ ∃xs,SqL K H p xs)\/(T = "tuple" /\ ∃o,K.lookup p=some o/\o.cls = .type "tuple" /\ o.dict=none)\/
   (T = "dict" /\ ((∃kvs,H p=some (.dK kvs))\/∃kvs,H p=some (.dT kvs)))\/(T = "set" /\ ∃S n,H p=some (.set S n))
 | _=>False
theorem zrk {pins:List (Addr×Obj)}{σ:St}{H:Hp}{s:Shared}{T:String}{x:V}{v:Value}(I:Inv X pins σ H s)(r:yN x v)(ty:tyV X.K T x H) :
  s.TypeIs v T/\∀a,v = .ref a->∃ob,s.heap.get? a=some ob/\ob.dict=none:=by
 cases x with
 | str z=>
  obtain⟨t,rfl⟩:=r;cases (show T = "str" from ty);exact⟨typeIs_str s z t,fun _ e=>nomatch e⟩
 | int i=>
  obtain⟨t,rfl⟩:=r;cases (show T = "int" from ty);exact⟨ff s i t,fun _ e=>nomatch e⟩
 | ref p=>
  cases r;rcases ty with ⟨rfl,xs,hq⟩ | ⟨rfl,o,hk,hc,hd⟩ | ⟨rfl,hk⟩ | ⟨rfl,S,n,hk⟩
  ·obtain⟨its,_,pl,_⟩:=I.list hq;refine⟨pl.isList.typeIs,fun a e=>?_⟩;cases e;obtain⟨o,n,e,c,hd,_⟩:=pl;exact⟨o,e,hd⟩
  ·refine⟨⟨o,I.kIn p o hk,hc⟩,fun a e=>?_⟩;cases e;exact⟨o,I.kIn _ o hk,hd⟩
  ·have z:∃o,s.heap.get? p=some o/\o.ExactDict:=by
    rcases hk with ⟨kvs,hk⟩ | ⟨kvs,hk⟩
    ·obtain⟨_,_,_,_,o,_,_,e,ex,_⟩:=I.hok p _ hk;exact⟨o,e,ex⟩
    ·obtain⟨_,_,_,_,o,_,_,e,ex,_⟩:=I.hok p _ hk;exact⟨o,e,ex⟩
   obtain⟨o,e,ex⟩:=z;refine⟨⟨o,e,ex.1⟩,fun a e2=>?_⟩;cases e2;exact⟨o,e,ex.2.1⟩
  ·obtain⟨o,_,_,_,e,ex,_⟩:=I.hok p _ hk;refine⟨⟨o,e,ex.1⟩,fun a e2=>?_⟩;cases e2;exact⟨o,e,ex.2.1⟩
 | _=>exact False.elim ty
def tBM (K:PySem.W.Frag)(T:String)(r:V->List V->Hp->VK->Prop)(to:TE)(t:TA):TE:=fun σ H Q=>to σ H fun x H1=>tyV K T x H1/\t σ H1 fun xs H2=>r x xs H2 Q
variable {o e:Expr}{es:List Expr}{to:TE}{t:TA}{name:Str}{apos cpos:Pos}{T id:String}{r:V->List V->Hp->VK->Prop}
theorem zp9 (pa:PlainAttrs T)(slot:Slot T name id)(hty:typeOf (.builtin id)=pure (.type "method_descriptor"))(hm:MtR X id r)(ho:PE X o to)(ha:PA X (e::es) t)
  (hbase:attributeBase o name X.env (eval o X.env)=eval o X.env:=by rfl)
  (hfew:((backTo cpos (starEach (e::es) X.env)).all (fun x=>!x.1)&&(backToKw cpos (keywordEach [] X.env)).all (fun x=>x.1.isSome)
   && decide ((e::es).length+([]:List Keyword).length+(if ([]:List Keyword).isEmpty then 0 else 1)<30))=true:=by rfl)
  (hline:(apos.endLine==cpos.line)=true:=by rfl) (hs:starEach (e::es) X.env=(false,eval e X.env)::starEach es X.env:=by rfl) (hplain:(backTo cpos (starEach es X.env)).any (·.1)=false:=by rfl) :
  PE X (.Call (.Attribute o name apos) (e::es) [] cpos) (tBM X.K T r to t):=by
 intro pins s σ H Q I h;refine wpAny_Call_method_late hbase hfew hline rfl (thn (ho pins s σ H _ I h)  ?_);rintro v s1 ⟨x,H1,I1,r1,ty,q1⟩;obtain⟨h1,h2⟩:=zrk I1 r1 ty;refine⟨T,id,pa,slot,hty,h1,h2,?_⟩;have hA:=ha cpos pins s1 σ H1 _ I1 q1;rw[hs] at hA ⊢;refine Calls.callWith_builtin (by show (false || (backTo cpos (starEach es X.env)).any (·.1))=false;rw[hplain] <;> rfl) (Calls.evalArgs_plain ?_);exact thn hA <| by rintro us s2 ⟨vs,H2,I2,r2,q2⟩;exact hm pins s2 σ H2 x vs v us Q I2 r1 r2 q2
end
def MtM (X:Cx)(id:String)(r:V->List V->Hp->VK->Prop):Prop:=
 ∀ (pins:List (Addr×Obj)) (s:Shared) (σ:St) (H:Hp) (x:V) (xs:List V) (v:Value) (us:List Value) (Q:VK),Inv X pins σ H s->yN x v->z4 xs us->r x xs H Q->
  wpAny (model X.prog X.w) X.A (call (.builtin id) (v::us)) (EP X pins σ Q) X.xe s
theorem z4.one:∀ {x:V} {us:List Value},z4 [x] us->∃u,us=[u]/\yN x u
 | _,_,.cons r .nil=>⟨_,rfl,r⟩
theorem z4.eraseIdx:∀ {xs:List V} {us:List Value} (i:Nat),z4 xs us->z4 (xs.eraseIdx i) (us.eraseIdx i)
 | _,_,_,.nil=>.nil
 | _,_,0,.cons _ t=>t
 | _,_,i+1,.cons r t=>.cons r (z4.eraseIdx i t)
theorem z4.rep {xs:List V}{us:List Value}(h:z4 xs us):∀k:Nat,z4 (List.replicate k xs).flatten (List.replicate k us).flatten
 | 0=>.nil
 | k+1=>by rw[bZ,bZ,cJ,cJ];exact z4.append h (z4.rep h k)
theorem zex {α:Type}:∀ (l:List α) (i:Nat),(l.eraseIdx i).length<=l.length
 | [],_=>ag _
 | _::_,0=>ef _
 | _::r,i+1=>Nat.succ_le_succ (zex r i)
theorem zel (its:List Value):∀ (k:Nat) (acc:List Value),
  List.foldl (fun x1 x2=>x1++x2) acc.toArray (List.replicate k its.toArray)=(acc++(List.replicate k its).flatten).toArray
 | 0,acc=>by simp
 | k+1,acc=>by
  have e:acc.toArray++its.toArray=(acc++its).toArray:=by simp
  have e2:(acc++its)++(List.replicate k its).flatten=acc++(List.replicate (k+1) its).flatten:=by rw[bZ,cJ,bO]
  rw[<- e2,<- zel its k (acc++its),<- e,bZ,List.foldl_cons]
section
variable {X:Cx}{pins:List (Addr×Obj)}{σ:St}{H:Hp}{s:Shared}{l b:Addr}{xs ys zs:List V}
theorem Inv.lset {its its':List Value}{n:Nat}{f:Array Value->Array Value}{t':Nat}(I:Inv X pins σ H s)(hH:H l=some (.lst xs))
  (e:s.heap.get? l=some { cls:=.type "list",data:=.seq its.toArray n }) (hf:f its.toArray=its'.toArray) (hv:z4 ys its') (hz:ys.length<=sizeLine) :
  Inv X pins σ (upd H l (.lst ys)) { s with heap:=s.heap.update l (Obj.mapSeq f),toks:=t' }:=by
 have q:=PySem.IsL.update e f;rw[hf] at q;refine I.write (x:=l) (e:=l) (by rw[hH];exact trivial) (.inl rfl) (fun b' u hb hu=>(Heap.get?_update_other s.heap (Obj.mapSeq f) (Ne.symm hb)).trans hu) ⟨_,q⟩ ?_;exact⟨hz,its',_,hv,q⟩
theorem Inv.lnew {its:List Value}{t':Nat}(I:Inv X pins σ H s)(hv:z4 ys its)(hz:ys.length<=sizeLine) :
  Inv X pins σ (upd H s.heap.objs.size (.lst ys)) { s with heap:=s.heap.push { cls:=.type "list",data:=.seq its.toArray },toks:=t' }:=
 I.laid (fun _ _ q=>ai _ q) (ag _) ⟨hz,its,0,hv,aP _ rfl⟩
theorem Inv.fresh (I:Inv X pins σ H s):H s.heap.objs.size=none:=I.hok.fresh (ag _)
theorem Inv.lstM (I:Inv X pins σ H s)(hH:H l=some (.lst xs)):xs.length<=sizeLine/\∃ (its:List Value) (n:Nat),z4 xs its/\xs.length=its.length/\s.heap.get? l=some { cls:=.type "list",data:=.seq its.toArray n }:=by obtain⟨z,its,n,r,e⟩:=I.hok l _ hH;exact⟨z,its,n,r,r.length,e⟩
theorem zgp {n:Nat}(h:n<=sizeLine):Builtin.List.listTooLong n=false:=by unfold Builtin.List.listTooLong;exact aN (by lia)
end
section
variable {X:Cx}
def zfL:V->List V->Hp->VK->Prop:=fun x vs H Q=>∃l xs y,x = .ref l/\vs=[y]/\H l=some (.lst xs)/\xs.length<sizeLine/\Q .non (upd H l (.lst (xs++[y])))
theorem zb9:MtM X "list.append" zfL:=by intro pins s σ H x vs v us Q I rx rv h;obtain⟨l,xs,y,rfl,rfl,hH,hz,q⟩:=h;cases rx;obtain⟨u,rfl,ru⟩:=rv.one;obtain⟨z,its,n,r,hl,e⟩:=I.lstM hH;refine dX F.slot_list_append ⟨_,e,rfl⟩ F.entry_list_append (F.args_list_append_2 _ _) (PySem.list_append l its.toArray n u (by rw[aq];lia)) ⟨e,?_⟩;refine⟨.non,_,I.lset (its':=its++[u]) hH e (by simp) (r.append (.cons ru .nil)) ?_,rfl,q⟩;rw[af,List.length_singleton];lia
def zn0:V->List V->Hp->VK->Prop:=fun x vs H Q=>∃l b xs zs,x = .ref l/\vs=[.ref b]/\H l=some (.lst xs)/\H b=some (.lst zs)/\xs.length+zs.length<=sizeLine/\Q .non (upd H l (.lst (xs++zs)))
theorem ziN:MtM X "list.extend" zn0:=by
 intro pins s σ H x vs v us Q I rx rv h;obtain⟨l,b,xs,zs,rfl,rfl,hH,hB,hz,q⟩:=h;cases rx;obtain⟨u,rfl,ru⟩:=rv.one;cases ru;obtain⟨z,its,n,r,hl,e⟩:=I.lstM hH;obtain⟨z2,its2,n2,r2,hl2,e2⟩:=I.lstM hB;have hsz:its.toArray.size+its2.toArray.size<=sizeLine:=by rw[aq,aq];lia
 have hlong:¬ (!its.toArray.isEmpty&&Builtin.List.listTooLong (its.toArray.size+its2.toArray.size))=true:=by rw[zgp hsz,eK];exact aA
 refine dX F.slot_list_extend ⟨_,e,rfl⟩ F.entry_list_extend (F.args_list_extend_2 _ _)
  (AutoSeq1.list_extend_list_list_0 l its.toArray n b its2.toArray n2 hlong (by rw[aq];lia) (by lia)) ⟨e,e2,?_⟩
 refine⟨.non,_,I.lset (its':=its++its2) hH e (by simp) (r.append r2) ?_,rfl,q⟩;rw[af];lia
def zlU:V->List V->Hp->VK->Prop:=fun x vs H Q=>∃l xs i k y,x = .ref l/\vs=[.int i]/\H l=some (.lst xs)/\-(2 ^ 63)<=i/\i<2 ^ 63/\seqIndex? i xs.length=some k/\xs[k]?=some y/\Q y (upd H l (.lst (xs.eraseIdx k)))
theorem zgm:MtM X "list.pop" zlU:=by
 intro pins s σ H x vs v us Q I rx rv h;obtain⟨l,xs,i,k,y,rfl,rfl,hH,h1,h2,hk,hy,q⟩:=h;cases rx;obtain⟨u,rfl,ru⟩:=rv.one;obtain⟨t,rfl⟩:=ru;obtain⟨z,its,n,r,hl,e⟩:=I.lstM hH;obtain⟨w,hw,rw'⟩:=r.get hy
 refine dX F.slot_list_pop ⟨_,e,rfl⟩ F.entry_list_pop (F.args_list_pop_2 _ _)
  (MeetsSeq.list_pop_at l its.toArray n i t k w (fitsIndex_both h1 h2) (by rw[aq,<- hl];exact hk) (by rw[<- cZ];exact hw) (by rw[aq];lia)) ⟨e,?_⟩
 refine⟨y,_,I.lset (its':=its.eraseIdx k) hH e ?_ (r.eraseIdx k) ?_,rw',q⟩
 ·show its.toArray.eraseIdxIfInBounds k=(its.eraseIdx k).toArray;rw[List.eraseIdxIfInBounds_toArray]
 ·have:=zex xs k;lia
def rCat:R2:=fun x y H Q=>∃l b xs zs,x = .ref l/\y = .ref b/\H l=some (.lst xs)/\H b=some (.lst zs)/\xs.length+zs.length<=sizeLine/\∀p,H p=none->Q (.ref p) (upd H p (.lst (xs++zs)))
theorem zpW:OpR X (binaryOp .Add) rCat:=by
 intro pins s σ H x y v u Q I rx ry h;obtain⟨l,b,xs,zs,rfl,rfl,hH,hB,hz,q⟩:=h;cases rx;cases ry;obtain⟨z,its,n,r,hl,e⟩:=I.lstM hH;obtain⟨z2,its2,n2,r2,hl2,e2⟩:=I.lstM hB;refine PySem.P.add_list e e2 ?_ (by rw[aq,aq];lia);have ea:its.toArray++its2.toArray=(its++its2).toArray:=by simp
 rw[ea];exact⟨.ref _,_,I.lnew (t':=s.toks) (r.append r2) (by rw[af];lia),rfl,q _ I.fresh⟩
def zrY:R2:=fun x y H Q=>∃l k xs,x = .ref l/\y = .int k/\H l=some (.lst xs)/\-(2 ^ 63)<=k/\k<2 ^ 63/\xs.length * k.toNat<=sizeLine/\
 ∀p,H p=none->Q (.ref p) (upd H p (.lst (List.replicate k.toNat xs).flatten))
theorem zmV {α:Type}(xs:List α)(k:Nat):(List.replicate k xs).flatten.length=k * xs.length:=by
 induction k with
 | zero=>simp
 | succ k ih=>rw[bZ,cJ,af,ih,eE,eF]
theorem zp2:OpR X (binaryOp .Mult) zrY:=by
 intro pins s σ H x y v u Q I rx ry h;obtain⟨l,k,xs,rfl,rfl,hH,h1,h2,hz,q⟩:=h;cases rx;obtain⟨t,rfl⟩:=ry;obtain⟨z,its,n,r,hl,e⟩:=I.lstM hH;have hlen:its.toArray.size * k.toNat<=sizeLine:=by rw[aq,<- hl];exact hz
 have hcap:¬ its.toArray.size * k.toNat > (2 ^ 63 - 1) / 8:=by
  have:(sizeLine:Nat)<=(2 ^ 63 - 1) / 8:=by decide
  lia
 have hfit:¬ (!Builtin.List.listFitsIndex k)=true:=by rw[fitsIndex_both h1 h2];exact aA
 have hlong:¬ Builtin.List.listTooLong (its.toArray.size * k.toNat)=true:=by rw[zgp hlen];exact aA
 have hnew:List.foldl (fun x1 x2=>x1++x2) #[] (List.replicate (if its.toArray.isEmpty=true then 0 else k.toNat) its.toArray)=(List.replicate k.toNat its).flatten.toArray:=by
  have f0:∀m:Nat,List.foldl (fun x1 x2=>x1++x2) #[] (List.replicate m its.toArray)=(List.replicate m its).flatten.toArray:=fun m=>by have:=zel its m [];rw[eh] at this;exact this
  rw[f0]
  cases its with
  | nil=>simp
  | cons a r'=>rw[if_neg (by simp)]
 refine wpAny_binaryOp_repeat_ref (T := "list") (U := "int") (by decide) ⟨_,e,rfl⟩ (fun s'=>ff s' k t) noFill_list_mul F.fills_int_mul F.slot_int_rmul repeat_list F.slot_int_index.lookup
  (dX F.slot_int_rmul (ff s k t) F.entry_int_rmul (F.args_int_rmul_2 _ _) (int___rmul___int_list k t l its.toArray n)
   ⟨e,rfl,⟨_,e,rfl⟩,dX F.slot_list_mul ⟨_,e,rfl⟩ F.entry_list_mul (F.args_list_mul_2 _ _) (AutoListH.list___mul___list_int_3 l its.toArray n k t hfit hcap hlong) ⟨e,?_⟩⟩)
 rw[hnew];exact⟨.ref _,_,I.lnew (t':=s.toks) (r.rep k.toNat) (by rw[zmV,Nat.mul_comm];exact hz),rfl,q _ I.fresh⟩
end
section
variable {prog:Program}{w:World}{A:Around}{E:Value->Shared->Prop}{s:Shared}
end
section
variable {X:Cx}
end
end L2
namespace Att
open PySem PySem.W PySem.Calls PyProof.Rows
theorem zb0 {P:Params}{h:Heap}:∀ (ns:List Int) (vs:List Value),WellAll P h vs (ns.map WData.int)->IntsAre vs ns:=by
 intro ns
 induction ns with
 | nil=>
  intro vs w;rw[List.map_nil] at w;cases w;exact .nil
 | cons n ns ih=>
  intro vs w;rw[List.map_cons] at w
  cases w with
  | cons a b=>
   cases a;exact .cons _ _ (ih _ b)
theorem zjx {l:OpenLaw}{n:Nat}(hn:l.most=some n){P:Params}{h:Heap}{args:List WData}{vals:List Value}
  (hpre:l.row.toRowW.claim.pre args=true) (hwl:WellAll P h vals args) :
  ∃a vs ns,vals=[Value.ref a]/\args=[WData.list (ns.map WData.int)]/\h.get? a=some { cls:=.type "list",data:=.seq vs.toArray }/\IntsAre vs ns/\ns.length<=n:=by
 have hsh:WShape.hasAll [] args [.list .int]=true:=(pre_splitW hpre).1;have hc:l.pre.holds [] { args:=args }=true:=(pre_splitW hpre).2;obtain⟨d,r,rfl,h1,h2⟩:=hasAllW_cons hsh;obtain rfl:=hasAllW_nil h2;obtain⟨xs,rfl,h3⟩:=hasW_list h1;obtain⟨ns,rfl⟩:=items_int h3
 have hlen:ns.length<=n:=by
  unfold OpenLaw.pre at hc
  have h4:(WTm.not (.lt (.lit (.int (n:Int))) (.len (.arg 0)))).holds [] { args:=[.list (ns.map .int)] }=true:=by have h4:=(holds_andW hc).1;rw[hn] at h4;exact h4
  have h5:=condW_of h4 (w_not (w_lt w_lit (w_len_list (w_arg rfl))));rw[List.length_map] at h5;refine Nat.le_of_not_lt fun q=>?_;have q':(n:Int)<((ns.length:Nat):Int):=by lia
  first
   | (rw[decide_eq_true q'] at h5;exact absurd h5 (by decide))
   | (simp at h5;lia)
 cases hwl with
 | cons w1 w2=>
  cases w2
  cases w1 with
  | list ho hall=>exact⟨_,_,ns,rfl,rfl,ho,zb0 ns _ hall,hlen⟩
theorem zjc (l:OpenLaw)(args:List WData):l.row.toRowW.claim.post args (.bool true) args=true:=
 postW_of (r:=l.row.toRowW) (X:=(true==true))
  (show WShape.has [] (.bool true) .bool=true by first | rfl | decide | simp[WShape.has,WShape.arms,WShape.armsAll])
  (show (WTm.eq .res (.lit (.bool true))).value [] { args:=args,res:=some (.bool true),after:=args }=some (.bool (true==true)) from w_eq_bool (w_res rfl) w_lit) rfl
theorem attach_call {l:OpenLaw}{n:Nat}{q:Program}{loose:List Str}{XP:(Str->Option Value)->Heap->Prop}{YP:World->Heap->Prop}{d:DefRec}
  (hn:l.most=some n) (hdf:d.params.defaults=[])
  (call:∀ (w:World) (s₀ s₁:Shared) (mg mb:Str->Option Value) (fa:Addr) (o:Obj) (pm cd doc:Value) (a:Addr) (vs:List Value) (ns:List Int),
   Ground q loose [] XP w s₀ mg mb s₁.heap->YP w s₁.heap->
   s₁.heap.get? fa=some o->o.data = .func (docDef d.name d.params d.body d.scope pm cd doc)->s₁.heap.CodeRec cd d.name->mg d.name=some (.ref fa)->
   s₁.heap.get? a=some { cls:=.type "list",data:=.seq vs.toArray }->IntsAre vs ns->ns.length<=n->s₁.gens = #[]->
   codeAny (model l.prog w) callerA (.call (.ref fa) ⟨[.ref a],[]⟩) (fun r s'=>r = .ok (.ret (.bool true))/\OldK s₁.heap s'.heap/\s'.os=s₁.os/\AllBare s'.gens) s₁) :
  WalkO q loose XP YP l.row.toRowW d [] (fun f vs=>PySem.call f vs):=by
 intro w s₀ s₁ mg mb G Y fa o pm cd doc dV kV ho hd hcd hD hmg hg args vals as hpre hlay hrd hwl hlo;obtain rfl:dV = .none:=Dflts.none hD hdf;obtain rfl:kV = .none:=Dflts.noKw hD;obtain⟨a,vs,ns,rfl,rfl,hobj,hints,hlen⟩:=zjx hn hpre hwl;refine enter_call (codeAny_mono (call w s₀ s₁ mg mb fa o pm cd doc a vs ns G Y ho (fd_plain hd) hcd hmg hobj hints hlen hg) fun r s' hq=>?_);obtain⟨rfl,h2,h3,h4⟩:=hq;exact⟨.inl ⟨.bool true,.bool true,[],rfl,fun _=>rfl,.bool true,zjc l _,fun _=>⟨List.Pairwise.nil,fun _ hm=>(nomatch hm)⟩⟩,h2,h3,h4⟩
section
variable {prog:Program}{w:World}{A:Around}{E:Value->Shared->Prop}{s:Shared}{K:Frag}
def ledger (h:Heap)(L d:Addr):List (Addr×Obj):=(List.range h.objs.size).filterMap fun a=>if a=L\/a=d then none else (h.get? a).map fun o=>(a,o)
end
end Att
namespace L2
open PySem PySem.Spec PyProof.Rows
theorem zeZ:∀ {vs:List Value} {ns:List Int},IntsAre vs ns->z4 (ns.map V.int) vs
 | _,_,.nil=>.nil
 | _,_,.cons n t h=>.cons ⟨t,rfl⟩ (zeZ h)
def zr5 (H:Hp):Prop:=∀b,H b=none\/∃o xs,H b=some (.frz o (.lst xs))
theorem zkz {P:Program}{w:World}{K:PySem.W.Frag}{mg mb:Str->Option Value}{CX:CXT}{k:Nat}{fa a:Addr}{fd:FuncData}{x:Str}{sp:Sp}{s₁:Shared}{vs:List Value}{ns:List Int}
  (KX:K.In s₁.heap) (hns:s₁.heap.Ns mainGlobals mg) (hb:s₁.heap.Ns builtinsNs mb) (hbb:∀x:Str,x ≠ "__name__" -> mb x=bootBuiltins x) (hlim:s₁.heap.NoLimit) (hg:s₁.gens = #[])
  (ha:s₁.heap.get? a=some { cls:=.type "list",data:=.seq vs.toArray }) (hi:IntsAre vs ns) (hl:ns.length<=sizeLine) (hr:Room k callerA)
  (F:∀base:Heap,K.In base->base.Ns mainGlobals mg->FnOk P w K mg base CX k fa fd [x] sp) (hbind:∀ (s:Shared) (u:Value),BindsTo s fd ⟨[u],[]⟩ [(x,u)])
  (hsp:∀H:Hp,zr5 H->SqL K H a (ns.map V.int)->sp [.ref a] H (fun v _=>v = .bl true) fun _ _ _=>False)
  (hCX:∀H e s',CX [] H s₁ (fun _ _ _=>False) e s'->False) :
  codeAny (model P w) callerA (.call (.ref fa) ⟨[.ref a],[]⟩) (fun r s'=>r = .ok (.ret (.bool true))/\OldK s₁.heap s'.heap/\s'.os=s₁.os/\AllBare s'.gens) s₁:=by
 have rv:=zeZ hi;have lenV:=hi.length
 have core:∀H:Hp,zr5 H->SqL K H a (ns.map V.int)->HOk P w H s₁.heap->(∀b,H b≠none->b=a)->(H a≠none->K.lookup a=none)->
   codeAny (model P w) callerA (.call (.ref fa) ⟨[.ref a],[]⟩) (fun r s'=>r = .ok (.ret (.bool true))/\OldK s₁.heap s'.heap/\s'.os=s₁.os/\AllBare s'.gens) s₁:=by
  intro H hO hS hok hA hK;have base_of:∀ {b:Addr} {o:Obj},s₁.heap.get? b=some o->H b=none->(zkk s₁.heap H).get? b=some o:=fun e n=>zkl e n
  have noA:∀ {b:Addr} {o:Obj} {es:Array DictEntry} {ep:Nat},s₁.heap.get? b=some o->o.data = .dict es ep->H b=none:=fun {b o es ep} e d=>by
   cases q:H b with
   | none=>rfl
   | some u=>
    have e':b=a:=hA b (by rw[q];simp);subst e';rw[ha] at e;cases e;have d':Data.seq vs.toArray _=Data.dict es ep:=d;cases d'
  have nsK:∀ {b:Addr} {m:Str->Option Value},s₁.heap.Ns b m->(zkk s₁.heap H).Ns b m:=fun {b m} ⟨o,es,ep,e,d,r⟩=>⟨o,es,ep,base_of e (noA e d),d,r⟩
  have hKb:K.In (zkk s₁.heap H):=fun b o e=>base_of (KX b o e) (by
   cases q:H b with
   | none=>rfl
   | some u=>
    have e':b=a:=hA b (by rw[q];simp);subst e';rw[hK (by rw[q];simp)] at e;cases e)
  have hM:Mod K mg (zkk s₁.heap H):=⟨hKb,nsK hns,⟨mb,nsK hb,hbb⟩,let ⟨mc,h1,h2⟩:=hlim;⟨mc,nsK h1,h2⟩⟩;have e0:Env0 P w K mg (zkk s₁.heap H) callerA [] s₁ H:=⟨rfl,hM,fun b o e=>znc e,Nat.le_of_eq (zh3 _ _),trivial,fun b hb=>absurd (show b∈([]:List Addr) from hb) (by simp),hok,.of_eq hg⟩;refine codeAny_mono ((F _ hKb (nsK hns)).run callerA [] s₁ H ⟨[.ref a],[]⟩ [.ref a] [.ref a] _ _ hr e0 (hbind s₁ (.ref a)) (.cons rfl .nil) (hsp H hO hS)) fun r s' h=>?_
  cases r with
  | error e=>exact (hCX H e s' h).elim
  | ok fl=>
   cases fl with
   | next=>exact False.elim h
   | brk=>exact False.elim h
   | cont=>exact False.elim h
   | ret u=>
    obtain⟨v,H',os,bare,un,hok',r',q⟩:=h;have q':v = .bl true:=q;subst q';obtain rfl:u=Value.bool true:=r';refine⟨rfl,OldK.of_keep fun b o e=>?_,os,bare⟩
    cases q:H b with
    | none=>exact un.keep b o e q (by intro z;exact absurd (show b∈([]:List Addr) from z) (by simp)) (by simp)
    | some u=>
     rcases hO b with z | ⟨ob,xs,z⟩
     ·rw[q] at z;cases z
     ·have z2:=un.frzs b ob _ z;obtain⟨e1,_⟩:=hok b _ z;obtain⟨e2,_⟩:=hok' b _ z2;rw[e] at e1;cases e1;exact e2
 cases hk:K.lookup a with
 | some o=>
  have e:=KX a o hk;rw[ha] at e;cases e;refine core (fun _=>none) (fun _=>.inl rfl) (.inr ⟨_,vs.toArray,_,hk,rfl,rfl,rfl,by rw[aq,lenV];exact hl,by simpa using rv⟩) (fun b u z=>by have z':(none:Option HO)=some u:=z;cases z') (fun b z=>absurd rfl z) fun z=>absurd rfl z
 | none=>
  refine core (fun b=>if b=a then some (.frz { cls:=.type "list",data:=.seq vs.toArray } (.lst (ns.map V.int))) else none) (fun b=>?_) (.inl (.inr ⟨{ cls:=.type "list",data:=.seq vs.toArray },if_pos rfl⟩)) (fun b u z=>?_) (fun b z=>?_) fun _=>hk
  ·by_cases hb:b=a
   ·exact .inr ⟨_,_,if_pos hb⟩
   ·exact .inl (if_neg hb)
  ·by_cases hb:b=a
   ·have z':=(if_pos hb).symm.trans z;cases z';subst hb;exact⟨ha,by rw[aa];exact hl,vs,_,rv,ha⟩
   ·have z':=(if_neg hb).symm.trans z;cases z'
  ·by_cases hb:b=a
   ·exact hb
   ·exact absurd (if_neg hb) z
theorem zox {l:PySem.W.OpenLaw}{n k:Nat}{q:Program}{loose:List Str}{XP:(Str->Option Value)->Heap->Prop}{YP:World->Heap->Prop}{d:DefRec}{K:Params->PySem.W.Frag}{CX:World->CXT}{sp:World->Sp}{x:Str}
  (hn:l.most=some n) (hn2:n<=sizeLine) (hdf:d.params.defaults=[]) (hr:Room k callerA)
  (hY:∀ (w:World) (h:Heap),YP w h->(K w.params).In h)
  (F:∀ (w:World) (mg:Str->Option Value) (fa:Addr) (h:Heap),(K w.params).In h->h.Ns mainGlobals mg->mg d.name=some (.ref fa)->
   ∃fd:FuncData,(∀ (s:Shared) (u:Value),BindsTo s fd ⟨[u],[]⟩ [(x,u)])/\
    ∀base:Heap,(K w.params).In base->base.Ns mainGlobals mg->FnOk l.prog w (K w.params) mg base (CX w) k fa fd [x] (sp w))
  (hsp:∀ (w:World) (H:Hp) (a:Addr) (ns:List Int),ns.length<=n->zr5 H->SqL (K w.params) H a (ns.map V.int)->sp w [.ref a] H (fun v _=>v = .bl true) fun _ _ _=>False)
  (hCX:∀ (w:World) (H:Hp) (s:Shared) (e:Value) (s':Shared),CX w [] H s (fun _ _ _=>False) e s'->False) :
  PySem.W.WalkO q loose XP YP l.row.toRowW d [] (fun f vs=>PySem.call f vs):=by
 refine Att.attach_call hn hdf fun w s₀ s₁ mg mb fa o pm cd doc a vs ns G Y ho hd hcd hmg hobj hints hlen hg=>?_;have KX:=hY w _ Y;obtain⟨fd,hb,hF⟩:=F w mg fa _ KX G.T.g hmg;exact zkz KX G.T.g G.T.b G.T.builtins G.T.nolimit hg hobj hints (ax hlen hn2) hr hF hb (fun H hO hS=>hsp w H a ns hlen hO hS) fun H e s'=>hCX w H s₁ e s'
def zaf (s:Stmt):Arguments:=match s with
 | .FunctionDef _ a _ _ _ _ _ _ _ _=>a
 | _=>{ posonlyargs:=[],args:=[],vararg:=none,kwonlyargs:=[],kw_defaults:=[],kwarg:=none,defaults:=[] }
def yj (s:Stmt):List Stmt:=match s with
 | .FunctionDef _ _ b _ _ _ _ _ _ _=>b
 | _=>[]
def zf (s:Stmt):Scope:=match s with
 | .FunctionDef _ _ _ _ _ _ sc _ _ _=>sc
 | _=>{ kind:=.function,names:=[],isGenerator:=false,isCoroutine:=false }
abbrev CX0:CXT:=fun _ _ _ _ _ _=>False
abbrev E0:XK:=fun _ _ _=>False
theorem zs9 {X:Cx}:zhe CX0 X E0:=fun _ _ _ _ _ _ _ h=>h.elim
structure Fun (K:PySem.W.Frag)(x qual:Str)(st:Stmt)(f:Addr)(fd:FuncData):Prop where
 ex:∃ (oc:Value) (od:Option Addr) (kV doc pm:Value) (an:Option Addr) (cdv ct:Value) (osl:Array (Option Value)),
  fd=PySem.W.fnOf x qual (zaf st) (yj st) (zf st) .none kV doc pm an cdv ct/\K.lookup f=some ⟨oc,od,.func fd,osl⟩/\PySem.W.codeIn K cdv qual=true
 kp:PySem.W.keepIn K (.ref f)=true
section
variable {P:Program}{w:World}{K:PySem.W.Frag}{mg:Str->Option Value}{base:Heap}
theorem Fun.ok {x qual:Str}{st:Stmt}{f:Addr}{fd:FuncData}{N ps:List Str}{k:Nat}{sp:Sp}(F:Fun K x qual st f fd)(S:FnScope N ps (zf st))(len:∀vs H Q E,sp vs H Q E->vs.length=ps.length)
  (hbody:∀ (cdv:Value) (A:Around) (outer:List Env) (s:Shared) (H:Hp) (vs:List V) (Q:VK) (E:XK),Room k (A.deeper (envOfC qual (zf st) s.heap.objs.size f cdv))->sp vs H Q E->
   ∃t,PSs (zdl CX0 P w K mg base N qual (zf st) f cdv A outer s H E).nox (yj st) t/\t { nx:=fun _ H'=>Q .non H',rt:=Q } (xf N vs) H):FnOk P w K mg base CX0 (k+1) f fd ps sp:=by
 obtain⟨oc,od,kV,doc,pm,an,cdv,ct,osl,rfl,lk,hcd⟩:=F.ex;refine zsy lk hcd S len fun A outer s H vs Q E hr hsp=>?_;obtain⟨t,h,q⟩:=hbody cdv A outer s H vs Q E hr hsp;exact⟨t,h.nox,q⟩
theorem Fun.binds {x qual:Str}{st:Stmt}{f:Addr}{fd:FuncData}{ps:List Str}(F:Fun K x qual st f fd)
  (h:∀ (kV doc pm:Value) (an:Option Addr) (cdv ct:Value) (us:List Value),us.length=ps.length->bindArgs (PySem.W.fnOf x qual (zaf st) (yj st) (zf st) .none kV doc pm an cdv ct) ⟨us,[]⟩=pure (ps.zip us)):zgI K fd ps []:=by
 obtain⟨oc,od,kV,doc,pm,an,cdv,ct,osl,rfl,lk,hcd⟩:=F.ex;exact .all (h kV doc pm an cdv ct)
theorem zlB {x qual:Str}{st:Stmt}{f:Addr}{oc:Value}{od an:Option Addr}{osl:Array (Option Value)}{kV doc pm cdv ct:Value}(l:K.lookup f=some ⟨oc,od,.func (PySem.W.fnOf x qual (zaf st) (yj st) (zf st) .none kV doc pm an cdv ct),osl⟩)
  (c:PySem.W.codeIn K cdv qual=true) (k:PySem.W.keepIn K (.ref f)=true):Fun K x qual st f (PySem.W.fnOf x qual (zaf st) (yj st) (zf st) .none kV doc pm an cdv ct):=⟨⟨oc,od,kV,doc,pm,an,cdv,ct,osl,rfl,l,c⟩,k⟩
end
theorem zbt {A:Around}{k:Nat}(hr:Room k A):A.units+1<cLine:=be (Nat.add_le_add_left (by decide:1<=64) _) hr.units
theorem zcs {n:Nat}(h:n<=1000):n<sizeLine:=be h (by decide)
section
variable {X:Cx}
theorem zho:zcy X (.builtin "len") (fun xs H Q=>∃a kvs,xs=[V.ref a]/\H a=some (.dK kvs)/\Q (.int kvs.length) H):=by intro pins s σ H xs us Q I r h;obtain⟨a,kvs,rfl,ha,q⟩:=h;obtain⟨u,rfl,ru⟩:=u6 r;cases ru;exact zsm I (.inl ha) fun t s' I'=>⟨.int kvs.length,H,I',⟨t,rfl⟩,q⟩
end
theorem iteF {A B:Prop}(h:B):if false=true then A else B:=by rw[if_neg aA];exact h
theorem zrM {c A B:Prop}[Decidable c](h1:c->A)(h2:¬ c->B):if c then A else B:=by
 by_cases h:c
 ·rw[if_pos h];exact h1 h
 ·rw[if_neg h];exact h2 h
def x4 (H H':Hp):Prop:=∀b o,H b=some o->H' b=some o
theorem x4.trans {H H1 H2:Hp}(a:x4 H H1)(b:x4 H1 H2):x4 H H2:=fun c o h=>b c o (a c o h)
theorem x4.free {H H':Hp}(e:x4 H H'){l:Addr}(h:H' l=Option.none):H l=Option.none:=by
 cases q:H l with
 | none=>rfl
 | some o=>
  rw[e l o q] at h;cases h
theorem x4.seq {K:PySem.W.Frag}{H H':Hp}{a:Addr}{xs:List V}(e:x4 H H')(h:SqL K H a xs):SqL K H' a xs:=by
 rcases h with (h | ⟨o,h⟩) | h
 ·exact .inl (.inl (e _ _ h))
 ·exact .inl (.inr ⟨o,e _ _ h⟩)
 ·exact .inr h
section
variable {κ:Type}[DecidableEq κ]
end
section
variable {X:Cx}
theorem ze9:zcy X (.builtin "isinstance") (fun xs H Q=>∃x T t b,xs=[x,.ty T]/\TyOf X.K H x t/\PySem.W.kitOne X.K t (.type T)=some b/\Q (.bl b) H):=by intro pins s σ H xs us Q I r h;obtain⟨x,T,t,b,rfl,ty,e,q⟩:=h;obtain⟨u,c,rfl,ru,rc⟩:=ztS r;cases rc;exact zid I ru ty e fun tk=>⟨.bl b,H,I.tok tk,rfl,q⟩
def zk2 (K:PySem.W.Frag):R2:=fun x y H Q=>∃a b xs ys,x = .ref a/\y = .ref b/\H a=some (.tup xs)/\H b=some (.tup ys)/\xs.length+ys.length<=sizeLine/\
 ∀p H',H' p=some (.tup (xs++ys))->x4 H H'->Q (.ref p) H'
theorem zne:OpR X (binaryOp .Add) (zk2 X.K):=by
 intro pins s σ H x y v u Q I rx ry h;obtain⟨a,b,xs,ys,rfl,rfl,ha,hb,hz,q⟩:=h;by_cases hx:xs=[]
 ·subst hx;cases rx;cases ry;obtain⟨its,r1,p1,_⟩:=I.tuple (.of ha);obtain⟨its2,r2,p2,_⟩:=I.tuple (.of hb);obtain⟨⟨cls,dd,data,sl⟩,ho,hc,n,hd⟩:=id p1;obtain⟨⟨cls2,dd2,data2,sl2⟩,ho2,hc2,n2,hd2⟩:=id p2;simp only at hc hd hc2 hd2;subst hc hd hc2 hd2;have hi:its=[]:=r1.nil_iff.mpr rfl
  exact concat_meets ⟨_,ho,rfl⟩ ⟨_,ho2,rfl⟩ eY seq_tuple_add dy dr (dl _ _)
   (tuple_addW0 a b its.toArray its2.toArray n n2 dd dd2 sl sl2 (by simp[hi])) ⟨ho,ho2,⟨.ref b,H,I,rfl,q b H hb fun _ _ e=>e⟩⟩
 ·refine znf pins s σ H _ _ v u Q I rx ry ⟨a,b,xs,ys,rfl,rfl,.of ha,.of hb,hx,hz,fun e=>?_,fun e p hp=>?_⟩
  ·subst e;exact q a H (by rw[cI];exact ha) fun _ _ e=>e
  ·exact q p _ zj fun c o e=>by rw[zh (zc e hp)];exact e
end
section
variable {X:Cx}
end
end L2
namespace HT
open PySem PySem.Spec PyProof.Rows
section
variable {prog:Program}{w:World}{A:Around}{E:Value->Shared->Prop}{s:Shared}
theorem getItem_tuple_whole {t sl:Addr}{items:Array Value}{vl vu:Value}{lo hi:Option Int}{Q:Value->Shared->Prop}(ht:IsTup s.heap t items)(hs:s.heap.IsSliceOf sl vl vu .none)(pl:IsPart vl lo)(pu:IsPart vu hi)
  (hw:sIx items.size 0 lo=0/\sIx items.size items.size hi=items.size) (h:Q (.ref t) s) (hsz:items.size<=sizeLine):wpAny (model prog w) A (getItem (.ref t) (.ref sl)) Q E s:=by
 obtain⟨os,hos,hcs,hds⟩:=id hs;have hTs:s.TypeIs (.ref sl) "slice" := ⟨os,hos,hcs⟩;unfold getItem;try with_reducible refine wpAny_holding ?_
 first | refine wpAny_bind (wpAny_pure ?_) | skip
 refine wpAny_bind (wpAny_sequenceKey ht.typeIs (by decide) ?_)
 refine wpAny_bind (wpAny_callSpecial?_slot (name:=Str.ofString "__getitem__") ht.typeIs PyProof.Rows.slot_tuple_getitem
  (wpAny_call_entry PyProof.Rows.slot_tuple_getitem ht.typeIs entry_tuple_getitem ?_ (args_tuple_getitem _ _)))
 show wpAny _ _ (Builtin.Tuple.tupleItemsOf (.ref t) >>= _) _ _ s;refine wpAny_bind (tupleItemsOf_ ht ?_);refine wpAny_bind (wpAny_typeOf hTs ?_);rw[if_pos (by decide)];refine wpAny_bind (uB hs pl pu ?_)
 have hyes:(((sIx items.size 0 lo:Nat):Int)==0&&(1:Int)==1&&(sIx items.size items.size hi - sIx items.size 0 lo)==items.size)=true:=by rw[hw.1,hw.2];simp
 show wpAny _ _ (if (((sIx items.size 0 lo:Nat):Int)==0&&(1:Int)==1&&(sIx items.size items.size hi - sIx items.size 0 lo)==items.size)=true then _ else _) _ _ s;rw[if_pos hyes];unfold Builtin.Tuple.tupleIsExact;refine wpAny_bind (wpAny_bind (wpAny_typeOf ht.typeIs ?_));refine wpAny_pure ?_;rw[if_pos (by decide)];refine wpAny_bind (wpAny_rule ?_);exact wpAny_pure ⟨_,rfl,wpAny_pure h⟩
end
end HT
namespace L2
open PySem PySem.Spec PyProof.Rows
section
variable {X:Cx}
def rSlA:V->Option Int->Option Int->Hp->VK->Prop:=fun x lo hi H Q=>∃a xs,x = .ref a/\H a=some (.tup xs)/\∀p H',H' p=some (.tup (zcB xs lo hi))->x4 H H'->Q (.ref p) H'
theorem zod:SlR X rSlA:=by
 intro pins s σ H x v vl vu lo hi sl Q I rx hs pl pu h;obtain⟨a,xs,rfl,ha,q⟩:=h;by_cases hw:HT.sIx xs.length 0 lo=0/\HT.sIx xs.length xs.length hi=xs.length
 ·cases rx;obtain⟨its,r,ht,hz⟩:=I.tuple (.of ha);have hlen:its.toArray.size=xs.length:=by rw[aq];exact r.length.symm
  refine⟨"tuple",_,PyProof.Rows.slot_tuple_getitem.lookup,ht.typeIs,?_⟩;refine HT.getItem_tuple_whole ht hs pl pu (by rw[hlen];exact hw) ⟨.ref a,H,I,rfl,q a H ?_ fun _ _ e=>e⟩ (by rw[hlen];exact hz);unfold zcB;rw[hw.1,hw.2,dC,eG,bn];exact ha
 ·exact zq7 pins s σ H _ v vl vu lo hi sl Q I rx hs pl pu ⟨a,xs,rfl,.of ha,hw,fun p hp=>q p _ zj fun c o e=>by rw[zh (zc e hp)];exact e⟩
inductive Dt where
 | non | bl (b:Bool) | int (i:Int) | str (x:Str) | tup (l:List Dt) | lst (l:List Dt) | dct
mutual
def Is (H:Hp):Dt->V->Prop
 | .non,v=>v = .non
 | .bl b,v=>v = .bl b
 | .int i,v=>v = .int i
 | .str x,v=>v = .str x
 | .tup l,v=>∃a xs,v = .ref a/\H a=some (.tup xs)/\IsL H l xs
 | .lst l,v=>∃a xs,v = .ref a/\H a=some (.lst xs)/\IsL H l xs
 | .dct,v=>∃a kvs,v = .ref a/\H a=some (.dK kvs)/\za9 kvs (Sum.inr "at" : Key)=none
def IsL (H:Hp):List Dt->List V->Prop
 | [],xs=>xs=[]
 | d::ds,xs=>∃x r,xs=x::r/\Is H d x/\IsL H ds r
end
def zx (H H':Hp):Prop:=∀b o,H b=some o->(∀kvs,o = .dK kvs->za9 kvs (Sum.inr "at" : Key)=none)->H' b=some o
theorem zx.refl (H:Hp):zx H H:=fun _ _ e _=>e
theorem zx.trans {H H1 H2:Hp}(a:zx H H1)(b:zx H1 H2):zx H H2:=fun c o e n=>b c o (a c o e n) n
theorem zx.same {H H1:Hp}(a:x4 H H1):zx H H1:=fun c o e _=>a c o e
theorem zx.upd {H:Hp}{p:Addr}{o:HO}(h:H p=none):zx H (upd H p o):=fun c u e _=>by rw[zh (zc e h)];exact e
theorem x4.upd {H:Hp}{p:Addr}{o:HO}(h:H p=none):x4 H (upd H p o):=fun c u e=>by rw[zh (zc e h)];exact e
theorem zx.tup {H H1:Hp}(a:zx H H1){p:Addr}{xs:List V}(h:H p=some (.tup xs)):H1 p=some (.tup xs):=a _ _ h fun _ e=>by cases e
theorem zx.lst {H H1:Hp}(a:zx H H1){p:Addr}{xs:List V}(h:H p=some (.lst xs)):H1 p=some (.lst xs):=a _ _ h fun _ e=>by cases e
mutual
theorem Is.stay {H H1:Hp}(a:zx H H1):∀ {d:Dt} {v:V},Is H d v->Is H1 d v
 | .non,_,h=>h
 | .bl _,_,h=>h
 | .int _,_,h=>h
 | .str _,_,h=>h
 | .tup l,v,h=>by obtain⟨p,xs,e,hp,hl⟩:=h;exact⟨p,xs,e,a.tup hp,IsL.stay a hl⟩
 | .lst l,v,h=>by obtain⟨p,xs,e,hp,hl⟩:=h;exact⟨p,xs,e,a.lst hp,IsL.stay a hl⟩
 | .dct,v,h=>by obtain⟨p,kvs,e,hp,hl⟩:=h;exact⟨p,kvs,e,a _ _ hp fun kvs' e=>by cases e;exact hl,hl⟩
theorem IsL.stay {H H1:Hp}(a:zx H H1):∀ {ds:List Dt} {xs:List V},IsL H ds xs->IsL H1 ds xs
 | [],_,h=>h
 | d::ds,xs,h=>by obtain⟨x,r,e,h1,h2⟩:=h;exact⟨x,r,e,Is.stay a h1,IsL.stay a h2⟩
end
theorem IsL.length {H:Hp}:∀ {ds:List Dt} {xs:List V},IsL H ds xs->xs.length=ds.length
 | [],_,h=>by cases h;rfl
 | d::ds,xs,h=>by obtain⟨x,r,rfl,_,h2⟩:=h;rw[aS,aS,IsL.length h2]
theorem IsL.getD {H:Hp}:∀ {ds:List Dt} {xs:List V} {i:Nat} {d:Dt},IsL H ds xs->ds[i]?=some d->∃x,xs[i]?=some x/\Is H d x
 | [],_,_,_,_,e=>by simp at e
 | d::ds,xs,i,x,h,e=>by
  obtain⟨y,r,rfl,h1,h2⟩:=h
  cases i with
  | zero=>simp at e;subst e;exact⟨y,rfl,h1⟩
  | succ i=>
   obtain⟨d',q1,q2⟩:=IsL.getD (i:=i) (d:=x) h2 (by simpa using e);exact⟨d',by simpa using q1,q2⟩
theorem IsL.append {H:Hp}:∀ {ds es:List Dt} {xs ys:List V},IsL H ds xs->IsL H es ys->IsL H (ds++es) (xs++ys)
 | [],_,_,_,h,k=>by cases h;exact k
 | d::ds,es,xs,ys,h,k=>by obtain⟨y,r,rfl,h1,h2⟩:=h;exact⟨y,r++ys,rfl,h1,IsL.append h2 k⟩
theorem IsL.take {H:Hp}:∀ {ds:List Dt} {xs:List V} (n:Nat),IsL H ds xs->IsL H (ds.take n) (xs.take n)
 | _,_,0,_=>by simp[IsL]
 | [],_,n+1,h=>by cases h;simp[IsL]
 | d::ds,xs,n+1,h=>by obtain⟨y,r,rfl,h1,h2⟩:=h;exact⟨y,r.take n,rfl,h1,IsL.take n h2⟩
theorem IsL.drop {H:Hp}:∀ {ds:List Dt} {xs:List V} (n:Nat),IsL H ds xs->IsL H (ds.drop n) (xs.drop n)
 | _,_,0,h=>h
 | [],_,n+1,h=>by cases h;simp[IsL]
 | d::ds,xs,n+1,h=>by obtain⟨y,r,rfl,h1,h2⟩:=h;exact IsL.drop n h2
theorem IsL.one {H:Hp}{d:Dt}{x:V}(h:Is H d x):IsL H [d] [x]:=⟨x,[],rfl,h,rfl⟩
theorem IsL.ints {H:Hp}:∀ {ns:List Int},IsL H (ns.map .int) (ns.map .int)
 | []=>rfl
 | n::ns=>⟨_,_,rfl,rfl,IsL.ints⟩
theorem IsL.of_ints {H:Hp}:∀ {ns:List Int} {xs:List V},IsL H (ns.map .int) xs->xs=ns.map .int
 | [],_,h=>h
 | n::ns,xs,h=>by obtain⟨y,r,rfl,h1,h2⟩:=h;cases h1;rw[IsL.of_ints h2];rfl
def Dt.ty:Dt->String
 | .non => "NoneType" | .bl _ => "bool" | .int _ => "int" | .str _ => "str" | .tup _ => "tuple" | .lst _ => "list" | .dct => "dict"
theorem Is.ty {K:PySem.W.Frag}{H:Hp}:∀ {d:Dt} {v:V},Is H d v->TyOf K H v (.type d.ty)
 | .non,_,h=>by cases h;exact .non
 | .bl _,_,h=>by cases h;exact .bl _
 | .int _,_,h=>by cases h;exact .int _
 | .str _,_,h=>by cases h;exact .str _
 | .tup l,v,h=>by obtain⟨p,xs,rfl,hp,hl⟩:=h;exact .tup hp
 | .lst l,v,h=>by obtain⟨p,xs,rfl,hp,hl⟩:=h;exact .lst hp
 | .dct,v,h=>by obtain⟨p,xs,rfl,hp,hl⟩:=h;exact .dK hp
@[reducible] def Dt.isTup:Dt->Bool
 | .tup _=>true | _=>false
@[reducible] def Dt.isLst:Dt->Bool
 | .lst _=>true | _=>false
@[reducible] def Dt.isInt:Dt->Bool
 | .int _=>true | .bl _=>true | _=>false
@[reducible] def Dt.isBl:Dt->Bool
 | .bl _=>true | _=>false
def Dt.isWhole:Dt->Bool
 | .int _=>true | _=>false
theorem zmS (K:PySem.W.Frag)(d:Dt):PySem.W.kitOne K (.type d.ty) (.type "list")=some d.isLst:=by cases d <;> rfl
theorem zpB (K:PySem.W.Frag)(d:Dt):PySem.W.kitOne K (.type d.ty) (.type "bool")=some d.isBl:=by cases d <;> rfl
end
def zba (env:Env):List (Str×NameKind)->List (Str×Addr)->List (Str×Addr)
 | [],cs=>cs
 | x::r,cs=>zba env r (if (x.2==NameKind.free)=true then (x.1,(env.cells.lookup x.1).getD 0)::cs else cs)
theorem x9 {env:Env}{scope:Scope}(h:∀x∈scope.names,x.2 = .free->∃c,env.cells.lookup x.1=some c):closureFor scope env=pure (zba env scope.names []):=by
 have gen:∀ (names:List (Str×NameKind)) (cs:List (Str×Addr)),(∀x∈names,x.2 = .free->∃c,env.cells.lookup x.1=some c)->
   (forIn names cs (fun x r=>match x with
    | (name,kind)=>if (kind==NameKind.free)=true then do let a <- cellOf env name;pure (ForInStep.yield ((name,a)::r)) else pure (ForInStep.yield r)):Sem (List (Str×Addr)))=pure (zba env names cs):=by
  intro names
  induction names with
  | nil=>intro cs _;rfl
  | cons x r ih=>
   intro cs hh;obtain⟨n,k⟩:=x;rw[List.forIn_cons];by_cases hk:(k==NameKind.free)=true
   ·obtain⟨c,hc⟩:=hh (n,k) ah (br hk);have hc':env.cells.lookup n=some c:=hc;have e:cellOf env n=pure c:=by unfold cellOf;rw[hc']
    simp only[hk,if_true,e,pure_bind];rw[ih _ fun y hy=>hh y (ak _ hy)];show pure _=pure (zba env r (if (k==NameKind.free)=true then (n,(env.cells.lookup n).getD 0)::cs else cs));rw[if_pos hk,hc'];rfl
   ·simp only[hk,pure_bind]
    have e2:zba env ((n,k)::r) cs=zba env r cs:=by show zba env r (if (k==NameKind.free)=true then _ else cs)=_;rw[if_neg hk]
    rw[e2];exact ih _ fun y hy=>hh y (ak _ hy)
 unfold closureFor;have:=gen scope.names [] h;simpa using this
theorem xh {env:Env}:∀ {names:List (Str×NameKind)} {cs:List (Str×Addr)} {x:Str} {c:Addr},(∀y∈names,y.2 = .free->∃c,env.cells.lookup y.1=some c)->(zba env names cs).lookup x=some c->env.cells.lookup x=some c\/cs.lookup x=some c
 | [],_,_,_,_,h=>.inr h
 | (n,k)::r,cs,x,c,hh,h=>by
  have ih:=xh (names:=r) (x:=x) (c:=c) (fun y hy=>hh y (ak _ hy)) h;rcases ih with ih | ih
  ·exact .inl ih
  ·by_cases hk:(k==NameKind.free)=true
   ·obtain⟨c',hc⟩:=hh (n,k) ah (br hk);have hc':env.cells.lookup n=some c':=hc;rw[if_pos hk,hc'] at ih;rw[a9] at ih
    cases e:x==n with
    | true=>
     rw[e] at ih;have:=br e;subst this;have ih':some c'=some c:=ih;cases ih';exact .inl hc'
    | false=>
     rw[e] at ih;exact .inr ih
   ·rw[if_neg hk] at ih;exact .inr ih
theorem zcQ {env:Env}:∀ {names:List (Str×NameKind)} {cs:List (Str×Addr)} {x:Str},(∃c,cs.lookup x=some c)->∃c,(zba env names cs).lookup x=some c
 | [],_,_,h=>h
 | (n,k)::r,cs,x,h=>by
  refine zcQ (names:=r) ?_;by_cases hk:(k==NameKind.free)=true
  ·rw[if_pos hk,a9]
   cases e:x==n with
   | true=>exact⟨_,rfl⟩
   | false=>exact h
  ·rw[if_neg hk];exact h
theorem uS {env:Env}:∀ {names:List (Str×NameKind)} {cs:List (Str×Addr)} {x:Str},names.lookup x=some .free->∃c,(zba env names cs).lookup x=some c
 | [],_,_,h=>by simp at h
 | (n,k)::r,cs,x,h=>by
  rw[a9] at h
  cases e:x==n with
  | true=>
   rw[e] at h;have h':some k=some NameKind.free:=h;cases h';refine zcQ (names:=r) ?_;rw[if_pos (by rfl),a9,e];exact⟨_,rfl⟩
  | false=>
   rw[e] at h;exact uS (names:=r) h
theorem yT {env:Env}:∀ {names:List (Str×NameKind)} {x:Str} {k:NameKind},(∀y∈names,y.2≠.cell)->
  (names.map fun (n,k)=>if (k==NameKind.free&&env.scope.kind==.function&&env.kindOf n==some .cell) then (n,NameKind.cell) else (n,k)).lookup x=some k->(k = .cell\/k = .free)->names.lookup x=some .free
 | [],_,_,_,h,_=>by simp at h
 | (n,k)::r,x,k',hc,h,hk=>by
  have ih:=@yT env r x k' (fun y hy=>hc y (ak _ hy));rw[ao] at h;rw[a9];by_cases hcond:(k==NameKind.free&&env.scope.kind==.function&&env.kindOf n==some .cell)=true
  ·have h':List.lookup x ((n,NameKind.cell)::r.map fun (n,k)=>if (k==NameKind.free&&env.scope.kind==.function&&env.kindOf n==some .cell) then (n,NameKind.cell) else (n,k))=some k':=by
    have:=h;simp only[hcond,if_true] at this;exact this
   rw[a9] at h'
   cases e:x==n with
   | true=>
    have:k = .free:=by rw[ay,ay] at hcond;exact br hcond.1.1
    subst this;rfl
   | false=>
    rw[e] at h';exact ih h' hk
  ·have h':List.lookup x ((n,k)::r.map fun (n,k)=>if (k==NameKind.free&&env.scope.kind==.function&&env.kindOf n==some .cell) then (n,NameKind.cell) else (n,k))=some k':=by
    have:=h;simp only[hcond] at this;exact this
   rw[a9] at h'
   cases e:x==n with
   | true=>
    rw[e] at h';have h2:some k=some k':=h';cases h2;rcases hk with hk | hk
    ·exact absurd hk (hc (n,k) ah)
    ·subst hk;rfl
   | false=>
    rw[e] at h';exact ih h' hk
theorem yU {env:Env}:∀ {names:List (Str×NameKind)} {x:Str},names.lookup x=some .free->
  (names.map fun (n,k)=>if (k==NameKind.free&&env.scope.kind==.function&&env.kindOf n==some .cell) then (n,NameKind.cell) else (n,k)).lookup x=some .cell\/
  (names.map fun (n,k)=>if (k==NameKind.free&&env.scope.kind==.function&&env.kindOf n==some .cell) then (n,NameKind.cell) else (n,k)).lookup x=some .free
 | [],_,h=>by simp at h
 | (n,k)::r,x,h=>by
  have ih:=@yU env r x;rw[a9] at h;rw[ao]
  cases e:x==n with
  | true=>
   rw[e] at h;have h':some k=some NameKind.free:=h;cases h';by_cases hcond:((NameKind.free==NameKind.free)&&env.scope.kind==.function&&env.kindOf n==some .cell)=true
   ·left;simp only[hcond,if_true];rw[a9,e]
   ·right;simp only[hcond];rw[if_neg aA,a9,e]
  | false=>
   rw[e] at h;have h':r.lookup x=some NameKind.free:=h;by_cases hcond:((k==NameKind.free)&&env.scope.kind==.function&&env.kindOf n==some .cell)=true
   ·simp only[hcond,if_true];rw[a9,e];exact ih h'
   ·simp only[hcond];rw[if_neg aA,a9,e];exact ih h'
def zt (X:Cx)(scope:Scope)(N:List Str)(C:Addr)(s:Shared)(H:Hp)(ex:List Addr):Cx where
 prog:=X.prog
 w:=X.w
 K:=X.K
 mg:=X.mg
 base:=X.base
 A:=X.A
 N:=N
 s₀:=s
 H₀:=H
 env:=compEnvC scope (zba X.env scope.names []) C X.env
 outer:=X.stack
 stack:=X.stack
 ex:=ex
 fn:=fun _=>false
 calm:=X.calm
 pn:=[]
 xe:=fun _ _=>False
def caps (XN:List Str)(Xnames names:List (Str×NameKind))(N:List Str)(cix:List (Option Nat)):Bool:=
 N.length==cix.length&&(names.all fun y=>y.2 != .cell)&&((N.zip cix).all fun p=>match p.2 with
  | none=>true
  | some i=>XN[i]?==some p.1&&names.lookup p.1==some .free&&(Xnames.lookup p.1==some .cell || Xnames.lookup p.1==some .free)) &&
 (names.all fun y=>y.2 != .free || (Xnames.lookup y.1==some .cell || Xnames.lookup y.1==some .free))
def uT (σ:St)(cix:List (Option Nat)):St:=cix.map fun o=>match o with
 | none=>none
 | some i=>(σ[i]?).join
structure CompOk (X:Cx)(scope:Scope)(N:List Str)(cix:List (Option Nat)):Prop where
 kind:scope.kind = .function
 names:∀x∈scope.names,x.2 = .local->scope.names.lookup x.1=some .local
 caps:caps X.N X.env.scope.names scope.names N cix=true
section
variable {X:Cx}{pins:List (Addr×Obj)}{σ:St}{H:Hp}{s:Shared}{scope:Scope}{N:List Str}{cix:List (Option Nat)}
theorem CompOk.cell (c:CompOk X scope N cix):∀y∈scope.names,y.2≠.cell:=fun y hy e=>by have h:=c.caps;unfold L2.caps at h;rw[ay,ay,ay] at h;have:=bB.mp h.1.1.2 y hy;rw[e] at this;exact absurd this (by decide)
theorem CompOk.len (c:CompOk X scope N cix):N.length=cix.length:=by have h:=c.caps;unfold L2.caps at h;rw[ay,ay,ay] at h;exact br h.1.1.1
theorem CompOk.cells (c:CompOk X scope N cix)(ok:X.Ok):∀x∈scope.names,x.2 = .free->∃a,X.env.cells.lookup x.1=some a:=fun x hx e=>by
 have h:=c.caps;unfold L2.caps at h;rw[ay] at h;have q:=bB.mp h.2 x hx;rw[e] at q;have q':(X.env.scope.names.lookup x.1==some NameKind.cell || X.env.scope.names.lookup x.1==some NameKind.free)=true:=by simpa using q
 rcases dg.mp q' with q | q
 ·exact ok.has _ (.inl (br q))
 ·exact ok.has _ (.inr (br q))
theorem CompOk.cap (c:CompOk X scope N cix){j i:Nat}{x:Str}(h1:N[j]?=some x)(h2:cix[j]?=some (some i)):X.N[i]?=some x/\scope.names.lookup x=some .free/\(X.env.scope.names.lookup x=some .cell\/X.env.scope.names.lookup x=some .free):=by
 have h:=c.caps;unfold L2.caps at h;rw[ay,ay] at h
 have hm:(x,some i)∈N.zip cix:=by refine aI (i:=j) ?_;rw[List.getElem?_zip_eq_some];exact⟨h1,h2⟩
 have q:=bB.mp h.1.2 _ hm;simp only[ay] at q;refine⟨br q.1.1,br q.1.2,?_⟩;rcases dg.mp q.2 with q | q
 ·exact .inl (br q)
 ·exact .inr (br q)
theorem zbB {fp:List Addr}{h':Heap}{tk:Nat}{m:Str->Option Value}(I:Inv X pins σ H s)(c:CompOk X scope N cix)(hf:∀b∈fp,zcO X pins H b)(hfo:∀b∈fp,b<s.heap.objs.size)
  (hn:h'.Ns s.heap.objs.size m) (hk:∀b o,s.heap.get? b=some o->h'.get? b=some o) :
  Inv (zt X scope N s.heap.objs.size s H fp) [] (uT σ cix) H { s with heap:=h',toks:=tk }:=by
 have hcl:=c.cells I.ok
 have back:∀x a,(zba X.env scope.names []).lookup x=some a->X.env.cells.lookup x=some a:=fun x a e=>by
  rcases xh hcl e with z | z
  ·exact z
  ·simp at z
 refine⟨⟨I.mod,c.kind,I.ok.glob,I.ok.blt,ag _,fun x y a e1 e2=>I.ok.inj x y a (back x a e1) (back y a e2),fun x hx=>?_,fun x a z _=>absurd (show (false:Bool)=true from z) (by decide),I.ok.hd,I.ok.frames,.inl rfl,
  fun b hb=>⟨aO (hfo b hb),fun x a e=>(hf b hb).2.2.2.2.1 x a (back x a e)⟩,I.bs,ax I.ok.bsz I.sz,fun b o e hb=>?_,fun b hb z=>?_,I.stack,I.stkFree⟩,
  I.os ▸ rfl,I.bare,Un.kept hk,⟨m,hn,fun j x v h1 h2 h3=>?_⟩,fun x a e=>?_,I.hok.fresh (ag _),fun x a e=>I.freeC x a (back x a e),fun p hp=>absurd (show p∈([]:List (Addr×Obj)) from hp) (by simp),I.hok.kept hk,?_⟩
 ·have hx':((relabel scope X.env).names.lookup x=some .cell\/(relabel scope X.env).names.lookup x=some .free):=hx;rcases hx' with z | z
  ·exact uS (yT c.cell z (.inl rfl))
  ·exact uS (yT c.cell z (.inr rfl))
 ·rcases (hf b hb).2.2.2.1 with z | z
  ·exact I.ok.noex b o e z
  ·exact absurd (aU (aw e) (ax I.ok.bsz z)) (bQ _)
 ·rcases aG.mp (I.stkSub b z) with e | e
  ·exact (hf b hb).2.1 e
  ·exact (hf b hb).2.2.1 e
 ·have h1':N[j]?=some x:=h1;unfold uT at h2;rw[aC] at h2
  cases e:cix[j]? with
  | none=>rw[e] at h2;cases h2
  | some o=>
   rw[e] at h2
   cases o with
   | none=>cases h2
   | some i=>
    have h2':(σ[i]?).join=some v:=bc h2
    have h2'':σ[i]?=some (some v):=by
     cases q:σ[i]? with
     | none=>rw[q] at h2';cases h2'
     | some z=>rw[q] at h2';have:z=some v:=h2';rw[this]
    obtain⟨q1,q2,q3⟩:=c.cap h1' e;obtain⟨m0,hn0,hl0⟩:=I.loc;obtain⟨u,ru,hu⟩:=hl0 i x v q1 h2'' (q3.elim (fun z=>.inr (.inl z)) fun z=>.inr (.inr z));refine⟨u,ru,.inr ⟨yU q2,?_⟩⟩;rcases hu with ⟨z,_⟩ | ⟨_,a,ha,hcell⟩
    ·have z':X.env.scope.names.lookup x=some .local:=z;rcases q3 with q3 | q3 <;> rw[z'] at q3 <;> cases q3
    ·obtain⟨a',ha'⟩:=uS (env:=X.env) (cs:=[]) q2;have:a'=a:=by have:=(back x a' ha').symm.trans ha;exact bc this
     subst this;obtain⟨oc,hoc,hd⟩:=hcell;exact⟨a',ha',oc,hk _ _ hoc,hd⟩
 ·obtain⟨v,oc,hoc,hd⟩:=I.cell x a (back x a e);exact⟨v,oc,hk _ _ hoc,hd⟩
 ·show (uT σ cix).length=N.length;unfold uT;rw[aa,c.len]
theorem zbZ {P:Program}{w:World}{H:Hp}{h h':Heap}{a:Addr}(x:HOk P w H h)(hn:H a=none)(hs:Heap.SameBut a h h'):HOk P w H h':=fun b o e=>by
 refine (x b o e).stay (fun c u hc q=>(hs.2 c ?_).trans q) (fun _ q=>q) fun _ _ q=>q;rcases hc with rfl | hc
 ·exact zc e hn
 ·exact zc hc hn
theorem uW {fp:List Addr}{σ':St}{H':Hp}{s':Shared}{h'':Heap}(I:Inv X pins σ H s)(hf:∀b∈fp,zcO X pins H b)(I':Inv (zt X scope N s.heap.objs.size s H fp) [] σ' H' s')(hs:Heap.SameBut s.heap.objs.size s'.heap h'') :
  Inv X pins σ H' { s' with heap:=h'' }:=by
 have ne:∀b o,s.heap.get? b=some o->b≠s.heap.objs.size:=fun b o e=>aO (aw e);have u:=I'.base;refine Inv.call' (ch:=fp) I I'.os ⟨fun b o e n hb hx=>?_,fun b o e n hb hx=>?_,u.free,fun b o e hx=>?_,u.tups,u.frzs,u.tbls⟩ (zbZ I'.hok I'.free hs) I'.bare fun b hb=>⟨(hf b hb).2.2.2.1,(hf b hb).2.1,(hf b hb).2.2.2.2.1,(hf b hb).2.2.2.2.2⟩
 ·exact (hs.2 b (ne b o e)).trans (u.keep b o e n hb hx)
 ·obtain⟨sl,q⟩:=u.slot b o e n hb hx;exact⟨sl,(hs.2 b (ne b o e)).trans q⟩
 ·obtain⟨o',q⟩:=u.there b o e hx;exact⟨o',(hs.2 b (ne b o e)).trans q⟩
end
section
variable {prog:Program}{w:World}{A:Around}{R:Result->Shared->Prop}{s:Shared}
theorem zao {elt target iter:Expr}{ifs:List Expr}{scope:Scope}{pos:Pos}{it acc:Value}{env:Env}(I:Nat->Shared->Prop)
  (turn:∀n s,I n s->wpAny (model prog w) A (pyNext it) (fun r s₁=>match r with
   | none=>R (.ok .next) s₁
   | some v=>wpAny (model prog w) A (letOwnedTupleGo target it v) (fun _ s₂=>wpAny (model prog w) A (assign target env v) (fun _ s₃=>
     wpAny (model prog w) A (forIn ifs true fun c r=>if r=true then do let ok <- isTrue c env (eval c env);pure (ForInStep.yield ok) else pure (ForInStep.yield r)) (fun ok s₄=>
      if ok=true then wpAny (model prog w) A (eval elt env) (fun x s₅=>
       wpAny (model prog w) A (call (.builtin "list.append") [acc,x]) (fun _ s₆=>∃m,m<n/\I m s₆) (fun _ _=>False) s₅) (fun _ _=>False) s₄
      else ∃m,m<n/\I m s₄) (fun _ _=>False) s₃) (fun _ _=>False) s₂) (fun _ _=>False) s₁) (fun _ _=>False) s)
  (n:Nat) (h:I n s) :
  codeAny (model prog w) A (.compLoop (.ListComp elt [⟨target,iter,ifs,0⟩] scope pos) 0 it acc env) R s:=by
 refine codeAny_loop rfl I (fun n s hI=>?_) n h;show wpAny _ A ((compTurn (.ListComp elt [⟨target,iter,ifs,0⟩] scope pos) 0 it acc env).onRaise (fun x=>do noteFrame x env;theTreesLotGoes x)) _ _ s;refine wpAny_noted ?_;rw[compTurn_list];refine ab (b6 (ab (bi (turn n s hI) (fun r s₁ h₁=>?_) fun _ _ h'=>h'.elim)))
 cases r with
 | none=>exact ac h₁
 | some v=>
  refine ab (bi h₁ (fun _ s₂ h₂=>?_) fun _ _ h'=>h'.elim);refine ab (bi h₂ (fun _ s₃ h₃=>ab (bi h₃ (fun ok s₄ h₄=>?_) fun _ _ h'=>h'.elim)) fun _ _ h'=>h'.elim)
  cases ok with
  | false=>exact ac ⟨rfl,h₄⟩
  | true=>
   exact ab (ab (bi h₄ (fun x s₅ h₅=>ab (bi h₅ (fun _ s₆ h₆=>ac (ac ⟨rfl,h₆⟩)) fun _ _ h'=>h'.elim)) fun _ _ h'=>h'.elim))
end
def PTs (X:Cx)(ifs:List Expr)(t:TT):Prop:=
 ∀ (pins:List (Addr×Obj)) (s:Shared) (σ:St) (H:Hp) (Q:Bool->Hp->Prop),Inv X pins σ H s->t σ H Q->
  wpAny (model X.prog X.w) X.A (forIn ifs true fun c r=>if r=true then do let ok <- isTrue c X.env (eval c X.env);pure (ForInStep.yield ok) else pure (ForInStep.yield r)) (TP X pins σ Q) X.xe s
def zcu:TT:=fun _ H Q=>Q true H
theorem znG {X:Cx}:PTs X [] zcu:=fun pins s σ H Q I h=>wpAny_tests_nil ⟨H,I,h⟩
theorem znH {X:Cx}{c:Expr}{t:TT}(h:PT X c t):PTs X [c] t:=fun pins s σ H Q I q=>wpAny_tests_one (h pins s σ H Q I q)
def zlf (wi:TI)(g:TG)(ti:TT)(te:TE)(cix:List (Option Nat)):TE:=fun σ H Q=>wi σ H fun J H1=>∀acc,H1 acc=none->∃W:Nat->Nat->St->Hp->Prop,(∃m,W 0 m (uT σ cix) (upd H1 acc (.lst [])))/\
 ∀i m σ' H',W i m σ' H'->(J.stop i H'/\Q (.ref acc) H')\/(J.go i H'/\∃N:St->Hp->Prop,(∀ σ2 H2,N σ2 H2->∃m',m'<m/\W (i+1) m' σ2 H2)/\
  ∀x H2,J.yld i H' x H2->g x σ' H2 fun σ3 H3=>ti σ3 H3 fun ok H4=>if ok=true then te σ3 H4 fun v H5=>∃xs,H5 acc=some (.lst xs)/\xs.length<sizeLine/\N σ3 (upd H5 acc (.lst (xs++[v]))) else N σ3 H4)
theorem znm {X:Cx}{elt tg iter:Expr}{ifs:List Expr}{scope:Scope}{pos:Pos}{wi:TI}{g:TG}{ti:TT}{te:TE}{N:List Str}{cix:List (Option Nat)}(hc:X.calm=true)(c:CompOk X scope N cix)
  (hi:PI X tg iter wi) (hg:∀C s H ex,PG (zt X scope N C s H ex) tg g) (ht:∀C s H ex,PTs (zt X scope N C s H ex) ifs ti) (he:∀C s H ex,PE (zt X scope N C s H ex) elt te)
  (hs:∀x,foldedSetIterable iter X.env x=pure x:=by intro _;rfl):PE X (.ListComp elt [⟨tg,iter,ifs,0⟩] scope pos) (zlf wi g ti te cix):=by
 intro pins s σ H Q I h;rw[eval_ListComp];refine b9 (use:=none) rfl hs (x9 (c.cells I.ok)) c.kind c.names (thn (hi pins s σ H _ I h) fun xv s1 h1=>thn h1 fun itv s2 h2=>?_);obtain⟨it,fp,tn,J,H2,e,I2,T,st2,f2,q2⟩:=h2;subst e;refine bj (c6 c.cell (by intro y hy;simp at hy) (fun h4 hns4 hsb4=>?_) c.kind);dsimp only at hns4 hsb4 ⊢;have hnone:=I2.hok.fresh (ag s2.heap.objs.size);have I3:Inv X pins σ (upd H2 s2.heap.objs.size (.lst [])) { s2 with heap:=s2.heap.push { cls:=.type "list",dict:=none,data:=.seq ([]:List Value).toArray },toks:=s2.toks }:=I2.lnew (t':=s2.toks) .nil (by simp);obtain⟨W,⟨m0,w0⟩,turn⟩:=q2 s2.heap.objs.size hnone
 have ltF:∀b∈fp,b<s2.heap.objs.size:=fun b hb=>by obtain⟨o,ho,_⟩:=T.obj _ _ st2 b hb;exact aw ho
 have f3:∀b∈fp,zcO X pins (upd H2 s2.heap.objs.size (.lst [])) b:=fun b hb=>⟨by rw[zh (aO (ltF b hb))];exact (f2 b hb).1,(f2 b hb).2⟩
 have kp:∀b o,(s2.heap.push { cls:=.type "list",dict:=none,data:=.seq ([]:List Value).toArray }).get? b=some o->h4.get? b=some o:=fun b o e=>
  hsb4.extBut b o (aO (aw e)) (ai _ e)
 have sz3:s2.heap.objs.size<(s2.heap.push { cls:=.type "list",dict:=none,data:=.seq ([]:List Value).toArray }).objs.size:=by rw[c8];exact cz _
 have I4:=zbB (tk:=s2.toks+([]:List (Str×Value)).length) I3 c f3 (fun b hb=>bW (ltF b hb) sz3) hns4 kp;have st4:tn 0 h4:=T.keep _ _ _ st2 fun b hb o e=>kp b o (ai _ e)
 generalize hX:zt X scope N (s2.heap.push { cls:=.type "list",dict:=none,data:=.seq ([]:List Value).toArray }).objs.size
  { s2 with heap:=s2.heap.push { cls:=.type "list",dict:=none,data:=.seq ([]:List Value).toArray },toks:=s2.toks } (upd H2 s2.heap.objs.size (.lst [])) fp=X' at I4
 have pX:X'.prog=X.prog:=by rw[<- hX];rfl
 have wX:X'.w=X.w:=by rw[<- hX];rfl
 have KX:X'.K=X.K:=by rw[<- hX];rfl
 have AX:X'.A=X.A:=by rw[<- hX];rfl
 have cX:X'.calm=true:=by rw[<- hX];exact hc
 have xX:X'.xe=fun _ _=>False:=by rw[<- hX];rfl
 have eX:X'.env=compEnvC scope (zba X.env scope.names []) (s2.heap.push { cls:=.type "list",dict:=none,data:=.seq ([]:List Value).toArray }).objs.size X.env:=by rw[<- hX];rfl
 have hg':PG X' tg g:=by rw[<- hX];exact hg _ _ _ _
 have ht':PTs X' ifs ti:=by rw[<- hX];exact ht _ _ _ _
 have he':PE X' elt te:=by rw[<- hX];exact he _ _ _ _
 have f4:∀ {H':Hp},(∀b∈fp,H' b=none)->∀b∈fp,zcO X' [] H' b:=fun {H'} hn b hb=>by
  refine⟨hn b hb,?_,?_,.inl ?_,?_,?_⟩
  ·rw[eX];exact aO (bW (ltF b hb) sz3)
  ·have e1:X'.fs=frs X.stack:=by rw[<- hX];rfl
   rw[e1];intro z;rcases aG.mp (I2.stkSub b z) with e | e
   ·exact (f2 b hb).2.1 e
   ·exact (f2 b hb).2.2.1 e
  ·rw[<- hX];exact hb
  ·rw[eX];intro x a e;rcases xh (c.cells I.ok) e with z | z
   ·exact (f2 b hb).2.2.2.2.1 x a z
   ·simp at z
  ·intro p hp;have e1:X'.pn++([]:List (Addr×Obj))=[]:=by rw[<- hX];rfl
   rw[e1] at hp;simp at hp
 have loop:∀s4:Shared,s4={ s2 with heap:=h4,toks:=s2.toks+([]:List (Str×Value)).length }->
   codeAny (model X.prog X.w) X.A (.compLoop (.ListComp elt [⟨tg,iter,ifs,0⟩] scope pos) 0 (.ref it) (.ref s2.heap.objs.size) X'.env)
    (compPost (model X.prog X.w) X.A X.xe none (EP X pins σ Q) (.ref s2.heap.objs.size) (s2.heap.push { cls:=.type "list",dict:=none,data:=.seq ([]:List Value).toArray }).objs.size) s4:=by
  rintro s4 rfl;refine zao (fun n s'=>∃i σ' H',Inv X' [] σ' H' s'/\tn i s'.heap/\(∀b∈fp,H' b=none)/\W i n σ' H') ?_ m0 ⟨0,uT σ cix,_,I4,st4,fun b hb=>(f3 b hb).1,w0⟩;rintro n s5 ⟨i,σ5,H5,I5,st5,fr5,w5⟩;rcases turn i n σ5 H5 w5 with ⟨stop,qn⟩ | ⟨go,Nx,hN,step⟩
  ·have:=T.done X' pX wX KX cX i [] s5 σ5 H5 (fun _ _=>False) I5 (f4 fr5) st5 stop;rw[AX] at this;refine thn this  ?_;rintro r s6 ⟨hr,I6⟩;subst hr;obtain⟨m6,hn6,_⟩:=I6.loc;rw[eX] at hn6;refine⟨m6,hn6,fun h7 hs7=>?_⟩;have I6':=I6;rw[<- hX] at I6';exact⟨.ref s2.heap.objs.size,H5,uW I3 f3 I6' hs7,rfl,qn⟩
  ·have:=T.item X' pX wX KX cX i [] s5 σ5 H5 (fun _ _=>False) I5 (f4 fr5) st5 go;rw[AX] at this;refine thn this  ?_;rintro r s6 ⟨u,hr,h6⟩;subst hr;refine thn h6  ?_;rintro _ s7 ⟨x,H7,I7,r7,y7,st7,fr7⟩;have I7':=I7.pinned (f4 fr7) (T.obj _ _ st7);have a7:=hg' _ s7 σ5 H7 x u _ I7' r7 (step x H7 y7);rw[pX,wX,AX,xX] at a7;refine thn a7  ?_;rintro _ s8 ⟨σ8,H8,I8,q8⟩;have t8:=ht' _ s8 σ8 H8 _ I8 q8;rw[pX,wX,AX,xX] at t8;refine thn t8  ?_;rintro ok s9 ⟨H9,I9,q9⟩
   have again:∀ {s':Shared} {σ':St} {H':Hp},Inv X' ([]++zaM fp s7.heap) σ' H' s'->Nx σ' H'->∃m,m<n/\∃i σ' H',Inv X' [] σ' H' s'/\tn i s'.heap/\(∀b∈fp,H' b=none)/\W i m σ' H':=fun {s' σ' H'} J' n'=>by obtain⟨m',hm,w'⟩:=hN σ' H' n';refine⟨m',hm,i+1,σ',H',J'.unpinned,T.keep _ _ _ st7 fun b hb o e=>(J'.pin (b,o) (au _ (au _ (z5 hb e)))).1,fun b hb=>?_,w'⟩;obtain⟨o,e,d⟩:=T.obj _ _ st7 b hb;exact (J'.pin (b,o) (au _ (au _ (z5 hb e)))).2.1
   cases ok with
   | false=>exact again I9 q9
   | true=>
    have e9:=he' _ s9 σ8 H9 _ I9 q9;rw[pX,wX,AX,xX] at e9;refine thn e9  ?_;rintro u2 s10 ⟨v,H10,I10,r10,q10⟩;obtain⟨xs,hxs,hlt,nx⟩:=q10;have m10:=zb9 (X:=X') _ s10 σ8 H10 (.ref s2.heap.objs.size) [v] (.ref s2.heap.objs.size) [u2] (fun _ H'=>Nx σ8 H') I10 rfl (.cons r10 .nil) ⟨_,xs,v,rfl,rfl,hxs,hlt,nx⟩;rw[pX,wX,AX,xX] at m10;refine thn m10 <| by rintro _ s11 ⟨_,H11,I11,_,n11⟩;exact again I11 n11
 have l0:=loop _ rfl;rw[eX] at l0;exact codeAny_compStart_list l0 (T.self X.A 0 _ _ _ st4 l0)
structure Dfn (K:PySem.W.Frag)(mg:Str->Option Value)(x:Str)(st:Stmt)(ps:List Str)(f:Addr)(fd:FuncData):Prop where
 F:Fun K x x st f fd
 b:zgI K fd ps []
 m:mg x=some (.ref f)
section
variable {X:Cx}
theorem ztb {x:Str}{st:Stmt}{ps:List Str}{f:Addr}{fd:FuncData}{sp:Sp}{j k:Nat}{e:Expr}{es:List Expr}{t:TA}{p pos:Pos}(D:Dfn X.K X.mg x st ps f fd)(G:FnOk X.prog X.w X.K X.mg X.base CX0 j f fd ps sp)(hr:Room k X.A)
  (ha:PA X (e::es) t) (hjk:j<=k:=by decide) (hg:Gl X x:=by rfl) (hdb:(x==("__debug__" : Str))=false:=by decide) (he:starEach (e::es) X.env=(false,eval e X.env)::starEach es X.env:=by rfl) (hpl:(backTo pos (starEach es X.env)).any (·.1)=false:=by rfl) :
  PE X (.Call (.Name x p) (e::es) [] pos) (zfS sp [] E0 t):=
 znk G (hr.mono hjk) hg D.m D.F.kp D.b .nil zs9 ha hdb he hpl
theorem zjn {bs:List Bool}:((List.range bs.length).all fun i=>bs.getD i true)=bs.all id:=by
 rw[cr,bB,bB];constructor
 ·intro h b hb;obtain⟨i,hi,e⟩:=bq.mp hb;have:=h i (aQ.mpr hi);simpa [hi,e] using this
 ·intro h i hi;have hi':=aQ.mp hi;have:=h bs[i] (bh hi');simpa [hi'] using this
theorem zj3 (hc:X.calm=true):zcy X (.builtin "all") (fun xs H Q=>∃ (p:Addr) (bs:List Bool),xs=[.ref p]/\H p=some (.lst (bs.map V.bl))/\Q (.bl (bs.all id)) H):=by
 intro pins s σ H xs us Q I r h;obtain⟨p,bs,rfl,hp,q⟩:=h;obtain⟨u,rfl,ru⟩:=u6 r;cases ru;obtain⟨its,rv,pl,hz⟩:=I.list (.of hp);have hlen:=rv.length;rw[aa] at hlen
 have W:Walks X.prog X.w X.A.in1 s.heap.objs.size [s.heap.objs.size,p] [s.heap.objs.size] its.toArray.size (fun i v=>its.toArray[i]?=some v) (fun i h=>h.IsListIter s.heap.objs.size p i/\h.IsList p its.toArray):=by refine Walks.list (A:=X.A.in1) (I.ok.hd hc) s.heap.objs.size p ?_ its.toArray;obtain⟨o,_,ho,_⟩:=pl;exact aO (aw ho)
 refine call_all_walk (wpAny_pyIter_list pl.isList ⟨s.heap.objs.size,_,_,_,_,_,fun i=>bs.getD i true,rfl,W,⟨?_,?_⟩,?_,?_⟩)
 ·exact⟨_,aP _ rfl,rfl,rfl⟩
 ·exact pl.isList.at fun o e=>ai _ e
 ·intro i v s' Q' E' hP hQ;have hP':its[i]?=some v:=by simpa using hP
  have hi:i<bs.length:=by have:=(ae.mp hP').1;lia
  have hb:(bs.map V.bl)[i]?=some (V.bl bs[i]):=by simp[hi]
  obtain⟨u',hu',rb⟩:=rv.get hb;rw[hP'] at hu';cases hu';cases rb;have:bs.getD i true=bs[i]:=by simp[hi]
  dsimp only at hQ;rw[this] at hQ;exact cG hQ
 ·intro h' tk hk
  have e:(List.range its.toArray.size).all (fun i=>bs.getD i true)=bs.all id:=by rw[aq,<- hlen];exact zjn
  rw[e];exact⟨.bl _,H,I.kept (t':=tk) fun b o eb=>hk b o (by simp;exact aO (aw eb)) (ai _ eb),rfl,q⟩
end
structure QE (X:Cx)(e:Expr)(t:TE):Prop where
 run:PE X e t
structure QT (X:Cx)(e:Expr)(t:TT):Prop where
 run:PT X e t
structure QW (X:Cx)(e:Expr)(t:TT):Prop where
 run:PW X e t
structure QC (X:Cx)(op:CmpOp)(a b:Expr)(t:TE):Prop where
 run:PC X op a b t
structure QA (X:Cx)(es:List Expr)(t:TA):Prop where
 run:PA X es t
structure QS (X:Cx)(s:Stmt)(t:TS):Prop where
 run:PS X s t
structure QSs (X:Cx)(s:List Stmt)(t:TS):Prop where
 run:PSs X s t
structure QG (X:Cx)(e:Expr)(t:TG):Prop where
 run:PG X e t
structure QGs (X:Cx)(es:List Expr)(t:TGs):Prop where
 run:PGs X es t
structure QI (X:Cx)(tg e:Expr)(t:TI):Prop where
 run:PI X tg e t
structure QO (X:Cx)(e:Option Expr)(t:TO):Prop where
 run:PO X e t
structure QP (X:Cx)(pos:Pos)(ks:List (Option Expr))(vs:List Expr)(t:List (TE×TE)):Prop where
 run:PPs X pos ks vs t
structure QTs (X:Cx)(es:List Expr)(t:TT):Prop where
 run:PTs X es t
structure OpQ (X:Cx)(f:Value->Value->Sem Value)(r:R2):Prop where
 run:OpR X f r
structure UnQ (X:Cx)(f:Value->Sem Value)(r:V->Hp->VK->Prop):Prop where
 run:UnR X f r
structure CallQ (X:Cx)(f:Value)(r:List V->Hp->VK->Prop):Prop where
 run:zcy X f r
structure IxQ (X:Cx)(r:R2):Prop where
 run:IxR X r
structure SlQ (X:Cx)(r:V->Option Int->Option Int->Hp->VK->Prop):Prop where
 run:SlR X r
section
variable {X:Cx}{e a b c:Expr}{es:List Expr}{te ta tb tc:TE}{t u:TT}{pos p:Pos}
theorem qv (i:Nat){x:Str}{pos:Pos}(hN:X.N[i]?=some x:=by rfl)(hv:Vis X.env.scope x:=by first | exact Or.inl rfl | exact Or.inr (Or.inl rfl) | exact Or.inr (Or.inr rfl))(hd:(x==("__debug__" : Str))=false:=by decide)
  (hcd:(x==("__classdict__" : Str))=false:=by decide):QE X (.Name x pos) (zlg i):=⟨zqe hN hv hd hcd⟩
theorem yv {i:Int}{j:Nat}:QE X (.Constant (.int i) j pos) (tC (.int i)):=⟨zlP⟩
theorem zti {k:Bool}{j:Nat}:QE X (.Constant (.bool k) j pos) (tC (.bl k)):=⟨zta⟩
theorem zqA {j:Nat}:QE X (.Constant .none j pos) (tC .non):=⟨zqa⟩
theorem xS {x:Str}{j:Nat}:QE X (.Constant (.str x) j pos) (tC (.str x)):=⟨zqc⟩
theorem znJ {x:Str}{v:V}{w:Value}(hg:Gl X x)(hm:X.mg x=none)(hv:bootBuiltins x=some w)(r:yN v w)(hn:x ≠ "__name__" := by decide)(hd:(x==("__debug__" : Str))=false:=by decide):QE X (.Name x pos) (tC v):=⟨znj hg hm hv r hn hd⟩
theorem yS:OpQ X (binaryOp .Add) (rI0 fun i j=>.int (i+j)):=⟨zpV⟩
theorem zi7:OpQ X (binaryOp .Sub) (rI0 fun i j=>.int (i - j)):=⟨zp3⟩
theorem zcc:OpQ X (binaryOp .Mult) (rI zrD fun i j=>.int (i * j)):=⟨zpZ⟩
theorem zdK:OpQ X (binaryOp .FloorDiv) (rI zoy fun i j=>.int (i / j)):=⟨zng⟩
theorem zaK:OpQ X (binaryOp .Mod) (rI (fun _ j=>0<j) fun i j=>.int (i % j)):=⟨zpY⟩
theorem zi6:OpQ X (binaryOp .Pow) (rI CPow fun i j=>.int (i ^ j.toNat)):=⟨zp1⟩
theorem yV:OpQ X (binaryOp .Add) (zk2 X.K):=⟨zne⟩
theorem zp4:OpQ X (binaryOp .Add) rCat:=⟨zpW⟩
theorem zlO:OpQ X (binaryOp .Mult) zrY:=⟨zp2⟩
theorem zi3:OpQ X (compareOp .Lt) (rI0 fun i j=>.bl (decide (i<j))):=⟨zs6⟩
theorem zp6:OpQ X (compareOp .LtE) (rI0 fun i j=>.bl (decide (i<=j))):=⟨zs5⟩
theorem znh:OpQ X (compareOp .Gt) (rI0 fun i j=>.bl (decide (j<i))):=⟨zs4⟩
theorem zs8:OpQ X (compareOp .GtE) (rI0 fun i j=>.bl (decide (j<=i))):=⟨zs3⟩
theorem xY:OpQ X (compareOp .Eq) rEq:=⟨zs2⟩
theorem zgZ:OpQ X (compareOp .NotEq) rNe:=⟨zs7⟩
theorem zaJ:OpQ X (compareOp .In) (rIn X.K false):=⟨zi1⟩
theorem uK:OpQ X (compareOp .NotIn) (rIn X.K true):=⟨zeH⟩
theorem zrw:UnQ X (unaryOp .USub) (rU fun i=>.int (-i)):=⟨zl6⟩
theorem y2 {op:Operator}{r:R2}(ho:OpQ X (binaryOp op) r)(ha:QE X a ta)(hb:QE X b tb):QE X (.BinOp a op b pos) (tOp r ta tb):=⟨ztd ho.run ha.run hb.run⟩
theorem ztj {op:UnaryOp}{r:V->Hp->VK->Prop}(ho:UnQ X (unaryOp op) r)(ha:QE X a ta):QE X (.UnaryOp op a pos) (tUn r ta):=⟨zqd ho.run ha.run⟩
theorem znK {op:CmpOp}{r:R2}(ho:OpQ X (compareOp op) r)(ha:QE X a ta)(hb:QE X b tb)(hm:behindInMarks op b=false):QE X (.Compare a [op] [b] pos) (tOp r ta tb):=⟨znl ho.run ha.run hb.run hm⟩
theorem zci {op:CmpOp}{r:R2}(ho:OpQ X (compareOp op) r)(ha:QE X a ta)(hb:QE X b tb)(hm:behindInMarks op b=false):QT X (.Compare a [op] [b] pos) (zom (tOp r ta tb)):=⟨znF ho.run ha.run hb.run hm⟩
theorem zqx {j:Nat}{pos':Pos}(ha:QE X a ta):QC X .Is a (.Constant .none j pos') (ztA ta):=⟨zp8 ha.run⟩
theorem zqF {op:CmpOp}(h:QC X op a b te)(h1:behindInMarks op b=false:=by first | exact zgn _ (by decide) (by decide) | rfl):QT X (.Compare a [op] [b] pos) (tB te):=⟨zqs h.run h1⟩
theorem zqH (h:QE X e te)(he:∀whole,isTrue e X.env whole=(do let v <- whole;standAt e.pos;holding [v] (truthy v)):=by intro _;rfl):QT X e (tB te):=⟨zqu h.run he⟩
theorem zk1 (h:QE X e te)(he:∀whole,isTrue e X.env whole=(do let v <- whole;standAt e.pos;holding [v] (truthy v)):=by intro _;rfl):QT X e (fun σ H Q=>te σ H fun x H'=>∃k,zr8 X.K x H' k/\Q k H'):=⟨zkU h.run he⟩
theorem zqG (h:QT X a t):QT X (.UnaryOp .Not a pos) (tNot t):=⟨zqt h.run⟩
theorem zjl (h:QT X a t):QW X (.BoolOp .And [a] pos) t:=⟨znI h.run⟩
theorem zqI (h:QT X a t):QW X (.BoolOp .Or [a] pos) t:=⟨zqw h.run⟩
theorem zlS {zY:List Expr}(h:QT X a t)(h':QW X (.BoolOp .And (b::zY) pos) u):QW X (.BoolOp .And (a::b::zY) pos) (zty t u):=⟨zqv h.run h'.run⟩
theorem ztk {zY:List Expr}(h:QT X a t)(h':QW X (.BoolOp .Or (b::zY) pos) u):QW X (.BoolOp .Or (a::b::zY) pos) (tOr t u):=⟨zth h.run h'.run⟩
theorem QW.pt (h:QW X e t):QT X e t:=⟨h.run.pt⟩
theorem zqB (ha:QE X a ta):QE X (.UnaryOp .Not a pos) (zrd ta):=⟨zqb ha.run⟩
theorem yB:QA X [] zl3:=⟨zp7⟩
theorem zI {ts:TA}(ha:QE X e te)(hr:QA X es ts)(hs:starEach (e::es) X.env=(false,eval e X.env)::starEach es X.env:=by rfl):QA X (e::es) (zct te ts):=⟨zni ha.run hr.run hs⟩
theorem znW:QP X pos [] [] []:=⟨zny⟩
theorem zdP {k v:Expr}{ks:List (Option Expr)}{vs:List Expr}{tk tv:TE}{trs:List (TE×TE)}(hk:QE X k tk)(hv:QE X v tv)(hr:QP X pos ks vs trs):QP X pos (some k::ks) (v::vs) ((tk,tv)::trs):=⟨zkR hk.run hv.run hr.run⟩
theorem znM {keys:List (Option Expr)}{values:List Expr}{trs:List (TE×TE)}(h:QP X pos keys values trs)(hall:keys.all (·.isSome)=true)(hl:keys.length=values.length)(h0:keys≠[])(h15:keys.length<=15):QE X (.Dict keys values pos) (zra trs):=⟨zno h.run hall hl h0 h15⟩
theorem zji:QO X none zjG:=⟨znw⟩
theorem zjj (h:QE X e te):QO X (some e) (zre te):=⟨znx h.run⟩
theorem zog:SlQ X rSlA:=⟨zod⟩
theorem zjE:SlQ X (rSlL X.K):=⟨zoc⟩
theorem zdO {r:V->Option Int->Option Int->Hp->VK->Prop}{lo hi:Option Expr}{tl th:TO}{p2:Pos}(hr:SlQ X r)(he:QE X e te)(hl:QO X lo tl)(hu:QO X hi th):QE X (.Subscript e (.Slice lo hi none p2) pos) (tSl r te tl th):=⟨zkM hr.run he.run hl.run hu.run⟩
theorem xM:IxQ X (zrV X.K):=⟨zmO⟩
theorem yX:IxQ X (zrW X.K):=⟨zpo⟩
theorem zqz {r:R2}(hr:IxQ X r)(ha:QE X a ta)(hb:QE X b tb)(hs:ze5 b):QE X (.Subscript a b pos) (tOp r ta tb):=⟨ztc hr.run ha.run hb.run hs⟩
theorem xZ (hu:X.A.units+1<cLine)(ha:QE X a ta)(hb:QE X b tb)(hs:zoM b):QE X (.Subscript a b pos) (zq8 ta tb):=⟨znn hu ha.run hb.run hs⟩
theorem yz:CallQ X (.builtin "len") (fun xs H Q=>∃x n,xs=[x]/\zoL X.K x H n/\Q (.int n) H):=⟨zj4⟩
theorem zhv:CallQ X (.builtin "abs") (fun xs H Q=>∃i,xs=[.int i]/\Q (.int (if i<0 then -i else i)) H):=⟨zj2⟩
theorem zhw:CallQ X (.builtin "isinstance") (fun xs H Q=>∃x T t b,xs=[x,.ty T]/\TyOf X.K H x t/\PySem.W.kitOne X.K t (.type T)=some b/\Q (.bl b) H):=⟨ze9⟩
theorem zls (hc:X.calm=true):CallQ X (.builtin "all") (fun xs H Q=>∃ (p:Addr) (bs:List Bool),xs=[.ref p]/\H p=some (.lst (bs.map V.bl))/\Q (.bl (bs.all id)) H):=⟨zj3 hc⟩
theorem zgL:CallQ X (.type "list") (fun xs H Q=>∃p ys,xs=[.ref p]/\(SqL X.K H p ys\/SqT X.K H p ys)/\∀l,H l=none->Q (.ref l) (upd H l (.lst ys))):=⟨zed⟩
theorem zfc:CallQ X (.type "tuple") (fun xs H Q=>∃p ys,xs=[.ref p]/\((SqL X.K H p ys/\∀l,H l=none->Q (.ref l) (upd H l (.tup ys)))\/(SqT X.K H p ys/\Q (.ref p) H))):=⟨zdj⟩
theorem y1 {id:String}{r:List V->Hp->VK->Prop}{x:Str}{ts:TA}(hc:CallQ X (.builtin id) r)(hg:Gl X x)(hm:X.mg x=none)(hv:bootBuiltins x=some (.builtin id))(ha:QA X (e::es) ts)(hn:x ≠ "__name__" := by decide)(hdb:(x==("__debug__" : Str))=false:=by decide)
  (he:starEach (e::es) X.env=(false,eval e X.env)::starEach es X.env:=by rfl) (hpl:(backTo pos (starEach es X.env)).any (·.1)=false:=by rfl):QE X (.Call (.Name x p) (e::es) [] pos) (tCB r ts):=⟨zkK hc.run hg hm hv ha.run hn hdb he hpl⟩
theorem uL {T:String}{r:List V->Hp->VK->Prop}{x:Str}{ts:TA}(hc:CallQ X (.type T) r)(hg:Gl X x)(hm:X.mg x=none)(hv:bootBuiltins x=some (.type T))(ha:QA X (e::es) ts)(hn:x ≠ "__name__" := by decide)(hdb:(x==("__debug__" : Str))=false:=by decide)
  (he:starEach (e::es) X.env=(false,eval e X.env)::starEach es X.env:=by rfl) (hpl:(backTo pos (starEach es X.env)).any (·.1)=false:=by rfl):QE X (.Call (.Name x p) (e::es) [] pos) (tCB r ts):=⟨zi9 hc.run hg hm hv ha.run hn hdb he hpl⟩
theorem zkW {x:Str}{st:Stmt}{ps:List Str}{f:Addr}{fd:FuncData}{sp:Sp}{j k:Nat}{ts:TA}(D:Dfn X.K X.mg x st ps f fd)(G:FnOk X.prog X.w X.K X.mg X.base CX0 j f fd ps sp)(hr:Room k X.A)
  (ha:QA X (e::es) ts) (hjk:j<=k:=by decide) (hg:Gl X x:=by rfl) (hdb:(x==("__debug__" : Str))=false:=by decide) (he:starEach (e::es) X.env=(false,eval e X.env)::starEach es X.env:=by rfl) (hpl:(backTo pos (starEach es X.env)).any (·.1)=false:=by rfl) :
  QE X (.Call (.Name x p) (e::es) [] pos) (zfS sp [] E0 ts):=⟨ztb D G hr ha.run hjk hg hdb he hpl⟩
theorem zjf {i:Nat}{x:Str}(hN:X.N.Nodup)(hi:X.N[i]?=some x)(hx:Loc X.env.scope x)(hf:X.fn x=true\/X.env.scope.names.lookup x=some .local:=by first | exact .inl rfl | exact .inr rfl | assumption):QG X (.Name x pos) (zag i):=⟨zns hN hi hx hf⟩
theorem znT:QGs X [] gNil:=⟨znt⟩
theorem zkX {g:TG}{gs:TGs}(h1:QG X e g)(h2:QGs X es gs)(hs:(assignEach (e::es) X.env).map (·.2)=assign e X.env::(assignEach es X.env).map (·.2):=by rfl):QGs X (e::es) (zpk g gs):=⟨zkO h1.run h2.run hs⟩
theorem zqC {k:Nat}{gs:TGs}{n:Nat}(hc:X.calm=true)(h:QGs X es gs)(hn:(assignEach es X.env).length=n:=by rfl)(hst:(assignEach es X.env).findIdx? (·.1)=none:=by rfl):QG X (.Tuple es k pos) (zsz X.K n gs):=⟨zql hc h.run hn hst⟩
theorem zjg {tg:Expr}(hl:QE X e te):QI X tg e (zmH X.K te):=⟨znu hl.run⟩
theorem zqD {tg:Expr}(hl:QE X e te):QI X tg e (zsB X.K te):=⟨zqm hl.run⟩
theorem zjh {tg:Expr}{ts:TA}(hg:Gl X "range")(hm:X.mg "range" = none)(ha:QA X [a] ts)(hs:starEach [a] X.env=[(false,eval a X.env)]:=by rfl):QI X tg (.Call (.Name "range" p) [a] [] pos) (zpl ts):=⟨zjb hg hm ha.run hs⟩
theorem zjk:QTs X [] zcu:=⟨znG⟩
theorem znY (h:QT X c t):QTs X [c] t:=⟨znH h.run⟩
theorem znL {elt tg iter:Expr}{ifs:List Expr}{scope:Scope}{wi:TI}{g:TG}{ti:TT}{N:List Str}{cix:List (Option Nat)}(hc:X.calm=true)(c:CompOk X scope N cix)
  (hi:QI X tg iter wi) (hg:∀C s H ex,QG (zt X scope N C s H ex) tg g) (ht:∀C s H ex,QTs (zt X scope N C s H ex) ifs ti) (he:∀C s H ex,QE (zt X scope N C s H ex) elt te)
  (hs:∀x,foldedSetIterable iter X.env x=pure x:=by intro _;rfl):QE X (.ListComp elt [⟨tg,iter,ifs,0⟩] scope pos) (zlf wi g ti te cix):=⟨znm hc c hi.run (fun C s H ex=>(hg C s H ex).run) (fun C s H ex=>(ht C s H ex).run) (fun C s H ex=>(he C s H ex).run) hs⟩
end
section
variable {X:Cx}{st:Stmt}{sts body a b:List Stmt}{t u:TS}{e o i:Expr}{te td ty tv:TE}{pos:Pos}
theorem zdS:QSs X [] zrc:=⟨znD⟩
theorem ym (h1:QS X st t)(h2:QSs X sts u):QSs X (st::sts) (ztB t u):=⟨zkT h1.run h2.run⟩
theorem zaj (h1:QS X st t):QSs X [st] t:=⟨znE h1.run⟩
theorem zdR (he:QE X e te)(hs:swapsWith e none pos.line X.env=pure false:=by rfl):QS X (.Expr e pos) (zok te):=⟨znB he.run hs⟩
theorem zch (he:QE X e te):QS X (.Return (some e) pos) (zrZ te):=⟨zqq he.run⟩
theorem zk0 {c:Expr}{tc:TT}(hc:QT X c tc)(ha:QSs X a t)(hb:QSs X b u):QS X (.If c a b pos) (tIfS tc t u):=⟨ztg hc.run ha.run hb.run⟩
theorem ug {i:Nat}{x:Str}{pos':Pos}(hN:X.N.Nodup)(hi:X.N[i]?=some x)(hx:Loc X.env.scope x)(he:QE X e te)(hs:swapsWith e (some (.Name x pos')) pos.line X.env=pure false:=by rfl)(hf:X.fn x=true\/X.env.scope.names.lookup x=some .local:=by first | exact .inl rfl | exact .inr rfl | assumption) :
  QS X (.Assign [.Name x pos'] e pos) (zgD te (zag i)):=⟨zqr hN hi hx he.run hs hf⟩
theorem zlR {tg:Expr}{g:TG}(he:QE X e te)(hg:QG X tg g)(hs:swapsWithSole [tg] e pos.line X.env=pure false:=by rfl)(hw:swappedStores [tg] e X.env=pure none:=by rfl)
  (h1:(assignEach [tg] X.env).map (·.2)=[assign tg X.env]:=by rfl):QS X (.Assign [tg] e pos) (zgD te g):=⟨zqo he.run hg.run hs hw h1⟩
theorem zdQ {pos':Pos}(hu:X.A.units+1<cLine)(ho:QE X o td)(hi:QE X i ty)(hv:QE X e tv)(hs:swapsWith e (some (.Subscript o i pos')) pos.line X.env=pure false):QS X (.Assign [.Subscript o i pos'] e pos) (zq4 td ty tv):=⟨znA hu ho.run hi.run hv.run hs⟩
theorem zqE {tg iter:Expr}{wi:TI}{g:TG}(hp:PassesOwn (model X.prog X.w) X.A X.env X.xe)(hc:X.calm=true)(hi:QI X tg iter wi)(hg:QG X tg g)(hb:QSs X body t)(hs:∀x,foldedSetIterable iter X.env x=pure x:=by intro _;rfl):QS X (.For tg iter body [] pos) (ztz wi g t):=⟨zqp hp hc hi.run hg.run hb.run hs⟩
end
theorem Fun.okQ {P:Program}{w:World}{K:PySem.W.Frag}{mg:Str->Option Value}{base:Heap}{x qual:Str}{st:Stmt}{f:Addr}{fd:FuncData}{N ps:List Str}{k:Nat}{sp:Sp}(F:Fun K x qual st f fd)(S:FnScope N ps (zf st))(len:∀vs H Q E,sp vs H Q E->vs.length=ps.length)
  (hbody:∀ (cdv:Value) (A:Around) (outer:List Env) (s:Shared) (H:Hp) (vs:List V) (Q:VK) (E:XK),Room k (A.deeper (envOfC qual (zf st) s.heap.objs.size f cdv))->sp vs H Q E->
   ∃t,QSs (zdl CX0 P w K mg base N qual (zf st) f cdv A outer s H E).nox (yj st) t/\t { nx:=fun _ H'=>Q .non H',rt:=Q } (xf N vs) H):FnOk P w K mg base CX0 (k+1) f fd ps sp:=
 F.ok S len fun cdv A outer s H vs Q E hr h=>by obtain⟨t,h1,h2⟩:=hbody cdv A outer s H vs Q E hr h;exact⟨t,h1.run,h2⟩
theorem s_ca:¬ (("cells" : Str) = "at"):=by decide +kernel
theorem s_cl:¬ (("cells" : Str) = "left"):=by decide +kernel
theorem s_al:¬ (("at" : Str) = "left"):=by decide +kernel
theorem zsG:¬ (Sum.inr "cells" : Key)=(Sum.inr "at" : Key):=fun z=>s_ca (Sum.inr.inj z)
theorem zsH:¬ (Sum.inr "cells" : Key)=(Sum.inr "left" : Key):=fun z=>s_cl (Sum.inr.inj z)
theorem zrN:¬ (Sum.inr "at" : Key)=(Sum.inr "left" : Key):=fun z=>s_al (Sum.inr.inj z)
def zaU (c:Addr)(a l:Int):List (Key×V):=[(Sum.inr "cells",.ref c),(Sum.inr "at",.int a),(Sum.inr "left",.int l)]
theorem zte (c:Addr)(a l:Int):za9 (zaU c a l) (Sum.inr "cells" : Key)=some (.ref c):=xg rfl
theorem zkN (c:Addr)(a l:Int):za9 (zaU c a l) (Sum.inr "at" : Key)=some (.int a):=by unfold zaU;rw[xB zsG,xg rfl]
theorem ztf (c:Addr)(a l:Int):za9 (zaU c a l) (Sum.inr "left" : Key)=some (.int l):=by unfold zaU;rw[xB zsH,xB zrN,xg rfl]
theorem zqh (c:Addr)(a l b:Int):u4 (zaU c a l) (Sum.inr "at" : Key) (.int b)=zaU c b l:=by unfold u4 zaU;have e1:=zsG;have e2:¬ (Sum.inr "left" : Key)=(Sum.inr "at" : Key):=fun z=>zrN z.symm;simp[e1,e2]
theorem zqi (c:Addr)(a l b:Int):u4 (zaU c a l) (Sum.inr "left" : Key) (.int b)=zaU c a b:=by unfold u4 zaU;have e1:=zsH;have e2:=zrN;simp[e1,e2]
theorem zqg (c:Addr)(a l:Int):zb8 [] (zaU c a l)=zaU c a l:=by unfold zb8 zaU;have e1:=zsG;have e2:=zsH;have e3:=zrN;simp[u4,e1,e2,e3]
structure Pen (H:Hp)(p c:Addr)(ns:List Int)(n:Nat):Prop where
 ob:∃a l:Int,H p=some (.dK (zaU c a l))/\0<=a/\a<=n/\0<=l
 ls:H c=some (.lst (ns.map V.int))
 len:ns.length<=63
theorem Pen.same {H H':Hp}{p c:Addr}{ns:List Int}{n:Nat}(P:Pen H p c ns n)(h:x4 H H'):Pen H' p c ns n:=by obtain⟨⟨a,l,h1,h2,h3,h4⟩,h5,h6⟩:=P;exact⟨⟨a,l,h _ _ h1,h2,h3,h4⟩,h _ _ h5,h6⟩
theorem zdY {H:Hp}{p c:Addr}{a l:Int}{o:HO}(h:H p=some (.dK (zaU c a l))):zx H (upd H p o):=fun b u e n=>by
 by_cases hb:b=p
 ·subst hb;rw[h] at e;cases e;have:=n _ rfl;rw[zkN] at this;cases this
 ·rw[zh hb];exact e
section
variable {H:Hp}{p c:Addr}{a l:Int}
theorem zgs (h:H p=some (.dK (zaU c a l))):zd5 H p (.str "cells") (some (.ref c)):=by have:=zd5.k (k:=(Sum.inr "cells" : Key)) h;rw[zte] at this;exact this
theorem zqf (h:H p=some (.dK (zaU c a l))):zd5 H p (.str "at") (some (.int a)):=by have:=zd5.k (k:=(Sum.inr "at" : Key)) h;rw[zkN] at this;exact this
theorem zja (h:H p=some (.dK (zaU c a l))):zd5 H p (.str "left") (some (.int l)):=by have:=zd5.k (k:=(Sum.inr "left" : Key)) h;rw[ztf] at this;exact this
theorem zqj (h:H p=some (.dK (zaU c a l)))(b:Int):zd6 H p (.str "at") (.int b) (upd H p (.dK (zaU c b l))):=by have:=zd6.k (k:=(Sum.inr "at" : Key)) (v:=.int b) h (by show 3<sizeLine;decide);rw[zqh] at this;exact this
theorem zlQ (h:H p=some (.dK (zaU c a l)))(b:Int):zd6 H p (.str "left") (.int b) (upd H p (.dK (zaU c a b))):=by have:=zd6.k (k:=(Sum.inr "left" : Key)) (v:=.int b) h (by show 3<sizeLine;decide);rw[zqi] at this;exact this
end
theorem zoQ (ns:List Int)(a:Int)(h:0<((ns.map V.int).length:Int)):∃z,atI (ns.map V.int) (a % ((ns.map V.int).length:Int))=some (.int z):=by
 have h0:=cu a (show ((ns.map V.int).length:Int)≠0 by lia);have h1:=bR a h;generalize hm:a % ((ns.map V.int).length:Int)=m at h0 h1;obtain⟨j,rfl⟩:∃j:Nat,m=j:=⟨m.toNat,by lia⟩;have hj:j<ns.length:=by rw[aa] at h1;lia
 exact⟨ns[j],zl9 (by simp[hj])⟩
theorem zlc {a:Int}{n:Nat}(h0:0<=a)(h1:a<=n)(h2:n<=1000000):0<=60013 * a * a/\60013 * a * a<=60013000000000000:=by have e:60013 * a * a=60013 * (a * a):=Int.mul_assoc _ _ _;have m0:0<=a * a:=Int.mul_nonneg h0 h0;have m1:a * a<=1000000 * 1000000:=c9 (by lia) (by lia) h0 (by lia);rw[e];lia
theorem meet {α:Type}{G:Prop}(P:α->Prop)(h:(∀a,P a)->G)(r:∀a,P a):G:=h r
theorem zsY {G:Prop}(P:Prop)(h:P->G)(r:P):G:=h r
def zjC:Sp:=fun vs H Q _=>∃ (p c:Addr) (ns:List Int) (n:Nat) (ya:Int),vs=[.ref p,.int ya]/\Pen H p c ns n/\n<=1000000/\1<=ya/\ya<1073741824/\
 ∀ (r:Int) (H':Hp),0<=r->r<ya->Pen H' p c ns (n+1)->zx H H'->Q (.int r) H'
def zlb (K:PySem.W.Frag):Sp:=fun vs H Q _=>∃ (a:Addr) (ns:List Int),vs=[.ref a]/\SqL K H a (ns.map V.int)/\ns.length<=63/\∀ (p c:Addr) (H':Hp),Pen H' p c ns 0->x4 H H'->Q (.ref p) H'
def yw (ns:List Int):Int:=ns.foldl (· * ·) 1
theorem uf (ns:List Int)(n:Int):yw (ns++[n])=yw ns * n:=by unfold yw;rw[List.foldl_append];rfl
theorem zr {α:Type}{l:List α}{i:Nat}{x:α}(h:l[i]?=some x):l.take (i+1)=l.take i++[x]:=by rw[List.take_succ,h];rfl
def zjD (K:PySem.W.Frag):Sp:=fun vs H Q _=>∃ (a:Addr) (ns:List Int),vs=[.ref a]/\SqL K H a (ns.map V.int)/\ns.length<=63/\∀H',Q (.bl true) H'
theorem zpK {g:TG}{x:V}{σ:St}{H:Hp}{A B:St->Hp->Prop}(h:g x σ H A):g x σ H fun σ3 H3=>zcu σ3 H3 fun ok H4=>if ok=true then A σ3 H4 else B σ3 H4:=by
 have e:(fun σ3 H3=>zcu σ3 H3 fun ok H4=>if ok=true then A σ3 H4 else B σ3 H4)=A:=by funext σ3 H3;show (if true=true then A σ3 H3 else B σ3 H3)=A σ3 H3;rw[if_pos rfl]
 rw[e];exact h
section
variable {prog:Program}{w:World}{A:Around}{E:Value->Shared->Prop}{s:Shared}
end
mutual
def Dt.toW:Dt->PySem.W.Dat
 | .non=>.none
 | .bl b=>.bool b
 | .int i=>.int i
 | .str x=>.str x
 | .tup l=>.tuple (Dt.toWs l)
 | .lst l=>.list (Dt.toWs l)
 | .dct=>.bytes #[]
def Dt.toWs:List Dt->List PySem.W.Dat
 | []=>[]
 | d::ds=>d.toW::Dt.toWs ds
end
mutual
theorem zfT:∀ {d e:Dt},d.toW=e.toW->d=e
 | .non,e,h=>by cases e <;> simp[Dt.toW] at h ⊢
 | .bl b,e,h=>by cases e <;> simp[Dt.toW] at h ⊢;exact h
 | .int b,e,h=>by cases e <;> simp[Dt.toW] at h ⊢;exact h
 | .str b,e,h=>by cases e <;> simp[Dt.toW] at h ⊢;exact h
 | .tup l,e,h=>by
  cases e with
  | tup m=>simp only[Dt.toW,PySem.W.Dat.tuple.injEq] at h;rw[zd0 h]
  | _=>simp[Dt.toW] at h
 | .lst l,e,h=>by
  cases e with
  | lst m=>simp only[Dt.toW,PySem.W.Dat.list.injEq] at h;rw[zd0 h]
  | _=>simp[Dt.toW] at h
 | .dct,e,h=>by cases e <;> simp[Dt.toW] at h ⊢
theorem zd0:∀ {l m:List Dt},Dt.toWs l=Dt.toWs m->l=m
 | [],m,h=>by cases m <;> simp[Dt.toWs] at h ⊢
 | d::l,m,h=>by
  cases m with
  | nil=>simp[Dt.toWs] at h
  | cons e m=>
   simp only[Dt.toWs,List.cons.injEq] at h;rw[zfT h.1,zd0 h.2]
end
def Dt.eqOk (d:Dt):Prop:=PySem.W.kqdOk 8 d.toW=true
section
variable {P:Program}{w:World}{H:Hp}{h:Heap}
mutual
theorem yY (ok:HOk P w H h):∀ (n:Nat) {d:Dt} {v:V} {u:Value},Is H d v->yN v u->PySem.W.kqdOk n d.toW=true->∃as,Reads h u (PySem.W.kqdP d.toW) as
 | _,.non,_,_,h1,r,_=>by cases h1;cases r;exact⟨_,Reads.none⟩
 | n,.bl b,_,_,_,_,k=>by cases n <;> simp[Dt.toW,PySem.W.kqdOk] at k
 | _,.int i,_,_,h1,r,_=>by cases h1;obtain⟨t,rfl⟩:=r;exact⟨_,Reads.int i t⟩
 | _,.str x,_,_,h1,r,_=>by cases h1;obtain⟨t,rfl⟩:=r;exact⟨_,Reads.str x t⟩
 | 0,.tup l,_,_,_,_,k=>by simp[Dt.toW,PySem.W.kqdOk] at k
 | n+1,.tup l,_,_,h1,r,k=>by obtain⟨a,xs,rfl,ha,hl⟩:=h1;cases r;obtain⟨_,its,rv,o,ho,hc,⟨m,hd⟩,_⟩:=ok a _ ha;obtain⟨as,q⟩:=zah ok n hl rv (by simpa [Dt.toW,PySem.W.kqdOk] using k);exact⟨as,reads_tuple_at ho hc hd (by simpa using q)⟩
 | 0,.lst l,_,_,_,_,k=>by simp[Dt.toW,PySem.W.kqdOk] at k
 | n+1,.lst l,_,_,h1,r,k=>by obtain⟨a,xs,rfl,ha,hl⟩:=h1;cases r;obtain⟨_,its,m,rv,e⟩:=ok a _ ha;obtain⟨as,q⟩:=zah ok n hl rv (by simpa [Dt.toW,PySem.W.kqdOk] using k);exact⟨_,reads_list_at e rfl rfl (by simpa using q)⟩
 | n,.dct,_,_,_,_,k=>by cases n <;> simp[Dt.toW,PySem.W.kqdOk] at k
theorem zah (ok:HOk P w H h):∀ (n:Nat) {ds:List Dt} {xs:List V} {us:List Value},IsL H ds xs->z4 xs us->(∀d∈Dt.toWs ds,PySem.W.kqdOk n d=true)->∃as,ReadsAll h us (PySem.W.kqdPs (Dt.toWs ds)) as
 | _,[],_,_,h1,r,_=>by cases h1;cases r;exact⟨_,ReadsAll.nil⟩
 | n,d::ds,_,_,h1,r,k=>by
  obtain⟨x,xr,rfl,hd,hr⟩:=h1
  cases r with
  | cons rx rr=>
   obtain⟨as,q⟩:=yY ok n hd rx (k _ (by simp[Dt.toWs]));obtain⟨bs,q2⟩:=zah ok n hr rr fun e he=>k e (by simp[Dt.toWs,he]);exact⟨_,ReadsAll.cons q q2⟩
end
end
theorem um {d:Dt}(h:d.eqOk):SeqAt.shaped (PySem.W.kqdP d.toW)=true:=by have l:=PySem.W.kqd_lay 8 _ h;unfold SeqAt.shaped;rw[l.1,Bool.true_and];exact aR (ax l.2 (by decide))
def zrT:R2:=fun x y H Q=>∃d e,Is H d x/\Is H e y/\d.eqOk/\e.eqOk/\∀b:Bool,(b=true↔d=e)->Q (.bl b) H
def zrX:R2:=fun x y H Q=>∃d e,Is H d x/\Is H e y/\d.eqOk/\e.eqOk/\∀b:Bool,(b=true↔d=e)->Q (.bl (!b)) H
section
variable {X:Cx}
theorem zhP {d e:Dt}(h1:d.eqOk)(h2:e.eqOk):PyData.eqv (PySem.W.kqdP d.toW) (PySem.W.kqdP e.toW)=true↔d=e:=
 (PySem.W.kqd_eqv 8 d.toW e.toW 8 h1 h2).trans ⟨zfT,fun z=>by rw[z]⟩
theorem zpX (hu:X.A.units+64<cLine):OpR X (compareOp .Eq) zrT:=by intro pins s σ H x y v u Q I rx ry h;obtain⟨d,e,hd,he,kd,ke,q⟩:=h;obtain⟨as,ra⟩:=yY I.hok 8 hd rx kd;obtain⟨bs,rb⟩:=yY I.hok 8 he ry ke;exact eq_dataH ra rb (um kd) (um ke) hu ⟨.bl _,H,I,rfl,q _ (zhP kd ke)⟩
theorem zp0 (hu:X.A.units+64<cLine):OpR X (compareOp .NotEq) zrX:=by intro pins s σ H x y v u Q I rx ry h;obtain⟨d,e,hd,he,kd,ke,q⟩:=h;obtain⟨as,ra⟩:=yY I.hok 8 hd rx kd;obtain⟨bs,rb⟩:=yY I.hok 8 he ry ke;exact ne_dataH ra rb (um kd) (um ke) hu ⟨.bl _,H,I,rfl,q _ (zhP kd ke)⟩
theorem zp5 (hu:X.A.units+64<cLine):OpQ X (compareOp .Eq) zrT:=⟨zpX hu⟩
theorem zi4 (hu:X.A.units+64<cLine):OpQ X (compareOp .NotEq) zrX:=⟨zp0 hu⟩
theorem zqy {o e:Expr}{to:TE}{t:TA}{apos cpos:Pos}(ho:QE X o to)(ha:QA X [e] t)(hbase:attributeBase o "append" X.env (eval o X.env)=eval o X.env:=by rfl)
  (hfew:((backTo cpos (starEach [e] X.env)).all (fun x=>!x.1)&&(backToKw cpos (keywordEach [] X.env)).all (fun x=>x.1.isSome)&&decide (([e]:List Expr).length+([]:List Keyword).length+(if ([]:List Keyword).isEmpty then 0 else 1)<30))=true:=by rfl)
  (hline:(apos.endLine==cpos.line)=true:=by rfl) (hs:starEach [e] X.env=(false,eval e X.env)::starEach [] X.env:=by rfl) (hplain:(backTo cpos (starEach [] X.env)).any (·.1)=false:=by rfl) :
  QE X (.Call (.Attribute o "append" apos) [e] [] cpos) (tBM X.K "list" zfL to t):=⟨zp9 bS PySem.F.slot_list_append PySem.F.type_list_append zb9 ho.run ha.run hbase hfew hline hs hplain⟩
end
theorem zaq {ns:List Int}:(Dt.tup (ns.map .int)).eqOk:=by
 have e:∀ns:List Int,(Dt.toWs (ns.map .int)).all (PySem.W.kqdOk 7)=true:=by
  intro ns
  induction ns with
  | nil=>rfl
  | cons n ns ih=>simp only[ao,Dt.toWs,cC,ih,du];rfl
 exact e ns
def ya (rm:List Int)(i:Int):Int:=rm.getD i.toNat 0
@[reducible] def yb (q:Int×Int):Dt:=.tup [.int q.1,.int q.2]
structure Giv (rm:List Int)(g:List (Int×Int)):Prop where
 ok:∀q∈g,0<=q.1/\q.1<rm.length/\0<=q.2/\q.2<ya rm q.1
 up:g.Pairwise fun a b=>a.1<b.1
theorem za0 {g:List (Int×Int)}:(Dt.tup (g.map yb)).eqOk/\(Dt.lst (g.map yb)).eqOk:=by
 have e:∀g:List (Int×Int),(Dt.toWs (g.map yb)).all (PySem.W.kqdOk 7)=true:=by
  intro g
  induction g with
  | nil=>rfl
  | cons n ns ih=>simp only[ao,Dt.toWs,cC,ih,du];rfl
 exact⟨e g,e g⟩
mutual
def Dt.noL:Dt->Bool
 | .tup l=>Dt.noLs l
 | .lst _=>false
 | .dct=>false
 | _=>true
def Dt.noLs:List Dt->Bool
 | []=>true
 | d::ds=>d.noL&&Dt.noLs ds
end
theorem Giv.snoc {rm:List Int}{g:List (Int×Int)}{i w:Int}(h:Giv rm g)(hl:∀q∈g,q.1<i)(h0:0<=i)(h1:i<rm.length)(h2:0<=w)(h3:w<ya rm i):Giv rm (g++[(i,w)]):=by
 refine⟨fun q hq=>?_,List.pairwise_append.mpr ⟨h.up,cP _ _,fun a ha b hb=>?_⟩⟩
 ·rcases bg.mp hq with z | z
  ·exact h.ok q z
  ·rw[aK.mp z];exact⟨h0,h1,h2,h3⟩
 ·rw[aK.mp hb];exact hl a ha
theorem Pen.app {H:Hp}{p c fa:Addr}{ns:List Int}{n:Nat}{xs ys:List V}(P:Pen H p c ns n)(hf:H fa=some (.lst xs))(hc:c≠fa):Pen (upd H fa (.lst ys)) p c ns n:=by
 obtain⟨⟨a,l,h1,h2,h3,h4⟩,h5,h6⟩:=P;have hp:p≠fa:=fun e=>by subst e;rw[hf] at h1;cases h1
 exact⟨⟨a,l,by rw[zh hp];exact h1,h2,h3,h4⟩,by rw[zh hc];exact h5,h6⟩
def New (H:Hp)(o:HO)(R:V->Hp->Prop):Prop:=∀ (p:Addr) (H':Hp),H p=none->H' p=some o->x4 H H'->R (.ref p) H'
theorem New.at {H:Hp}{o:HO}{R:V->Hp->Prop}(h:New H o R){p:Addr}(hp:H p=none):R (.ref p) (upd H p o):=h p _ hp zj (x4.upd hp)
def zrg (t:TA):TE:=fun σ H Q=>t σ H fun xs H1=>xs.length<=sizeLine/\New H1 (.tup xs) Q
def zrb (t:TA):TE:=fun σ H Q=>t σ H fun xs H1=>xs.length<=sizeLine/\New H1 (.lst xs) Q
section
variable {X:Cx}{es:List Expr}{t:TA}{pos:Pos}
theorem znr {x1}(h:PA X es t):PE X (.Tuple es x1 pos) (zrg t):=by intro pins s σ H Q I hq;refine wpAny_Tuple_spliced (thn (h pos pins s σ H _ I hq) fun us s1 ⟨xs,H1,I1,r,z,q⟩=>⟨by rw[<- r.length];exact z,?_⟩);have hf:H1 s1.heap.objs.size=none:=I1.hok.fresh (ag _);refine⟨.ref s1.heap.objs.size,upd H1 s1.heap.objs.size (.tup xs),I1.laid (t':=s1.toks) (fun b u e=>ai _ e) (ag _) ?_,rfl,q.at hf⟩;exact⟨z,us,r,⟨_,aP _ rfl,rfl,⟨_,rfl⟩,rfl⟩⟩
theorem znp (h:PA X es t):PE X (.List es pos) (zrb t):=by intro pins s σ H Q I hq;refine wpAny_List_spliced (thn (h pos pins s σ H _ I hq) fun us s1 ⟨xs,H1,I1,r,z,q⟩=>⟨by rw[<- r.length];exact z,?_⟩);have hf:H1 s1.heap.objs.size=none:=I1.hok.fresh (ag _);refine⟨.ref s1.heap.objs.size,upd H1 s1.heap.objs.size (.lst xs),I1.laid (t':=s1.toks) (fun b u e=>ai _ e) (ag _) ?_,rfl,q.at hf⟩;exact⟨z,us,0,r,aP _ rfl⟩
theorem znQ {x1}(h:QA X es t):QE X (.Tuple es x1 pos) (zrg t):=⟨znr h.run⟩
theorem znN (h:QA X es t):QE X (.List es pos) (zrb t):=⟨znp h.run⟩
theorem CallQ.weak {f:Value}{r r':List V->Hp->VK->Prop}(h:CallQ X f r)(k:∀xs H Q,r' xs H Q->r xs H Q):CallQ X f r':=⟨fun pins s σ H xs us Q I rr z=>h.run pins s σ H xs us Q I rr (k _ _ _ z)⟩
theorem OpQ.weak {f:Value->Value->Sem Value}{r r':R2}(h:OpQ X f r)(k:∀x y H Q,r' x y H Q->r x y H Q):OpQ X f r':=⟨fun pins s σ H x y v u Q I rx ry z=>h.run pins s σ H x y v u Q I rx ry (k _ _ _ _ z)⟩
def zqK (K:PySem.W.Frag):List V->Hp->VK->Prop:=fun xs H Q=>∃p ys,xs=[.ref p]/\(SqL K H p ys\/SqT K H p ys)/\New H (.lst ys) Q
def zfM (K:PySem.W.Frag):List V->Hp->VK->Prop:=fun xs H Q=>∃p ys,xs=[.ref p]/\((SqL K H p ys/\New H (.tup ys) Q)\/(SqT K H p ys/\Q (.ref p) H))
theorem zfa:CallQ X (.type "list") (zqK X.K):=zgL.weak <| by rintro xs H Q ⟨p,ys,e,h,n⟩;exact⟨p,ys,e,h,fun l hl=>n.at hl⟩
theorem xi:CallQ X (.type "tuple") (zfM X.K):=zfc.weak <| by rintro xs H Q ⟨p,ys,e,h⟩;exact⟨p,ys,e,h.elim (by rintro⟨a,n⟩;exact .inl ⟨a,fun l hl=>n.at hl⟩) .inr⟩
def znZ:R2:=fun x y H Q=>∃l b xs zs,x = .ref l/\y = .ref b/\H l=some (.lst xs)/\H b=some (.lst zs)/\xs.length+zs.length<=sizeLine/\New H (.lst (xs++zs)) Q
theorem zi2:OpQ X (binaryOp .Add) znZ:=zp4.weak <| by rintro x y H Q ⟨l,b,xs,zs,e1,e2,h1,h2,z,n⟩;exact⟨l,b,xs,zs,e1,e2,h1,h2,z,fun p hp=>n.at hp⟩
end
def zmf (g:TG)(ti:TT)(te:TE)(acc:Addr)(N:St->Hp->Prop)(x:V)(σ:St)(H:Hp):Prop:=
 g x σ H fun σ3 H3=>ti σ3 H3 fun ok H4=>if ok=true then te σ3 H4 fun v H5=>∃xs,H5 acc=some (.lst xs)/\xs.length<sizeLine/\N σ3 (upd H5 acc (.lst (xs++[v]))) else N σ3 H4
def zoW (J:It)(g:TG)(ti:TT)(te:TE)(acc:Addr)(Q:VK)(σ:St)(H:Hp):Prop:=∃W:Nat->Nat->St->Hp->Prop,(∃m,W 0 m σ H)/\
 ∀i m σ' H',W i m σ' H'->(J.stop i H'/\Q (.ref acc) H')\/(J.go i H'/\∃N:St->Hp->Prop,(∀ σ2 H2,N σ2 H2->∃m',m'<m/\W (i+1) m' σ2 H2)/\∀x H2,J.yld i H' x H2->zmf g ti te acc N x σ' H2)
def zjF (wi:TI)(g:TG)(ti:TT)(te:TE)(cix:List (Option Nat)):TE:=fun σ H Q=>wi σ H fun J H1=>∀acc,H1 acc=none->zoW J g ti te acc Q (uT σ cix) (upd H1 acc (.lst []))
theorem zgv {X:Cx}{pos:Pos}{te:TE}{elt tg iter:Expr}{ifs:List Expr}{scope:Scope}{wi:TI}{g:TG}{ti:TT}{N:List Str}{cix:List (Option Nat)}(hc:X.calm=true)(c:CompOk X scope N cix)
  (hi:QI X tg iter wi) (hg:∀C s H ex,QG (zt X scope N C s H ex) tg g) (ht:∀C s H ex,QTs (zt X scope N C s H ex) ifs ti) (he:∀C s H ex,QE (zt X scope N C s H ex) elt te)
  (hs:∀x,foldedSetIterable iter X.env x=pure x:=by intro _;rfl):QE X (.ListComp elt [⟨tg,iter,ifs,0⟩] scope pos) (zjF wi g ti te cix):=znL hc c hi hg ht he hs
section
variable {K:PySem.W.Frag}{a acc:Addr}{xs:List V}{g:TG}{ti:TT}{te:TE}{σ:St}{H:Hp}{Q:VK}
theorem zhs (hacc:H acc=none)(Pv:Nat->St->Hp->Prop)(h0:∀H',H' acc=some (.lst [])->x4 H H'->Pv 0 σ H')(hl:∀i σ H,i<=xs.length->Pv i σ H->SqL K H a xs)
  (hs:∀i x σ H,xs[i]?=some x->Pv i σ H->zmf g ti te acc (Pv (i+1)) x σ H) (hd:∀ σ H,Pv xs.length σ H->Q (.ref acc) H):zoW (Itl K a) g ti te acc Q σ (upd H acc (.lst [])):=by
 refine⟨fun i m σ H=>m=xs.length - i/\i<=xs.length/\Pv i σ H,⟨xs.length,by simp,a8 _,h0 _ zj (x4.upd hacc)⟩,?_⟩;rintro i m σ H ⟨rfl,hi,p⟩;have q:=hl i σ H hi p;by_cases hlt:i<xs.length
 ·refine .inr ⟨⟨xs,xs[i],q,by simp[hlt]⟩,Pv (i+1),fun σ' H' p'=>⟨xs.length - (i+1),by lia,rfl,hlt,p'⟩,fun x H' y=>?_⟩;obtain⟨e,y⟩:=y;subst e;exact hs i x σ _ (y xs q) p
 ·have e:i=xs.length:=by lia
  subst e;exact .inl ⟨⟨xs,q,ag _⟩,hd σ H p⟩
end
theorem zoX {g:TG}{te:TE}{acc:Addr}{N:St->Hp->Prop}{x:V}{σ:St}{H:Hp}(h:g x σ H fun σ3 H3=>te σ3 H3 fun v H5=>∃xs,H5 acc=some (.lst xs)/\xs.length<sizeLine/\N σ3 (upd H5 acc (.lst (xs++[v])))):zmf g zcu te acc N x σ H:=zpK h
theorem zgB {H H1:Hp}{acc:Addr}{o:HO}(h:H acc=none)(s:zx H H1):zx H (upd H1 acc o):=fun b u e nn=>by rw[zh (zc e h)];exact s b u e nn
section
variable {X:Cx}(K:PySem.W.Frag)(h:X.K=K)
include h
theorem zmg:CallQ X (.builtin "len") (fun xs H Q=>∃x n,xs=[x]/\zoL K x H n/\Q (.int n) H):=h ▸ yz
end
theorem znS {X:Cx}(K:PySem.W.Frag)(hK:X.K=K){es:List Expr}{pos:Pos}{k:Nat}{gs:TGs}{n:Nat}(hc:X.calm=true)(h:QGs X es gs)(hn:(assignEach es X.env).length=n:=by rfl)(hst:(assignEach es X.env).findIdx? (·.1)=none:=by rfl):QG X (.Tuple es k pos) (zsz K n gs):=hK ▸ zqC hc h hn hst
theorem znU {X:Cx}(K:PySem.W.Frag)(hK:X.K=K){e tg:Expr}{te:TE}(hl:QE X e te):QI X tg e (zsB K te):=hK ▸ zqD hl
theorem zkZ {X:Cx}(K:PySem.W.Frag)(hK:X.K=K){e tg:Expr}{te:TE}(hl:QE X e te):QI X tg e (zmH K te):=hK ▸ zjg hl
structure Wi where
 g:List (Int×Int)
 b:Int
 r:Int
 w:Int
@[reducible] def yg (x:Wi):Dt:=.tup [.tup (x.g.map yb),.int x.b,.int x.r,.int x.w]
structure WishOk (rm:List Int)(x:Wi):Prop where
 giv:Giv rm x.g
 b0:0<=x.b
 b1:x.b<rm.length
 apart:∀q∈x.g,q.1≠x.b
 r0:0<=x.r
 r1:x.r<ya rm x.b
 w0:0<=x.w
 w1:x.w<ya rm x.b
 ne:x.r≠x.w
section
variable {H H':Hp}{R:Dt->Prop}{xs ys:List V}
end
def zlq (rm:List Int)(d:Dt):Prop:=∃x,d=yg x/\WishOk rm x
theorem zky (x:Wi):PySem.W.kqdOk 7 (yg x).toW=true:=by
 have e:∀g:List (Int×Int),(Dt.toWs (g.map yb)).all (PySem.W.kqdOk 5)=true:=by
  intro g
  induction g with
  | nil=>rfl
  | cons n ns ih=>simp only[ao,Dt.toWs,cC,ih,du];rfl
 show ((Dt.toWs (x.g.map yb)).all (PySem.W.kqdOk 5)&&_)=true;rw[e];rfl
theorem zfh {rm:List Int}{ds:List Dt}(h:∀d∈ds,zlq rm d):(Dt.tup ds).eqOk/\(Dt.lst ds).eqOk:=by
 have e:∀ds:List Dt,(∀d∈ds,zlq rm d)->(Dt.toWs ds).all (PySem.W.kqdOk 7)=true:=by
  intro ds
  induction ds with
  | nil=>intro _;rfl
  | cons n ns ih=>
   intro h;obtain⟨x,rfl,_⟩:=h n ah;simp only[Dt.toWs,cC,ih fun d hd=>h d (ak _ hd),zky x,du]
 exact⟨e ds h,e ds h⟩
theorem zgb (b:Int)(ns:List Int):inV (.int b) (ns.map V.int)=ns.contains b:=by
 unfold inV
 induction ns with
 | nil=>rfl
 | cons n ns ih=>
  rw[ao,ci,ih,List.contains_cons];show ((n==b) || _)=((b==n) || _);rw[show (n==b)=(b==n) from BEq.comm]
theorem zek (ns:List Int):(ns.map V.int).all zcD=true:=by rw[bB];intro x hx;obtain⟨n,_,rfl⟩:=aF.mp hx;rfl
theorem zhX {m:Int}:∀ {g:List (Int×Int)} {lo:Int},(∀q∈g,lo<=q.1/\q.1<m)->(g.Pairwise fun a b=>a.1<b.1)->lo<=m->(g.length:Int)<=m - lo
 | [],lo,_,_,h=>by simp;lia
 | q::g,lo,h,hp,hm=>by have h1:=h q ah;have hp':=cb.mp hp;have ih:=zhX (g:=g) (lo:=q.1+1) (fun x hx=>⟨by have:=hp'.1 x hx;lia,(h x (ak _ hx)).2⟩) hp'.2 (by lia);rw[aS];lia
theorem zhW {rm:List Int}{g:List (Int×Int)}(h:Giv rm g)(h8:rm.length<=8):g.length<=100:=by have:=zhX (g:=g) (lo:=0) (m:=rm.length) (fun q hq=>⟨(h.ok q hq).1,(h.ok q hq).2.1⟩) h.up (by lia);lia
theorem zhy (xs:List V)(k:Nat):zcB xs none (some (k:Int))=xs.take k:=by
 have e:HT.sIx xs.length xs.length (some (k:Int))=min k xs.length:=by simp[HT.sIx];try lia
 unfold zcB;rw[e,show HT.sIx xs.length 0 none=0 from rfl,dC,eG];by_cases h:k<=xs.length
 ·rw[ei h]
 ·rw[dM (by lia),bK (ag _),bK (by lia)]
theorem zhx (xs:List V)(k:Nat):zcB xs (some (k:Int)) none=xs.drop k:=by
 have e:HT.sIx xs.length 0 (some (k:Int))=min k xs.length:=by simp[HT.sIx];try lia
 unfold zcB;rw[e,show HT.sIx xs.length xs.length none=xs.length from rfl];by_cases h:k<=xs.length
 ·rw[ei h,bK (by rw[bf];lia)]
 ·rw[dM (by lia),cU (as:=xs) (i:=xs.length) (by lia),cU (as:=xs) (i:=k) (by lia),List.take_nil]
section
variable {rm:List Int}{g b r w:Dt}
end
end L2
namespace HT
open PySem PySem.Spec PyProof.Rows
section
variable {prog:Program}{w:World}{A:Around}{E:Value->Shared->Prop}{s:Shared}
theorem fm_congr {α β:Type}{f g:α->Option β}:∀ {l:List α},(∀m∈l,f m=g m)->l.filterMap f=l.filterMap g
 | [],_=>rfl
 | a::l,h=>by rw[List.filterMap_cons,List.filterMap_cons,h a List.mem_cons_self,fm_congr fun m hm=>h m (List.mem_cons_of_mem _ hm)]
theorem pick_rev (xs:Array Value):((List.range xs.size).filterMap fun (m:Nat)=>xs[((xs.size:Int) - 1+(m:Int) * (-1)).toNat]?).toArray=xs.toList.reverse.toArray:=by
 congr 1
 have e:∀m∈List.range xs.size,xs[((xs.size:Int) - 1+(m:Int) * (-1)).toNat]?=some (xs.toList.reverse.getD m .none):=by
  intro m hm;have hm':=List.mem_range.mp hm;have e1:((xs.size:Int) - 1+(m:Int) * (-1)).toNat=xs.size - 1 - m:=by lia
  rw[e1];have h2:xs.size - 1 - m<xs.size:=by lia
  rw[Array.getElem?_eq_getElem h2];congr 1;rw[List.getD_eq_getElem?_getD,List.getElem?_reverse (by rw[Array.length_toList];exact hm'),Array.length_toList,Array.getElem?_toList,Array.getElem?_eq_getElem h2];rfl
 rw[fm_congr e];rw[List.filterMap_eq_map' (f:=fun m=>xs.toList.reverse.getD m .none)];refine List.ext_getElem? fun i=>?_;rw[List.getElem?_map];by_cases hi:i<xs.size
 ·rw[List.getElem?_range hi];show some (xs.toList.reverse.getD i .none)=_;have hl:i<xs.toList.reverse.length:=by rw[List.length_reverse,Array.length_toList];exact hi
  rw[List.getD_eq_getElem?_getD,List.getElem?_eq_getElem hl];rfl
 ·rw[List.getElem?_eq_none (by rw[List.length_range];lia),List.getElem?_eq_none (by rw[List.length_reverse,Array.length_toList];lia)];rfl
end
end HT
namespace L2
open PySem PySem.Spec PyProof.Rows
section
variable {X:Cx}{e:Expr}{te:TE}{pos p2 p3 p4:Pos}{j:Nat}
theorem ze2 {xs:List V}{us:List Value}(r:z4 xs us):z4 xs.reverse us.reverse:=by
 induction r with
 | nil=>exact .nil
 | cons h _ ih=>rw[c4,c4];exact ih.append (.cons h .nil)
theorem zdW (xs:Array Value):slicePick xs none none (some (-1))=xs.toList.reverse.toArray:=by
 rw[<- HT.pick_rev];unfold slicePick;congr 1;have e1:sliceBounds none none (some (-1)) xs.size=((xs.size:Int) - 1,-1,-1):=by simp[sliceBounds]
 rw[e1];unfold sliceRange
 have e2:(if (-1:Int) > 0 then (if (xs.size:Int) - 1 < -1 then (-1 - ((xs.size:Int) - 1)+-1 - 1) / -1 else 0) else if (xs.size:Int) - 1 > -1 then ((xs.size:Int) - 1 - -1 - -1 - 1) / - -1 else 0).toNat=xs.size:=by rw[if_neg (by decide),show - (-1:Int)=1 from rfl,Int.ediv_one];split <;> lia
 show List.filterMap (fun x=>xs[x]?) (List.map _ (List.range (if (-1:Int) > 0 then (if (xs.size:Int) - 1 < -1 then (-1 - ((xs.size:Int) - 1)+-1 - 1) / -1 else 0) else if (xs.size:Int) - 1 > -1 then ((xs.size:Int) - 1 - -1 - -1 - 1) / - -1 else 0).toNat))=_;rw[e2,eD];refine HT.fm_congr fun m hm=>?_;show xs[((xs.size:Int) - 1+-1 * (m:Int)).toNat]?=_;rw[show (xs.size:Int) - 1+-1 * (m:Int)=(xs.size:Int) - 1+(m:Int) * -1 by lia]
def zrf (te:TE):TE:=fun σ H Q=>te σ H fun x H1=>∃a xs,x = .ref a/\H1 a=some (.lst xs)/\New H1 (.lst xs.reverse) Q
theorem znq (he:PE X e te):PE X (.Subscript e (.Slice none none (some (.UnaryOp .USub (.Constant (.int 1) j p4) p3)) p2) pos) (zrf te):=by intro pins s σ H Q I h;refine Subscript_ (thn (he pins s σ H _ I h)  ?_);rintro v s1 ⟨x,H1,I1,r1,q1⟩;obtain⟨a,xs,rfl,ha,q⟩:=q1;cases r1;refine wpAny_Slice ?_;rw[evalPart_none];refine ac (ac ?_);rw[evalPart_some];refine thn (zqd (zl6 (X:=X)) (zlP (X:=X)) pins s1 σ H1 (fun z H2=>z = .int (-1)/\H2=H1) I1 ⟨1,rfl,rfl,rfl⟩)  ?_;rintro u s2 ⟨z,H2,I2,r2,e1,e2⟩;subst e1 e2;obtain⟨tk,rfl⟩:=r2;have I3:Inv X pins σ H2 { s2 with heap:=s2.heap.push { cls:=.type "slice",data:=.fields #[.none,.none,.int (-1) tk] } }:=I2.kept (t':=s2.toks) fun b ob q=>ai _ q;obtain⟨its,r,ht,hz⟩:=I3.list (.of ha);have hlen:=r.length;show wpAny (model X.prog X.w) X.A (subscriptTail e _ (.ref a) (.ref s2.heap.objs.size)) (EP X pins σ Q) X.xe { s2 with heap:=s2.heap.push { cls:=.type "slice",data:=.fields #[.none,.none,.int (-1) tk] } };refine tail_any (ops:=[.ref a,.ref s2.heap.objs.size]) ht.isList.typeIs slot_list_getitem.lookup ?_ (by with_unfolding_all rfl);refine wpAny_getItem_list_slice ht.isList (Heap.IsSliceOf.new ..) .none .none (.int (-1) tk) (by simp) ?_ (by rw[aq] <;> lia);rw[zdW];refine⟨.ref _,_,I3.laid (t':=s2.toks) (o:=.lst xs.reverse) (fun b ob q=>ai _ q) (ag _) ?_,rfl,q.at (I3.hok.fresh (ag _))⟩;exact⟨by rw[el];exact hz,its.reverse,0,ze2 r,aP _ rfl⟩
theorem znP (he:QE X e te):QE X (.Subscript e (.Slice none none (some (.UnaryOp .USub (.Constant (.int 1) j p4) p3)) p2) pos) (zrf te):=⟨znq he.run⟩
def ztp:V->V->V->Hp->(Hp->Prop)->Prop:=fun o i v H Q=>∃p xs k,o = .ref p/\i = .int k/\H p=some (.lst xs)/\0<=k/\k<xs.length/\Q (upd H p (.lst (xs.set k.toNat v)))
theorem znR {o i:Expr}{to ti:TE}(ho:QE X o to)(hi:QE X i ti)(ha:∀v,assign (.Subscript o i pos) X.env v=(do
   let ov <- holding [v] (eval o X.env)
   let iv <- holding [v,ov] (eval i X.env)
   standAt pos
   holding [v,ov,iv] (setItem ov iv v)
   release [v,ov,iv] []):=by intro _;rfl):QG X (.Subscript o i pos) (gSub to ti ztp):=
 ⟨zqk ho.run hi.run (by rintro pins s σ H o i v ov iv u Q I ro ri rv ⟨p,xs,k,e1,e2,hp,h0,h1,q⟩;exact zk9 pins s σ H o i v ov iv u Q I ro ri rv ⟨p,xs,k,k.toNat,e1,e2,hp,by unfold ixN;rw[if_pos h0,if_pos h1],q⟩) ha⟩
end
section
variable {X:Cx}
end
def chg (st:List Int)(b w:Int):List Int:=st.take b.toNat++[w]++st.drop (b.toNat+1)
theorem zme (st:List Int){b w:Int}(h0:0<=b):zcB (st.map V.int) none (some b)++[.int w]++zcB (st.map V.int) (some (b+1)) none=(chg st b w).map V.int:=by obtain⟨j,rfl⟩:∃j:Nat,b=j:=⟨b.toNat,by lia⟩;rw[zhy,show ((j:Int)+1)=((j+1:Nat):Int) by lia,zhx];unfold chg;rw[aB,aB,dS,eU];rfl
theorem xU {st:List Int}{b w:Int}(h0:0<=b)(h1:b<st.length):(chg st b w).length=st.length:=by unfold chg;rw[af,af,aJ,bf];show min b.toNat st.length+1+(st.length - (b.toNat+1))=st.length;lia
theorem yo {st:List Int}{b w c:Int}(h0:0<=b)(h1:b<st.length)(c0:0<=c):ya (chg st b w) c=if c=b then w else ya st c:=by
 obtain⟨j,rfl⟩:∃j:Nat,b=j:=⟨b.toNat,by lia⟩;obtain⟨k,rfl⟩:∃k:Nat,c=k:=⟨c.toNat,by lia⟩;have hj:j<st.length:=by lia
 unfold ya chg;simp only[aL,aE];have hl:(st.take j).length=j:=by rw[aJ];lia
 rcases cm k j with h | h | h
 ·rw[if_neg (by lia),bO,a6 (by rw[hl];exact h),dj h]
 ·subst h;rw[if_pos rfl,bO,ba (by rw[hl];exact ag _),hl,eI];rfl
 ·rw[if_neg (by lia),bO,ba (by rw[hl];lia),hl];obtain⟨m,rfl⟩:∃m,k=j+1+m:=⟨k - (j+1),by lia⟩;rw[show j+1+m - j=m+1 by lia];show ((st.drop (j+1))[m]?).getD 0=_;rw[dv]
theorem zf8 {s t:List Int}(hl:s.length=t.length)(h:∀c:Int,0<=c->c<s.length->ya s c=ya t c):s=t:=by refine de hl fun i h1 h2=>?_;have:=h (i:Int) (by lia) (by lia);unfold ya at this;simpa [h1,h2] using this
def xl (st:List Int)(g:List (Int×Int)):Bool:=g.all fun q=>decide (ya st q.1=q.2)
def uZ (st:List Int)(x:Wi):Bool:=decide (ya st x.b=x.w)&&xl st x.g
def zsA (one other:List Int)(x:Wi):Bool:=uZ one x&&decide (chg one x.b x.r=other)
def zrj (x:Wi):Wi:={ x with r:=x.w,w:=x.r }
theorem yc (st:List Int)(j:Nat):ya st (j:Int)=st.getD j 0:=by unfold ya;simp
theorem zbd {st:List Int}{r b:Int}(h0:0<=b)(h1:b<st.length):ya (st++[r]) b=ya st b:=by
 obtain⟨j,rfl⟩:∃j:Nat,b=j:=⟨b.toNat,by lia⟩;have hj:j<st.length:=by lia
 rw[yc,yc,aE,aE,a6 hj]
theorem zbc {st:List Int}{r:Int}:ya (st++[r]) (st.length:Int)=r:=by rw[yc,aE,ba (ag _),eI];rfl
theorem zfC {st:List Int}{i:Nat}{m:Int}(h:st[i]?=some m):ya st (i:Int)=m:=by rw[yc,aE,h];rfl
theorem yf {rm:List Int}(hb:∀r∈rm,2<=r/\r<=4){b:Int}(h0:0<=b)(h1:b<rm.length):2<=ya rm b/\ya rm b<=4:=by
 obtain⟨j,rfl⟩:∃j:Nat,b=j:=⟨b.toNat,by lia⟩;have hj:j<rm.length:=by lia
 rw[zfC (aj hj)];exact hb _ (bh hj)
theorem zeB:∀st:List Int,Dt.noLs (st.map .int)=true
 | []=>rfl
 | _::st=>by show (true&&Dt.noLs (st.map .int))=true;rw[zeB st];rfl
theorem zkw (st:List Int):PySem.W.kqdOk 7 (Dt.tup (st.map .int)).toW=true:=by
 have e:∀ns:List Int,(Dt.toWs (ns.map .int)).all (PySem.W.kqdOk 6)=true:=by
  intro ns
  induction ns with
  | nil=>rfl
  | cons n ns ih=>simp only[ao,Dt.toWs,cC,ih,du];rfl
 exact e st
theorem znC {X:Cx}{elt tg iter:Expr}{ifs:List Expr}{scope:Scope}{pos spos:Pos}{wi:TI}{g:TG}{ti:TT}{te:TE}{N:List Str}{cix:List (Option Nat)}{ix:Nat}{nx:Str}{px:Pos}(hNd:X.N.Nodup)(hix:X.N[ix]?=some nx)(hlx:X.env.scope.names.lookup nx=some .local)(hc:X.calm=true)(c:CompOk X scope N cix)
  (hi:PI X tg iter wi) (hg:∀C s H ex,PG (zt X scope N C s H ex) tg g) (ht:∀C s H ex,PTs (zt X scope N C s H ex) ifs ti) (he:∀C s H ex,PE (zt X scope N C s H ex) elt te)
  (hsw:swapsWithSole [.Name nx px] (.ListComp elt [⟨tg,iter,ifs,0⟩] scope pos) spos.line X.env=pure true)
  (hs:∀x,foldedSetIterable iter X.env x=pure x:=by intro _;rfl)
  (h1a:(assignEach [.Name nx px] X.env).map (·.2)=[assign (.Name nx px) X.env]:=by rfl):PS X (.Assign [.Name nx px] (.ListComp elt [⟨tg,iter,ifs,0⟩] scope pos) spos) (zgD (zlf wi g ti te cix) (zag ix)):=by
 intro pins s σ H D I h0;have h:zlf wi g ti te cix σ H (fun x H1=>D.nx (σ.set ix (some x)) H1):=h0;rw[exec_Assign_arm];refine ab (b6 ?_);rw[hsw];refine ab (ac ?_);rw[if_pos rfl];refine ab ?_;rw[evalThenUse.eq_1];refine ab ?_;generalize hU:(fun v=>assignAll v ((assignEach [.Name nx px] X.env).map (·.2)))=U;refine b9 (g:=⟨tg,iter,ifs,0⟩) (gs:=[]) (use:=some U) rfl hs (x9 (c.cells I.ok)) c.kind c.names ?_;refine (thn (hi pins s σ H _ I h) fun xv s1 h1=>thn h1 fun itv s2 h2=>?_);obtain⟨it,fp,tn,J,H2,e,I2,T,st2,f2,q2⟩:=h2;subst e;refine bj (c6 c.cell (by intro y hy;simp at hy) (fun h4 hns4 hsb4=>?_) c.kind);dsimp only at hns4 hsb4 ⊢;have hnone:=I2.hok.fresh (ag s2.heap.objs.size);have I3:Inv X pins σ (upd H2 s2.heap.objs.size (.lst [])) { s2 with heap:=s2.heap.push { cls:=.type "list",dict:=none,data:=.seq ([]:List Value).toArray },toks:=s2.toks }:=I2.lnew (t':=s2.toks) .nil (by simp);obtain⟨W,⟨m0,w0⟩,turn⟩:=q2 s2.heap.objs.size hnone
 have ltF:∀b∈fp,b<s2.heap.objs.size:=fun b hb=>by obtain⟨o,ho,_⟩:=T.obj _ _ st2 b hb;exact aw ho
 have f3:∀b∈fp,zcO X pins (upd H2 s2.heap.objs.size (.lst [])) b:=fun b hb=>⟨by rw[zh (aO (ltF b hb))];exact (f2 b hb).1,(f2 b hb).2⟩
 have kp:∀b o,(s2.heap.push { cls:=.type "list",dict:=none,data:=.seq ([]:List Value).toArray }).get? b=some o->h4.get? b=some o:=fun b o e=>
  hsb4.extBut b o (aO (aw e)) (ai _ e)
 have sz3:s2.heap.objs.size<(s2.heap.push { cls:=.type "list",dict:=none,data:=.seq ([]:List Value).toArray }).objs.size:=by rw[c8];exact cz _
 have I4:=zbB (tk:=s2.toks+([]:List (Str×Value)).length) I3 c f3 (fun b hb=>bW (ltF b hb) sz3) hns4 kp;have st4:tn 0 h4:=T.keep _ _ _ st2 fun b hb o e=>kp b o (ai _ e)
 generalize hX:zt X scope N (s2.heap.push { cls:=.type "list",dict:=none,data:=.seq ([]:List Value).toArray }).objs.size
  { s2 with heap:=s2.heap.push { cls:=.type "list",dict:=none,data:=.seq ([]:List Value).toArray },toks:=s2.toks } (upd H2 s2.heap.objs.size (.lst [])) fp=X' at I4
 have pX:X'.prog=X.prog:=by rw[<- hX];rfl
 have wX:X'.w=X.w:=by rw[<- hX];rfl
 have KX:X'.K=X.K:=by rw[<- hX];rfl
 have AX:X'.A=X.A:=by rw[<- hX];rfl
 have cX:X'.calm=true:=by rw[<- hX];exact hc
 have xX:X'.xe=fun _ _=>False:=by rw[<- hX];rfl
 have eX:X'.env=compEnvC scope (zba X.env scope.names []) (s2.heap.push { cls:=.type "list",dict:=none,data:=.seq ([]:List Value).toArray }).objs.size X.env:=by rw[<- hX];rfl
 have hg':PG X' tg g:=by rw[<- hX];exact hg _ _ _ _
 have ht':PTs X' ifs ti:=by rw[<- hX];exact ht _ _ _ _
 have he':PE X' elt te:=by rw[<- hX];exact he _ _ _ _
 have f4:∀ {H':Hp},(∀b∈fp,H' b=none)->∀b∈fp,zcO X' [] H' b:=fun {H'} hn b hb=>by
  refine⟨hn b hb,?_,?_,.inl ?_,?_,?_⟩
  ·rw[eX];exact aO (bW (ltF b hb) sz3)
  ·have e1:X'.fs=frs X.stack:=by rw[<- hX];rfl
   rw[e1];intro z;rcases aG.mp (I2.stkSub b z) with e | e
   ·exact (f2 b hb).2.1 e
   ·exact (f2 b hb).2.2.1 e
  ·rw[<- hX];exact hb
  ·rw[eX];intro x a e;rcases xh (c.cells I.ok) e with z | z
   ·exact (f2 b hb).2.2.2.2.1 x a z
   ·simp at z
  ·intro p hp;have e1:X'.pn++([]:List (Addr×Obj))=[]:=by rw[<- hX];rfl
   rw[e1] at hp;simp at hp
 have loop:∀s4:Shared,s4={ s2 with heap:=h4,toks:=s2.toks+([]:List (Str×Value)).length }->
   codeAny (model X.prog X.w) X.A (.compLoop (.ListComp elt [⟨tg,iter,ifs,0⟩] scope pos) 0 (.ref it) (.ref s2.heap.objs.size) X'.env)
    (compPost (model X.prog X.w) X.A X.xe (some U) (fun _ s=>wpAny (model X.prog X.w) X.A (pure ()) (fun _ s=>wpAny (model X.prog X.w) X.A (pure Flow.next) (SP X pins D) X.xe s) X.xe s) (.ref s2.heap.objs.size) (s2.heap.push { cls:=.type "list",dict:=none,data:=.seq ([]:List Value).toArray }).objs.size) s4:=by
  rintro s4 rfl;refine zao (fun n s'=>∃i σ' H',Inv X' [] σ' H' s'/\tn i s'.heap/\(∀b∈fp,H' b=none)/\W i n σ' H') ?_ m0 ⟨0,uT σ cix,_,I4,st4,fun b hb=>(f3 b hb).1,w0⟩;rintro n s5 ⟨i,σ5,H5,I5,st5,fr5,w5⟩;rcases turn i n σ5 H5 w5 with ⟨stop,qn⟩ | ⟨go,Nx,hN,step⟩
  ·have:=T.done X' pX wX KX cX i [] s5 σ5 H5 (fun _ _=>False) I5 (f4 fr5) st5 stop;rw[AX] at this;refine thn this  ?_;rintro r s6 ⟨hr,I6⟩;subst hr;obtain⟨m6,hn6,_⟩:=I6.loc
   have hfr:H5 (s2.heap.push { cls:=.type "list",dict:=none,data:=.seq ([]:List Value).toArray }).objs.size=none:=by have:=I6.free;rw[eX] at this;exact this
   rw[eX] at hn6;have I6':=I6;rw[<- hX] at I6';have IX:=uW I3 f3 I6' ⟨rfl,fun _ _=>rfl⟩;have fC:=I3.fpOk (ag _) hfr
   have hUv:U (.ref s2.heap.objs.size)=assignAll (.ref s2.heap.objs.size) [assign (.Name nx px) X.env]:=by rw[<- hU,<- h1a]
   show wpAny _ _ (U (.ref s2.heap.objs.size)) _ _ s6;rw[hUv];refine wpAny_assign_Name (x:=nx) (pos:=px) ?_;refine zeV IX hNd hix (Or.inl hlx) (v:=.ref s2.heap.objs.size) rfl (fun s7 I7 ⟨a7,hs7,ha7⟩=>?_) (.inr hlx)
   have hCa:(s2.heap.push { cls:=.type "list",dict:=none,data:=.seq ([]:List Value).toArray }).objs.size≠a7:=by
    intro z;rcases ha7 with e | e
    ·exact fC.2.1 (z.trans e)
    ·exact fC.2.2.2.2.1 nx a7 e z.symm
   obtain⟨oC,esC,epC,hoC,rC⟩:=hn6;refine⟨m6,⟨oC,esC,epC,(hs7.2 _ hCa).trans hoC,rC⟩,fun h8 hs8=>?_⟩;refine ac (ac ?_);exact⟨_,H5,I7.turned (t':=s7.toks) (fun b o hb e=>(hs8.2 b hb).trans e) hfr fC.2.1 fC.2.2.2.1 fC.2.2.2.2.1 fC.2.2.2.2.2,qn⟩
  ·have:=T.item X' pX wX KX cX i [] s5 σ5 H5 (fun _ _=>False) I5 (f4 fr5) st5 go;rw[AX] at this;refine thn this  ?_;rintro r s6 ⟨u,hr,h6⟩;subst hr;refine thn h6  ?_;rintro _ s7 ⟨x,H7,I7,r7,y7,st7,fr7⟩;have I7':=I7.pinned (f4 fr7) (T.obj _ _ st7);have a7:=hg' _ s7 σ5 H7 x u _ I7' r7 (step x H7 y7);rw[pX,wX,AX,xX] at a7;refine thn a7  ?_;rintro _ s8 ⟨σ8,H8,I8,q8⟩;have t8:=ht' _ s8 σ8 H8 _ I8 q8;rw[pX,wX,AX,xX] at t8;refine thn t8  ?_;rintro ok s9 ⟨H9,I9,q9⟩
   have again:∀ {s':Shared} {σ':St} {H':Hp},Inv X' ([]++zaM fp s7.heap) σ' H' s'->Nx σ' H'->∃m,m<n/\∃i σ' H',Inv X' [] σ' H' s'/\tn i s'.heap/\(∀b∈fp,H' b=none)/\W i m σ' H':=fun {s' σ' H'} J' n'=>by obtain⟨m',hm,w'⟩:=hN σ' H' n';refine⟨m',hm,i+1,σ',H',J'.unpinned,T.keep _ _ _ st7 fun b hb o e=>(J'.pin (b,o) (au _ (au _ (z5 hb e)))).1,fun b hb=>?_,w'⟩;obtain⟨o,e,d⟩:=T.obj _ _ st7 b hb;exact (J'.pin (b,o) (au _ (au _ (z5 hb e)))).2.1
   cases ok with
   | false=>exact again I9 q9
   | true=>
    have e9:=he' _ s9 σ8 H9 _ I9 q9;rw[pX,wX,AX,xX] at e9;refine thn e9  ?_;rintro u2 s10 ⟨v,H10,I10,r10,q10⟩;obtain⟨xs,hxs,hlt,nx⟩:=q10;have m10:=zb9 (X:=X') _ s10 σ8 H10 (.ref s2.heap.objs.size) [v] (.ref s2.heap.objs.size) [u2] (fun _ H'=>Nx σ8 H') I10 rfl (.cons r10 .nil) ⟨_,xs,v,rfl,rfl,hxs,hlt,nx⟩;rw[pX,wX,AX,xX] at m10;refine thn m10 <| by rintro _ s11 ⟨_,H11,I11,_,n11⟩;exact again I11 n11
 have l0:=loop _ rfl;rw[eX] at l0;exact codeAny_compStart_list l0 (T.self X.A 0 _ _ _ st4 l0)
theorem znX {X:Cx}{elt tg iter:Expr}{ifs:List Expr}{scope:Scope}{pos spos:Pos}{wi:TI}{g:TG}{ti:TT}{te:TE}{N:List Str}{cix:List (Option Nat)}{ix:Nat}{nx:Str}{px:Pos}(hNd:X.N.Nodup)(hix:X.N[ix]?=some nx)(hlx:X.env.scope.names.lookup nx=some .local)(hc:X.calm=true)(c:CompOk X scope N cix)
  (hi:QI X tg iter wi) (hg:∀C s H ex,QG (zt X scope N C s H ex) tg g) (ht:∀C s H ex,QTs (zt X scope N C s H ex) ifs ti) (he:∀C s H ex,QE (zt X scope N C s H ex) elt te)
  (hsw:swapsWithSole [.Name nx px] (.ListComp elt [⟨tg,iter,ifs,0⟩] scope pos) spos.line X.env=pure true:=by rfl)
  (hs:∀x,foldedSetIterable iter X.env x=pure x:=by intro _;rfl)
  (h1a:(assignEach [.Name nx px] X.env).map (·.2)=[assign (.Name nx px) X.env]:=by rfl):QS X (.Assign [.Name nx px] (.ListComp elt [⟨tg,iter,ifs,0⟩] scope pos) spos) (zgD (zjF wi g ti te cix) (zag ix)):=
 ⟨znC hNd hix hlx hc c hi.run (fun C s H ex=>(hg C s H ex).run) (fun C s H ex=>(ht C s H ex).run) (fun C s H ex=>(he C s H ex).run) hsw hs h1a⟩
section
variable {prog:Program}{w:World}{A:Around}{E:Value->Shared->Prop}{s:Shared}
end
section
variable {X:Cx}
end
section
variable {prog:Program}{w:World}{A:Around}{R:Result->Shared->Prop}{s:Shared}
end
section
variable {K:PySem.W.Frag}{a acc:Addr}{xs:List V}{g:TG}{ti:TT}{wi2:TI}{g2:TG}{ti2:TT}{te:TE}{σ:St}{H:Hp}{Q:VK}{N:St->Hp->Prop}
end
section
variable {X:Cx}
theorem zj8:CallQ X (.type "range") (fun xs H Q=>∃n,xs=[.int n]/\New H (.rng 0 n) Q):=⟨by
 intro pins s σ H xs us Q I r h;obtain⟨n,rfl,q⟩:=h;obtain⟨u,rfl,ru⟩:=u6 r;obtain⟨t,rfl⟩:=ru;refine call_range_1 ?_;refine⟨.ref s.heap.objs.size,_,I.laid (t':=s.toks+1+1) (o:=.rng 0 n) (fun b ob q=>ai _ q) (ag _) ?_,rfl,q.at (I.hok.fresh (ag _))⟩;exact⟨_,_,_,aP _ rfl⟩⟩
theorem zgy (n:Nat):Builtin.Range.rangeSize 0 (n:Int) 1=n:=by
 unfold Builtin.Range.rangeSize;rw[if_pos (by decide)];split
 ·rw[Int.ediv_one];lia
 ·lia
theorem zjN:∀ {xs:List V} {us:List Value},xs.length=us.length->(∀ (i:Nat) x u,xs[i]?=some x->us[i]?=some u->yN x u)->z4 xs us
 | [],[],_,_=>.nil
 | [],_::_,h,_=>by simp at h
 | _::_,[],h,_=>by simp at h
 | x::xs,u::us,h,k=>.cons (k 0 x u rfl rfl) (zjN (by simpa using h) fun i y v hy hv=>k (i+1) y v hy hv)
theorem zfb (hc:X.calm=true):CallQ X (.type "list") (fun xs H Q=>∃ (p:Addr) (n:Nat),xs=[.ref p]/\H p=some (.rng 0 n)/\n<=1000/\New H (.lst ((List.range n).map fun i:Nat=>V.int i)) Q):=⟨by
 intro pins s σ H xs us Q I r h;obtain⟨p,n,rfl,hp,hn,q⟩:=h;obtain⟨u,rfl,ru⟩:=u6 r;cases ru;obtain⟨t,u,v,ho⟩:=I.hok p _ hp;have hn':n<sizeLine:=zcs hn;refine call_list_range (a:=0) (b:=n) (c:=1) (n:=n) (I.ok.hd hc) ho ?_ ?_ (ax hn (by decide)) fun h' tk acc' c' kp hg hit=>?_
 ·have e:=zgy n;unfold Builtin.Range.small;rw[e];simp[Builtin.Range.rangeFitsLong];lia
 ·exact zgy n
 ·have hv:z4 ((List.range n).map fun i:Nat=>V.int i) acc'.toList:=by
   refine zjN (by rw[aa,am,aD,hit.1]) fun j x u hx hu=>?_;rw[aC] at hx;obtain⟨k,hk,rfl⟩:=aH.mp hx;obtain⟨hlt,e⟩:=ae.mp hk;have:k=j:=by simpa using e.symm
   subst this;obtain⟨t',rfl⟩:=hit.2 k u (by simpa using hu);exact⟨t',by rw[show (0:Int)+(k:Int) * 1=k by lia]⟩
  refine⟨.ref s.heap.objs.size,_,I.laid (t':=tk) (o:=.lst ((List.range n).map fun i:Nat=>V.int i)) kp (ag _) ?_,rfl,q.at (I.hok.fresh (ag _))⟩;exact⟨by rw[aa,am];exact ck hn',acc'.toList,c',hv,by simpa using hg⟩⟩
end
def zp (m:Int):List Int:=(List.range m.toNat).map fun i:Nat=>(i:Int)
def uy (rows:List (List Int))(ws:List Int):List (List Int):=rows.flatMap fun r=>ws.map fun w=>r++[w]
def uY (cs:List (List Int)):List (List Int):=cs.foldl uy [[]]
theorem x5 (cs:List (List Int))(c:List Int):uY (cs++[c])=uy (uY cs) c:=by unfold uY;rw[List.foldl_append];rfl
@[reducible] def stD (st:List Int):Dt:=.tup (st.map .int)
theorem zbE:∀sts:List (List Int),Dt.noLs (sts.map stD)=true
 | []=>rfl
 | st::sts=>by show ((stD st).noL&&Dt.noLs (sts.map stD))=true;rw[zbE sts,show (stD st).noL=true from zeB st];rfl
theorem zit (sts:List (List Int)):(Dt.lst (sts.map stD)).eqOk:=by
 have e:∀sts:List (List Int),(Dt.toWs (sts.map stD)).all (PySem.W.kqdOk 7)=true:=by
  intro sts
  induction sts with
  | nil=>rfl
  | cons m ms ih=>simp only[ao,Dt.toWs,cC,ih,show PySem.W.kqdOk 7 (stD m).toW=true from zkw m,du]
 exact e sts
theorem zfd (rows:List (List Int))(r ws:List Int):uy (rows++[r]) ws=uy rows ws++ws.map fun w=>r++[w]:=by unfold uy;rw[List.flatMap_append];simp
theorem zaZ (rows:List (List Int))(ws:List Int):(uy rows ws).length=rows.length * ws.length:=by
 unfold uy;rw[List.length_flatMap]
 induction rows with
 | nil=>simp
 | cons r rows ih=>rw[ao,List.sum_cons,ih,aa,aS,eE,eF]
theorem zjZ:∀ (cs:List (List Int)) (row:List Int),row∈uY cs->row.length=cs.length:=by
 intro cs
 have:∀ (n:Nat) (cs:List (List Int)),cs.length=n->∀row,row∈uY cs->row.length=cs.length:=by
  intro n
  induction n with
  | zero=>
   intro cs h row hr;have:cs=[]:=bt h;subst this;have:row=[]:=by simpa [uY] using hr
   subst this;rfl
  | succ n ih=>
   intro cs h row hr;have hne:cs≠[]:=by intro z;rw[z] at h;simp at h
   rw[<- bu hne,x5] at hr;unfold uy at hr;obtain⟨r,hr1,hr2⟩:=eZ.mp hr;obtain⟨w,_,rfl⟩:=aF.mp hr2;have:=ih cs.dropLast (by rw[dQ];lia) r hr1;rw[af,this,dQ];show cs.length - 1+1=cs.length;lia
 exact this cs.length cs rfl
theorem zl7:∀ (n:Nat) (cs:List (List Int)),cs.length=n->(∀c∈cs,c.length<=4)->(uY cs).length<=4 ^ n:=by
 intro n
 induction n with
 | zero=>
  intro cs h _;have:cs=[]:=bt h;subst this;exact ag _
 | succ n ih=>
  intro cs h h4;have hne:cs≠[]:=by intro z;rw[z] at h;simp at h
  rw[<- bu hne,x5,zaZ,Nat.pow_succ];exact Nat.mul_le_mul (ih cs.dropLast (by rw[dQ];lia) fun c hc=>h4 c ((List.dropLast_sublist cs).subset hc)) (h4 _ (List.getLast_mem hne))
theorem zjY {cs:List (List Int)}(h8:cs.length<=8)(h4:∀c∈cs,c.length<=4)(k:Nat):(uY (cs.take k)).length<=65536:=by
 refine ax (zl7 _ (cs.take k) rfl fun c hc=>h4 c (bJ hc)) ?_;have:(cs.take k).length<=8:=by rw[aJ];lia
 exact ax (cF (by decide) this) (by decide)
theorem z6 (m:Int):(zp m).length=m.toNat:=by unfold zp;rw[aa,am]
section
variable {X:Cx}{o:Expr}{to:TE}{apos cpos:Pos}
end
open PySem PySem.Spec PyProof.Rows PySem.W
inductive Run (ans:Nat->Nat->Bool) (n:Nat):{α:Type}->KasT α->α->Prop
 | ret {α:Type} (a:α):Run ans n (.ret a) a
 | ask {α:Type} {i j:Nat} {k:Bool->KasT α} {a:α} (hi:i<n) (hj:j<n) (h:Run ans n (k (ans i j)) a):Run ans n (.ask i j k) a
theorem Run.bind {ans:Nat->Nat->Bool}{n:Nat}{α β:Type}{t:KasT α}{f:α->KasT β}{a:α}{b:β}(h:Run ans n t a)(k:Run ans n (f a) b):Run ans n (t.bind f) b:=by
 induction h with
 | ret a=>exact k
 | ask hi hj _ ih=>exact .ask hi hj (ih k)
theorem Run.wp {ans:Nat->Nat->Bool}{n:Nat}{α:Type}{t:KasT α}{a:α}(h:Run ans n t a){cmp:Nat->Nat->(Bool->Shared->Prop)->Shared->Prop}{S:Shared->Prop}{Q:α->Shared->Prop}
  (hc:∀i j C s,i<n->j<n->S s->(∀s',S s'->C (ans i j) s')->cmp i j C s) (hq:∀s,S s->Q a s):∀s,S s->KasT.kasWp cmp t Q s:=by
 induction h with
 | ret a=>intro s hs;rw[KasT.kasWp.eq_1];exact hq s hs
 | ask hi hj _ ih=>
  intro s hs;rw[KasT.kasWp.eq_2];exact hc _ _ _ s hi hj hs fun s' hs'=>ih hq s' hs'
section
variable {n:Nat}{f:Nat->Int}
def ze3 (f:Nat->Int)(i j:Nat):Bool:=decide (f i<f j)
def key (f:Nat->Int)(p:Array Nat)(k:Nat):Int:=f (p.getD k 0)
structure Up (n:Nat)(f:Nat->Int)(p:Array Nat)(m:Nat):Prop where
 perm:p.Perm (List.range n).toArray
 le:m<=n
 up:∀k,k+1<m->key f p k<key f p (k+1)
theorem ue {p:Array Nat}(h:p.Perm (List.range n).toArray):p.size=n:=by have:=h.size_eq;simpa using this
theorem yu {p:Array Nat}(h:p.Perm (List.range n).toArray){k:Nat}(hk:k<n):p.getD k 0<n:=by
 have hs:=ue h
 have hm:p.getD k 0∈p:=by rw[bv,aY (by lia)];exact Array.getElem_mem _
 have:=(h.mem_iff).mp hm;simpa using this
theorem Up.lt_of {p:Array Nat}{m:Nat}(h:Up n f p m):∀ {i j:Nat},i<j->j<m->key f p i<key f p j:=by
 intro i j
 induction j with
 | zero=>intro h0;lia
 | succ j ih=>
  intro hij hj;have h1:=h.up j hj;by_cases e:i=j
  ·subst e;exact h1
  ·have:=ih (by lia) (by lia);lia
theorem ze7 (p:Array Nat)(hp:p.Perm (List.range n).toArray):∀ (g x:Nat),1<=x->x+g<=n->∃m,Run (ze3 f) n (kas_asc p g x) m/\x<=m/\m<=x+g/\(∀k,x<=k->k<m->¬ key f p k<key f p (k - 1))/\(m<x+g->key f p m<key f p (m - 1))
 | 0,x,_,_=>⟨x,by rw[kas_asc.eq_1];exact .ret _,ag _,ag _,fun k h1 h2=>by lia,fun h=>by lia⟩
 | g+1,x,hx,hn=>by
  rw[kas_asc.eq_2];by_cases hc:key f p x<key f p (x - 1)
  ·refine⟨x,.ask (yu hp (by lia)) (yu hp (by lia)) ?_,ag _,by lia,fun k h1 h2=>by lia,fun _=>hc⟩;rw[show ze3 f (p.getD x 0) (p.getD (x - 1) 0)=true from aR hc,if_pos rfl];exact .ret _
  ·obtain⟨m,h1,h2,h3,h4,h5⟩:=ze7 p hp g (x+1) (by lia) (by lia);refine⟨m,.ask (yu hp (by lia)) (yu hp (by lia)) ?_,by lia,by lia,fun k k1 k2=>?_,fun h=>h5 (by lia)⟩
   ·rw[show ze3 f (p.getD x 0) (p.getD (x - 1) 0)=false from aN hc,if_neg aA];exact h1
   ·by_cases e:k=x
    ·subst e;exact hc
    ·exact h4 k (by lia) k2
def zbJ (n:Nat)(f:Nat->Int):Prop:=∀i j,i<n->j<n->f i=f j->i=j
theorem zgh (hu:zbJ n f){p:Array Nat}(hp:p.Perm (List.range n).toArray){i j:Nat}(hi:i<n)(hj:j<n)(hij:i≠j):key f p i≠key f p j:=by
 intro e;have e2:=hu _ _ (yu hp hi) (yu hp hj) e;have hs:=ue hp
 have hnd:p.toList.Nodup:=by
  have:p.toList.Perm (List.range n):=by have:=hp.toList;simpa using this
  exact this.nodup_iff.mpr dO
 rw[bv,bv,aY (by lia),aY (by lia)] at e2;have e3:p.toList[i]'(by rw[aD];lia)=p.toList[j]'(by rw[aD];lia):=by simpa using e2
 exact hij ((bV hnd).mp e3)
theorem zf7 (hu:zbJ n f)(p:Array Nat)(hp:p.Perm (List.range n).toArray):∀ (g x:Nat),1<=x->x+g<=n->∃m,Run (ze3 f) n (kas_desc g p x 0) (p,m,0)/\x<=m/\m<=x+g/\(∀k,x<=k->k<m->key f p k<key f p (k - 1))
 | 0,x,_,_=>⟨x,by rw[kas_desc.eq_1];exact .ret _,ag _,ag _,fun k h1 h2=>by lia⟩
 | g+1,x,hx,hn=>by
  rw[kas_desc.eq_2];by_cases hc:key f p x<key f p (x - 1)
  ·obtain⟨m,h1,h2,h3,h4⟩:=zf7 hu p hp g (x+1) (by lia) (by lia);refine⟨m,.ask (yu hp (by lia)) (yu hp (by lia)) ?_,by lia,by lia,fun k k1 k2=>?_⟩
   ·rw[show ze3 f (p.getD x 0) (p.getD (x - 1) 0)=true from aR hc,if_pos rfl,if_neg (by lia)];exact h1
   ·by_cases e:k=x
    ·subst e;exact hc
    ·exact h4 k (by lia) k2
  ·have hne:=zgh hu hp (i:=x) (j:=x - 1) (by lia) (by lia) (by lia);have hlt:key f p (x - 1)<key f p x:=by lia
   refine⟨x,.ask (yu hp (by lia)) (yu hp (by lia)) ?_,ag _,by lia,fun k k1 k2=>by lia⟩;rw[show ze3 f (p.getD x 0) (p.getD (x - 1) 0)=false from aN hc,if_neg aA];refine .ask (yu hp (by lia)) (yu hp (by lia)) ?_;rw[show ze3 f (p.getD (x - 1) 0) (p.getD x 0)=true from aR hlt,if_pos rfl];exact .ret _
theorem zis {p:Array Nat}{j:Nat}(hj:j<=p.size)(k:Nat):key f (kas_rev p 0 j) k=if k<j then key f p (j - 1 - k) else key f p k:=by
 unfold key kas_rev;rw[bv,getElem?_mirror_all hj];by_cases h:k<j
 ·rw[if_pos ⟨a8 _,h⟩,if_pos h,bv,Nat.zero_add]
 ·rw[if_neg (fun z=>h z.2),if_neg h,bv]
theorem zk7 {p:Array Nat}(hp:p.Perm (List.range n).toArray)(j:Nat):(kas_rev p 0 j).Perm (List.range n).toArray:=(mirror_perm p 0 j _).trans hp
theorem zhu (hu:zbJ n f)(hn:2<=n)(p:Array Nat)(hp:p.Perm (List.range n).toArray):∃ (m:Nat) (q:Array Nat),Run (ze3 f) n (kas_count n p) (m,q)/\1<=m/\Up n f q m:=by
 have hs:=ue hp;obtain⟨m,h1,h2,h3,h4,h5⟩:=ze7 (f:=f) p hp (n - 1) 1 (ag _) (by lia)
 have up1:Up n f p m:=⟨hp,by lia,fun k hk=>by have h6:=h4 (k+1) (by lia) hk;rw[cW] at h6;have:=zgh hu hp (i:=k) (j:=k+1) (by lia) (by lia) (by lia);lia⟩
 unfold kas_count;by_cases hmn:m=n
 ·refine⟨m,p,h1.bind ?_,h2,up1⟩;rw[if_pos (by rw[hmn];exact beq_self_eq_true n)];exact .ret _
 ·by_cases hm1:m > 1
  ·refine⟨m,p,h1.bind ?_,h2,up1⟩;rw[if_neg (by intro z;exact hmn (br z)),if_pos hm1];refine .ask (yu hp (by lia)) (yu hp (by lia)) ?_;have hlt:key f p 0<key f p (m - 1):=up1.lt_of (by lia) (by lia);rw[show ze3 f (p.getD 0 0) (p.getD (m - 1) 0)=true from aR hlt,if_pos rfl];exact .ret _
  ·have em:m=1:=by lia
   subst em;have h10:=h5 (by lia);obtain⟨d,g1,g2,g3,g4⟩:=zf7 hu p hp (n - 2) 2 (by lia) (by lia);have hrp:=zk7 hp d;obtain⟨m2,a1,a2,a3,a4,_⟩:=ze7 (f:=f) (kas_rev p 0 d) hrp (n - d) d (by lia) (by lia);refine⟨m2,kas_rev p 0 d,h1.bind ?_,by lia,⟨hrp,by lia,fun k hk=>?_⟩⟩
   ·rw[if_neg (by intro z;exact hmn (br z)),if_neg hm1];unfold kas_descPart;refine Run.bind (a:=(p,d,0)) g1 ?_;rw[if_neg (by show ¬ (0 > 0);lia)];unfold kas_tail3;exact Run.bind a1 (.ret _)
   ·by_cases hkd:k+1<d
    ·rw[zis (by lia),zis (by lia),if_pos (by lia),if_pos hkd];have e:d - 1 - k=(d - 1 - (k+1))+1:=by lia
     rw[e];by_cases e0:d - 1 - (k+1)=0
     ·rw[e0];exact h10
     ·have:=g4 (d - 1 - (k+1)+1) (by lia) (by lia);rw[cW] at this;exact this
    ·have h6:=a4 (k+1) (by lia) hk;rw[cW] at h6;have:=zgh hu hrp (i:=k) (j:=k+1) (by lia) (by lia) (by lia);lia
theorem zcg (p:Array Nat)(hp:p.Perm (List.range n).toArray)(k:Nat)(hk:k<n):∀ (g l r:Nat),r<=k->l<=r->r - l<=g->(∀i,i<l->¬ key f p k<key f p i)->(∀i,r<=i->i<k->key f p k<key f p i)->
  (∀i j,i<j->j<k->key f p i<key f p j)->
  ∃m,Run (ze3 f) n (kas_place p k g l r) m/\m<=k/\(∀i,i<m->¬ key f p k<key f p i)/\(∀i,m<=i->i<k->key f p k<key f p i)
 | 0,l,r,h1,h2,h3,h4,h5,_=>⟨l,by rw[kas_place.eq_1];exact .ret _,by lia,h4,fun i hi=>h5 i (by lia)⟩
 | g+1,l,r,h1,h2,h3,h4,h5,hup=>by
  rw[kas_place.eq_2];by_cases hlr:l ≥ r
  ·refine⟨l,?_,by lia,h4,fun i hi=>h5 i (by lia)⟩;rw[if_pos hlr];exact .ret _
  ·rw[if_neg hlr];by_cases hc:key f p k<key f p ((l+r) / 2)
   ·obtain⟨m,g1,g2,g3,g4⟩:=zcg p hp k hk g l ((l+r) / 2) (by lia) (by lia) (by lia) h4 (fun i hi hik=>by
     by_cases e:i=(l+r) / 2
     ·rw[e];exact hc
     ·have:=hup ((l+r) / 2) i (by lia) hik;lia) hup
    refine⟨m,.ask (yu hp hk) (yu hp (by lia)) ?_,g2,g3,g4⟩;rw[show ze3 f (p.getD k 0) (p.getD ((l+r) / 2) 0)=true from aR hc,if_pos rfl];exact g1
   ·obtain⟨m,g1,g2,g3,g4⟩:=zcg p hp k hk g ((l+r) / 2+1) r h1 (by lia) (by lia) (fun i hi=>by
     by_cases e:i=(l+r) / 2
     ·rw[e];exact hc
     ·have:=hup i ((l+r) / 2) (by lia) (by lia);lia) h5 hup
    refine⟨m,.ask (yu hp hk) (yu hp (by lia)) ?_,g2,g3,g4⟩;rw[show ze3 f (p.getD k 0) (p.getD ((l+r) / 2) 0)=false from aN hc,if_neg aA];exact g1
theorem zcZ {p:Array Nat}{src d:Nat}(h1:src<p.size)(h2:d<=src)(k:Nat):key f (bubble p src d) k=if k=src - d then key f p src else if src - d<k/\k<=src then key f p (k - 1) else key f p k:=by
 unfold key;simp only[bv];rw[getElem?_bubble h1 d h2];by_cases a:k=src - d
 ·rw[if_pos a,if_pos a]
 ·rw[if_neg a,if_neg a];by_cases b:src - d<k/\k<=src
  ·rw[if_pos b,if_pos b]
  ·rw[if_neg b,if_neg b]
theorem zhl (hu:zbJ n f):∀ (g k:Nat) (p:Array Nat),k+g=n->Up n f p k->∃q,Run (ze3 f) n (kas_bin g p k) q/\Up n f q n
 | 0,k,p,hk,h=>by
  have e:k=n:=by lia
  rw[e] at h;exact⟨p,by rw[kas_bin.eq_1];exact .ret _,h⟩
 | g+1,k,p,hk,h=>by
  have hs:=ue h.perm;obtain⟨l,r1,r2,r3,r4⟩:=zcg (f:=f) p h.perm k (by lia) k 0 k (ag _) (a8 _) (by lia) (fun i hi=>by lia) (fun i h1 h2=>by lia) (fun i j hij hj=>h.lt_of hij hj)
  have hup:Up n f (bubble p k (k - l)) (k+1):=by
   refine⟨(bubble_perm p k (k - l)).trans h.perm,by lia,fun i hi=>?_⟩;rw[zcZ (by lia) (by lia),zcZ (by lia) (by lia)];have ekl:k - (k - l)=l:=by lia
   rw[ekl];by_cases e1:i=l
   ·rw[if_pos e1,if_neg (by lia),if_pos (by lia),cW];exact r4 i (by lia) (by lia)
   ·rw[if_neg e1];by_cases e2:l<i
    ·rw[if_pos (by lia),if_neg (by lia),if_pos (by lia),cW];exact h.lt_of (by lia) (by lia)
    ·rw[if_neg (by lia)];by_cases e3:i+1=l
     ·rw[if_pos e3];have h1:=r3 i (by lia);have h2:=zgh hu h.perm (i:=i) (j:=k) (by lia) (by lia) (by lia);lia
     ·rw[if_neg e3,if_neg (by lia)];exact h.lt_of (by lia) (by lia)
  obtain⟨q,q1,q2⟩:=zhl hu g (k+1) (bubble p k (k - l)) (by lia) hup;refine⟨q,?_,q2⟩;rw[kas_bin.eq_2];exact Run.bind r1 q1
theorem zgA (hu:zbJ n f)(hn:2<=n):∃q,Run (ze3 f) n (kas_sort n) q/\Up n f q n:=by
 obtain⟨m,p,h1,h2,h3⟩:=zhu hu hn (List.range n).toArray (Array.Perm.refl _);unfold kas_sort;by_cases hm:m<n
 ·obtain⟨q,q1,q2⟩:=zhl hu (n - m) m p (by lia) h3;refine⟨q,Run.bind h1 ?_,q2⟩;rw[if_pos hm];show Run _ _ (kas_bin (n - max m 1) p (max m 1)) q;rw[show max m 1=m by lia];exact q1
 ·have e:m=n:=by have:=h3.le;lia
  refine⟨p,Run.bind h1 ?_,by rw[<- e] at h3 ⊢;exact h3⟩;rw[if_neg hm];exact .ret _
end
open PySem PySem.Spec PyProof.Rows
theorem zdw {prog:Program}{w:World}{A:Around}{s:Shared}{b:Bool}{Q:Bool->Shared->Prop}:∀ {ns ms:List Int} {xs ys:List Value} (i:Nat),z4 (ns.map V.int) xs->z4 (ms.map V.int) ys->ns.length=ms.length->Q (HT.lexLt ns ms) s->W.KatLex prog w A b false Q (xs.zip ys) i s
 | [],[],_,_,i,hx,hy,_,q=>by cases hx;cases hy;exact W.kat_nil q
 | [],_::_,_,_,_,_,_,h,_=>by simp at h
 | _::_,[],_,_,_,_,_,h,_=>by simp at h
 | a::ns,c::ms,_,_,i,hx,hy,hl,q=>by
  cases hx with
  | cons r1 rr1=>
   cases hy with
   | cons r2 rr2=>
    obtain⟨t,rfl⟩:=r1;obtain⟨u,rfl⟩:=r2;rw[List.zip_cons_cons];have q':Q (if a=c then HT.lexLt ns ms else decide (a<c)) s:=q;refine W.kat_cons (wpAny_eqBool_int ?_);by_cases e:a=c
    ·rw[show (a==c)=true from by rw[e];exact beq_self_eq_true c];rw[if_pos e] at q';exact W.kat_yes (zdw (i+1) rr1 rr2 (by simpa using hl) q')
    ·rw[show (a==c)=false from beq_false_of_ne e];rw[if_neg e] at q';refine W.kat_no ?_
     cases (b&&i==0) with
     | true=>exact oneLt_int q'
     | false=>exact W.kat_one _ _ (P.lt_int q')
theorem xC:∀s:List Int,HT.lexLt s s=false
 | []=>rfl
 | a::s=>by show (if a=a then HT.lexLt s s else _)=false;rw[if_pos rfl];exact xC s
theorem zaC:∀ {a b c:List Int},a.length=b.length->b.length=c.length->HT.lexLt a b=true->HT.lexLt b c=true->HT.lexLt a c=true
 | [],[],[],_,_,h,_=>h
 | x::a,y::b,z::c,h1,h2,h3,h4=>by
  have h3':(if x=y then HT.lexLt a b else decide (x<y))=true:=h3;have h4':(if y=z then HT.lexLt b c else decide (y<z))=true:=h4;show (if x=z then HT.lexLt a c else decide (x<z))=true;by_cases e1:x=y
  ·by_cases e2:y=z
   ·rw[if_pos e1] at h3';rw[if_pos e2] at h4';rw[if_pos (e1.trans e2)];exact zaC (by simpa using h1) (by simpa using h2) h3' h4'
   ·rw[if_neg e2] at h4';rw[if_neg (by lia)];have:=bC h4';exact aR (by lia)
  ·rw[if_neg e1] at h3';have l1:=bC h3';by_cases e2:y=z
   ·rw[if_neg (by lia)];exact aR (by lia)
   ·rw[if_neg e2] at h4';have l2:=bC h4';rw[if_neg (by lia)];exact aR (by lia)
 | [],_::_,_,h,_,_,_=>by simp at h
 | _::_,[],_,h,_,_,_=>by simp at h
 | [],[],_::_,_,h,_,_=>by simp at h
 | _::_,_::_,[],_,h,_,_=>by simp at h
theorem uF:∀ {a b:List Int},a.length=b.length->a=b\/HT.lexLt a b=true\/HT.lexLt b a=true
 | [],[],_=>.inl rfl
 | [],_::_,h=>by simp at h
 | _::_,[],h=>by simp at h
 | x::a,y::b,h=>by
  show _\/(if x=y then HT.lexLt a b else decide (x<y))=true\/(if y=x then HT.lexLt b a else decide (y<x))=true;by_cases e:x=y
  ·subst e;rw[if_pos rfl,if_pos rfl];rcases uF (a:=a) (b:=b) (by simpa using h) with h1 | h1 | h1
   ·exact .inl (by rw[h1])
   ·exact .inr (.inl h1)
   ·exact .inr (.inr h1)
  ·rw[if_neg e,if_neg (Ne.symm e)];rcases Int.lt_or_gt_of_ne e with h1 | h1
   ·exact .inr (.inl (aR h1))
   ·exact .inr (.inr (aR h1))
theorem zf4 {α:Type}{p q:α->Bool}:∀ {l:List α},(∀x∈l,p x=true->q x=true)->(∃x∈l,p x=false/\q x=true)->l.countP p<l.countP q
 | [],_,h=>by obtain⟨x,hx,_⟩:=h;simp at hx
 | y::l,h,k=>by
  have hle:l.countP p<=l.countP q:=List.countP_mono_left fun x hx hp=>h x (ak _ hx) hp;rw[List.countP_cons,List.countP_cons];obtain⟨x,hx,hp,hq⟩:=k;rcases aG.mp hx with rfl | hx
  ·rw[hp,hq];simp;lia
  ·have ih:=zf4 (l:=l) (fun z hz=>h z (ak _ hz)) ⟨x,hx,hp,hq⟩;have hy:=h y ah
   cases e:p y with
   | false=>
    simp;cases q y <;> simp <;> lia
   | true=>
    rw[hy e];simp;lia
def zb5 (sts:List (List Int))(i:Nat):Int:=(sts.countP fun c=>HT.lexLt c (sts.getD i [])  : Nat)
theorem xm {sts:List (List Int)}{m:Nat}(hm:∀st∈sts,st.length=m){i j:Nat}(hi:i<sts.length)(hj:j<sts.length):decide (zb5 sts i<zb5 sts j)=HT.lexLt (sts.getD i []) (sts.getD j []):=by
 have gi:sts.getD i []∈sts:=by rw[aE,aj hi];exact bh hi
 have gj:sts.getD j []∈sts:=by rw[aE,aj hj];exact bh hj
 have mono:∀ {a b:List Int},a∈sts->b∈sts->HT.lexLt a b=true->(sts.countP fun c=>HT.lexLt c a)<(sts.countP fun c=>HT.lexLt c b):=fun {a b} ha hb hab=>
  zf4 (fun x hx hp=>zaC ((hm x hx).trans (hm a ha).symm) ((hm a ha).trans (hm b hb).symm) hp hab) ⟨a,ha,xC a,hab⟩
 unfold zb5;generalize sts.getD i []=a at gi;generalize sts.getD j []=b at gj;rcases uF (a:=a) (b:=b) ((hm a gi).trans (hm b gj).symm) with h | h | h
 ·subst h;rw[xC];exact aN (dU _)
 ·rw[h];have:=mono gi gj h;exact aR (by lia)
 ·have h1:=mono gj gi h
  have h2:HT.lexLt a b=false:=by rw[eM];intro z;have:=mono gi gj z;lia
  rw[h2];exact aN (by lia)
def zaO (h:Heap)(L:Addr):List (Addr×Obj):=(List.range h.objs.size).filterMap fun b=>if b=L then none else (h.get? b).map fun o=>(b,o)
theorem zQ {h:Heap}{L b:Addr}{o:Obj}:(b,o)∈zaO h L↔b≠L/\h.get? b=some o:=by
 unfold zaO;rw[cV];constructor
 ·rintro⟨c,hc,e⟩;by_cases hL:c=L
  ·rw[if_pos hL] at e;cases e
  ·rw[if_neg hL] at e;obtain⟨o',ho,e2⟩:=aH.mp e;cases e2;exact⟨hL,ho⟩
 ·rintro⟨hL,ho⟩;exact⟨b,aQ.mpr (aw ho),by rw[if_neg hL,ho];rfl⟩
theorem zpL {h:Heap}{L:Addr}{m m':Str->Option Value}(a:h.Ns L m)(b:h.Ns L m'):m=m':=by obtain⟨o,es,ep,ho,hd,hk,hf⟩:=a;obtain⟨o',es',ep',ho',hd',hk',hf'⟩:=b;rw[ho] at ho';cases ho';rw[hd] at hd';cases hd';funext x;rw[<- hf,<- hf']
section
variable {X:Cx}
theorem zaF {P:Program}{w:World}{H:Hp}{h:Heap}{a:Addr}{o:HO}(x:yy P w H h a o):∃u,h.get? a=some u:=by
 cases o with
 | lst xs=>obtain⟨_,_,_,_,e⟩:=x;exact⟨_,e⟩
 | tup xs=>obtain⟨_,_,_,p⟩:=x;obtain⟨o,e,_⟩:=p;exact⟨o,e⟩
 | dK kvs=>obtain⟨_,_,_,_,o,_,_,e,_⟩:=x;exact⟨_,e⟩
 | dT kvs=>obtain⟨_,_,_,_,o,_,_,e,_⟩:=x;exact⟨_,e⟩
 | set S n=>obtain⟨o,_,_,_,e,_⟩:=x;exact⟨_,e⟩
 | ins C dx fs=>obtain⟨_,_,_,e,_⟩:=x;exact⟨_,e⟩
 | own y=>exact x
 | xd fs=>obtain⟨_,⟨_,_,_,e,_⟩,_⟩:=x;exact⟨_,e⟩
 | met f y=>exact⟨_,x⟩
 | rng lo hi=>obtain⟨_,_,_,e⟩:=x;exact⟨_,e⟩
 | frz o u=>obtain⟨e,_⟩:=x;exact⟨_,e⟩
 | tbl ps=>exact⟨_,x⟩
 | ext φ=>obtain⟨_,e,_⟩:=x;exact e
theorem zds {pins:List (Addr×Obj)}{σ:St}{H:Hp}{s:Shared}(I:Inv X pins σ H s){m:Str->Option Value}(hm:s.heap.Ns X.env.locals m){h':Heap}{D:Addr}{ys:List V}{its:List Value}{c:Nat}
  (kp:∀b o,b≠X.env.locals->s.heap.get? b=some o->h'.get? b=some o) (ns':h'.Ns X.env.locals m) (hDn:s.heap.get? D=none) (hD:H D=none)
  (ho:h'.get? D=some { cls:=.type "list",data:=.seq its.toArray c }) (hv:z4 ys its) (hz:ys.length<=sizeLine) (tk:Nat):Inv X pins σ (upd H D (.lst ys)) { s with heap:=h',toks:=tk }:=by
 have nD:∀b o,s.heap.get? b=some o->b≠D:=fun b o e z=>by rw[z,hDn] at e;cases e
 have nL:∀b u,H b=some u->b≠X.env.locals:=fun b u e=>zc e I.free;refine Inv.step (ch:=[]) (g':=s.gens) (d':=s.drawn) (t':=tk) I (fun b hb=>by simp at hb) (fun b o h1 _ _ h4 _=>kp b o h1 h4) (fun b o h1 _ _ h4 _=>⟨o.slots,kp b o h1 h4⟩) (fun b o _ h4 h5=>by rw[zh (nD b o h4)];exact h5) (fun b o _ h4=>?_) (fun b ys q=>by rw[zh (zc q hD)];exact q) (fun b o u q=>by rw[zh (zc q hD)];exact q) (fun b ps q=>⟨#[],by rw[zh (zc q hD),dw];exact q⟩) (fun m' hm'=>by rw[<- zpL hm hm'];exact ns') (fun b u hb=>?_) I.bare
 ·by_cases hL:b=X.env.locals
  ·obtain⟨o',_,_,h1,_⟩:=ns';exact⟨o',by rw[hL];exact h1⟩
  ·exact⟨o,kp b o hL h4⟩
 ·by_cases hbD:b=D
  ·subst hbD;rw[zj] at hb;cases hb;exact⟨hz,its,c,hv,ho⟩
  ·rw[zh hbD] at hb;refine (I.hok b u hb).stay (fun c v hcv q=>kp c v ?_ q) (fun c q=>by rw[zh (zc q hD)];exact q) (fun c ys q=>by rw[zh (zc q hD)];exact q);rcases hcv with rfl | hcv
   ·exact nL _ _ hb
   ·exact nL _ _ hcv
theorem zfO {pins:List (Addr×Obj)}{σ:St}{H:Hp}{s:Shared}(I:Inv X pins σ H s):∀ {sts:List (List Int)} {vs:List V} {its:List Value},IsL H (sts.map stD) vs->z4 vs its->∀ {i:Nat},i<sts.length->∃ (a:Addr) (items:List Value),vs.getD i .non = .ref a/\its.getD i .none = .ref a/\IsTup s.heap a items.toArray/\z4 ((sts.getD i []).map V.int) items/\a≠X.env.locals
 | [],_,_,_,_,i,hi=>by simp at hi
 | st::sts,_,_,h,hv,i,hi=>by
  obtain⟨x,r,rfl,⟨a,xs,rfl,ha,hxs⟩,hr⟩:=h;obtain rfl:=hxs.of_ints
  cases hv with
  | cons r1 rr=>
   cases r1
   cases i with
   | zero=>
    obtain⟨items,rv,pt,_⟩:=I.tuple (.of ha);exact⟨a,items,rfl,rfl,pt,rv,zc ha I.free⟩
   | succ i=>
    obtain⟨a',items,e1,e2,e3,e4,e5⟩:=zfO I (sts:=sts) hr rr (i:=i) (by simpa using hi);exact⟨a',items,by simpa using e1,by simpa using e2,e3,by simpa using e4,e5⟩
theorem zjI {pins:List (Addr×Obj)}{σ:St}{H:Hp}{s:Shared}(I:Inv X pins σ H s){h':Heap}(kp:∀b o,b≠X.env.locals->s.heap.get? b=some o->h'.get? b=some o):∀ {sts:List (List Int)} {vs:List V} {its:List Value},IsL H (sts.map stD) vs->z4 vs its->(∀st∈sts,1<=st.length)->∃fs,W.KatTups h' its fs/\fs.length=sts.length/\∀f∈fs,∃a t,f = .int a t
 | [],_,_,h,hv,_=>by cases h;cases hv;exact⟨[],trivial,rfl,fun _ h=>by simp at h⟩
 | st::sts,_,_,h,hv,h1=>by
  obtain⟨x,r,rfl,⟨a,xs,rfl,ha,hxs⟩,hr⟩:=h;obtain rfl:=hxs.of_ints
  cases hv with
  | cons r1 rr=>
   cases r1;obtain⟨items,rv,pt,_⟩:=I.tuple (.of ha);obtain⟨o,ho,hc,n,hd⟩:=pt;obtain⟨fs,f1,f2,f3⟩:=zjI I kp (sts:=sts) hr rr fun z hz=>h1 z (ak _ hz);have hst:=h1 st ah
   match st,rv,hst with
   | z::zs,rv,_=>
    cases rv with
    | cons q1 qq=>
     obtain⟨t,rfl⟩:=q1;refine⟨_::fs,⟨⟨a,o,_,n,rfl,kp a o (zc ha I.free) ho,hc,hd,rfl⟩,f1⟩,by rw[aS,f2];rfl,fun f hf=>?_⟩;rcases aG.mp hf with rfl | hf
     ·exact⟨_,_,rfl⟩
     ·exact f3 f hf
def zqL:List V->Hp->VK->Prop:=fun xs H Q=>∃ (l:Addr) (vs:List V) (sts:List (List Int)) (m:Nat),xs=[.ref l]/\H l=some (.lst vs)/\IsL H (sts.map stD) vs/\2<=sts.length/\sts.length<64/\1<=m/\(∀st∈sts,st.length=m)/\sts.Nodup/\
 ∀ (ys:List V) (sts':List (List Int)),IsL H (sts'.map stD) ys->sts'.Perm sts->(sts'.Pairwise fun a b=>HT.lexLt a b=true)->New H (.lst ys) Q
theorem zgc {H:Hp}{sts:List (List Int)}{vs:List V}(h:IsL H (sts.map stD) vs):∀ {p:List Nat},(∀i∈p,i<sts.length)->IsL H ((p.map fun i=>sts.getD i []).map stD) (p.map fun i=>vs.getD i .non)
 | [],_=>rfl
 | i::p,hp=>by have hi:=hp i ah;obtain⟨x,hx,hd⟩:=h.getD (i:=i) (d:=stD (sts.getD i [])) (by simp[hi]);refine⟨vs.getD i .non,_,rfl,?_,zgc h fun j hj=>hp j (ak _ hj)⟩;rw[aE,hx];exact hd
theorem ze0 {vs:List V}{its:List Value}(h:z4 vs its):∀ (p:List Nat),(∀i∈p,i<vs.length)->z4 (p.map fun i=>vs.getD i .non) (p.map fun i=>its.getD i .none)
 | [],_=>.nil
 | i::p,hp=>by have hi:=hp i ah;obtain⟨u,hu,ru⟩:=h.get (i:=i) (x:=vs[i]) (aj hi);refine .cons ?_ (ze0 h p fun j hj=>hp j (ak _ hj));show yN (vs.getD i .non) (its.getD i .none);rw[aE,aE,aj hi,hu];exact ru
theorem uX {α:Type}(d:α)(l:List α):(List.range l.length).map (fun i=>l.getD i d)=l:=by refine de (by simp) fun i h1 h2=>?_;simp[h2]
theorem zkb:CallQ X (.builtin "sorted") zqL:=⟨by
 intro pins s σ H xs us Q I r h;obtain⟨l,vs,sts,m,rfl,hl,hsts,h2,h64,hm1,hm,hnd,q⟩:=h;obtain⟨u,rfl,ru⟩:=u6 r;cases ru;obtain⟨its,rv,pl,hz⟩:=I.list (.of hl);have hvl:=hsts.length;rw[aa] at hvl;have hil:=rv.length;obtain⟨m0,hns,_⟩:=id I.loc;refine W.kat_sorted (h₀:=(⟨#[],{}⟩:Heap)) (L:=X.env.locals) (m:=m0) (news:=zaO s.heap X.env.locals) ⟨hns,fun b o e=>?_,a8 _⟩ (fun p hp=>?_) pl.isList (by lia) (by lia) fun D e1 h' F N hDlt=>?_
 ·have:=aw e;simp at this
 ·obtain⟨b,o⟩:=p;have:=zQ.mp hp;refine⟨this.2,this.1,?_⟩
  cases e:(⟨#[],{}⟩:Heap).get? b with
  | none=>rfl
  | some o'=>
   have:=aw e;simp at this
 ·have kp:∀b o,b≠X.env.locals->s.heap.get? b=some o->h'.get? b=some o:=fun b o hb e=>(N (b,o) (ak _ (zQ.mpr ⟨hb,e⟩))).1;obtain⟨fs,k1,k2,k3⟩:=zjI I kp hsts rv fun st hst=>by rw[hm st hst];exact hm1
  refine W.kat_kind (T:=.type "int") (s:={ s with heap:=h' }) k1 (by lia) (fun f hf=>?_) (by decide) ?_
  ·obtain⟨a,t,rfl⟩:=k3 f hf;intro A' Q' E' s' _ hq;exact dn (ff s' a t) hq
  ·have hu:zbJ sts.length (zb5 sts):=fun i j hi hj e=>by
    have e1:=xm hm hi hj;have e2:=xm hm hj hi;rw[e,aN (dU _)] at e1;rw[e,aN (dU _)] at e2;have gi:sts.getD i []=sts[i]:=by simp[hi]
    have gj:sts.getD j []=sts[j]:=by simp[hj]
    rcases uF (a:=sts.getD i []) (b:=sts.getD j []) (by rw[gi,gj,hm _ (bh hi),hm _ (bh hj)]) with h | h | h
    ·rw[gi,gj] at h;exact (bV hnd).mp h
    ·rw[h] at e1;cases e1
    ·rw[h] at e2;cases e2
   obtain⟨p,hrun,hup⟩:=zgA hu h2;rw[show its.length=sts.length by lia];refine hrun.wp (S:=fun s'=>s'={ s with heap:=h' }) (fun i j C s' hi hj hs' hC=>?_) (fun s' hs'=>?_) _ rfl
   ·subst hs';obtain⟨a1,it1,_,b1,c1,d1,f1⟩:=zfO I hsts rv hi;obtain⟨a2,it2,_,b2,c2,d2,f2⟩:=zfO I hsts rv hj;obtain⟨o1,ho1,_,n1,hd1⟩:=c1;obtain⟨o2,ho2,_,n2,hd2⟩:=c2;show wpAny _ _ (keyLt' _ (its.getD i .none) (its.getD j .none)) C _ _;rw[b1,b2]
    have gi:(sts.getD i []).length=m:=by
     have:sts.getD i []=sts[i]:=by simp[hi]
     rw[this];exact hm _ (bh hi)
    have gj:(sts.getD j []).length=m:=by
     have:sts.getD j []=sts[j]:=by simp[hj]
     rw[this];exact hm _ (bh hj)
    have l1:=d1.length;have l2:=d2.length;rw[aa] at l1 l2;refine W.kat_lt (s:={ s with heap:=h' }) (kp _ _ f1 ho1) hd1 (kp _ _ f2 ho2) hd2 ?_;rw[show decide (it1.toArray.size<it2.toArray.size)=false from aN (by simp;lia)];refine zdw 0 d1 d2 (by rw[gi,gj]) ?_;have:=hC { s with heap:=h' } rfl;rw[show ze3 (zb5 sts) i j=HT.lexLt (sts.getD i []) (sts.getD j []) from xm hm hi hj] at this;exact this
   ·subst hs'
    have hpl:p.toList.Perm (List.range sts.length):=by have:=hup.perm.toList;simpa using this
    have hpi:∀i∈p.toList,i<sts.length:=fun i hi=>aQ.mp ((hpl.mem_iff).mp hi);refine W.KasFin.intro F N (W.UpdF.head fun q' hq'=>?_) fun h'' c F'' N''=>?_
    ·exact aO (hDlt q' hq')
    ·have kp2:∀b o,b≠X.env.locals->s.heap.get? b=some o->h''.get? b=some o:=fun b o hb e=>(N'' (b,o) (ak _ (zQ.mpr ⟨hb,e⟩))).1;have hDL:D≠X.env.locals:=(N'' (D,_) ah).2.1
     have hDn:s.heap.get? D=none:=by
      cases e:s.heap.get? D with
      | none=>rfl
      | some o=>exact absurd (hDlt (D,o) (zQ.mpr ⟨hDL,e⟩)) (bQ _)
     have hHD:H D=none:=by
      cases e:H D with
      | none=>rfl
      | some o=>
       obtain⟨o',ho'⟩:=zaF (I.hok D o e);rw[hDn] at ho';cases ho'
     have hout:=(N'' (D,_) ah).1;have I':=zds I hns (ys:=p.toList.map fun i=>vs.getD i .non) kp2 F''.ns hDn hHD hout (ze0 rv p.toList fun i hi=>by have:=hpi i hi;lia) (by rw[aa,hpl.length_eq,am];exact ck (zcs (by lia))) s.toks;refine⟨.ref D,_,I',rfl,(q _ (p.toList.map fun i=>sts.getD i []) (zgc hsts hpi) ?_ ?_).at hHD⟩
     ·have:=hpl.map fun i=>sts.getD i [];rwa[uX] at this
     ·have hps:p.size=sts.length:=ue hup.perm;rw[b7];intro i j hi hj hij;rw[aa,aD] at hi hj;have hk:=hup.lt_of hij (by lia);rw[cR,cR,c7,c7];have e1:p.getD i 0=p[i]:=by simp[hi]
      have e2:p.getD j 0=p[j]:=by simp[hj]
      unfold key at hk;rw[e1,e2] at hk;rw[<- xm hm (hpi _ (by simp)) (hpi _ (by simp))];exact aR hk⟩
end
open PySem PySem.Spec PySem.Calls PyProof.Rows PySem.W
theorem uQ {prog:Program}{w:World}{A:Around}{E:Value->Shared->Prop}{s:Shared}{a:Addr}{vs:List Value}{n:Nat}{P:PySem.Fin->Shared->Prop}(ho:s.heap.get? a=some (seqObj "list" vs.toArray n))(h2:vs.length<2)
  (h:∀h' c,(∀b o,b≠a->s.heap.get? b=some o->h'.get? b=some o)->h'.get? a=some (seqObj "list" vs.toArray c)->P (.done (.ret .none)) { s with heap:=h' }) :
  wpAny (model prog w) A (Builtin.«list.sort» ⟨[.ref a],[]⟩) P E s:=by
 obtain⟨e1,ho1⟩:∃e1,(s.heap.update a (Obj.mapSeq fun _=>(#[]:Array Value))).get? a=some (seqObj "list" #[] e1):=⟨_,get?_update_seq ho fun _=>#[]⟩;rw[list_sort_plain];refine ab (listItems_at ho rfl ?_);refine ab (listUpdate_at ho rfl ?_ (by rw[aq,bI];lia) (a8 _));refine ab (seqEpoch_at ho1 rfl ?_);refine ab (wpAny_newTuple ?_ (by show vs.length<=_;rw[bI];lia));refine ab (wpAny_newList ?_ (a8 _));refine bM ?_;show wpAny (model prog w) A _ P E { s with heap:=((s.heap.update a (Obj.mapSeq fun _=>(#[]:Array Value))).push (seqObj "tuple" vs.toArray 0)).push (seqObj "list" #[] 0) };dsimp only;have hn2:vs.toArray.size<2:=by rw[aq];lia
 rw[if_pos hn2,if_pos hn2];refine ab (ac ?_);refine ab (m:=(pure ():StateT SortSt _ _).run _) (ac ?_)
 have hsnd:(arrOf (SortSt.mk' general' (vs.toArray.zip vs.toArray) #[] 7 none)).map (fun x=>x.snd)=vs.toArray:=by show (vs.toArray.zip vs.toArray).map (fun x=>x.snd)=vs.toArray;apply Array.toList_inj.mp;rw[Array.toList_map,Array.toList_zip];exact List.map_snd_zip (ag _)
 have ha:a<s.heap.objs.size:=aw ho;have g3:(((s.heap.update a (Obj.mapSeq fun _=>(#[]:Array Value))).push (seqObj "tuple" vs.toArray 0)).push (seqObj "list" #[] 0)).get? a=some (seqObj "list" #[] e1):=ai _ (ai _ ho1);refine ab (seqEpoch_at g3 rfl ?_);refine ab (listUpdate_at g3 rfl ?_ (a8 _) ?_)
 ·show wpAny _ _ _ _ _ _;dsimp only;rw[hsnd];simp only[bne_self_eq_false,aT,if_false];refine ac (h _ _ (fun b o hb e=>?_) (get?_update_seq g3 fun _=>vs.toArray));rw[en _ _ _ _ hb];refine ai _ (ai _ ?_);rw[en _ _ _ _ hb];exact e
 ·dsimp only;rw[hsnd,aq,bI];lia
theorem zeS {prog:Program}{w:World}{A:Around}{E:Value->Shared->Prop}{s:Shared}{l:Addr}{vs:List Value}{Q:Value->Shared->Prop}(hl:s.heap.IsList l vs.toArray)(h2:vs.length<2)
  (h:∀D h' c,(∀b o,s.heap.get? b=some o->h'.get? b=some o)->s.heap.get? D=none->h'.get? D=some (seqObj "list" vs.toArray c)->Q (.ref D) { s with heap:=h' }) :
  wpAny (model prog w) A (call (.builtin "sorted") [.ref l]) Q E s:=by
 refine Calls.call_function_entry kind_sorted plain_sorted entry_sorted (args_sorted1 _) ?_;unfold Builtin.«sorted»;refine ab (m:=checkCount "sorted" 1 1 _) (ac ?_);refine ab (collect_list hl ?_ (by rw[bI];lia));refine ab (wpAny_newList ?_ (by rw[bI];lia))
 have hsz:((s.heap.push (seqObj "list" #[] 0)).update s.heap.objs.size (Obj.mapSeq (·++vs.toArray))).objs.size=s.heap.objs.size+1:=by rw[Heap.size_update,size_push']
 have hoL:(((s.heap.push (seqObj "list" #[] 0)).update s.heap.objs.size (Obj.mapSeq (·++vs.toArray))).push (seqObj "list" vs.toArray 0)).get? (s.heap.objs.size+1)=some (seqObj "list" vs.toArray 0):=by rw[<- hsz];exact aP _ rfl
 have keep:∀b o,s.heap.get? b=some o->(((s.heap.push (seqObj "list" #[] 0)).update s.heap.objs.size (Obj.mapSeq (·++vs.toArray))).push (seqObj "list" vs.toArray 0)).get? b=some o:=fun b o q=>by have hlt:b<s.heap.objs.size:=aw q;rw[Heap.get?_push_ne _ _ _ (by rw[hsz];exact aO (Nat.lt_succ_of_lt hlt)),en _ _ _ _ (aO hlt),Heap.get?_push_ne _ _ _ (aO hlt)];exact q
 show wpAny _ _ _ _ _ { s with heap:=((s.heap.push (seqObj "list" #[] 0)).update s.heap.objs.size (Obj.mapSeq (·++vs.toArray))).push (seqObj "list" vs.toArray 0) };rw[hsz];refine ab (bM (bm slot_list_sort ⟨_,hoL,rfl⟩ entry_list_sort ?body (args_list_sort _)))
 case body=>
  refine uQ (s:={ s with heap:=((s.heap.push (seqObj "list" #[] 0)).update s.heap.objs.size (Obj.mapSeq (·++vs.toArray))).push (seqObj "list" vs.toArray 0) }) hoL h2 fun h' c kp hD=>?_;refine⟨_,rfl,ac ⟨_,rfl,h _ _ _ (fun b o e=>kp b o (aO (Nat.lt_succ_of_lt (aw e))) (keep b o e)) ?_ hD⟩⟩;exact Heap.get?_none_of_le (ef _)
section
variable {X:Cx}
def zn2:List V->Hp->VK->Prop:=fun xs H Q=>∃ (l:Addr) (vs:List V) (sts:List (List Int)) (m:Nat),xs=[.ref l]/\H l=some (.lst vs)/\IsL H (sts.map stD) vs/\sts.length<64/\1<=m/\(∀st∈sts,st.length=m)/\sts.Nodup/\
 ∀ (ys:List V) (sts':List (List Int)),IsL H (sts'.map stD) ys->sts'.Perm sts->(sts'.Pairwise fun a b=>HT.lexLt a b=true)->New H (.lst ys) Q
theorem zmj:CallQ X (.builtin "sorted") zn2:=⟨by
 intro pins s σ H xs us Q I r h;obtain⟨l,vs,sts,m,rfl,hl,hsts,h64,hm1,hm,hnd,q⟩:=h;by_cases h2:2<=sts.length
 ·exact zkb.run _ _ _ _ _ _ _ I r ⟨l,vs,sts,m,rfl,hl,hsts,h2,h64,hm1,hm,hnd,q⟩
 ·obtain⟨u,rfl,ru⟩:=u6 r;cases ru;obtain⟨its,rv,pl,hz⟩:=I.list (.of hl);have hvl:=hsts.length;rw[aa] at hvl;have hil:=rv.length;obtain⟨m0,hns,_⟩:=id I.loc;refine zeS pl.isList (by lia) fun D h' c kp hDn hD=>?_
  have hHD:H D=none:=by
   cases e:H D with
   | none=>rfl
   | some o=>
    obtain⟨o',ho'⟩:=zaF (I.hok D o e);rw[hDn] at ho';cases ho'
  have I':=zds I hns (ys:=vs) (fun b o _ e=>kp b o e) (by obtain⟨o,es,ep,g,k⟩:=hns;exact⟨o,es,ep,kp _ _ g,k⟩) hDn hHD hD rv (ck (zcs (by lia))) s.toks;refine⟨.ref D,_,I',rfl,(q _ sts hsts (List.Perm.refl _) ?_).at hHD⟩
  match sts,h2 with
  | [],_=>exact .nil
  | [_],_=>exact cP _ _
  | _::_::_,h2=>exact absurd (by simp) h2⟩
end
open PySem
def Ris (xs:Array Nat):Prop:=∀i j:Nat,i<j->j<xs.size->xs.getD i 0<xs.getD j 0
theorem zdi {xs:Array Nat}(hr:Ris xs){j:Nat}:∀ (fuel lo hi:Nat),lo<=hi->hi<=xs.size->hi - lo<=fuel->(∀i,i<lo->xs.getD i 0<j)->(∀i,hi<=i->i<xs.size->j<=xs.getD i 0)->
  ∃p,SetTable.below.go xs j fuel lo hi=p/\p<=xs.size/\(∀i,i<p->xs.getD i 0<j)/\(∀i,p<=i->i<xs.size->j<=xs.getD i 0)
 | 0,lo,hi,h1,h2,h3,h4,h5=>by
  have:lo=hi:=by lia
  subst this;exact⟨lo,rfl,h2,h4,h5⟩
 | fuel+1,lo,hi,h1,h2,h3,h4,h5=>by
  show ∃p,(if lo<hi then if xs.getD ((lo+hi) / 2) j<j then SetTable.below.go xs j fuel ((lo+hi) / 2+1) hi else SetTable.below.go xs j fuel lo ((lo+hi) / 2) else lo)=p/\_;by_cases hl:lo<hi
  ·rw[if_pos hl];have hm:(lo+hi) / 2<xs.size:=by lia
   have e:xs.getD ((lo+hi) / 2) j=xs.getD ((lo+hi) / 2) 0:=by simp[hm]
   rw[e];by_cases hc:xs.getD ((lo+hi) / 2) 0<j
   ·rw[if_pos hc];refine zdi hr fuel _ hi (by lia) h2 (by lia) (fun i hi'=>?_) h5;by_cases q:i=(lo+hi) / 2
    ·rw[q];exact hc
    ·have:=hr i ((lo+hi) / 2) (by lia) hm;lia
   ·rw[if_neg hc];refine zdi hr fuel lo _ (by lia) (by lia) (by lia) h4 (fun i hi' hs=>?_);by_cases q:i=(lo+hi) / 2
    ·rw[q];lia
    ·have:=hr ((lo+hi) / 2) i (by lia) hs;lia
  ·rw[if_neg hl];have:lo=hi:=by lia
   subst this;exact⟨lo,rfl,h2,h4,h5⟩
theorem x8 {xs:Array Nat}(hr:Ris xs)(j:Nat):SetTable.below xs j<=xs.size/\(∀i,i<SetTable.below xs j->xs.getD i 0<j)/\(∀i,SetTable.below xs j<=i->i<xs.size->j<=xs.getD i 0):=by obtain⟨p,e,h⟩:=zdi hr (j:=j) xs.size 0 xs.size (a8 _) (ag _) (ag _) (fun i h=>absurd h (cK _)) (fun i h1 h2=>by lia);have e':SetTable.below xs j=p:=e;rw[e'];exact h
theorem xG {xs:Array Nat}{i j:Nat}(h:xs[i]?=some j):i<xs.size/\xs.getD i 0=j:=by obtain⟨h1,h2⟩:=cy.mp h;exact⟨h1,by simp[h1,h2]⟩
theorem zfk {xs:Array Nat}{i:Nat}(h:i<xs.size):xs[i]?=some (xs.getD i 0):=by simp[h]
theorem zj1 {xs:Array Nat}(hr:Ris xs){i j:Nat}(h:xs[i]?=some j):SetTable.below xs j=i:=by
 obtain⟨h1,h2⟩:=xG h;obtain⟨b1,b2,b3⟩:=x8 hr j;rcases cm (SetTable.below xs j) i with q | q | q
 ·have:=b3 _ (ag _) (by lia);have:=hr _ i q h1;lia
 ·exact q
 ·have:=b2 i q;lia
theorem zaS {t:SetTable}(hr:Ris t.place){i j:Nat}(h:t.place[i]?=some j):t.slot j = .live i:=by unfold SetTable.slot;rw[zj1 hr h];simp[h]
theorem zjB {t:SetTable}(hd:t.dummies = #[]){j:Nat}(h:∀i:Nat,t.place[i]?≠some j):t.slot j = .empty:=by
 unfold SetTable.slot
 have e:(t.place[SetTable.below t.place j]?==some j)=false:=by rw[eM];intro z;exact h _ (br z)
 have e2:SetTable.has t.dummies j=false:=by rw[hd];rfl
 simp only[e,e2,aT,if_false]
theorem zoe {t:SetTable}(hr:Ris t.place)(hd:t.dummies = #[])(j:Nat):(t.slot j = .empty/\∀i:Nat,t.place[i]?≠some j)\/∃i,t.slot j = .live i/\t.place[i]?=some j:=by
 by_cases h:∃i:Nat,t.place[i]?=some j
 ·obtain⟨i,hi⟩:=h;exact .inr ⟨i,zaS hr hi,hi⟩
 ·have h':∀i:Nat,t.place[i]?≠some j:=fun i e=>h ⟨i,e⟩;exact .inl ⟨zjB hd h',h'⟩
def tm (mask:Nat):SetTable:=⟨mask,#[],#[],0,true,0,true⟩
def stp (mask:Nat)(h:Int):Nat->SetTable.Probe
 | 0=>(tm mask).probeStart h
 | n+1=>(tm mask).advance (stp mask h n)
def wk (mask:Nat)(h:Int)(n:Nat):Nat:=(stp mask h n).j
theorem zhg (mask:Nat)(p:SetTable.Probe):((tm mask).advance p).dummy=p.dummy:=by unfold SetTable.advance;split <;> rfl
theorem zeW (mask:Nat)(h:Int):∀n,(stp mask h n).dummy=none
 | 0=>rfl
 | n+1=>by show ((tm mask).advance _).dummy=none;rw[zhg,zeW mask h n]
theorem zfZ (mask:Nat)(p:SetTable.Probe)(h:0<p.more):(tm mask).advance p={ p with j:=p.j+1,more:=p.more - 1 }:=by unfold SetTable.advance;rw[if_pos h]
theorem zdg (mask:Nat)(p:SetTable.Probe)(h:p.more=0):(tm mask).advance p={ p with j:=(p.i * 5+1+p.perturb / 32) % (mask+1),more:=SetTable.runEnd mask ((p.i * 5+1+p.perturb / 32) % (mask+1)) - (p.i * 5+1+p.perturb / 32) % (mask+1),i:=(p.i * 5+1+p.perturb / 32) % (mask+1),perturb:=p.perturb / 32 }:=by unfold SetTable.advance;rw[if_neg (by lia)];rfl
def lp (mask:Nat)(h:Int):Nat->Nat×Nat
 | 0=>(SetTable.bits h % (mask+1),SetTable.bits h)
 | n+1=>SetTable.leap mask (lp mask h n).1 (lp mask h n).2
theorem zlY (mask i:Nat):SetTable.runEnd mask i - i<=9:=by unfold SetTable.runEnd;split <;> lia
theorem zdZ (mask:Nat)(h:Int){T i q:Nat}(e:stp mask h T=⟨i,SetTable.runEnd mask i - i,i,q,none⟩):∀k,k<=SetTable.runEnd mask i - i->stp mask h (T+k)=⟨i+k,SetTable.runEnd mask i - i - k,i,q,none⟩
 | 0,_=>e
 | k+1,hk=>by show (tm mask).advance (stp mask h (T+k))=_;rw[zdZ mask h e k (by lia),zfZ mask _ (by show 0<SetTable.runEnd mask i - i - k;lia)];show (⟨i+k+1,SetTable.runEnd mask i - i - k - 1,i,q,none⟩:SetTable.Probe)=⟨i+(k+1),SetTable.runEnd mask i - i - (k+1),i,q,none⟩;rw[Nat.add_assoc,Nat.sub_sub]
theorem ziu (mask:Nat)(h:Int):∀k,∃T,T<=10 * k/\stp mask h T=⟨(lp mask h k).1,SetTable.runEnd mask (lp mask h k).1 - (lp mask h k).1,(lp mask h k).1,(lp mask h k).2,none⟩
 | 0=>⟨0,ag _,rfl⟩
 | k+1=>by obtain⟨T,hT,e⟩:=ziu mask h k;have hr:=zlY mask (lp mask h k).1;refine⟨T+(SetTable.runEnd mask (lp mask h k).1 - (lp mask h k).1)+1,by lia,?_⟩;show (tm mask).advance (stp mask h (T+_))=_;rw[zdZ mask h e _ (ag _),zdg mask _ (eI _)];rfl
theorem zc2 (mask:Nat)(h:Int):∀k,(lp mask h k).2=SetTable.bits h / 32 ^ k
 | 0=>by show SetTable.bits h=_;simp
 | k+1=>by show (lp mask h k).2 / 32=_;rw[zc2 mask h k,Nat.div_div_eq_div_mul,Nat.pow_succ]
theorem zmc (h:Int):SetTable.bits h<2 ^ 64:=by unfold SetTable.bits;have h0:=cu h (show (2 ^ 64:Int)≠0 by decide);have h1:=bR h (show (0:Int)<2 ^ 64 by decide);lia
def lcg (m i:Nat):Nat:=(i * 5+1) % m
def orb (m:Nat):Nat->Nat->Nat
 | 0,i=>i
 | k+1,i=>lcg m (orb m k i)
theorem ziB (mask:Nat)(h:Int):∀k,(lp mask h (13+k)).1=orb (mask+1) k (lp mask h 13).1
 | 0=>rfl
 | k+1=>by
  show ((lp mask h (13+k)).1 * 5+1+(lp mask h (13+k)).2 / 32) % (mask+1)=lcg (mask+1) (orb (mask+1) k _);rw[<- ziB mask h k,zc2];have hb:=zmc h
  have e:SetTable.bits h / 32 ^ (13+k)=0:=by
   refine Nat.div_eq_of_lt (aU hb ?_)
   calc 2 ^ 64<=32 ^ 13:=by decide
    _<=32 ^ (13+k):=cF (by decide) (by lia)
  rw[e];rfl
theorem zcd (m:Nat)(a:Nat):∀ (b i:Nat),orb m (a+b) i=orb m b (orb m a i)
 | 0,i=>rfl
 | b+1,i=>by show lcg m (orb m (a+b) i)=lcg m (orb m b _);rw[zcd m a b i]
def zoD (m:Nat):Nat->Nat->List Nat
 | 0,_=>[]
 | n+1,i=>i::zoD m n (lcg m i)
theorem zkH (m:Nat)(k i:Nat):orb m (k+1) i=orb m k (lcg m i):=by rw[eF,zcd];rfl
theorem zdL (m:Nat):∀ (n i k:Nat),k<n->(zoD m n i)[k]?=some (orb m k i)
 | n+1,i,0,_=>rfl
 | n+1,i,k+1,h=>by rw[zkH];exact zdL m n (lcg m i) k (by lia)
theorem zbF (m:Nat):∀ (n i:Nat),(zoD m n i).length=n
 | 0,_=>rfl
 | n+1,i=>by show (zoD m n _).length+1=n+1;rw[zbF m n]
structure Ring (m:Nat):Prop where
 pos:0<m
 all:∀v,v<m->v∈zoD m m 0
 back:orb m m 0=0
theorem Ring.reach {m:Nat}(r:Ring m){i j:Nat}(hi:i<m)(hj:j<m):∃k,k<m/\orb m k i=j:=by
 obtain⟨a,ha,ea⟩:=bq.mp (r.all i hi);obtain⟨b,hb,eb⟩:=bq.mp (r.all j hj);rw[zbF] at ha hb
 have ea':orb m a 0=i:=by have:=zdL m m 0 a ha;rw[aj (by rw[zbF];exact ha),ea] at this;exact (bc this).symm
 have eb':orb m b 0=j:=by have:=zdL m m 0 b hb;rw[aj (by rw[zbF];exact hb),eb] at this;exact (bc this).symm
 by_cases hab:a<=b
 ·refine⟨b - a,by lia,?_⟩;rw[<- ea',<- zcd,show a+(b - a)=b by lia];exact eb'
 ·refine⟨b+m - a,by lia,?_⟩;rw[<- ea',<- zcd,show a+(b+m - a)=m+b by lia,zcd,r.back];exact eb'
def zqU (m:Nat):Bool:=((List.range m).all fun v=>(zoD m m 0).contains v)&&orb m m 0==0
theorem zdT {m:Nat}(h0:0<m)(h:zqU m=true):Ring m:=by unfold zqU at h;rw[ay] at h;refine⟨h0,fun v hv=>?_,br h.2⟩;have:=bB.mp h.1 v (aQ.mpr hv);exact bz.mp this
theorem ztt:Ring 8:=zdT (by decide) (by decide +kernel)
theorem zqT:Ring 32:=zdT (by decide) (by decide +kernel)
theorem zn3:Ring 128:=zdT (by decide) (by decide +kernel)
theorem zn4:Ring 512:=zdT (by decide) (by decide +kernel)
theorem zln {mask:Nat}(r:Ring (mask+1))(h:Int){j:Nat}(hj:j<=mask):∃n,n<10 * SetTable.turns mask/\wk mask h n=j:=by have hb:(lp mask h 13).1<mask+1:=eO _ (eJ _);obtain⟨k,hk,e⟩:=r.reach hb (eP hj);obtain⟨T,hT,eT⟩:=ziu mask h (13+k);refine⟨T,by unfold SetTable.turns;lia,?_⟩;show (stp mask h T).j=j;rw[eT];show (lp mask h (13+k)).1=j;rw[ziB,e]
open PySem PySem.Spec PyProof.Rows
theorem zn6 {xs:Array Nat}(hr:Ris xs){i j a b:Nat}(hi:xs[i]?=some a)(hj:xs[j]?=some b)(h:a<b):i<j:=by
 obtain⟨h1,h2⟩:=xG hi;obtain⟨h3,h4⟩:=xG hj;rcases cm i j with q | q | q
 ·exact q
 ·subst q;lia
 ·have:=hr j i q h1;lia
theorem zgw {xs:Array Nat}(hr:Ris xs):∀ (M:Nat),(∀j,j<M->∃i:Nat,xs[i]?=some j)->∀ (j i:Nat),j<M->xs[i]?=some j->j<=i
 | _,_,0,_,_,_=>a8 _
 | M,h,j+1,i,hj,e=>by obtain⟨i',e'⟩:=h j (by lia);have h1:=zn6 hr e' e (cz j);have h2:=zgw hr M h j i' (by lia) e';lia
theorem zn5 {xs:Array Nat}(hr:Ris xs){M:Nat}(h:xs.size<M):∃j,j<M/\∀i:Nat,xs[i]?≠some j:=by refine bD fun hn=>?_;have all:∀j,j<M->∃i:Nat,xs[i]?=some j:=fun j hj=>bD fun hc=>hn ⟨j,hj,fun i e=>hc ⟨i,e⟩⟩;obtain⟨i,e⟩:=all (M - 1) (by lia);have h1:=zgw hr M all (M - 1) i (by lia) e;have h2:=(xG e).1;lia
section
variable {t:SetTable}{hashAt:Nat->Int}{h:Int}
theorem zgt (hr:Ris t.place)(hd:t.dummies = #[]):∀ (fuel n:Nat),(∃N,n<=N/\N<n+fuel/\∀i:Nat,t.place[i]?≠some (wk t.mask h N))->
  ∃N,n<=N/\(∀m,n<=m->m<N->∃i,t.place[i]?=some (wk t.mask h m)/\hashAt i≠h)/\
   (((∀i:Nat,t.place[i]?≠some (wk t.mask h N))/\SetTable.probe.go t hashAt h fuel (stp t.mask h n)=some (.empty (wk t.mask h N) none))\/
    ∃i,t.place[i]?=some (wk t.mask h N)/\hashAt i=h/\SetTable.probe.go t hashAt h fuel (stp t.mask h n)=some (.candidate (wk t.mask h N) i (stp t.mask h (N+1))))
 | 0,n,⟨N,h1,h2,_⟩=>by lia
 | fuel+1,n,⟨N,h1,h2,h3⟩=>by
  rcases zoe hr hd (wk t.mask h n) with ⟨e,hn⟩ | ⟨i,e,hi⟩
  ·refine⟨n,ag _,fun m a b=>by lia,.inl ⟨hn,?_⟩⟩;show (match t.slot (wk t.mask h n) with | .empty=>some (SetTable.Met.empty (wk t.mask h n) (stp t.mask h n).dummy) | .dummy=>_ | .live i=>_)=_;rw[e,zeW]
  ·by_cases hh:hashAt i=h
   ·refine⟨n,ag _,fun m a b=>by lia,.inr ⟨i,hi,hh,?_⟩⟩;show (match t.slot (wk t.mask h n) with | .empty=>_ | .dummy=>_ | .live i=>if hashAt i==h then some (SetTable.Met.candidate (wk t.mask h n) i (t.advance (stp t.mask h n))) else _)=_;rw[e];show (if (hashAt i==h)=true then _ else _)=_;rw[if_pos (beq_iff_eq.mpr hh)];rfl
   ·have hN:n≠N:=fun z=>by subst z;exact h3 i hi
    obtain⟨N',a1,a2,a3⟩:=zgt hr hd fuel (n+1) ⟨N,by lia,by lia,h3⟩
    have e2:SetTable.probe.go t hashAt h (fuel+1) (stp t.mask h n)=SetTable.probe.go t hashAt h fuel (stp t.mask h (n+1)):=by show (match t.slot (wk t.mask h n) with | .empty=>_ | .dummy=>_ | .live i=>if hashAt i==h then _ else SetTable.probe.go t hashAt h fuel (t.advance (stp t.mask h n)))=_;rw[e];show (if (hashAt i==h)=true then _ else _)=_;rw[if_neg (fun z=>hh (beq_iff_eq.mp z))];rfl
    refine⟨N',by lia,fun m b1 b2=>?_,?_⟩
    ·by_cases hm:m=n
     ·subst hm;exact⟨i,hi,hh⟩
     ·exact a2 m (by lia) b2
    ·rw[e2];exact a3
end
section
variable {prog:Program}{w:World}
abbrev tk (prog:Program)(w:World):HeapKind prog w (List Key):=tupleKind (zM prog w)
def zr6 (t:SetTable)(h:Int)(i:Nat):Prop:=∃n,n<10 * SetTable.turns t.mask/\t.place[i]?=some (wk t.mask h n)/\∀m,m<n->∃i':Nat,t.place[i']?=some (wk t.mask h m)
def zaa (m:Nat):Prop:=m=7\/m=31\/m=127\/m=511
theorem zaa.ring {m:Nat}(h:zaa m):Ring (m+1):=by
 rcases h with rfl | rfl | rfl | rfl
 ·exact ztt
 ·exact zqT
 ·exact zn3
 ·exact zn4
theorem zaa.le {m:Nat}(h:zaa m):7<=m/\m<=511:=by rcases h with rfl | rfl | rfl | rfl <;> lia
theorem zaa.odd {m:Nat}(h:zaa m):(m % 2==0)=false:=by rcases h with rfl | rfl | rfl | rfl <;> rfl
structure Tb (prog:Program)(w:World)(t:SetTable)(es:Array (Int×Value))(xs:List (List Key×Addr)):Prop where
 eq:es.toList=xs.map fun q=>((tk prog w).hash q.1,Value.ref q.2)
 nd:(xs.map (·.1)).Nodup
 dm:t.dummies = #[]
 ris:Ris t.place
 le:∀ (i j:Nat),t.place[i]?=some j->j<=t.mask
 sz:t.place.size=xs.length
 msk:zaa t.mask
 few:xs.length<=t.mask
 plain:t.plain=true
 led:t.led = !w.params.followText "set-order"
 reach:∀ (i:Nat) (q:List Key×Addr),xs[i]?=some q->zr6 t ((tk prog w).hash q.1) i
variable {t:SetTable}{es:Array (Int×Value)}{xs:List (List Key×Addr)}
theorem Tb.size (T:Tb prog w t es xs):es.size=xs.length:=by rw[<- aD,T.eq,aa]
theorem Tb.get (T:Tb prog w t es xs){i:Nat}{q:List Key×Addr}(h:xs[i]?=some q):es[i]?=some ((tk prog w).hash q.1,Value.ref q.2):=by rw[<- cZ,T.eq,aC,h];rfl
theorem Tb.at' (T:Tb prog w t es xs){i j:Nat}(h:t.place[i]?=some j):∃q,xs[i]?=some q:=by have:=(xG h).1;rw[T.sz] at this;exact⟨xs[i],aj this⟩
theorem Tb.fits (T:Tb prog w t es xs):t.fits es.size=true:=by unfold SetTable.fits SetTable.fill;rw[T.size,T.sz,T.dm];have:=T.few;simp;lia
theorem Tb.empty (T:Tb prog w t es xs)(h:Int):∃N,N<10 * SetTable.turns t.mask/\∀i:Nat,t.place[i]?≠some (wk t.mask h N):=by have:=T.few;obtain⟨j,hj,hn⟩:=zn5 T.ris (M:=t.mask+1) (by rw[T.sz];lia);obtain⟨N,h1,h2⟩:=zln T.msk.ring h (cL hj);exact⟨N,h1,by rw[h2];exact hn⟩
variable {A:Around}{E:Value->Shared->Prop}{s:Shared}
theorem ze8 {k:Key}{v:Value}(h:(zM prog w).is k v=true):(∃i t,v = .int i t)\/∃x t,v = .str x t:=by
 rcases zW h with ⟨i,t,_,e⟩ | ⟨x,t,_,e⟩
 ·exact .inl ⟨i,t,e⟩
 ·exact .inr ⟨x,t,e⟩
theorem zb2:∀ {ks:List Key} {vs:List Value},ItemsAre (zM prog w) ks vs->∀v∈vs,(∃i t,v = .int i t)\/∃x t,v = .str x t
 | _,_,.nil,v,h=>by simp at h
 | _,_,.cons h1 h2,v,h=>by
  rcases aG.mp h with rfl | h
  ·exact ze8 h1
  ·exact zb2 h2 v h
theorem zc5 {k:List Key}{b:Addr}{Q:Bool->Shared->Prop}(hk:(tk prog w).is s.heap k b)(h:Q false s):wpAny (model prog w) A (ofAClassStatement 8 (.ref b)) Q E s:=by
 have hk':IsTupleKey (zM prog w) s.heap k b:=hk;have hT:=hk'.typeIs;obtain⟨o,items,n,ho,_,hd,hi⟩:=hk';unfold ofAClassStatement;refine ab (dn hT ?_);dsimp only;rw[if_pos (by decide)];refine ab (ac ?_);simp only[eV,aT,if_false];refine ab (wpAny_seqItems ho hd ?_);refine ab ?_;show wpAny _ _ (forIn items _ _) _ _ s;rw[<- Array.forIn_toList];refine e7 _ (fun zY r s'=>r.1=none/\s'=s/\∀v∈zY,(∃i t,v=Value.int i t)\/∃x t,v=Value.str x t) _ ?_ ?_ _ _ ⟨rfl,rfl,zb2 hi⟩
 ·rintro v zY r s' ⟨hr,rfl,hall⟩
  have e:ofAClassStatement 7 v=pure false:=by rcases hall v ah with ⟨i,t,rfl⟩ | ⟨x,t,rfl⟩ <;> rfl
  rw[e];refine ab (ac ?_);simp only[aT,if_false];exact ac ⟨rfl,rfl,fun u hu'=>hall u (ak _ hu')⟩
 ·rintro⟨r1,r2⟩ s' ⟨hr,rfl,_⟩;simp only at hr;subst hr;exact ac h
theorem zrv {k:List Key}{b:Addr}{Q:Bool->Shared->Prop}(hk:(tk prog w).is s.heap k b):∀ (l:List Value),(∀v∈l,∃k' b',v = .ref b'/\(tk prog w).is s.heap k' b')->Q false s->wpAny (model prog w) A (searchCouldBeSeen (.ref b) l) Q E s:=by
 intro l hl h;unfold searchCouldBeSeen;refine ab ?_;refine e7 _ (fun zY r s'=>r.1=none/\s'=s/\∀v∈zY,∃k' b',v=Value.ref b'/\(tk prog w).is s.heap k' b') _ ?_ ?_ _ _ ⟨rfl,rfl,hl⟩
 ·rintro v zY r s' ⟨hr,rfl,hall⟩;obtain⟨k',b',rfl,hk'⟩:=hall v ah;have next:∀u∈zY,∃k' b',u=Value.ref b'/\(tk prog w).is s'.heap k' b':=fun u hu'=>hall u (ak _ hu');dsimp only;split
  ·exact ac ⟨rfl,rfl,next⟩
  ·refine ab ((tk prog w).quiet hk ?_);simp only[eV,aT,if_false];refine ab ((tk prog w).quiet hk' ?_);simp only[eV,aT,if_false];refine ab (zc5 hk ?_);simp only[aT,if_false];refine ab (zc5 hk' ?_);simp only[aT,if_false];exact ac ⟨rfl,rfl,next⟩
 ·rintro⟨r1,r2⟩ s' ⟨hr,rfl,_⟩;simp only at hr;subst hr;exact ac h
end
section
variable {prog:Program}{w:World}{t:SetTable}{es:Array (Int×Value)}{xs:List (List Key×Addr)}{A:Around}{E:Value->Shared->Prop}{s:Shared}
def zfY (t:SetTable)(xs:List (List Key×Addr))(h:Int)(k:List Key)(n:Nat):Prop:=∀m,m<n->∃ (i:Nat) (q:List Key×Addr),t.place[i]?=some (wk t.mask h m)/\xs[i]?=some q/\q.1≠k
theorem zeR {a b:Addr}{o:Obj}{ep:Nat}{k:List Key}{adding:Bool}{Q:SetFound->Shared->Prop}(hu:A.units<cLine)(T:Tb prog w t es xs)(hk:(tk prog w).is s.heap k b)(hel:∀q∈xs,(tk prog w).is s.heap q.1 q.2)
  (ho:s.heap.get? a=some o) (hd:o.data = .set es ep t)
  (found:∀r i q,xs[i]?=some q->q.1=k->(r=none\/r=some i)->Q (.there r) s)
  (free:∀N,N<10 * SetTable.turns t.mask->(∀i:Nat,t.place[i]?≠some (wk t.mask ((tk prog w).hash k) N))->zfY t xs ((tk prog w).hash k) k N->Q (.free (wk t.mask ((tk prog w).hash k) N) false) s) :
  ∀ (fuel n:Nat) (stand:Option SetTable.Probe),stand.getD (t.probeStart ((tk prog w).hash k))=stp t.mask ((tk prog w).hash k) n->10 * SetTable.turns t.mask<n+fuel->n<=10 * SetTable.turns t.mask->zfY t xs ((tk prog w).hash k) k n->
   wpAny (model prog w) A (setSearchFrom a (.ref b) ((tk prog w).hash k) adding fuel stand) Q E s
 | 0,n,stand,_,h2,h3,_=>by lia
 | fuel+1,n,stand,h1,h2,h3,h4=>by
  unfold setSearchFrom;refine ab (bE ho hd T.fits ?_);dsimp only;rw[show t.gaveWay=false from T.msk.odd];simp only[aT,if_false];rw[h1];obtain⟨N0,hN0,eN0⟩:=T.empty ((tk prog w).hash k)
  have hn0:n<=N0:=by
   rcases e8 N0 n with q | q
   ·obtain⟨i,_,e,_⟩:=h4 N0 q;exact absurd e (eN0 i)
   ·exact q
  have pass:∀N,n<=N->(∀m,n<=m->m<N->∃i:Nat,t.place[i]?=some (wk t.mask ((tk prog w).hash k) m)/\(es[i]?.map (·.1)).getD 0≠(tk prog w).hash k)->zfY t xs ((tk prog w).hash k) k N:=fun N hN hh m hm=>by
   rcases e8 m n with q | q
   ·exact h4 m q
   ·obtain⟨i,e1,e2⟩:=hh m q hm;obtain⟨q,hq⟩:=T.at' e1;refine⟨i,q,e1,hq,fun z=>e2 ?_⟩;rw[T.get hq,<- z];rfl
  obtain⟨N,hN,hp,hc⟩:=zgt (t:=t) (hashAt:=fun i=>(es[i]?.map (·.1)).getD 0) (h:=(tk prog w).hash k) T.ris T.dm (10 * SetTable.turns t.mask) n ⟨N0,hn0,by lia,eN0⟩
  have hNle:N<=N0:=by
   rcases e8 N0 N with q | q
   ·obtain⟨i,e,_⟩:=hp N0 hn0 q;exact absurd e (eN0 i)
   ·exact q
  rcases hc with ⟨he,hg⟩ | ⟨i,hi,hh,hg⟩
  ·have hg':t.probe (fun i=>(es[i]?.map (·.1)).getD 0) ((tk prog w).hash k) (stp t.mask ((tk prog w).hash k) n)=some (.empty (wk t.mask ((tk prog w).hash k) N) none):=hg;have fin:=free N (by lia) he (pass N hN hp);generalize hm:SetTable.probe t _ _ _=met;have:met=some (.empty (wk t.mask ((tk prog w).hash k) N) none):=hm.symm.trans hg';rw[this];dsimp only;exact ac fin
  ·have hg':t.probe (fun i=>(es[i]?.map (·.1)).getD 0) ((tk prog w).hash k) (stp t.mask ((tk prog w).hash k) n)=some (.candidate (wk t.mask ((tk prog w).hash k) N) i (stp t.mask ((tk prog w).hash k) (N+1))):=hg;generalize hm:SetTable.probe t _ _ _=met;have:met=some (.candidate (wk t.mask ((tk prog w).hash k) N) i (stp t.mask ((tk prog w).hash k) (N+1))):=hm.symm.trans hg';rw[this];dsimp only;obtain⟨q,hq⟩:=T.at' hi;have hqe:=T.get hq;have hqk:=hel q (aI hq);have stl:t.slot (wk t.mask ((tk prog w).hash k) N) = .live i:=zaS T.ris hi
   have core:wpAny (model prog w) A (do
     let some (_,y):=es[i]? | unsupported "internal:set-entry"
     let equal <- holding [y] (eqBool y (.ref b))
     let (es',_,t') <- setState a
     if adding&&equal then return .there none
     let some smem:=t'.sameMemory t.moves t.mask | unsupported "set.changed-during-lookup:is-the-new-block-at-the-old-address"
     let still <- match (if smem then t'.slot (wk t.mask ((tk prog w).hash k) N) else .empty) with
      | .live i'=>match es'[i']? with
       | some (_,y')=>do pure (if <- isSame y' y then some i' else none)
       | none=>pure none
      | _=>pure none
     match still with
     | none=>rule "set.search.anew";setSearchFrom a (.ref b) ((tk prog w).hash k) adding fuel none
     | some i'=>if equal then return .there (some i') else setSearchFrom a (.ref b) ((tk prog w).hash k) adding fuel (some (stp t.mask ((tk prog w).hash k) (N+1)))) Q E s:=by
    rw[hqe];dsimp only;refine ab (bM ((tk prog w).eqBool hu hqk hk ?_));refine ab (bE ho hd T.fits ?_);dsimp only;by_cases hkk:q.1=k
    ·rw[aR hkk]
     cases adding with
     | true=>
      simp only[Bool.and_self,if_true];exact ac (found none i q hq hkk (.inl rfl))
     | false=>
      simp only[Bool.false_and,aT,if_false];have e1:t.sameMemory t.moves t.mask=some true:=by unfold SetTable.sameMemory;simp
      rw[e1];dsimp only;simp only[if_true];rw[stl];dsimp only;rw[hqe];dsimp only;refine ab (wpAny_isSame_ref_self (ab (ac ?_)));simp only[if_true];exact ac (found (some i) i q hq hkk (.inr rfl))
    ·rw[aN hkk];simp only[eK,aT,if_false];have e1:t.sameMemory t.moves t.mask=some true:=by unfold SetTable.sameMemory;simp
     rw[e1];dsimp only;simp only[if_true];rw[stl];dsimp only;rw[hqe];dsimp only;refine ab (wpAny_isSame_ref_self (ab (ac ?_)));simp only[if_true];refine zeR hu T hk hel ho hd found free fuel (N+1) _ rfl (by lia) (by lia) fun m hm=>?_;rcases Nat.lt_succ_iff_lt_or_eq.mp hm with z | z
     ·exact pass N hN hp m z
     ·subst z;exact⟨i,q,hi,hq,hkk⟩
   split
   ·refine ab (zrv hk _ (fun v hv=>?_) ?_)
    ·obtain⟨e,he,rfl⟩:=aF.mp hv
     have he':e∈es.toList:=by have:=dP.mp he;exact dP.mpr (Array.mem_filter.mp this).1
     rw[T.eq] at he';obtain⟨q',hq',rfl⟩:=aF.mp he';exact⟨_,_,rfl,hel q' hq'⟩
    ·simp only[aT,if_false];exact core
   ·exact core
end
def zep {α:Type}(l:List α)(p:Nat)(x:α):List α:=l.take p++x::l.drop p
theorem zfn {α:Type}{l:List α}{p i:Nat}{x:α}(hp:p<=l.length)(h:i<p):(zep l p x)[i]?=l[i]?:=by unfold zep;rw[a6 (by rw[aJ];lia),dj h]
theorem zfl {α:Type}{l:List α}{p:Nat}{x:α}(hp:p<=l.length):(zep l p x)[p]?=some x:=by unfold zep;rw[ba (by rw[aJ];lia),aJ,show p - min p l.length=0 by lia];rfl
theorem zfm {α:Type}{l:List α}{p i:Nat}{x:α}(hp:p<=l.length)(h:p<=i):(zep l p x)[i+1]?=l[i]?:=by unfold zep;rw[ba (by rw[aJ];lia),aJ,show i+1 - min p l.length=(i - p)+1 by lia,bH,dv,show p+(i - p)=i by lia]
theorem zdq {α:Type}{l:List α}{p:Nat}{x:α}(hp:p<=l.length):(zep l p x).length=l.length+1:=by unfold zep;rw[af,aS,aJ,bf];lia
theorem zkm {α β:Type}(f:α->β)(l:List α)(p:Nat)(x:α):(zep l p x).map f=zep (l.map f) p (f x):=by unfold zep;rw[aB,ao,dS,eU]
theorem zh5 {α:Type}(l:List α)(p:Nat)(x:α):(zep l p x).Perm (x::l):=by unfold zep;refine List.perm_middle.trans ?_;rw[dH]
theorem yA {α:Type}(xs:Array α){p:Nat}(x:α):(SetTable.insertAt xs p x).toList=zep xs.toList p x:=by unfold SetTable.insertAt zep;rw[Array.toList_append,Array.toList_push,Array.toList_extract,Array.toList_extract,List.extract_eq_take_drop,List.extract_eq_take_drop];rw[eG,dC,bO];congr 1;show x::_=_;congr 1;show []++List.take _ (List.drop p xs.toList)=_;rw[eh];refine bK ?_;rw[bf,aD];exact ag _
theorem zaX {α:Type}(xs:Array α)(i:Nat):xs[i]?=xs.toList[i]?:=(cZ).symm
theorem zfo {xs:Array Nat}{p j i v:Nat}(hp:p<=xs.size)(h:xs[i]?=some v):(SetTable.insertAt xs p j)[if i<p then i else i+1]?=some v:=by
 rw[zaX,yA];rw[zaX] at h;have hp':p<=xs.toList.length:=by rw[aD];exact hp
 split
 ·rename_i hi;rw[zfn hp' hi,h]
 ·rename_i hi;rw[zfm hp' (by lia),h]
theorem zav {xs:Array Nat}{p j i v:Nat}(hp:p<=xs.size)(h:(SetTable.insertAt xs p j)[i]?=some v):(i=p/\v=j)\/(i<p/\xs[i]?=some v)\/∃i',i=i'+1/\p<=i'/\xs[i']?=some v:=by
 rw[zaX,yA] at h;have hp':p<=xs.toList.length:=by rw[aD];exact hp
 rcases cm i p with q | q | q
 ·rw[zfn hp' q,<- zaX] at h;exact .inr (.inl ⟨q,h⟩)
 ·subst q;rw[zfl hp'] at h;cases h;exact .inl ⟨rfl,rfl⟩
 ·obtain⟨i',rfl⟩:∃i',i=i'+1:=⟨i - 1,by lia⟩;rw[zfm hp' (by lia),<- zaX] at h;exact .inr (.inr ⟨i',rfl,by lia,h⟩)
theorem zg3 {xs:Array Nat}(hr:Ris xs){j:Nat}(hn:∀i:Nat,xs[i]?≠some j):Ris (SetTable.insertAt xs (SetTable.below xs j) j):=by
 obtain⟨b1,b2,b3⟩:=x8 hr j;intro i i2 hlt h2;have e1:=zfk (xs:=SetTable.insertAt xs (SetTable.below xs j) j) (i:=i) (by lia);have e2:=zfk h2;generalize (SetTable.insertAt xs (SetTable.below xs j) j).getD i 0=v at e1;generalize (SetTable.insertAt xs (SetTable.below xs j) j).getD i2 0=v2 at e2
 have big:∀i v,SetTable.below xs j<=i->xs[i]?=some v->j<v:=fun i v h e=>by
  obtain⟨a1,a2⟩:=xG e;have:=b3 i h a1;rcases e8 j v with q | q
  ·exact q
  ·have:v=j:=by lia
   subst this;exact absurd e (hn i)
 have small:∀i v,i<SetTable.below xs j->xs[i]?=some v->v<j:=fun i v h e=>by obtain⟨a1,a2⟩:=xG e;have:=b2 i h;lia
 have mono:∀i i2 v v2,i<i2->xs[i]?=some v->xs[i2]?=some v2->v<v2:=fun i i2 v v2 h e e2=>by
  obtain⟨a1,a2⟩:=xG e;obtain⟨a3,a4⟩:=xG e2;have:=hr i i2 h a3
  omega
 rcases zav b1 e1 with ⟨rfl,rfl⟩ | ⟨q,e⟩ | ⟨i',rfl,q,e⟩
 ·rcases zav b1 e2 with ⟨rfl,rfl⟩ | ⟨q',e'⟩ | ⟨i'',rfl,q',e'⟩
  ·lia
  ·lia
  ·exact big _ _ q' e'
 ·rcases zav b1 e2 with ⟨rfl,rfl⟩ | ⟨q',e'⟩ | ⟨i'',rfl,q',e'⟩
  ·exact small _ _ q e
  ·exact mono _ _ _ _ hlt e e'
  ·exact mono _ _ _ _ (by lia) e e'
 ·rcases zav b1 e2 with ⟨rfl,rfl⟩ | ⟨q',e'⟩ | ⟨i'',rfl,q',e'⟩
  ·lia
  ·lia
  ·exact mono _ _ _ _ (by lia) e e'
section
variable {prog:Program}{w:World}{t:SetTable}{es:Array (Int×Value)}{xs:List (List Key×Addr)}
theorem zmG {j:Nat}:SetTable.has #[] j=false:=rfl
theorem Tb.put (T:Tb prog w t es xs){k:List Key}{b:Addr}{N:Nat}(hN:N<10 * SetTable.turns t.mask)(he:∀i:Nat,t.place[i]?≠some (wk t.mask ((tk prog w).hash k) N))(hp:zfY t xs ((tk prog w).hash k) k N)
  (hk:k∉xs.map (·.1)) (hf:xs.length+1<=t.mask) (hle:wk t.mask ((tk prog w).hash k) N<=t.mask) :
  ∃xs',Tb prog w (t.put (wk t.mask ((tk prog w).hash k) N)).1 (SetTable.insertAt es (t.put (wk t.mask ((tk prog w).hash k) N)).2 ((tk prog w).hash k,.ref b)) xs'/\xs'.Perm ((k,b)::xs):=by
 generalize hj:wk t.mask ((tk prog w).hash k) N=j at *;obtain⟨b1,b2,b3⟩:=x8 T.ris j;have hp2:(t.put j).2=SetTable.below t.place j:=rfl
 have ht:(t.put j).1={ t with place:=SetTable.insertAt t.place (SetTable.below t.place j) j }:=by unfold SetTable.put;dsimp only;rw[T.dm,zmG];simp only[aT,if_false]
 generalize hpp:SetTable.below t.place j=p at *;have hpx:p<=xs.length:=by rw[<- T.sz];exact b1
 have shift:∀ {i v:Nat},t.place[i]?=some v->∃i':Nat,(SetTable.insertAt t.place p j)[i']?=some v:=fun {i v} h=>⟨_,zfo b1 h⟩;have hxp:=zh5 xs p (k,b);refine⟨zep xs p (k,b),?_,hxp⟩;rw[hp2,ht];refine⟨?_,?_,T.dm,?_,?_,?_,T.msk,?_,T.plain,T.led,?_⟩
 ·rw[yA,T.eq,zkm]
 ·rw[(hxp.map (·.1)).nodup_iff,ao,b8];exact⟨hk,T.nd⟩
 ·have:=zg3 T.ris he;rw[hpp] at this;exact this
 ·intro i v e;rcases zav b1 e with ⟨_,rfl⟩ | ⟨_,e'⟩ | ⟨_,_,_,e'⟩
  ·exact hle
  ·exact T.le _ _ e'
  ·exact T.le _ _ e'
 ·show (SetTable.insertAt t.place p j).size=_;rw[<- aD,yA,zdq (by rw[aD];exact b1),zdq hpx,aD,T.sz]
 ·show (zep xs p (k,b)).length<=t.mask;rw[zdq hpx];exact hf
 ·intro i q hq;rcases cm i p with z | z | z
  ·rw[zfn hpx z] at hq;obtain⟨n,h1,h2,h3⟩:=T.reach i q hq;refine⟨n,h1,?_,fun m hm=>?_⟩
   ·have:=zfo (j:=j) b1 h2;rw[if_pos z] at this;exact this
   ·obtain⟨i',e⟩:=h3 m hm;exact shift e
  ·subst z;rw[zfl hpx] at hq;cases hq;refine⟨N,hN,?_,fun m hm=>?_⟩
   ·show (SetTable.insertAt t.place i j)[i]?=_;rw[zaX,yA,zfl (by rw[aD];exact b1)];exact congrArg some hj.symm
   ·obtain⟨i',q',e,_⟩:=hp m hm;exact shift e
  ·obtain⟨i',rfl⟩:∃i',i=i'+1:=⟨i - 1,by lia⟩;rw[zfm hpx (by lia)] at hq;obtain⟨n,h1,h2,h3⟩:=T.reach i' q hq;refine⟨n,h1,?_,fun m hm=>?_⟩
   ·have:=zfo (j:=j) b1 h2;rw[if_neg (by lia)] at this;exact this
   ·obtain⟨i',e⟩:=h3 m hm;exact shift e
end
theorem zdD:∀ (n:Nat) {l:List Nat},l.Nodup->(∀x∈l,x<n)->l.length<=n
 | 0,l,_,h=>by
  cases l with
  | nil=>exact ag _
  | cons a _=>exact absurd (h a ah) (cK _)
 | n+1,l,hn,h=>by
  by_cases hm:n∈l
  ·have h1:=zdD n (hn.erase n) fun x hx=>by
    have:=(hn.mem_erase_iff).mp hx;have:=h x this.2;lia
   rw[List.length_erase_of_mem hm] at h1;lia
  ·have:=zdD n hn fun x hx=>by
    have h1:=h x hx;have:x≠n:=fun z=>hm (z ▸ hx);lia
   lia
theorem zaL {α:Type}[BEq α][LawfulBEq α]:∀ {l l':List α},l.Nodup->l'.Nodup->(∀x,x∈l↔x∈l')->l.Perm l'
 | [],l',_,_,h=>by
  cases l' with
  | nil=>exact .nil
  | cons a _=>exact absurd ((h a).mpr ah) (by simp)
 | a::l,l',hn,hn',h=>by
  have ha:a∈l':=(h a).mp ah;refine List.Perm.trans (List.Perm.cons a ?_) (List.perm_cons_erase ha).symm;rw[b8] at hn;refine zaL hn.2 (hn'.erase a) fun x=>?_;rw[hn'.mem_erase_iff];constructor
  ·intro hx;exact⟨fun z=>hn.1 (z ▸ hx),(h x).mp (ak _ hx)⟩
  ·rintro⟨h1,h2⟩;rcases aG.mp ((h x).mpr h2) with z | z
   ·exact absurd z h1
   ·exact z
def St0 (mask:Nat)(h:Int)(K:Nat):SetTable.Probe:=⟨(lp mask h K).1,SetTable.runEnd mask (lp mask h K).1 - (lp mask h K).1,(lp mask h K).1,(lp mask h K).2,none⟩
theorem ziv {mask:Nat}{h:Int}{T K:Nat}(e:stp mask h T=St0 mask h K):stp mask h (T+(SetTable.runEnd mask (lp mask h K).1 - (lp mask h K).1)+1)=St0 mask h (K+1):=by show (tm mask).advance (stp mask h (T+_))=_;rw[zdZ mask h e _ (ag _),zdg mask _ (eI _)];rfl
theorem zpF (mask:Nat)(h:Int):∀K,(lp mask h K).1<=mask
 | 0=>cL (eO _ (eJ _))
 | K+1=>cL (eO _ (eJ _))
theorem zck {mask i:Nat}(h:i<=mask):SetTable.runEnd mask i<=mask/\i<=SetTable.runEnd mask i:=by unfold SetTable.runEnd;split <;> lia
theorem zem {mask:Nat}{h:Int}{owner:Array (Option Nat)}(hs:owner.size=mask+1):∀ (fuel K T:Nat),T<=10 * K->stp mask h T=St0 mask h K->(∀m,m<T->∃i',owner[wk mask h m]?=some (some i'))->
  (∃K',K<=K'/\K'<K+fuel/\owner[(lp mask h K').1]?=some none)->
  ∃N,SetTable.layClean.free mask owner fuel (lp mask h K).1 (lp mask h K).2=some (wk mask h N)/\N<10 * (K+fuel)/\wk mask h N<=mask/\owner[wk mask h N]?=some none/\∀m,m<N->∃i',owner[wk mask h m]?=some (some i')
 | 0,K,T,_,_,_,⟨K',h1,h2,_⟩=>by lia
 | fuel+1,K,T,hT,eT,occ,⟨K',h1,h2,h3⟩=>by
  have hle:=zpF mask h K;obtain⟨r1,r2⟩:=zck hle;have r9:=zlY mask (lp mask h K).1
  have wkk:∀k,k<=SetTable.runEnd mask (lp mask h K).1 - (lp mask h K).1->wk mask h (T+k)=(lp mask h K).1+k:=fun k hk=>by show (stp mask h (T+k)).j=_;rw[zdZ mask h eT k hk]
  have inR:∀k,k<=SetTable.runEnd mask (lp mask h K).1 - (lp mask h K).1->∃u,owner[(lp mask h K).1+k]?=some u/\owner.getD ((lp mask h K).1+k) (some 0)=u:=fun k hk=>by
   have hlt:(lp mask h K).1+k<owner.size:=by lia
   exact⟨owner[(lp mask h K).1+k],aY hlt,by simp[hlt]⟩
  show ∃N,(match (List.range (SetTable.runEnd mask (lp mask h K).1+1 - (lp mask h K).1)).find? fun k=>(owner.getD ((lp mask h K).1+k) (some 0)).isNone with
   | some k=>some ((lp mask h K).1+k)
   | none=>SetTable.layClean.free mask owner fuel (lp mask h (K+1)).1 (lp mask h (K+1)).2)=some (wk mask h N)/\_
  cases hf:(List.range (SetTable.runEnd mask (lp mask h K).1+1 - (lp mask h K).1)).find? fun k=>(owner.getD ((lp mask h K).1+k) (some 0)).isNone with
  | some k=>
   obtain⟨hp,i,hi,hik,hbef⟩:=List.find?_eq_some_iff_getElem.mp hf;rw[bT] at hik;subst hik;rw[am] at hi;have hk:i<=SetTable.runEnd mask (lp mask h K).1 - (lp mask h K).1:=by lia
   obtain⟨u,hu1,hu2⟩:=inR i hk;rw[hu2] at hp
   have hun:u=none:=by
    cases u with
    | none=>rfl
    | some z=>exact absurd hp (by simp)
   subst hun;refine⟨T+i,by rw[wkk i hk],by lia,by rw[wkk i hk];lia,by rw[wkk i hk];exact hu1,fun m hm=>?_⟩;by_cases hmT:m<T
   ·exact occ m hmT
   ·obtain⟨k',rfl⟩:∃k',m=T+k':=⟨m - T,by lia⟩;obtain⟨u,hu1,hu2⟩:=inR k' (by lia);have:=hbef k' (by lia);rw[bT,hu2] at this;rw[wkk k' (by lia),hu1]
    cases u with
    | none=>simp at this
    | some i'=>exact⟨i',rfl⟩
  | none=>
   have hall:=List.find?_eq_none.mp hf
   have occR:∀k,k<=SetTable.runEnd mask (lp mask h K).1 - (lp mask h K).1->∃i',owner[(lp mask h K).1+k]?=some (some i'):=fun k hk=>by
    obtain⟨u,hu1,hu2⟩:=inR k hk;have:=hall k (aQ.mpr (by lia));rw[hu2] at this
    cases u with
    | none=>simp at this
    | some i'=>exact⟨i',hu1⟩
   have hKK:K≠K':=fun z=>by subst z;obtain⟨i',e⟩:=occR 0 (a8 _);rw[Nat.add_zero,h3] at e;cases e
   have occ':∀m,m<T+(SetTable.runEnd mask (lp mask h K).1 - (lp mask h K).1)+1->∃i',owner[wk mask h m]?=some (some i'):=fun m hm=>by
    by_cases hmT:m<T
    ·exact occ m hmT
    ·obtain⟨k',rfl⟩:∃k',m=T+k':=⟨m - T,by lia⟩;rw[wkk k' (by lia)];exact occR k' (by lia)
   obtain⟨N,a1,a2,a3⟩:=zem hs fuel (K+1) _ (by lia) (ziv eT) occ' ⟨K',by lia,by lia,h3⟩;exact⟨N,a1,by lia,a3⟩
structure Own (mask:Nat)(hs:List Int)(n:Nat)(owner:Array (Option Nat)):Prop where
 size:owner.size=mask+1
 lt:∀ (j i:Nat),owner[j]?=some (some i)->i<n
 inj:∀ (j j' i:Nat),owner[j]?=some (some i)->owner[j']?=some (some i)->j=j'
 reach:∀ (i:Nat) (h:Int),i<n->hs[i]?=some h->∃N,N<10 * SetTable.turns mask/\owner[wk mask h N]?=some (some i)/\∀m,m<N->∃i',owner[wk mask h m]?=some (some i')
theorem Own.gap {mask:Nat}{hs:List Int}{n:Nat}{owner:Array (Option Nat)}(o:Own mask hs n owner)(hn:n<=mask):∃j,j<=mask/\owner[j]?=some none:=by
 refine bD fun hc=>?_
 have all:∀j,j<mask+1->∃i,owner[j]?=some (some i):=fun j hj=>by
  have hlt:j<owner.size:=by rw[o.size];exact hj
  cases e:owner[j] with
  | none=>exact absurd ⟨j,cL hj,by rw[aY hlt,e]⟩ hc
  | some i=>exact⟨i,by rw[aY hlt,e]⟩
 have hl:=zdD n (l:=(List.range (mask+1)).map fun j=>((owner[j]?).join).getD 0) ?_ ?_
 ·rw[aa,am] at hl;lia
 ·refine cM.mpr (List.Pairwise.imp_of_mem ?_ dO);intro a b ha hb hab e;refine hab ?_;obtain⟨i,hi⟩:=all a (aQ.mp ha);obtain⟨i',hi'⟩:=all b (aQ.mp hb);rw[hi,hi'] at e;have:i=i':=e;subst this;exact o.inj _ _ _ hi hi'
 ·intro x hx;obtain⟨j,hj,rfl⟩:=aF.mp hx;obtain⟨i,hi⟩:=all j (aQ.mp hj);rw[hi];exact o.lt _ _ hi
theorem Own.step {mask:Nat}{hs:List Int}{n:Nat}{owner:Array (Option Nat)}{h:Int}(o:Own mask hs n owner)(hr:Ring (mask+1))(hn:n<=mask)(hh:hs[n]?=some h) :
  ∃j,SetTable.layClean.free mask owner (SetTable.turns mask) (SetTable.bits h % (mask+1)) (SetTable.bits h)=some j/\Own mask hs (n+1) (owner.setIfInBounds j (some n)):=by
 obtain⟨g,hg,eg⟩:=o.gap hn;have hb:(lp mask h 13).1<mask+1:=eP (zpF mask h 13);obtain⟨k,hk,e⟩:=hr.reach hb (eP hg);obtain⟨N,h1,h2,h3,h4,h5⟩:=zem o.size (SetTable.turns mask) 0 0 (ag _) (h:=h) rfl (fun m hm=>absurd hm (cK _)) ⟨13+k,a8 _,by unfold SetTable.turns;lia,by rw[ziB,e];exact eg⟩;have hj:wk mask h N<owner.size:=by rw[o.size];lia
 have set_at:(owner.setIfInBounds (wk mask h N) (some n))[wk mask h N]?=some (some n):=by rw[dW];simp[hj]
 have set_ne:∀j,j≠wk mask h N->(owner.setIfInBounds (wk mask h N) (some n))[j]?=owner[j]?:=fun j hne=>by rw[dW];rw[if_neg (fun z=>hne z.symm)]
 have keep:∀j i,owner[j]?=some (some i)->(owner.setIfInBounds (wk mask h N) (some n))[j]?=some (some i):=fun j i e=>by
  by_cases q:j=wk mask h N
  ·rw[q,h4] at e;cases e
  ·rw[set_ne j q];exact e
 refine⟨wk mask h N,h1,by simp[o.size],fun j i e=>?_,fun j j' i e e'=>?_,fun i h' hi hh'=>?_⟩
 ·by_cases q:j=wk mask h N
  ·subst q;rw[set_at] at e;cases e;lia
  ·rw[set_ne j q] at e;have:=o.lt _ _ e;lia
 ·by_cases q:j=wk mask h N
  ·subst q;rw[set_at] at e;cases e;by_cases q':j'=wk mask h N
   ·exact q'.symm
   ·rw[set_ne j' q'] at e';have:=o.lt _ _ e';lia
  ·rw[set_ne j q] at e;by_cases q':j'=wk mask h N
   ·subst q';rw[set_at] at e';cases e';have:=o.lt _ _ e;lia
   ·rw[set_ne j' q'] at e';exact o.inj _ _ _ e e'
 ·by_cases q:i=n
  ·subst q;rw[hh] at hh';cases hh';refine⟨N,by unfold SetTable.turns at *;lia,set_at,fun m hm=>?_⟩;obtain⟨i',e⟩:=h5 m hm;exact⟨i',keep _ _ e⟩
  ·obtain⟨M,m1,m2,m3⟩:=o.reach i h' (by lia) hh';refine⟨M,m1,keep _ _ m2,fun m hm=>?_⟩;obtain⟨i',e⟩:=m3 m hm;exact⟨i',keep _ _ e⟩
theorem zkJ (mask:Nat)(hs:List Int):Own mask hs 0 (Array.replicate (mask+1) none):=by
 have no:∀j i,(Array.replicate (mask+1) (none:Option Nat))[j]?≠some (some i):=fun j i e=>by rw[Array.getElem?_replicate] at e;split at e <;> cases e
 exact⟨by simp,fun j i e=>absurd e (no j i),fun j j' i e=>absurd e (no j i),fun i h hi=>absurd hi (cK _)⟩
theorem zga {mask:Nat}(hr:Ring (mask+1)):∀ (zY pre:List Int) (owner:Array (Option Nat)),(pre++zY).length<=mask->Own mask (pre++zY) pre.length owner->
  ∃owner',zY.foldl (fun (acc:Option (Array (Option Nat)×Nat)) h=>acc.bind fun x=>(SetTable.layClean.free mask x.1 (SetTable.turns mask) (SetTable.bits h % (mask+1)) (SetTable.bits h)).bind fun j=>some (x.1.setIfInBounds j (some x.2),x.2+1)) (some (owner,pre.length))=some (owner',(pre++zY).length)/\Own mask (pre++zY) (pre++zY).length owner'
 | [],pre,owner,_,o=>by rw[cI] at o ⊢;exact⟨owner,rfl,o⟩
 | h::zY,pre,owner,hl,o=>by
  have hl':pre.length+(zY.length+1)<=mask:=by rw[af,aS] at hl;exact hl
  obtain⟨j,e,o'⟩:=o.step hr (by lia) (h:=h) (by rw[ba (ag _),eI];rfl);have e1:pre++h::zY=(pre++[h])++zY:=by rw[bO];rfl
  have e2:pre.length+1=(pre++[h]).length:=by rw[af];rfl
  rw[e1,e2] at o';obtain⟨owner',f1,f2⟩:=zga hr zY (pre++[h]) _ (by rw[<- e1];exact hl) o';refine⟨owner',?_,by rw[e1];exact f2⟩;rw[List.foldl_cons,e1,<- f1,<- e2];congr 1;show (SetTable.layClean.free mask owner (SetTable.turns mask) (SetTable.bits h % (mask+1)) (SetTable.bits h)).bind _=_;rw[e];rfl
theorem zew {mask:Nat}(hr:Ring (mask+1))(hs:Array Int)(hl:hs.size<=mask):∃owner,SetTable.layClean mask hs=some owner/\Own mask hs.toList hs.size owner:=by
 obtain⟨owner,h1,h2⟩:=zga hr hs.toList [] (Array.replicate (mask+1) none) (by rw[eh,aD];exact hl) (zkJ mask _);rw[eh,aD] at h2;refine⟨owner,?_,h2⟩;unfold SetTable.layClean;have h1':hs.toList.foldl (fun (acc:Option (Array (Option Nat)×Nat)) h=>acc.bind fun x=>(SetTable.layClean.free mask x.1 (SetTable.turns mask) (SetTable.bits h % (mask+1)) (SetTable.bits h)).bind fun j=>some (x.1.setIfInBounds j (some x.2),x.2+1)) (some (Array.replicate (mask+1) none,0))=some (owner,([]++hs.toList).length):=h1;rw[<- Array.foldl_toList]
 have:(hs.toList.foldl (init:=some (Array.replicate (mask+1) (none:Option Nat),0)) fun acc h=>do
  let (owner,k) <- acc
  let j <- SetTable.layClean.free mask owner (SetTable.turns mask) (SetTable.bits h % (mask+1)) (SetTable.bits h)
  pure (owner.setIfInBounds j (some k),k+1))=some (owner,([]++hs.toList).length):=h1'
 rw[this];rfl
def yR (mask:Nat)(owner:Array (Option Nat)):List (Nat×Nat):=(List.range (mask+1)).filterMap fun j=>(owner.getD j none).map (j,·)
theorem xQ {mask:Nat}{hs:List Int}{n:Nat}{owner:Array (Option Nat)}(o:Own mask hs n owner){j i:Nat}:(j,i)∈yR mask owner↔owner[j]?=some (some i):=by
 unfold yR;rw[cV];constructor
 ·rintro⟨j',hj',e⟩;obtain⟨i',e1,e2⟩:=aH.mp e;cases e2;have hlt:j<owner.size:=by rw[o.size];exact aQ.mp hj'
  have:owner.getD j none=owner[j]:=by simp[hlt]
  rw[this] at e1;rw[aY hlt,e1]
 ·intro e;obtain⟨hlt,e1⟩:=cy.mp e;refine⟨j,aQ.mpr (by rw[<- o.size];exact hlt),?_⟩;have:owner.getD j none=owner[j]:=by simp[hlt]
  rw[this,e1];rfl
theorem ziz (mask:Nat)(owner:Array (Option Nat)):(yR mask owner).Pairwise fun a b=>a.1<b.1:=by unfold yR;refine List.pairwise_filterMap.mpr ((List.pairwise_lt_range).imp ?_);intro a b hab x hx y hy;obtain⟨i,_,rfl⟩:=aH.mp hx;obtain⟨i',_,rfl⟩:=aH.mp hy;exact hab
theorem ziy {mask:Nat}{hs:List Int}{owner:Array (Option Nat)}(o:Own mask hs hs.length owner):((yR mask owner).map (·.2)).Perm (List.range hs.length):=by
 refine zaL ?_ dO fun i=>?_
 ·refine cM.mpr (List.Pairwise.imp_of_mem ?_ (ziz mask owner));intro a b ha hb hab e;have h1:=(xQ o).mp ha;have h2:=(xQ o).mp hb;rw[e] at h1;have:=o.inj _ _ _ h1 h2;lia
 ·rw[aQ];constructor
  ·intro h;obtain⟨⟨j,i'⟩,h1,rfl⟩:=aF.mp h;exact o.lt _ _ ((xQ o).mp h1)
  ·intro h;obtain⟨N,_,e,_⟩:=o.reach i hs[i] h (aj h);exact aF.mpr ⟨(_,i),(xQ o).mpr e,rfl⟩
theorem zcj {α:Type}(l:List α):(List.range l.length).filterMap (fun i=>l[i]?)=l:=by
 have:∀ (n:Nat) (l:List α),n=l.length->(List.range n).filterMap (fun i=>l[i]?)=l:=by
  intro n
  induction n with
  | zero=>intro l h;cases l with | nil=>rfl | cons _ _=>simp at h
  | succ n ih=>
   intro l h
   cases l with
   | nil=>simp at h
   | cons a l=>
    rw[List.range_succ_eq_map,bX];show a::_=_;rw[eD];congr 1;exact ih l (by simpa using h)
 exact this _ l rfl
section
variable {prog:Program}{w:World}{t:SetTable}{es:Array (Int×Value)}{xs:List (List Key×Addr)}
theorem Tb.laid (T:Tb prog w t es xs){mask:Nat}(hm:zaa mask)(hl:xs.length<=mask)(finger moves:Nat) :
  ∃t' order xs',SetTable.laid mask finger moves t.led true (es.map (·.1))=some (t',order)/\(order.filterMap (es[·]?)).size=es.size/\Tb prog w t' (order.filterMap (es[·]?)) xs'/\xs'.Perm xs/\t'.mask=mask:=by
 obtain⟨owner,e,o⟩:=zew hm.ring (es.map (·.1)) (by rw[Array.size_map,T.size];exact hl)
 have hh:(es.map (·.1)).toList=xs.map fun q=>(tk prog w).hash q.1:=by rw[Array.toList_map,T.eq,az];rfl
 have hsz:(es.map (·.1)).size=xs.length:=by rw[Array.size_map,T.size]
 rw[hh,hsz] at o;have o':Own mask (xs.map fun q=>(tk prog w).hash q.1) (xs.map fun q=>(tk prog w).hash q.1).length owner:=by rw[aa];exact o
 have hp:=ziy o';rw[aa] at hp
 have hes:((((yR mask owner).map (·.2)).toArray).filterMap (es[·]?)).toList=((yR mask owner).map (·.2)).filterMap (es.toList[·]?):=by rw[Array.toList_filterMap];congr 1;funext i;exact zaX es i
 have hxp:(((yR mask owner).map (·.2)).filterMap (xs[·]?)).Perm xs:=by have:=hp.filterMap (xs[·]?);rw[zcj] at this;exact this
 have heq:((yR mask owner).map (·.2)).filterMap (es.toList[·]?)=(((yR mask owner).map (·.2)).filterMap (xs[·]?)).map fun q=>((tk prog w).hash q.1,Value.ref q.2):=by rw[List.map_filterMap];congr 1;funext i;rw[T.eq,aC]
 have hgetx:∀ {c:Nat} {q:List Key×Addr},(((yR mask owner).map (·.2)).filterMap (xs[·]?))[c]?=some q->∃j i,(yR mask owner)[c]?=some (j,i)/\xs[i]?=some q:=by
  have gen:∀ (l:List (Nat×Nat)),(∀p∈l,p.2<xs.length)->∀ {c:Nat} {q:List Key×Addr},((l.map (·.2)).filterMap (xs[·]?))[c]?=some q->∃j i,l[c]?=some (j,i)/\xs[i]?=some q:=by
   intro l
   induction l with
   | nil=>intro _ c q h;simp at h
   | cons p l ih=>
    intro hlt c q h;have hp2:=hlt p ah;rw[ao,bX,aj hp2] at h
    cases c with
    | zero=>
     refine⟨p.1,p.2,rfl,?_⟩;rw[aj hp2];exact h
    | succ c=>exact ih (fun p' hp'=>hlt p' (ak _ hp')) (by simpa using h)
  intro c q h;refine gen _ (fun p hp=>?_) h;obtain⟨j,i⟩:=p;exact o.lt _ _ ((xQ o).mp hp)
 have hplace:∀ {c j i:Nat},(yR mask owner)[c]?=some (j,i)->(((yR mask owner).map (·.1)).toArray)[c]?=some j:=fun {c j i} h=>by rw[zaX];show ((yR mask owner).map (·.1))[c]?=_;rw[aC,h];rfl
 refine⟨_,_,((yR mask owner).map (·.2)).filterMap (xs[·]?),by unfold SetTable.laid;rw[e];rfl,?_,⟨?_,?_,rfl,?_,?_,?_,hm,?_,rfl,by exact T.led,?_⟩,hxp,rfl⟩
 ·show ((((yR mask owner).map (·.2)).toArray).filterMap (es[·]?)).size=es.size;rw[<- aD,hes,heq,aa,hxp.length_eq,T.size]
 ·exact hes.trans heq
 ·rw[(hxp.map (·.1)).nodup_iff];exact T.nd
 ·intro i j hij hj
  have hj':j<(yR mask owner).length:=by
   have:(((yR mask owner).map (·.1)).toArray).size=(yR mask owner).length:=by simp
   rw[<- this];exact hj
  have hi':i<(yR mask owner).length:=bW hij hj';have:=b7.mp (ziz mask owner) i j hi' hj' hij;show (((yR mask owner).map (·.1)).toArray).getD i 0<(((yR mask owner).map (·.1)).toArray).getD j 0;have g:∀ {c:Nat} (hc:c<(yR mask owner).length),(((yR mask owner).map (·.1)).toArray).getD c 0=(yR mask owner)[c].1:=fun {c} hc=>(xG (hplace (c:=c) (j:=(yR mask owner)[c].1) (i:=(yR mask owner)[c].2) (aj hc))).2;rw[g hi',g hj'];exact this
 ·intro c j hc;have hc':((yR mask owner).map (·.1))[c]?=some j:=by rw[zaX] at hc;exact hc
  rw[aC] at hc';obtain⟨⟨j',i'⟩,h1,rfl⟩:=aH.mp hc';have h2:=(xQ o).mp (aI h1);have:=(cy.mp h2).1;rw[o.size] at this;show j'<=mask;lia
 ·show (((yR mask owner).map (·.1)).toArray).size=_;have h1:(((yR mask owner).map (·.1)).toArray).size=(yR mask owner).length:=by simp
  rw[h1,hxp.length_eq];have:=hp.length_eq;rw[aa,am] at this;exact this
 ·rw[hxp.length_eq];exact hl
 ·intro c q hq;obtain⟨j,i,h1,h2⟩:=hgetx hq;have hi:=(ae.mp h2).1;obtain⟨N,n1,n2,n3⟩:=o.reach i ((tk prog w).hash q.1) hi (by rw[aC,h2];rfl);have hj:=o.inj _ _ _ ((xQ o).mp (aI h1)) n2;subst hj;refine⟨N,n1,hplace h1,fun m hm'=>?_⟩;obtain⟨i',e'⟩:=n3 m hm';obtain⟨c',hc',ec'⟩:=bq.mp ((xQ o).mpr e');exact⟨c',hplace (by rw[aj hc',ec'])⟩
end
section
variable {prog:Program}{w:World}{t:SetTable}{es:Array (Int×Value)}{xs:List (List Key×Addr)}{A:Around}{E:Value->Shared->Prop}{s:Shared}
def ze6 (prog:Program)(w:World)(h:Heap)(a:Addr)(xs:List (List Key×Addr)):Prop:=∃o es ep t,h.get? a=some o/\o.ExactSet/\o.data = .set es ep t/\Tb prog w t es xs/\xs.length * 5<t.mask * 3
theorem zbs {ns:List Int}{b:Addr}{Q:Bool->Shared->Prop}(hk:(tk prog w).is s.heap (ns.map Sum.inl) b)(h:Q true s):wpAny (model prog w) A (hashByValue 8 (.ref b)) Q E s:=by
 have hk':IsTupleKey (zM prog w) s.heap (ns.map Sum.inl) b:=hk;have hT:=hk'.typeIs;obtain⟨o,items,n,ho,_,hd,hi⟩:=hk'
 have hints:∀ {ns:List Int} {vs:List Value},ItemsAre (zM prog w) (ns.map Sum.inl) vs->∀v∈vs,∃i t,v=Value.int i t:=by
  intro ns
  induction ns with
  | nil=>intro vs h v hv;cases h;simp at hv
  | cons n ns ih=>
   intro vs h v hv
   cases h with
   | cons h1 h2=>
    rcases aG.mp hv with rfl | hv
    ·have h1':zet (Sum.inl n) v=true:=h1;rcases zW h1' with ⟨i,t,_,e⟩ | ⟨x,t,z,_⟩
     ·exact⟨i,t,e⟩
     ·cases z
    ·exact ih h2 v hv
 unfold hashByValue;refine ab (wpAny_specialOf hT F.slot_tuple_hash.lookup ?_);dsimp only;refine ab (wpAny_seqItems ho hd ?_);refine ab ?_;show wpAny _ _ (forIn items _ _) _ _ s;rw[<- Array.forIn_toList];refine e7 _ (fun zY r s'=>r.1=none/\s'=s/\∀v∈zY,∃i t,v=Value.int i t) _ ?_ ?_ _ _ ⟨rfl,rfl,hints hi⟩
 ·rintro v zY r s' ⟨hr,rfl,hall⟩;obtain⟨i,t,rfl⟩:=hall v ah;have e:hashByValue 7 (Value.int i t)=pure true:=rfl;rw[e];refine ab (ac ?_);simp only[eV,aT,if_false];exact ac ⟨rfl,rfl,fun u hu'=>hall u (ak _ hu')⟩
 ·rintro⟨r1,r2⟩ s' ⟨hr,rfl,_⟩;simp only at hr;subst hr;exact ac h
theorem zc7 {h:Heap}{a:Addr}{o:Obj}{es:Array (Int×Value)}{ep:Nat}{t:SetTable}{es':Array (Int×Value)}{t':SetTable}(ho:h.get? a=some o)(hd:o.data = .set es ep t) :
  (h.update a (Obj.putSet es' t')).get? a=some { o with data:=.set es' (ep+1) t' }:=by
 have:=cB (Obj.putSet es' t') ho (by rw[putSet_of es' t' hd];rfl);rw[putSet_of es' t' hd] at this;exact this
theorem zk6 {a:Addr}{o:Obj}{ep wanted mask:Nat}{Q:Unit->Shared->Prop}(T:Tb prog w t es xs)(ho:s.heap.get? a=some o)(hx:o.ExactSet)(hd:o.data = .set es ep t)(hw:SetTable.sizeAbove wanted=mask+1)(hm:zaa mask)(hl:xs.length * 5<mask * 3)
  (h:∀h' xs',Heap.SameBut a s.heap h'->ze6 prog w h' a xs'->xs'.Perm xs->Q () { s with heap:=h' }):wpAny (model prog w) A (setRelay a wanted) Q E s:=by
 unfold setRelay;refine ab (bE ho hd T.fits ?_);dsimp only;have:=hm.le;rw[if_neg (by rw[hw,bI];lia)];obtain⟨t',order,xs',e,hsz,T',hp,hmk⟩:=T.laid hm (by lia) t.finger (t.movedTo mask)
 have e':t.relaid (es.map (·.1)) wanted=some (t',order):=by unfold SetTable.relaid;rw[hw,T.plain];exact e
 have core:∀ {R:Array (Int×Value)×SetTable->Shared->Prop},R (order.filterMap (es[·]?),t') s->wpAny (model prog w) A (do
   let some (t,order):=t.relaid (es.map (·.1)) wanted | unsupported "internal:set-table-without-room"
   let es':=order.filterMap (es[·]?)
   if es'.size != es.size then unsupported "internal:set-table-lost-an-element"
   pure (es',t)) R E s:=fun {R} hR=>by
  rw[e'];dsimp only;rw[hsz];simp only[bne_self_eq_false,aT,if_false]
  first | exact ac hR | exact ab (ac (ac hR))
 refine ab (core ?_);refine wpAny_storeSet_of ho hd ?_ (by rw[hsz,T.size,bI];lia);refine h _ xs' (bN _ a _) ⟨_,_,_,t',zc7 ho hd,hx,rfl,T',?_⟩ hp;rw[hp.length_eq,hmk];exact hl
theorem zoN {a b:Addr}{ns:List Int}{Q:Bool->Shared->Prop}(hu:A.units<cLine)(S:ze6 prog w s.heap a xs)(hk:(tk prog w).is s.heap (ns.map Sum.inl) b)(hel:∀q∈xs,(tk prog w).is s.heap q.1 q.2)(hn:xs.length<300)
  (h:∀r h' n xs',Heap.SameBut a s.heap h'->ze6 prog w h' a xs'->((ns.map Sum.inl)∈xs.map (·.1)->xs'=xs)->((ns.map Sum.inl)∉xs.map (·.1)->xs'.Perm ((ns.map Sum.inl,b)::xs))->Q r { s with heap:=h',toks:=n }) :
  wpAny (model prog w) A (setAdd a (.ref b)) Q E s:=by
 obtain⟨o,es,ep,t,ho,hx,hd,T,hroom⟩:=S;unfold setAdd;refine bM (ab ((tk prog w).pyHash hu hk ?_));unfold setAddHashed;refine bM ?_;rw[show (100000:Nat)=99999+1 from rfl];unfold setAddHashedIn;refine ab (bE (s:={ s with toks:=s.toks+(tk prog w).draws (ns.map Sum.inl) }) ho hd T.fits ?_);dsimp only;rw[show byScan (.ref b) es=false from rfl];simp only[aT,if_false];unfold setSearch;have hm:=T.msk.le;have htl:t.fill=xs.length:=by unfold SetTable.fill;rw[T.sz,T.dm];rfl
 refine ab (zeR (s:={ s with toks:=s.toks+(tk prog w).draws (ns.map Sum.inl) }) hu T hk hel ho hd ?found ?free 100000 0 none rfl (by unfold SetTable.turns;lia) (a8 _) (fun m hm=>absurd hm (cK _)))
 case found=>
  intro r i q hq hqk _;dsimp only;have hmem:(ns.map Sum.inl)∈xs.map (·.1):=aF.mpr ⟨q,aI hq,hqk⟩;exact ac (h false s.heap _ xs (Heap.SameBut.refl a s.heap) ⟨o,es,ep,t,ho,hx,hd,T,hroom⟩ (fun _=>rfl) (fun z=>absurd hmem z))
 case free=>
  intro N hN he hp
  have hnm:(ns.map Sum.inl)∉xs.map (·.1):=fun z=>by
   obtain⟨q,hq,hqk⟩:=aF.mp z;obtain⟨i,hi⟩:=List.mem_iff_getElem?.mp hq;obtain⟨n,h1,h2,h3⟩:=T.reach i q hi;rw[hqk] at h2 h3;rcases cm N n with z | z | z
   ·obtain⟨i',e⟩:=h3 N z;exact he i' e
   ·subst z;exact he i h2
   ·obtain⟨i',q',e1,e2,e3⟩:=hp n z
    have:i'=i:=by have a1:=zaS T.ris e1;have a2:=zaS T.ris h2;rw[a1] at a2;cases a2;rfl
    subst this;rw[hi] at e2;cases e2;exact e3 hqk
  dsimp only;refine ab (bE (s:={ s with toks:=s.toks+(tk prog w).draws (ns.map Sum.inl) }) ho hd T.fits ?_);dsimp only
  have hwle:wk t.mask ((tk prog w).hash (ns.map Sum.inl)) N<=t.mask:=by
   have:∀ (h:Int) (n:Nat),wk t.mask h n<=t.mask/\(stp t.mask h n).j+(stp t.mask h n).more<=t.mask:=by
    intro h n
    induction n with
    | zero=>
     have h0:SetTable.bits h % (t.mask+1)<=t.mask:=cL (eO _ (eJ _));obtain⟨r1,r2⟩:=zck h0;refine⟨h0,?_⟩;show SetTable.bits h % (t.mask+1)+(SetTable.runEnd t.mask (SetTable.bits h % (t.mask+1)) - SetTable.bits h % (t.mask+1))<=t.mask;lia
    | succ n ih=>
     show ((tm t.mask).advance (stp t.mask h n)).j<=t.mask/\((tm t.mask).advance (stp t.mask h n)).j+((tm t.mask).advance (stp t.mask h n)).more<=t.mask;by_cases hmr:0<(stp t.mask h n).more
     ·rw[zfZ _ _ hmr];show (stp t.mask h n).j+1<=t.mask/\(stp t.mask h n).j+1+((stp t.mask h n).more - 1)<=t.mask;lia
     ·rw[zdg _ _ (by lia)];have h0:((stp t.mask h n).i * 5+1+(stp t.mask h n).perturb / 32) % (t.mask+1)<=t.mask:=cL (eO _ (eJ _));obtain⟨r1,r2⟩:=zck h0;refine⟨h0,?_⟩;dsimp only;lia
   exact (this _ _).1
  obtain⟨xs1,T1,hp1⟩:=T.put (b:=b) hN he hp hnm (by lia) hwle;generalize hput:t.put (wk t.mask ((tk prog w).hash (ns.map Sum.inl)) N)=tp at T1;obtain⟨t1,p⟩:=tp;dsimp only at T1 ⊢
  have hmk:t1.mask=t.mask:=by
   have:t1=(t.put (wk t.mask ((tk prog w).hash (ns.map Sum.inl)) N)).1:=by rw[hput]
   rw[this];rfl
  rw[T1.plain];simp only[if_true];refine ab (zbs (s:={ s with toks:=s.toks+(tk prog w).draws (ns.map Sum.inl) }) hk ?_);simp only[if_true];have hl1:=hp1.length_eq;rw[aS] at hl1;refine ab (wpAny_storeSet_of (s:={ s with toks:=s.toks+(tk prog w).draws (ns.map Sum.inl) }) ho hd ?_ (by rw[T1.size,bI];lia));have g1:=zc7 (es':=SetTable.insertAt es p ((tk prog w).hash (ns.map Sum.inl),.ref b)) (t':=t1) ho hd;have sb1:=bN s.heap a (Obj.putSet (SetTable.insertAt es p ((tk prog w).hash (ns.map Sum.inl),.ref b)) t1);simp only[Bool.not_false,Bool.true_and];have htl1:t1.fill=xs.length+1:=by unfold SetTable.fill;rw[T1.sz,T1.dm,hl1];rfl
  by_cases hf:t1.tooFull=true
  ·rw[if_pos hf];unfold SetTable.tooFull at hf;rw[htl1,hmk] at hf;have hf':=bC hf;rw[T.size]
   have next:∃mask,SetTable.sizeAbove (SetTable.grown (xs.length+1))=mask+1/\zaa mask/\(xs.length+1) * 5<mask * 3:=by
    rcases T.msk with e | e | e | e
    ·rw[e] at hf' hroom;have:xs.length=4:=by lia
     rw[this];exact⟨31,by decide,.inr (.inl rfl),by lia⟩
    ·rw[e] at hf' hroom;have:xs.length=18:=by lia
     rw[this];exact⟨127,by decide,.inr (.inr (.inl rfl)),by lia⟩
    ·rw[e] at hf' hroom;have:xs.length=76:=by lia
     rw[this];exact⟨511,by decide,.inr (.inr (.inr rfl)),by lia⟩
    ·rw[e] at hf' hroom;lia
   obtain⟨mask,m1,m2,m3⟩:=next;refine ab (zk6 (s:={ s with heap:=s.heap.update a (Obj.putSet (SetTable.insertAt es p ((tk prog w).hash (ns.map Sum.inl),.ref b)) t1),toks:=s.toks+(tk prog w).draws (ns.map Sum.inl) }) T1 g1 hx rfl m1 m2 (by rw[hl1];exact m3) fun h' xs2 sb2 S2 hp2=>?_);exact ac (h true h' _ xs2 (sb1.trans sb2) S2 (fun z=>absurd z hnm) fun _=>hp2.trans hp1)
  ·rw[if_neg hf];unfold SetTable.tooFull at hf;rw[htl1,hmk] at hf;have hf':¬ ((xs.length+1) * 5 ≥ t.mask * 3):=fun z=>hf (aR z);refine ac (h true _ _ xs1 sb1 ⟨_,_,_,t1,g1,hx,rfl,T1,?_⟩ (fun z=>absurd z hnm) fun _=>hp1);rw[hl1,hmk];lia
end
open PySem PySem.Spec PyProof.Rows PySem.W
theorem zS:Slot "set_iterator" "__next__" "set_iterator.__next__" :=
 .of (owner := "set_iterator") (n := "__next__") (by rw[typeLookup_type,builtinLookup_eq_fast];kernel_rfl) (by decide +kernel) (by decide +kernel) (by decide +kernel)
  (by first | exact .inl (by decide +kernel) | exact .inr (by decide +kernel)) (by rw[isSubtype_type];kernel_rfl)
theorem uj:Slot "set_iterator" "__iter__" "set_iterator.__iter__" :=
 .of (owner := "set_iterator") (n := "__iter__") (by rw[typeLookup_type,builtinLookup_eq_fast];kernel_rfl) (by decide +kernel) (by decide +kernel) (by decide +kernel)
  (by first | exact .inl (by decide +kernel) | exact .inr (by decide +kernel)) (by rw[isSubtype_type];kernel_rfl)
theorem xO:entryFor table "set_iterator.__next__" = some Builtin.«set_iterator.__next__»:=entryFor_of_tree (by kernel_rfl)
theorem zap:entryFor table "set_iterator.__iter__" = some Builtin.«dict_keyiterator.__iter__»:=entryFor_alias (id' := "dict_keyiterator.__iter__") (by kernel_rfl) rfl (by decide +kernel) (by kernel_rfl)
theorem zcC:entryFor table "set.__iter__" = some Builtin.«frozenset.__iter__»:=entryFor_alias (id' := "frozenset.__iter__") (by kernel_rfl) rfl (by decide +kernel) (by kernel_rfl)
theorem x6 (a:Value):argsOk "set_iterator.__next__" ⟨[a],[]⟩:=by unfold argsOk;kernel_rfl
theorem zaW (a:Value):argsOk "set_iterator.__iter__" ⟨[a],[]⟩:=by unfold argsOk;kernel_rfl
theorem zhY {α:Type}(next:Nat->Nat):∀ (n k:Nat) (left:List α) (out:Array α),left.length=n->(pickOrder.go next n k left out).toList.Perm (out.toList++left)
 | 0,k,left,out,h=>by have:left=[]:=bt h;subst this;show out.toList.Perm (out.toList++[]);rw[cI]
 | n+1,k,left,out,h=>by
  have hlt:next k % left.length<left.length:=eO _ (by lia)
  show (match left[next k % left.length]? with
   | some x=>pickOrder.go next n (k+1) (left.eraseIdx (next k % left.length)) (out.push x)
   | none=>out).toList.Perm _
  rw[aj hlt];refine (zhY next n (k+1) _ _ (by rw[List.length_eraseIdx_of_lt hlt];lia)).trans ?_;rw[Array.toList_push,bO];refine List.Perm.append_left _ ?_
  have e:left=left.take (next k % left.length)++left[next k % left.length]::left.drop (next k % left.length+1):=by rw[<- List.drop_eq_getElem_cons hlt];exact (dH _ _).symm
  rw[List.eraseIdx_eq_take_drop_succ];refine List.Perm.trans ?_ (List.Perm.of_eq e.symm);rw[List.singleton_append];exact List.perm_middle.symm
theorem zeL {α:Type}(next:Nat->Nat)(xs:Array α):(pickOrder next xs).toList.Perm xs.toList:=by show (pickOrder.go next xs.size 0 xs.toList #[]).toList.Perm _;have:=zhY next xs.size 0 xs.toList #[] (aD);rwa[show (#[]:Array α).toList++xs.toList=xs.toList from rfl] at this
section
variable {prog:Program}{w:World}{t:SetTable}{es:Array (Int×Value)}{xs:List (List Key×Addr)}{A:Around}{E:Value->Shared->Prop}{s:Shared}
def zkI (w:World)(a:Addr)(ep:Nat)(es:Array (Int×Value)):Array (Int×Value):=if w.params.followText "set-order" then pickOrder (w.params.setOrder a ep) es else es
theorem zeI (a:Addr)(ep:Nat):(zkI w a ep es).toList.Perm es.toList:=by
 unfold zkI;split
 ·exact zeL _ _
 ·exact List.Perm.refl _
def yx (h:Heap)(it a:Addr)(slot i n ep:Nat):Prop:=∃o,h.get? it=some o/\o.cls = .type "set_iterator" /\ o.data = .fields #[.int slot 0,.int i 0,.ref a,.int n 0,.int ep 0]
theorem yx.typeIs {it a:Addr}{slot i n ep:Nat}(x:yx s.heap it a slot i n ep):s.TypeIs (.ref it) "set_iterator" := let ⟨o,ho,hc,_⟩:=x;⟨o,ho,hc⟩
structure SetIs (prog:Program)(w:World)(h:Heap)(a:Addr)(es:Array (Int×Value))(ep:Nat)(t:SetTable)(xs:List (List Key×Addr)):Prop where
 ob:∃o,h.get? a=some o/\o.ExactSet/\o.data = .set es ep t
 tb:Tb prog w t es xs
theorem ziS {it a:Addr}{slot i ep:Nat}{e:Int×Value}{Q:Option Value->Shared->Prop}(hit:yx s.heap it a slot i es.size ep)(S:SetIs prog w s.heap a es ep t xs)
  (hs:w.params.followText "set-order" = true\/SetTable.below t.place slot=i) (hx:(zkI w a ep es)[i]?=some e)
  (hQ:∀h' slot',yx h' it a slot' (i+1) es.size ep->(w.params.followText "set-order" = true\/SetTable.below t.place slot'=i+1)->Heap.SameBut it s.heap h'->Q (some e.2) { s with heap:=h' }):wpAny (model prog w) A (pyNext (.ref it)) Q E s:=by
 obtain⟨o,ho,hc,hd⟩:=id hit;obtain⟨⟨os,hos,_,hds⟩,T⟩:=S;have hf:=T.fits;unfold pyNext
 refine ab (c5 (wpAny_callSpecial?_slot (name:=Str.ofString "__next__") hit.typeIs zS
  (bm zS hit.typeIs xO ?_ (x6 _))))
 refine ab (ac ?_);refine ab (eL ho hd ?_);dsimp only;refine ab (eo hos hds hf ?_);rw[if_neg (by simp)]
 have upd2:∀slot':Nat,∃h',yx h' it a slot' (i+1) es.size ep/\Heap.SameBut it s.heap h'/\∀ {A':Around} {E':Value->Shared->Prop} {α:Type} {f:Sem α} {R:α->Shared->Prop},wpAny (model prog w) A' f R E' { s with heap:=h' }->wpAny (model prog w) A' (do setField (.ref it) 0 (rawInt slot');setField (.ref it) 1 (rawInt ((i:Int)+1));f) R E' s:=by
  intro slot';have h1:(s.heap.update it (Obj.mapFields (·.setIfInBounds 0 (rawInt slot')))).get? it=some (Obj.mapFields (·.setIfInBounds 0 (rawInt slot')) o):=cB _ ho (dJ (cD hd _));have hd1:(Obj.mapFields (·.setIfInBounds 0 (rawInt slot')) o).data = .fields #[.int slot' 0,.int i 0,.ref a,.int es.size 0,.int ep 0]:=by rw[cD hd];simp[rawInt]
  refine⟨(s.heap.update it (Obj.mapFields (·.setIfInBounds 0 (rawInt slot')))).update it (Obj.mapFields (·.setIfInBounds 1 (rawInt ((i:Int)+1)))),⟨_,cB _ h1 (dJ (cD hd1 _)),?_,?_⟩,(bN ..).trans (bN ..),fun {A' E' α f R} hR=>?_⟩
  ·rw[eQ,eQ];exact hc
  ·rw[cD hd1];simp[rawInt]
  ·exact ab (da ho hd (by simp) (ab (da (s:={ s with heap:=s.heap.update it (Obj.mapFields (·.setIfInBounds 0 (rawInt slot'))) }) h1 hd1 (by simp) hR)))
 unfold setNext
 cases hb:w.params.followText "set-order" with
 | true=>
  have hx':(pickOrder (w.params.setOrder a ep) es)[i]?=some e:=by unfold zkI at hx;rw[if_pos hb] at hx;exact hx
  obtain⟨h',hi',sb',step⟩:=upd2 slot;refine ab ?_;refine ab (bE hos hds hf ?_);dsimp only;unfold setsByText;refine ab (ab (bG (ac ?_)));rw[show (model prog w).w=w from rfl,hb];simp only[if_true];rw[if_neg (by simp)];unfold setWalk;refine ab ?_;refine ab (bE hos hds hf ?_);dsimp only;unfold setsByText;refine ab (ab (bG (ac ?_)));rw[show (model prog w).w=w from rfl,hb];simp only[if_true];refine ab (bG (ac ?_));refine ac ?_;rw[show (model prog w).w=w from rfl];simp only[aL];rw[hx'];dsimp only[Option.map];exact step (ac ⟨_,rfl,ac (hQ h' slot hi' (.inl hb) sb')⟩)
 | false=>
  have hx':es[i]?=some e:=by unfold zkI at hx;rw[if_neg (by rw[hb];exact aA)] at hx;exact hx
  have hsl:SetTable.below t.place slot=i:=by
   rcases hs with z | z
   ·rw[hb] at z;cases z
   ·exact z
  have hi:i<es.size:=(cy.mp hx').1;have hpl:t.place[i]?=some (t.place.getD i 0):=zfk (by rw[T.sz,<- T.size];exact hi);obtain⟨h',hi',sb',step⟩:=upd2 (t.place.getD i 0+1);refine ab ?_;refine ab (bE hos hds hf ?_);dsimp only;unfold setsByText;refine ab (ab (bG (ac ?_)));rw[show (model prog w).w=w from rfl,hb];simp only[aT,if_false];rw[if_neg (by show ¬ ((!t.plain&&decide (es.size > 1))=true);rw[T.plain];simp)];refine ab ?_;show wpAny _ _ (if (!t.led&&!es.isEmpty)=true then unsupported "set:maker-not-led" else pure ()) _ _ s;rw[if_neg (by rw[T.led,hb];simp)];refine ac ?_;simp only[aL];rw[hsl,hx',hpl];refine ac ?_;dsimp only;refine step (ac ⟨_,rfl,ac (hQ h' _ hi' (.inr ?_) sb')⟩);obtain⟨b1,b2,b3⟩:=x8 T.ris (t.place.getD i 0+1);have hi2:=(xG hpl).1;rcases cm (SetTable.below t.place (t.place.getD i 0+1)) (i+1) with z | z | z
  ·have:=b3 i (by lia) hi2;lia
  ·exact z
  ·have h1:=b2 (i+1) z;have h2:=T.ris i (i+1) (cz i) (by lia);lia
theorem zkG {it a:Addr}{slot ep:Nat}{Q:Option Value->Shared->Prop}(hh:A.handled=none)(hit:yx s.heap it a slot es.size es.size ep)(S:SetIs prog w s.heap a es ep t xs)
  (hs:w.params.followText "set-order" = true\/SetTable.below t.place slot=es.size)
  (hQ:∀h',Heap.ExtBut it s.heap h'->Q none { s with heap:=h' }):wpAny (model prog w) A (pyNext (.ref it)) Q E s:=by
 obtain⟨o,ho,hc,hd⟩:=id hit;obtain⟨⟨os,hos,_,hds⟩,T⟩:=S;have hf:=T.fits;unfold pyNext
 refine ab (c5 (wpAny_callSpecial?_slot (name:=Str.ofString "__next__") hit.typeIs zS
  (bm zS hit.typeIs xO ?_ (x6 _))))
 refine ab (ac ?_);refine ab (eL ho hd ?_);dsimp only;refine ab (eo hos hds hf ?_);rw[if_neg (by simp)];unfold setNext;refine ab ?_;refine ab (bE hos hds hf ?_);dsimp only;unfold setsByText;refine ab (ab (bG (ac ?_)))
 cases hb:w.params.followText "set-order" with
 | true=>
  rw[show (model prog w).w=w from rfl,hb];simp only[if_true];rw[if_neg (by simp)];unfold setWalk;refine ab ?_;refine ab (bE hos hds hf ?_);dsimp only;unfold setsByText;refine ab (ab (bG (ac ?_)));rw[show (model prog w).w=w from rfl,hb];simp only[if_true];refine ab (bG (ac ?_));refine ac ?_;rw[show (model prog w).w=w from rfl];simp only[aL]
  have hn:(pickOrder (w.params.setOrder a ep) es)[es.size]?=none:=by rw[zaX];refine bw ?_;rw[(zeL _ es).length_eq,aD];exact ag _
  rw[hn];dsimp only[Option.map];refine ab (da ho hd (by simp) ?_);show wpAny _ _ (newExc (.type "StopIteration") [] >>= _) _ _ _;refine ab ?_;simp only[newExc,newTuple];refine ab (bj ?_ (by size_fits));refine ab (m:=firstArgMember _ _) (wpAny_of_eq (a:=Value.none) (by first | rfl | (simp only[firstArgMember];rfl)) ?_);refine bj ?_ (by size_fits);simp only[raiseNew];refine ab (wpAny_handled ?_);rw[show A.in1.handled=none from hh];refine ab (ac (wpAny_throw ?_));refine ab (cS (T := "StopIteration") (b:=true) ⟨_,aP _ rfl,rfl⟩ dD ?_);exact ac (hQ _ (((bN ..).extBut.push _).push _))
 | false=>
  have hsl:SetTable.below t.place slot=es.size:=by
   rcases hs with z | z
   ·rw[hb] at z;cases z
   ·exact z
  rw[show (model prog w).w=w from rfl,hb];simp only[aT,if_false];rw[if_neg (by show ¬ ((!t.plain&&decide (es.size > 1))=true);rw[T.plain];simp)];refine ab ?_;show wpAny _ _ (if (!t.led&&!es.isEmpty)=true then unsupported "set:maker-not-led" else pure ()) _ _ s;rw[if_neg (by rw[T.led,hb];simp)];refine ac ?_;simp only[aL];rw[hsl,Array.getElem?_eq_none (ag _)];refine ac ?_;dsimp only;refine ab (da ho hd (by simp) ?_);show wpAny _ _ (newExc (.type "StopIteration") [] >>= _) _ _ _;refine ab ?_;simp only[newExc,newTuple];refine ab (bj ?_ (by size_fits));refine ab (m:=firstArgMember _ _) (wpAny_of_eq (a:=Value.none) (by first | rfl | (simp only[firstArgMember];rfl)) ?_);refine bj ?_ (by size_fits);simp only[raiseNew];refine ab (wpAny_handled ?_);rw[show A.in1.handled=none from hh];refine ab (ac (wpAny_throw ?_));refine ab (cS (T := "StopIteration") (b:=true) ⟨_,aP _ rfl,rfl⟩ dD ?_);exact ac (hQ _ (((bN ..).extBut.push _).push _))
theorem zif {it a:Addr}{slot i n ep:Nat}{Q:Value->Shared->Prop}(hit:yx s.heap it a slot i n ep)(h:Q (.ref it) s):wpAny (model prog w) A (pyIter (.ref it)) Q E s:=by refine eR hit.typeIs uj (bm uj hit.typeIs zap ?_ (zaW _));show wpAny _ _ (ret (.ref it)) _ _ s;exact ac ⟨_,rfl,"set_iterator",_,hit.typeIs,zS.lookup,h⟩
theorem SetIs.typeIs {a:Addr}{ep:Nat}(S:SetIs prog w s.heap a es ep t xs):s.TypeIs (.ref a) "set" := let ⟨o,ho,hc,_⟩:=S.ob;⟨o,ho,hc.1⟩
theorem zko {a:Addr}{ep:Nat}{Q:Value->Shared->Prop}(S:SetIs prog w s.heap a es ep t xs)
  (h:Q (.ref s.heap.objs.size) { s with heap:=s.heap.push { cls:=.type "set_iterator",data:=.fields #[.int 0 0,.int 0 0,.ref a,.int es.size 0,.int ep 0] } }):wpAny (model prog w) A (pyIter (.ref a)) Q E s:=by
 have hT:=S.typeIs;obtain⟨⟨os,hos,hx,hds⟩,T⟩:=S;have hf:=T.fits;refine eR hT F.slot_set_iter (bm F.slot_set_iter hT zcC ?_ (F.args_set_iter_1 _));unfold Builtin.«frozenset.__iter__»;refine ab (m:=Builtin.Frozenset.slot0 "__iter__" ⟨[.ref a],[]⟩) (ac ?_);refine ab ?_;unfold Builtin.Frozenset.sizeOf;refine ab (eo hos hds hf (ac ?_));refine ab ?_;unfold setDrawn;refine ab (bE hos hds hf ?_);dsimp only;unfold setsByText;refine ab (ab (bG (ac ?_)));refine ac ?_;rw[if_neg (by show ¬ ((!_&&(!t.plain&&decide (es.size > 1)))=true);rw[T.plain];simp)];refine ab (ac ?_);refine ab (wpAny_setEpoch_of hos hds hf ?_);refine ab (bj (ac ⟨_,rfl,"set_iterator",_,⟨_,aP _ rfl,rfl⟩,zS.lookup,?_⟩));simpa [rawInt] using h
end
open PySem PySem.Spec PyProof.Rows PySem.W PySem.Calls
section
variable {prog:Program}{w:World}{t:SetTable}{es:Array (Int×Value)}{xs:List (List Key×Addr)}{A:Around}{E:Value->Shared->Prop}{s:Shared}
theorem zk8 {r:Addr}{Q:Bool->Shared->Prop}(hT:s.TypeIs (.ref r) "set")(h:Q false s):wpAny (model prog w) A (Builtin.List.listLengthHint (.ref r)) Q E s:=by
 unfold Builtin.List.listLengthHint;refine ab (wpAny_specialOf hT PySem.F.slot_set_len.lookup ?_);generalize hid:("set.__len__" : String)=id0
 wp_delta
 rw[show splitId id0=some ("set","__len__") from by subst hid;decide +kernel];subst hid;refine ab (cS (T := "set") (b:=true) hT (by rw[isSubtype_type];kernel_rfl) ?_);refine wpAny_ite_split (fun hab=>absurd hab (by decide)) (fun _=>?_);refine wpAny_ite_split (fun _=>?_) (fun hab=>absurd (by decide +kernel) hab);refine ab (dn hT ?_);exact ac h
theorem SetIs.keep {h h':Heap}{a:Addr}{ep:Nat}(S:SetIs prog w h a es ep t xs)(k:∀o,h.get? a=some o->h'.get? a=some o):SetIs prog w h' a es ep t xs:=let ⟨⟨o,ho,r⟩,T⟩:=S;⟨⟨o,k o ho,r⟩,T⟩
theorem yx.keep {h h':Heap}{it a:Addr}{slot i n ep:Nat}(S:yx h it a slot i n ep)(k:∀o,h.get? it=some o->h'.get? it=some o):yx h' it a slot i n ep:=let ⟨o,ho,r⟩:=S;⟨o,k o ho,r⟩
theorem SetIs.lt {h:Heap}{a:Addr}{ep:Nat}(S:SetIs prog w h a es ep t xs):a<h.objs.size:=let ⟨⟨o,ho,_⟩,_⟩:=S;aw ho
theorem zjA (hh:A.handled=none)(I a:Addr)(hne:a≠I)(ep:Nat) :
  Walks prog w A I [I,a] [I] es.size (fun i v=>∃e,(zkI w a ep es)[i]?=some e/\v=e.2) (fun i h=>(∃slot,yx h I a slot i es.size ep/\(w.params.followText "set-order" = true\/SetTable.below t.place slot=i))/\SetIs prog w h a es ep t xs) where
 sub:=fun b hb=>by simp at hb;simp[hb]
 frame:=fun _ _ _ st hk=>⟨let ⟨sl,x,y⟩:=st.1;⟨sl,x.keep fun o e=>hk I (by simp) o e,y⟩,st.2.keep fun o e=>hk a (by simp) o e⟩
 item:=fun i s Q E hi st hQ=>by
  obtain⟨⟨sl,hit,hs⟩,S⟩:=st
  have hlt:i<(zkI w a ep es).size:=by have:=(zeI (w:=w) (es:=es) a ep).length_eq;rw[aD,aD] at this;lia
  refine ziS hit S hs (e:=(zkI w a ep es)[i]) (aY hlt) fun h' slot' hit' hs' sb=>?_;exact hQ _ h' s.toks ⟨_,aY hlt,rfl⟩ ⟨⟨slot',hit',hs'⟩,S.keep fun o e=>(sb.2 a hne).trans e⟩ fun b o hb e=>sb.extBut b o (fun h=>hb (by simp[h])) e
 done:=fun s Q E st hQ=>by obtain⟨⟨sl,hit,hs⟩,S⟩:=st;exact zkG hh hit S hs fun h' he'=>hQ h' s.toks fun b o hb e=>he' b o (fun h=>hb (by simp[h])) e
 self:=fun _ _ _ _ st hQ=>let ⟨sl,x,_⟩:=st.1;zif x hQ
theorem zoa (a:Addr)(ep:Nat):KdlSrc prog w "set" a a es.size (fun i v=>∃e,(zkI w a ep es)[i]?=some e/\v=e.2) (fun h=>SetIs prog w h a es ep t xs) where
 type:=fun s S=>S.typeIs
 there:=fun _ S=>⟨S.lt,S.lt⟩
 keep:=fun _ _ S hk=>S.keep fun o e=>hk a (.inl rfl) o e
 notList:=by decide
 notTuple:=by decide
 hint:=fun _ _ _ _ S hq=>zk8 S.typeIs hq
 iter:=fun A s hh S=>⟨_,_,(fun _ _ hq=>zko S hq),zjA hh _ a (aO S.lt) ep,⟨⟨0,⟨_,aP _ rfl,rfl,rfl⟩,.inr ?_⟩,S.keep fun o e=>ai _ e⟩⟩
where finally
 have b:=x8 S.tb.ris 0;rcases Nat.eq_zero_or_pos (SetTable.below t.place 0) with z | z
 ·exact z
 ·exact absurd (b.2.1 0 z) (cK _)
end
def zd8 (h:Heap)(L D:Addr)(v:Value)(st:List Int):Prop:=∃ (a:Addr) (items:List Value),v = .ref a/\IsTup h a items.toArray/\z4 (st.map V.int) items/\a≠L/\a≠D
theorem zd8.keep {h h':Heap}{L D:Addr}{v:Value}{st:List Int}(r:zd8 h L D v st)(kp:∀b o,b≠L->b≠D->h.get? b=some o->h'.get? b=some o):zd8 h' L D v st:=by obtain⟨a,items,e,⟨o,ho,hc⟩,hv,h1,h2⟩:=r;exact⟨a,items,e,⟨o,kp a o h1 h2 ho,hc⟩,hv,h1,h2⟩
theorem zcY {h:Heap}{L D:Addr}:∀ {vs:List Value} {sts:List (List Int)},Paired (zd8 h L D) vs sts->(∀st∈sts,1<=st.length)->∃fs,W.KatTups h vs fs/\fs.length=sts.length/\∀f∈fs,∃a t,f=Value.int a t
 | _,_,.nil,_=>⟨[],trivial,rfl,fun _ h=>by simp at h⟩
 | _,_,.cons (b:=st) r rr,h1=>by
  obtain⟨a,items,rfl,⟨o,ho,hc,n,hd⟩,rv,_⟩:=r;obtain⟨fs,f1,f2,f3⟩:=zcY rr fun z hz=>h1 z (ak _ hz);have hst:=h1 st ah
  match st,rv,hst with
  | z::zs,rv,_=>
   cases rv with
   | cons q1 qq=>
    obtain⟨t,rfl⟩:=q1;refine⟨_::fs,⟨⟨a,o,_,n,rfl,ho,hc,hd,rfl⟩,f1⟩,by rw[aS,f2];rfl,fun f hf=>?_⟩;rcases aG.mp hf with rfl | hf
    ·exact⟨_,_,rfl⟩
    ·exact f3 f hf
theorem za6 {α β:Type}{R:α->β->Prop}:∀ {l:List α} {l':List β},Paired R l l'->∀ {i:Nat} (d:α) (d':β),i<l'.length->R (l.getD i d) (l'.getD i d')
 | _,_,.nil,i,_,_,h=>by simp at h
 | _,_,.cons r _,0,_,_,_=>r
 | _,_,.cons _ t,i+1,d,d',h=>by have:=za6 t (i:=i) d d' (by simpa using h);simpa using this
theorem zc6 {α β:Type}{R:α->β->Prop}:∀ {l:List α} {l':List β},Paired R l l'->l.length=l'.length
 | _,_,.nil=>rfl
 | _,_,.cons _ t=>by rw[aS,aS,zc6 t]
section
variable {prog:Program}{w:World}{A:Around}{E:Value->Shared->Prop}{s:Shared}
theorem zkA {L D:Addr}{m0:Str->Option Value}{vs:List Value}{n m:Nat}{sts:List (List Int)}{Q:Value->Shared->Prop}(hns:s.heap.Ns L m0)(hDL:D≠L)(ho:s.heap.get? D=some (seqObj "list" vs.toArray n))
  (hv:Paired (zd8 s.heap L D) vs sts) (h64:sts.length<64) (hm1:1<=m) (hm:∀st∈sts,st.length=m) (hnd:sts.Nodup)
  (h:∀h' c p,List.Perm p (List.range sts.length)->((p.map fun i=>sts.getD i []).Pairwise fun a b=>HT.lexLt a b=true)->(∀b o,b≠L->b≠D->s.heap.get? b=some o->h'.get? b=some o)->h'.Ns L m0->
   h'.get? D=some (seqObj "list" (p.map fun i=>vs.getD i .none).toArray c)->Q .none { s with heap:=h' }) :
  wpAny (model prog w) A (call (.builtin "list.sort") [.ref D]) Q E s:=by
 have hvl:=zc6 hv;by_cases h2:2<=sts.length
 ·have hrest:∀p∈(zaO s.heap L).filter (fun q=>decide (q.1≠D)),s.heap.get? p.1=some p.2/\p.1≠L/\p.1≠D:=fun p hp=>by
   have h1:=aV.mp hp;have h2:=zQ.mp (show (p.1,p.2)∈zaO s.heap L from h1.1);exact⟨h2.2,h2.1,bC h1.2⟩
  have none0:∀b,(⟨#[],{}⟩:Heap).get? b=none:=fun b=>by
   cases e:(⟨#[],{}⟩:Heap).get? b with
   | none=>rfl
   | some o'=>
    have:=aw e;simp at this
  refine W.kat_lsort (h₀:=(⟨#[],{}⟩:Heap)) (L:=L) (m:=m0) (D:=D) (its:=vs.toArray) (n:=n) (news:=(D,seqObj "list" vs.toArray n)::(zaO s.heap L).filter (fun q=>decide (q.1≠D))) (g:=fun o=>(D,o)::(zaO s.heap L).filter (fun q=>decide (q.1≠D))) ⟨hns,fun b o e=>?_,a8 _⟩ (fun p hp=>?_) (W.UpdF.head fun q hq=>(hrest q hq).2.2) (vs:=vs) rfl (by lia) (by lia) fun e1 h' F N=>?_
  ·rw[none0] at e;cases e
  ·rcases aG.mp hp with rfl | hp
   ·exact⟨ho,hDL,none0 _⟩
   ·exact⟨(hrest p hp).1,(hrest p hp).2.1,none0 _⟩
  ·have kp:∀b o,b≠L->b≠D->s.heap.get? b=some o->h'.get? b=some o:=fun b o hb hD e=>(N (b,o) (ak _ (aV.mpr ⟨zQ.mpr ⟨hb,e⟩,aR hD⟩))).1;have hv':Paired (zd8 h' L D) vs sts:=Paired.mapP hv fun v st r=>r.keep kp;obtain⟨fs,k1,k2,k3⟩:=zcY hv' fun st hst=>by rw[hm st hst];exact hm1
   refine W.kat_kind (T:=.type "int") (s:={ s with heap:=h' }) k1 (by lia) (fun f hf=>?_) (by decide) ?_
   ·obtain⟨a,t,rfl⟩:=k3 f hf;intro A' Q' E' s' _ hq;exact dn (ff s' a t) hq
   ·have hu:zbJ sts.length (zb5 sts):=fun i j hi hj e=>by
     have e1:=xm hm hi hj;have e2:=xm hm hj hi;rw[e,aN (dU _)] at e1;rw[e,aN (dU _)] at e2;have gi:sts.getD i []=sts[i]:=by simp[hi]
     have gj:sts.getD j []=sts[j]:=by simp[hj]
     rcases uF (a:=sts.getD i []) (b:=sts.getD j []) (by rw[gi,gj,hm _ (bh hi),hm _ (bh hj)]) with h | h | h
     ·rw[gi,gj] at h;exact (bV hnd).mp h
     ·rw[h] at e1;cases e1
     ·rw[h] at e2;cases e2
    obtain⟨p,hrun,hup⟩:=zgA hu h2;rw[show vs.length=sts.length by lia];refine hrun.wp (S:=fun s'=>s'={ s with heap:=h' }) (fun i j C s' hi hj hs' hC=>?_) (fun s' hs'=>?_) _ rfl
    ·subst hs';obtain⟨a1,it1,b1,c1,d1,_⟩:=za6 hv' .none [] hi;obtain⟨a2,it2,b2,c2,d2,_⟩:=za6 hv' .none [] hj;obtain⟨o1,ho1,_,n1,hd1⟩:=c1;obtain⟨o2,ho2,_,n2,hd2⟩:=c2;show wpAny _ _ (keyLt' _ (vs.getD i .none) (vs.getD j .none)) C _ _;rw[b1,b2]
     have gi:(sts.getD i []).length=m:=by
      have:sts.getD i []=sts[i]:=by simp[hi]
      rw[this];exact hm _ (bh hi)
     have gj:(sts.getD j []).length=m:=by
      have:sts.getD j []=sts[j]:=by simp[hj]
      rw[this];exact hm _ (bh hj)
     have l1:=d1.length;have l2:=d2.length;rw[aa] at l1 l2;refine W.kat_lt (s:={ s with heap:=h' }) ho1 hd1 ho2 hd2 ?_;rw[show decide (it1.toArray.size<it2.toArray.size)=false from aN (by simp;lia)];refine zdw 0 d1 d2 (by rw[gi,gj]) ?_;have:=hC { s with heap:=h' } rfl;rw[show ze3 (zb5 sts) i j=HT.lexLt (sts.getD i []) (sts.getD j []) from xm hm hi hj] at this;exact this
    ·subst hs'
     have hpl:p.toList.Perm (List.range sts.length):=by have:=hup.perm.toList;simpa using this
     have hpi:∀i∈p.toList,i<sts.length:=fun i hi=>aQ.mp ((hpl.mem_iff).mp hi);refine W.KasFin.intro F N (W.UpdF.head fun q' hq'=>(hrest q' hq').2.2) fun h'' c F'' N''=>?_;refine h h'' c p.toList hpl ?_ (fun b o hb hD e=>(N'' (b,o) (ak _ (aV.mpr ⟨zQ.mpr ⟨hb,e⟩,aR hD⟩))).1) F''.ns (N'' (D,_) ah).1;have hps:p.size=sts.length:=ue hup.perm;rw[b7];intro i j hi hj hij;rw[aa,aD] at hi hj;have hk:=hup.lt_of hij (by lia);rw[cR,cR,c7,c7];have e1:p.getD i 0=p[i]:=by simp[hi]
     have e2:p.getD j 0=p[j]:=by simp[hj]
     unfold key at hk;rw[e1,e2] at hk;rw[<- xm hm (hpi _ (by simp)) (hpi _ (by simp))];exact aR hk
 ·refine bm slot_list_sort ⟨_,ho,rfl⟩ entry_list_sort ?_ (args_list_sort _);refine uQ ho (by lia) fun h' c kp hD=>⟨_,rfl,?_⟩;refine h h' c (List.range sts.length) (List.Perm.refl _) ?_ (fun b o _ hb e=>kp b o hb e) ?_ ?_
  ·rw[uX]
   match sts,h2 with
   | [],_=>exact .nil
   | [_],_=>exact cP _ _
   | _::_::_,h2=>exact absurd (by simp) h2
  ·obtain⟨o,es,ep,g,k⟩:=hns;exact⟨o,es,ep,kp _ _ (Ne.symm hDL) g,k⟩
  ·rw[<- hvl,uX];exact hD
end
theorem zbh {α β:Type}{f:α->β}{l m:List β}(h:l.Perm m):∀ {xs:List α},m=xs.map f->∃xs':List α,xs'.Perm xs/\l=xs'.map f:=by
 induction h with
 | nil=>
  intro xs e;have:xs=[]:=by cases xs with | nil=>rfl | cons _ _=>cases e
  subst this;exact⟨[],.nil,rfl⟩
 | cons x _ ih=>
  intro xs e
  cases xs with
  | nil=>cases e
  | cons y ys=>
   rw[ao] at e;injection e with e1 e2;obtain⟨xs',h1,h2⟩:=ih e2;exact⟨y::xs',h1.cons y,by rw[ao,<- h2,e1]⟩
 | swap x y l=>
  intro xs e
  match xs,e with
  | [],e=>cases e
  | [_],e=>cases e
  | a::b::r,e=>
   rw[ao,ao] at e;injection e with e1 e2;injection e2 with e2 e3;exact⟨b::a::r,.swap _ _ _,by rw[ao,ao,e1,e2,e3]⟩
 | trans _ _ ih1 ih2=>
  intro xs e;obtain⟨xs',h1,h2⟩:=ih2 e;obtain⟨xs'',h3,h4⟩:=ih1 h2;exact⟨xs'',h3.trans h1,h4⟩
def zgz (P:Program)(w:World)(a:Addr)(xs:List (List Key×Addr)):HO:=.ext fun h=>ze6 P w h a xs
def uE (xs:List (List Int×Addr)):List (List Key×Addr):=xs.map fun q=>(q.1.map Sum.inl,q.2)
theorem zjz {P:Program}{w:World}{H:Hp}{h:Heap}{a:Addr}{xs:List (List Key×Addr)}(S:ze6 P w h a xs):yy P w H h a (zgz P w a xs):=by
 refine⟨S,?_,fun h1 h2 q k=>?_⟩
 ·obtain⟨o,_,_,_,ho,_⟩:=S;exact⟨o,ho⟩
 ·obtain⟨o,es,ep,t,ho,r⟩:=q;exact⟨o,es,ep,t,k o ho,r⟩
def zha (P:Program)(w:World)(H:Hp)(a:Addr)(ks:List (List Int)):Prop:=∃xs:List (List Int×Addr),H a=some (zgz P w a (uE xs))/\(∀q∈xs,H q.2=some (.tup (q.1.map V.int)))/\ks=xs.map (·.1)/\ks.Nodup
theorem zha.stay {P:Program}{w:World}{H H':Hp}{a:Addr}{ks:List (List Int)}(S:zha P w H a ks)(h:zx H H'):zha P w H' a ks:=by obtain⟨xs,h1,h2,h3,h4⟩:=S;exact⟨xs,h _ _ h1 (fun _ e=>by cases e),fun q hq=>h.tup (h2 q hq),h3,h4⟩
theorem zfp:∀ns:List Int,(ns.map Sum.inl).map kV=ns.map V.int
 | []=>rfl
 | n::ns=>by rw[ao,ao,ao,zfp ns];rfl
section
variable {X:Cx}
theorem ziq {pins:List (Addr×Obj)}{σ:St}{H:Hp}{s:Shared}(I:Inv X pins σ H s){b:Addr}{ns:List Int}(h:H b=some (.tup (ns.map V.int))):(tk X.prog X.w).is s.heap (ns.map Sum.inl) b:=by
 obtain⟨its,rv,⟨o,ho,hc,n,hd⟩,_⟩:=I.tuple (.of h);refine⟨o,its.toArray,n,ho,hc,hd,?_⟩
 have gen:∀ {ns:List Int} {its:List Value},z4 (ns.map V.int) its->ItemsAre (zM X.prog X.w) (ns.map Sum.inl) its:=by
  intro ns
  induction ns with
  | nil=>intro its r;cases r;exact .nil
  | cons n ns ih=>
   intro its r
   cases r with
   | cons r1 r2=>
    obtain⟨t,rfl⟩:=r1;exact .cons (zeu n t) (ih r2)
 exact gen rv
def zlV (P:Program)(w:World):List V->Hp->VK->Prop:=fun xs H Q=>∃ (a:Addr) (ks:List (List Int)) (m:Nat),xs=[.ref a]/\zha P w H a ks/\ks.length<64/\1<=m/\(∀st∈ks,st.length=m)/\
 ∀ (ys:List V) (sts':List (List Int)),IsL H (sts'.map stD) ys->sts'.Perm ks->(sts'.Pairwise fun a b=>HT.lexLt a b=true)->New H (.lst ys) Q
theorem zgd {H:Hp}:∀ {xs:List (List Int×Addr)},(∀q∈xs,H q.2=some (.tup (q.1.map V.int)))->IsL H ((xs.map (·.1)).map stD) (xs.map fun q=>V.ref q.2)
 | [],_=>rfl
 | q::xs,h=>⟨_,_,rfl,⟨q.2,_,rfl,h q ah,IsL.ints⟩,zgd fun r hr=>h r (ak _ hr)⟩
theorem ze1:∀ (xs:List (List Int×Addr)),z4 (xs.map fun q=>V.ref q.2) (xs.map fun q=>Value.ref q.2)
 | []=>.nil
 | q::xs=>.cons rfl (ze1 xs)
theorem zka (hc:X.calm=true):CallQ X (.builtin "sorted") (zlV X.prog X.w):=⟨by
 intro pins s σ H xs us Q I r h;obtain⟨a,ks,m,rfl,⟨xs,hH,hel,rfl,hnd⟩,h64,hm1,hm,q⟩:=h;obtain⟨u,rfl,ru⟩:=u6 r;cases ru;obtain⟨⟨o,es,ep,t,ho,hx,hd,T,_⟩,_⟩:=(show yy X.prog X.w H s.heap a (zgz X.prog X.w a (uE xs)) from I.hok a _ hH);have S:SetIs X.prog X.w s.heap a es ep t (uE xs):=⟨⟨o,ho,hx,hd⟩,T⟩;obtain⟨m0,hns,_⟩:=id I.loc;have hsz:es.size=xs.length:=by rw[T.size];unfold uE;rw[aa]
 rw[aa] at h64
 have none0:∀b,(⟨#[],{}⟩:Heap).get? b=none:=fun b=>by
  cases e:(⟨#[],{}⟩:Heap).get? b with
  | none=>rfl
  | some o'=>
   have:=aw e;simp at this
 have hpo:=zeI (w:=X.w) (es:=es) a ep;have heq:es.toList=xs.map fun q=>((tk X.prog X.w).hash (q.1.map Sum.inl),Value.ref q.2):=by rw[T.eq];unfold uE;rw[az];rfl
 rw[heq] at hpo;obtain⟨xs2,hp2,he2⟩:=zbh hpo rfl;refine kdu_sorted (h₀:=(⟨#[],{}⟩:Heap)) (L:=X.env.locals) (m:=m0) (news:=zaO s.heap X.env.locals) (zoa (t:=t) (xs:=uE xs) a ep) (I.ok.hd hc) ⟨hns,fun b o e=>(by rw[none0] at e;cases e),a8 _⟩ (fun p hp=>?_) S (by rw[hsz,bI];lia) fun D h' tk' vs F N hlt hl hP=>?_
 ·obtain⟨b,o⟩:=p;have:=zQ.mp hp;exact⟨this.2,this.1,none0 b⟩
 ·have hvs:vs=xs2.map fun q=>Value.ref q.2:=by
   have hl2:=hp2.length_eq;refine de (by rw[hl,aa,hl2,hsz]) fun j h1 h2=>?_;obtain⟨e,he,hv⟩:=hP j vs[j] (aj h1);rw[zaX,he2,aC] at he;rw[aa] at h2;rw[aj h2] at he;rw[hv,cR,<- bc he]
  have kp:∀b o,b≠X.env.locals->s.heap.get? b=some o->h'.get? b=some o:=fun b o hb e=>(N (b,o) (ak _ (zQ.mpr ⟨hb,e⟩))).1;have hDL:D≠X.env.locals:=(N (D,_) ah).2.1
  have hDn:s.heap.get? D=none:=by
   cases e:s.heap.get? D with
   | none=>rfl
   | some o=>exact absurd (hlt (D,o) (zQ.mpr ⟨hDL,e⟩)) (bQ _)
  have hHD:H D=none:=by
   cases e:H D with
   | none=>rfl
   | some o=>
    obtain⟨o',ho'⟩:=zaF (I.hok D o e);rw[hDn] at ho';cases ho'
  have hel2:∀q∈xs2,H q.2=some (.tup (q.1.map V.int)):=fun q hq=>hel q ((hp2.mem_iff).mp hq)
  have rows:Paired (zd8 h' X.env.locals D) vs (xs2.map (·.1)):=by
   rw[hvs]
   have gen:∀ (l:List (List Int×Addr)),(∀q∈l,H q.2=some (.tup (q.1.map V.int)))->Paired (zd8 h' X.env.locals D) (l.map fun q=>Value.ref q.2) (l.map (·.1)):=by
    intro l
    induction l with
    | nil=>intro _;exact .nil
    | cons q l ih=>
     intro hl;have hq:=hl q ah;obtain⟨items,rv,⟨o',ho',hc'⟩,_⟩:=I.tuple (.of hq);have hqL:=zc hq I.free;exact .cons ⟨q.2,items,rfl,⟨o',kp _ _ hqL ho',hc'⟩,rv,hqL,zc hq hHD⟩ (ih fun r hr=>hl r (ak _ hr))
   exact gen xs2 hel2
  have hpk:=hp2.map (·.1);refine zkA (s:={ s with heap:=h',toks:=tk' }) F.ns hDL (N (D,_) ah).1 rows (by rw[aa,hp2.length_eq];exact h64) hm1 (fun st hst=>hm st ((hpk.mem_iff).mp hst)) (hpk.nodup_iff.mpr hnd) fun h'' c p hp hup kp2 ns2 hD2=>?_;have hpi:∀i∈p,i<xs2.length:=fun i hi=>by have:=aQ.mp ((hp.mem_iff).mp hi);rwa[aa] at this
  have pickd:(p.map fun i=>(xs2.map (·.1)).getD i [])=(p.map fun i=>xs2.getD i ([],0)).map (·.1):=by rw[az];refine cv fun i hi=>?_;have:=hpi i hi;simp[this]
  have pickv:(p.map fun i=>vs.getD i .none)=(p.map fun i=>xs2.getD i ([],0)).map fun q=>Value.ref q.2:=by rw[hvs,az];refine cv fun i hi=>?_;have:=hpi i hi;simp[this]
  have pin:∀q∈(p.map fun i=>xs2.getD i ([],0)),H q.2=some (.tup (q.1.map V.int)):=fun q hq=>by
   obtain⟨i,hi,rfl⟩:=aF.mp hq;have h1:=hpi i hi;have:xs2.getD i ([],0)=xs2[i]:=by simp[h1]
   rw[this];exact hel2 _ (bh h1)
  rw[pickv] at hD2;rw[pickd] at hup;have hplen:p.length=xs.length:=by rw[hp.length_eq,am,aa,hp2.length_eq]
  have I':=zds I hns (ys:=(p.map fun i=>xs2.getD i ([],0)).map fun q=>V.ref q.2) (fun b o hb e=>kp2 b o hb (fun z=>by rw[z,hDn] at e;cases e) (kp b o hb e)) ns2 hDn hHD hD2 (ze1 _) (by rw[aa,aa,hplen,bI];lia) tk';refine⟨.ref D,_,I',rfl,(q _ ((p.map fun i=>xs2.getD i ([],0)).map (·.1)) (zgd pin) ?_ hup).at hHD⟩;refine List.Perm.trans ?_ hpk;rw[<- pickd];have:=hp.map fun i=>(xs2.map (·.1)).getD i [];rwa[uX] at this⟩
end
open PySem PySem.Spec PyProof.Rows
theorem zef (elt target iter:Expr)(ifs:List Expr)(scope:Scope)(pos:Pos)(it acc:Value)(env:Env) :
  compTurn (.SetComp elt [⟨target,iter,ifs,0⟩] scope pos) 0 it acc env=(do
   standAt iter.pos
   match <- pyNext it with
   | none=>pure (.done .next)
   | some v=>
    letOwnedTupleGo target it v
    assign target env v
    let mut ok:=true
    for c in ifs do
     if ok then ok <- isTrue c env (eval c env)
    if ok then
     (do let v <- eval elt env;standAt elt.pos;let _ <- call (.builtin "set.add") [acc,v])
    again (.compLoop (.SetComp elt [⟨target,iter,ifs,0⟩] scope pos) 0 it acc env)):=by rfl
section
variable {prog:Program}{w:World}{A:Around}{E:Value->Shared->Prop}{R:Result->Shared->Prop}{s:Shared}
theorem uD {elt target iter ifs zY scope pos it acc env}
  (h0:codeAny (model prog w) A (.compLoop (.SetComp elt (⟨target,iter,ifs,0⟩::zY) scope pos) 0 it acc env) R s)
  (h:wpAny (model prog w) A (pyIter it) (fun it' s'=>codeAny (model prog w) A (.compLoop (.SetComp elt (⟨target,iter,ifs,0⟩::zY) scope pos) 0 it' acc env) R s')
   (notedBy (model prog w) A env fun x s'=>R (.error x) s') s) :
  codeAny (model prog w) A (.compStart (.SetComp elt (⟨target,iter,ifs,0⟩::zY) scope pos) 0 it acc env) R s:=by
 refine codeAny_of_tree ?_;show wpAny _ _ ((compStart (.SetComp elt (⟨target,iter,ifs,0⟩::zY) scope pos) 0 it acc env).onRaise (fun x=>do noteFrame x env;standAt theWindowsPlace)) _ _ s;refine wpAny_notedAt ?_;unfold compStart;show wpAny _ _ (ask >>= _) _ _ s;refine ab (bG (wpAny_ite ?_));split
 ·first
   | exact ab (ac (ac (And.intro rfl h0)))
   | exact ac (And.intro rfl h0)
 ·first
   | exact ab (fg (ab (b6 (ab (bi h (fun it' s' h'=>ac (And.intro rfl h')) fun _ _ x=>x)))))
   | (refine ab (fg ?_);show wpAny _ _ (standAt iter.pos >>= _) _ _ s;exact ab (b6 (ab (bi h (fun it' s' h'=>ac (And.intro rfl h')) fun _ _ x=>x))))
theorem zbr {elt target iter:Expr}{ifs:List Expr}{scope:Scope}{pos:Pos}{it acc:Value}{env:Env}(I:Nat->Shared->Prop)
  (turn:∀n s,I n s->wpAny (model prog w) A (pyNext it) (fun r s₁=>match r with
   | none=>R (.ok .next) s₁
   | some v=>wpAny (model prog w) A (letOwnedTupleGo target it v) (fun _ s₂=>wpAny (model prog w) A (assign target env v) (fun _ s₃=>
     wpAny (model prog w) A (forIn ifs true fun c r=>if r=true then do let ok <- isTrue c env (eval c env);pure (ForInStep.yield ok) else pure (ForInStep.yield r)) (fun ok s₄=>
      if ok=true then wpAny (model prog w) A (eval elt env) (fun x s₅=>
       wpAny (model prog w) A (call (.builtin "set.add") [acc,x]) (fun _ s₆=>∃m,m<n/\I m s₆) (fun _ _=>False) s₅) (fun _ _=>False) s₄
      else ∃m,m<n/\I m s₄) (fun _ _=>False) s₃) (fun _ _=>False) s₂) (fun _ _=>False) s₁) (fun _ _=>False) s)
  (n:Nat) (h:I n s) :
  codeAny (model prog w) A (.compLoop (.SetComp elt [⟨target,iter,ifs,0⟩] scope pos) 0 it acc env) R s:=by
 refine codeAny_loop rfl I (fun n s hI=>?_) n h;show wpAny _ A ((compTurn (.SetComp elt [⟨target,iter,ifs,0⟩] scope pos) 0 it acc env).onRaise (fun x=>do noteFrame x env;theTreesLotGoes x)) _ _ s;refine wpAny_noted ?_;rw[zef];refine ab (b6 (ab (bi (turn n s hI) (fun r s₁ h₁=>?_) fun _ _ h'=>h'.elim)))
 cases r with
 | none=>exact ac h₁
 | some v=>
  refine ab (bi h₁ (fun _ s₂ h₂=>?_) fun _ _ h'=>h'.elim);refine ab (bi h₂ (fun _ s₃ h₃=>ab (bi h₃ (fun ok s₄ h₄=>?_) fun _ _ h'=>h'.elim)) fun _ _ h'=>h'.elim)
  cases ok with
  | false=>exact ac ⟨rfl,h₄⟩
  | true=>
   exact ab (ab (bi h₄ (fun x s₅ h₅=>ab (b6 (ab (bi h₅ (fun _ s₆ h₆=>ac (ac ⟨rfl,h₆⟩)) fun _ _ h'=>h'.elim)))) fun _ _ h'=>h'.elim))
theorem ziQ {Q:Value->Shared->Prop}(h:Q (.ref s.heap.objs.size) { s with heap:=s.heap.push { cls:=.type "set",dict:=none,data:=.set #[] 0 (.fresh 0 0 (!w.params.followText "set-order")) } }):wpAny (model prog w) A (newSet (.type "set")) Q E s:=by unfold newSet setsByText;refine ab (ab (bG (ac ?_)));dsimp only;simp only[newObj];exact ab (wpAny_alloc (ac h))
theorem zjy (h:Heap):ze6 prog w (h.push { cls:=.type "set",dict:=none,data:=.set #[] 0 (.fresh 0 0 (!w.params.followText "set-order")) }) h.objs.size []:=by
 refine⟨_,#[],0,_,aP _ rfl,⟨rfl,rfl,rfl⟩,rfl,⟨rfl,List.nodup_nil,rfl,fun i j _ hj=>?_,fun i j e=>?_,rfl,.inl rfl,a8 _,rfl,rfl,fun i q e=>?_⟩,by show 0 * 5<7 * 3;decide⟩
 ·exact absurd hj (cK _)
 ·simp[SetTable.fresh] at e
 ·simp at e
end
theorem xJ:∀ {ns ms:List Int},ns.map (Sum.inl:Int->Key)=ms.map Sum.inl->ns=ms
 | [],[],_=>rfl
 | [],_::_,e=>by cases e
 | _::_,[],e=>by cases e
 | n::ns,m::ms,e=>by rw[ao,ao] at e;injection e with e1 e2;rw[Sum.inl.inj e1,xJ e2]
section
variable {X:Cx}
theorem zg5 {pins:List (Addr×Obj)}{σ:St}{H:Hp}{s:Shared}{acc b:Addr}{ns:List Int}{ks:List (List Int)}{Q:Value->Shared->Prop}(hu:X.A.units+1<cLine)(I:Inv X pins σ H s)(S:zha X.prog X.w H acc ks)(hb:H b=some (.tup (ns.map V.int)))(hn:ks.length<300)
  (h:∀o ks' s',zha X.prog X.w (upd H acc o) acc ks'->(∀x,x∈ks'↔x=ns\/x∈ks)->ks'.length<=ks.length+1->Inv X pins σ (upd H acc o) s'->Q .none s') :
  wpAny (model X.prog X.w) X.A (call (.builtin "set.add") [.ref acc,.ref b]) Q X.xe s:=by
 obtain⟨xs,hH,hel,rfl,hnd⟩:=S;have hS:=(show yy X.prog X.w H s.heap acc (zgz X.prog X.w acc (uE xs)) from I.hok acc _ hH).1;obtain⟨o,es,ep,t,ho,hx,hd,T,hroom⟩:=id hS;refine bm F.slot_set_add ⟨o,ho,hx.1⟩ F.entry_set_add ?_ (F.args_set_add_2 _ _);unfold Builtin.«set.add»;refine ab (m:=Builtin.Frozenset.oneOther "add" ⟨[.ref acc,.ref b],[]⟩) (ac ?_);have hba:b≠acc:=zgV hb hH (by intro z;cases z);have hea:∀q∈xs,q.2≠acc:=fun q hq=>zgV (hel q hq) hH (by intro z;cases z);rw[aa] at hn;refine ab (zoN (A:=X.A.in1) (xs:=uE xs) (ns:=ns) (be (ag _) hu) hS (ziq I hb) (fun q hq=>?_) (by unfold uE;rw[aa];exact hn) fun r h' n xs' sb S' hin hout=>?_)
 ·unfold uE at hq;obtain⟨q',hq',rfl⟩:=aF.mp hq;exact ziq I (hel q' hq')
 ·
  have mem_key:∀ {l:List (List Int×Addr)},(ns.map Sum.inl)∈(uE l).map (·.1)↔ns∈l.map (·.1):=by
   intro l;unfold uE;rw[az,aF,aF];constructor
   ·rintro⟨q,hq,e⟩;refine⟨q,hq,?_⟩;have e':q.1.map (Sum.inl:Int->Key)=ns.map Sum.inl:=e;exact xJ e'
   ·rintro⟨q,hq,rfl⟩;exact⟨q,hq,rfl⟩
  have fin:∀xs2:List (List Int×Addr),xs'=uE xs2->(∀q∈xs2,q∈xs\/q=(ns,b))->(∀x,x∈xs2.map (·.1)↔x=ns\/x∈xs.map (·.1))->(xs2.map (·.1)).Nodup->xs2.length<=xs.length+1->wpAny (model X.prog X.w) X.A.in1 (do ret .none) (fun fin s'=>∃v,fin = .done (.ret v)/\Q v s') X.xe { s with heap:=h',toks:=n }:=by
   rintro xs2 rfl hsub hmem hnd2 hlen
   have hel2:∀q∈xs2,H q.2=some (.tup (q.1.map V.int)):=fun q hq=>by
    rcases hsub q hq with z | z
    ·exact hel q z
    ·rw[z];exact hb
   have hea2:∀q∈xs2,q.2≠acc:=fun q hq=>zgV (hel2 q hq) hH (by intro z;cases z);refine ac ⟨.none,rfl,h (zgz X.prog X.w acc (uE xs2)) (xs2.map (·.1)) _ ⟨xs2,zj,fun q hq=>by rw[zh (hea2 q hq)];exact hel2 q hq,rfl,hnd2⟩ hmem (by rw[aa,aa];exact hlen) ?_⟩;refine I.write (e:=acc) (by rw[hH];trivial) (.inl rfl) (fun c u hc q=>sb.extBut c u hc q) ?_ (zjz S');obtain⟨o',_,_,_,ho',_⟩:=S';exact⟨o',ho'⟩
  by_cases hm:ns∈xs.map (·.1)
  ·have:=hin (mem_key.mpr hm);refine fin xs this (fun q hq=>.inl hq) (fun x=>⟨.inr,fun z=>z.elim (fun e=>e ▸ hm) id⟩) hnd (ef _)
  ·have hp:=hout fun z=>hm (mem_key.mp z);have hk:((ns.map Sum.inl,b)::uE xs)=uE ((ns,b)::xs):=rfl;rw[hk] at hp;obtain⟨xs2,hp2,e2⟩:=zbh hp rfl;refine fin xs2 e2 (fun q hq=>?_) (fun x=>?_) ?_ ?_
   ·rcases aG.mp ((hp2.mem_iff).mp hq) with z | z
    ·exact .inr z
    ·exact .inl z
   ·rw[(hp2.map (·.1)).mem_iff,ao,aG]
   ·rw[(hp2.map (·.1)).nodup_iff,ao,b8];exact⟨hm,hnd⟩
   ·rw[hp2.length_eq,aS];exact ag _
end
theorem zei {env:Env}(elt gens scope pos):eval (.SetComp elt gens scope pos) env=comprehension (.SetComp elt gens scope pos) scope env (firstIterPos gens pos) (newSet (.type "set")) (firstAsync gens) (firstIter gens env):=rfl
def setT (P:Program)(w:World)(g:TG)(ti:TT)(te:TE)(acc:Addr)(N:St->Hp->Prop)(x:V)(σ:St)(H:Hp):Prop:=
 g x σ H fun σ3 H3=>ti σ3 H3 fun ok H4=>if ok=true then te σ3 H4 fun v H5=>∃b ns ks,v = .ref b/\H5 b=some (.tup (ns.map V.int))/\zha P w H5 acc ks/\ks.length<300/\
  (∀o ks',zha P w (upd H5 acc o) acc ks'->(∀x,x∈ks'↔x=ns\/x∈ks)->ks'.length<=ks.length+1->N σ3 (upd H5 acc o)) else N σ3 H4
def setG (P:Program)(w:World)(J:It)(g:TG)(ti:TT)(te:TE)(acc:Addr)(Q:VK)(σ:St)(H:Hp):Prop:=∃W:Nat->Nat->St->Hp->Prop,(∃m,W 0 m σ H)/\
 ∀i m σ' H',W i m σ' H'->(J.stop i H'/\Q (.ref acc) H')\/(J.go i H'/\∃N:St->Hp->Prop,(∀ σ2 H2,N σ2 H2->∃m',m'<m/\W (i+1) m' σ2 H2)/\∀x H2,J.yld i H' x H2->setT P w g ti te acc N x σ' H2)
def zol (P:Program)(w:World)(wi:TI)(g:TG)(ti:TT)(te:TE)(cix:List (Option Nat)):TE:=fun σ H Q=>wi σ H fun J H1=>∀acc,H1 acc=none->zha P w (upd H1 acc (zgz P w acc [])) acc []->setG P w J g ti te acc Q (uT σ cix) (upd H1 acc (zgz P w acc []))
theorem zg0 {X:Cx}{elt tg iter:Expr}{ifs:List Expr}{scope:Scope}{pos:Pos}{wi:TI}{g:TG}{ti:TT}{te:TE}{N:List Str}{cix:List (Option Nat)}(hu:X.A.units+1<cLine)(hc:X.calm=true)(c:CompOk X scope N cix)
  (hi:PI X tg iter wi) (hg:∀C s H ex,PG (zt X scope N C s H ex) tg g) (ht:∀C s H ex,PTs (zt X scope N C s H ex) ifs ti) (he:∀C s H ex,PE (zt X scope N C s H ex) elt te)
  (hs:∀x,foldedSetIterable iter X.env x=pure x:=by intro _;rfl):PE X (.SetComp elt [⟨tg,iter,ifs,0⟩] scope pos) (zol X.prog X.w wi g ti te cix):=by
 intro pins s σ H Q I h;rw[zei];refine b9 (use:=none) rfl hs (x9 (c.cells I.ok)) c.kind c.names (thn (hi pins s σ H _ I h) fun xv s1 h1=>thn h1 fun itv s2 h2=>?_);obtain⟨it,fp,tn,J,H2,e,I2,T,st2,f2,q2⟩:=h2;subst e;generalize hob:({ cls:=.type "set",dict:=none,data:=.set #[] 0 (.fresh 0 0 (!X.w.params.followText "set-order")) }:Obj)=ob;refine ziQ ?_;rw[hob];refine c6 c.cell (by intro y hy;simp at hy) (fun h4 hns4 hsb4=>?_) c.kind;dsimp only at hns4 hsb4 ⊢;have hnone:=I2.hok.fresh (ag s2.heap.objs.size);have hnew:ze6 X.prog X.w (s2.heap.push ob) s2.heap.objs.size []:=by rw[<- hob];exact zjy _
 have I3:Inv X pins σ (upd H2 s2.heap.objs.size (zgz X.prog X.w s2.heap.objs.size [])) { s2 with heap:=s2.heap.push ob,toks:=s2.toks }:=I2.laid (t':=s2.toks) (fun b u e=>ai _ e) (ag _) (zjz hnew);obtain⟨W,⟨m0,w0⟩,turn⟩:=q2 s2.heap.objs.size hnone ⟨[],zj,fun q hq=>by simp at hq,rfl,List.nodup_nil⟩
 have ltF:∀b∈fp,b<s2.heap.objs.size:=fun b hb=>by obtain⟨o,ho,_⟩:=T.obj _ _ st2 b hb;exact aw ho
 have f3:∀b∈fp,zcO X pins (upd H2 s2.heap.objs.size (zgz X.prog X.w s2.heap.objs.size [])) b:=fun b hb=>⟨by rw[zh (aO (ltF b hb))];exact (f2 b hb).1,(f2 b hb).2⟩
 have kp:∀b o,(s2.heap.push ob).get? b=some o->h4.get? b=some o:=fun b o e=>
  hsb4.extBut b o (aO (aw e)) (ai _ e)
 have sz3:s2.heap.objs.size<(s2.heap.push ob).objs.size:=by rw[c8];exact cz _
 have I4:=zbB (tk:=s2.toks+([]:List (Str×Value)).length) I3 c f3 (fun b hb=>bW (ltF b hb) sz3) hns4 kp;have st4:tn 0 h4:=T.keep _ _ _ st2 fun b hb o e=>kp b o (ai _ e);generalize hX:zt X scope N (s2.heap.push ob).objs.size { s2 with heap:=s2.heap.push ob,toks:=s2.toks } (upd H2 s2.heap.objs.size (zgz X.prog X.w s2.heap.objs.size [])) fp=X' at I4;have pX:X'.prog=X.prog:=by rw[<- hX];rfl
 have wX:X'.w=X.w:=by rw[<- hX];rfl
 have KX:X'.K=X.K:=by rw[<- hX];rfl
 have AX:X'.A=X.A:=by rw[<- hX];rfl
 have cX:X'.calm=true:=by rw[<- hX];exact hc
 have xX:X'.xe=fun _ _=>False:=by rw[<- hX];rfl
 have eX:X'.env=compEnvC scope (zba X.env scope.names []) (s2.heap.push ob).objs.size X.env:=by rw[<- hX];rfl
 have hg':PG X' tg g:=by rw[<- hX];exact hg _ _ _ _
 have ht':PTs X' ifs ti:=by rw[<- hX];exact ht _ _ _ _
 have he':PE X' elt te:=by rw[<- hX];exact he _ _ _ _
 have f4:∀ {H':Hp},(∀b∈fp,H' b=none)->∀b∈fp,zcO X' [] H' b:=fun {H'} hn b hb=>by
  refine⟨hn b hb,?_,?_,.inl ?_,?_,?_⟩
  ·rw[eX];exact aO (bW (ltF b hb) sz3)
  ·have e1:X'.fs=frs X.stack:=by rw[<- hX];rfl
   rw[e1];intro z;rcases aG.mp (I2.stkSub b z) with e | e
   ·exact (f2 b hb).2.1 e
   ·exact (f2 b hb).2.2.1 e
  ·rw[<- hX];exact hb
  ·rw[eX];intro x a e;rcases xh (c.cells I.ok) e with z | z
   ·exact (f2 b hb).2.2.2.2.1 x a z
   ·simp at z
  ·intro p hp;have e1:X'.pn++([]:List (Addr×Obj))=[]:=by rw[<- hX];rfl
   rw[e1] at hp;simp at hp
 have loop:∀s4:Shared,s4={ s2 with heap:=h4,toks:=s2.toks+([]:List (Str×Value)).length }->
   codeAny (model X.prog X.w) X.A (.compLoop (.SetComp elt [⟨tg,iter,ifs,0⟩] scope pos) 0 (.ref it) (.ref s2.heap.objs.size) X'.env)
    (compPost (model X.prog X.w) X.A X.xe none (EP X pins σ Q) (.ref s2.heap.objs.size) (s2.heap.push ob).objs.size) s4:=by
  rintro s4 rfl;refine zbr (fun n s'=>∃i σ' H',Inv X' [] σ' H' s'/\tn i s'.heap/\(∀b∈fp,H' b=none)/\W i n σ' H') ?_ m0 ⟨0,uT σ cix,_,I4,st4,fun b hb=>(f3 b hb).1,w0⟩;rintro n s5 ⟨i,σ5,H5,I5,st5,fr5,w5⟩;rcases turn i n σ5 H5 w5 with ⟨stop,qn⟩ | ⟨go,Nx,hN,step⟩
  ·have:=T.done X' pX wX KX cX i [] s5 σ5 H5 (fun _ _=>False) I5 (f4 fr5) st5 stop;rw[AX] at this;refine thn this  ?_;rintro r s6 ⟨hr,I6⟩;subst hr;obtain⟨m6,hn6,_⟩:=I6.loc;rw[eX] at hn6;refine⟨m6,hn6,fun h7 hs7=>?_⟩;have I6':=I6;rw[<- hX] at I6';exact⟨.ref s2.heap.objs.size,H5,uW I3 f3 I6' hs7,rfl,qn⟩
  ·have:=T.item X' pX wX KX cX i [] s5 σ5 H5 (fun _ _=>False) I5 (f4 fr5) st5 go;rw[AX] at this;refine thn this  ?_;rintro r s6 ⟨u,hr,h6⟩;subst hr;refine thn h6  ?_;rintro _ s7 ⟨x,H7,I7,r7,y7,st7,fr7⟩;have I7':=I7.pinned (f4 fr7) (T.obj _ _ st7);have a7:=hg' _ s7 σ5 H7 x u _ I7' r7 (step x H7 y7);rw[pX,wX,AX,xX] at a7;refine thn a7  ?_;rintro _ s8 ⟨σ8,H8,I8,q8⟩;have t8:=ht' _ s8 σ8 H8 _ I8 q8;rw[pX,wX,AX,xX] at t8;refine thn t8  ?_;rintro ok s9 ⟨H9,I9,q9⟩
   have again:∀ {s':Shared} {σ':St} {H':Hp},Inv X' ([]++zaM fp s7.heap) σ' H' s'->Nx σ' H'->∃m,m<n/\∃i σ' H',Inv X' [] σ' H' s'/\tn i s'.heap/\(∀b∈fp,H' b=none)/\W i m σ' H':=fun {s' σ' H'} J' n'=>by obtain⟨m',hm,w'⟩:=hN σ' H' n';refine⟨m',hm,i+1,σ',H',J'.unpinned,T.keep _ _ _ st7 fun b hb o e=>(J'.pin (b,o) (au _ (au _ (z5 hb e)))).1,fun b hb=>?_,w'⟩;obtain⟨o,e,d⟩:=T.obj _ _ st7 b hb;exact (J'.pin (b,o) (au _ (au _ (z5 hb e)))).2.1
   cases ok with
   | false=>exact again I9 q9
   | true=>
    have e9:=he' _ s9 σ8 H9 _ I9 q9;rw[pX,wX,AX,xX] at e9;refine thn e9  ?_;rintro u2 s10 ⟨v,H10,I10,r10,q10⟩;obtain⟨b,ns,ks,rfl,hb,S,hn,nx⟩:=q10;cases r10;have m10:=zg5 (X:=X') (Q:=fun _ s'=>∃m,m<n/\∃i σ' H',Inv X' [] σ' H' s'/\tn i s'.heap/\(∀b∈fp,H' b=none)/\W i m σ' H') (by rw[AX];exact hu) I10 (by rw[pX,wX];exact S) hb hn fun o ks' s' S' hm hl I'=>again I' (nx o ks' (by rw[pX,wX] at S';exact S') hm hl);rw[pX,wX,AX,xX] at m10;exact m10
 have l0:=loop _ rfl;rw[eX] at l0;exact uD l0 (T.self X.A 0 _ _ _ st4 l0)
theorem zg2 {X:Cx}{pos:Pos}{te:TE}{elt tg iter:Expr}{ifs:List Expr}{scope:Scope}{wi:TI}{g:TG}{ti:TT}{N:List Str}{cix:List (Option Nat)}(hu:X.A.units+1<cLine)(hc:X.calm=true)(c:CompOk X scope N cix)
  (hi:QI X tg iter wi) (hg:∀C s H ex,QG (zt X scope N C s H ex) tg g) (ht:∀C s H ex,QTs (zt X scope N C s H ex) ifs ti) (he:∀C s H ex,QE (zt X scope N C s H ex) elt te)
  (hs:∀x,foldedSetIterable iter X.env x=pure x:=by intro _;rfl):QE X (.SetComp elt [⟨tg,iter,ifs,0⟩] scope pos) (zol X.prog X.w wi g ti te cix):=
 ⟨zg0 hu hc c hi.run (fun C s H ex=>(hg C s H ex).run) (fun C s H ex=>(ht C s H ex).run) (fun C s H ex=>(he C s H ex).run) hs⟩
section
variable {P:Program}{w:World}{K:PySem.W.Frag}{a acc:Addr}{xs:List V}{g:TG}{ti:TT}{te:TE}{σ:St}{H:Hp}{Q:VK}
end
open PySem
theorem zjw (H:Hp):x4 H H:=fun _ _ z=>z
open PySem PySem.Spec PyProof.Rows
section
variable {X:Cx}
end
open PySem PySem.Spec PyProof.Rows PySem.W PySem.Calls
section
variable {prog:Program}{w:World}{A:Around}{E:Value->Shared->Prop}{s:Shared}{es:Array DictEntry}
def zaV (h:Heap)(d:Addr)(es:Array DictEntry)(ep:Nat):Prop:=∃o,h.get? d=some o/\o.ExactDict/\o.data = .dict es ep
theorem zaV.keep {h h':Heap}{d:Addr}{ep:Nat}(x:zaV h d es ep)(k:∀o,h.get? d=some o->h'.get? d=some o):zaV h' d es ep:=let ⟨o,ho,r⟩:=x;⟨o,k o ho,r⟩
theorem zaV.typeIs {d:Addr}{ep:Nat}(x:zaV s.heap d es ep):s.TypeIs (.ref d) "dict" := let ⟨o,ho,hc,_⟩:=x;⟨o,ho,hc.1⟩
theorem zaV.lt {h:Heap}{d:Addr}{ep:Nat}(x:zaV h d es ep):d<h.objs.size:=let ⟨o,ho,_⟩:=x;aw ho
theorem zie {d:Addr}{ep:Nat}{Q:Value->Shared->Prop}(hd:(d==sysModules)=false)(hm:zaV s.heap d es ep)
  (hQ:Q (.ref s.heap.objs.size) { s with heap:=s.heap.push { cls:=.type "dict_keyiterator",data:=.fields #[.ref d,.int 0 0,.int es.size 0,.int ep 0] } }) :
  wpAny (model prog w) A (pyIter (.ref d)) Q E s:=by
 obtain⟨o,ho,hc,hdat⟩:=id hm;have hT:=hm.typeIs;refine eR hT PySem.F.slot_dict_iter (bm PySem.F.slot_dict_iter hT PySem.F.entry_dict_iter ?_ (PySem.F.args_dict_iter_1 _));unfold Builtin.«dict.__iter__»;refine ab ?_;unfold Builtin.Dict.dictSlotNone;refine ab (wpAny_notOrdered_dict hT ?_);show wpAny _ _ (pure (Value.ref d)) _ _ s;refine ac ?_;show wpAny _ _ (Builtin.Dict.showsAll d >>= _) _ _ s;unfold Builtin.Dict.showsAll;rw[if_neg (by rw[hd];exact aA)];refine ab (ac ?_);refine ab (eS ho hdat ?_);refine ab (wpAny_dictEpoch ho hdat ?_);refine ab (bj (ac ⟨_,rfl,"dict_keyiterator",_,⟨_,aP _ rfl,rfl⟩,PySem.F.slot_dict_keyiterator_next.lookup,?_⟩));simpa [rawInt] using hQ
theorem zgW {it d:Addr}{i ep:Nat}{e:DictEntry}{Q:Option Value->Shared->Prop}(hit:s.heap.IsKeyIter it d i es.size ep)(hm:zaV s.heap d es ep)(hx:es[i]?=some e)
  (hQ:∀h',h'.IsKeyIter it d (i+1) es.size ep->Heap.SameBut it s.heap h'->Q (some e.key) { s with heap:=h' }):wpAny (model prog w) A (pyNext (.ref it)) Q E s:=by
 obtain⟨o,ho,hc,hd⟩:=id hit;obtain⟨od,hod,hcd,hdd⟩:=id hm;unfold pyNext
 refine ab (c5 (wpAny_callSpecial?_slot (name:=Str.ofString "__next__") hit.typeIs bP
  (bm bP hit.typeIs di ?_ (db _))))
 refine ab (ac ?_);refine ab ?_;refine ab ?_
 first | refine ab (cg hit.typeIs (ac ?_)) | refine ab (cN hit.typeIs (ac ?_))
 refine ab (eL ho hd ?_);have hown:Builtin.Dict_items.ownsTuple "dict_keyiterator" = false:=by decide
 simp only[hown,aT,if_false];show wpAny _ _ (if (Value.ref d==Value.none)=true then _ else _) _ _ s;rw[if_neg (show ¬ ((Value.ref d==Value.none)=true) from aA)];refine ab (ac ?_);refine ab (eS hod hdd ?_);rw[if_neg (by simp)];refine ab (ac ?_);refine ab (wpAny_dictEpoch hod hdd ?_);rw[if_neg (by simp)];refine ac ?_;simp only[show ¬ ((i:Int)<0) from by lia,if_false,aL,hx];refine ab ?_
 first | refine ab (cg hit.typeIs (ac ?_)) | refine ab (cN hit.typeIs (ac ?_))
 refine ab (wpAny_isOneOf_keyiter hit.typeIs ?_);show wpAny _ _ (setField (.ref it) 1 (rawInt ((i:Int)+1)) >>= _) _ _ s;refine ab (da ho hd (by simp) ?_)
 have hit':(s.heap.update it (Obj.mapFields (·.setIfInBounds 1 (rawInt ((i:Int)+1))))).IsKeyIter it d (i+1) es.size ep:=
  ⟨_,cB _ ho (dJ (cD hd _)),(eQ ..).trans hc,by rw[cD hd];simp[rawInt]⟩
 refine ab (bM ?_);refine ab (wpAny_isOneOf_keyiter (s:={ s with heap:=s.heap.update it (Obj.mapFields (·.setIfInBounds 1 (rawInt ((i:Int)+1)))) }) hit'.typeIs ?_);show wpAny _ _ (pure e.key) _ _ _;exact ac (ac ⟨_,rfl,ac (hQ _ hit' (bN ..))⟩)
theorem ziR {it d:Addr}{ep:Nat}{Q:Option Value->Shared->Prop}(hh:A.handled=none)(hit:s.heap.IsKeyIter it d es.size es.size ep)(hm:zaV s.heap d es ep)
  (hQ:∀h',Heap.ExtBut it s.heap h'->Q none { s with heap:=h' }):wpAny (model prog w) A (pyNext (.ref it)) Q E s:=by
 obtain⟨o,ho,hc,hd⟩:=id hit;obtain⟨od,hod,hcd,hdd⟩:=id hm;unfold pyNext
 refine ab (c5 (wpAny_callSpecial?_slot (name:=Str.ofString "__next__") hit.typeIs bP
  (bm bP hit.typeIs di ?_ (db _))))
 refine ab (ac ?_);refine ab ?_;refine ab ?_
 first | refine ab (cg hit.typeIs (ac ?_)) | refine ab (cN hit.typeIs (ac ?_))
 refine ab (eL ho hd ?_);have hown:Builtin.Dict_items.ownsTuple "dict_keyiterator" = false:=by decide
 simp only[hown,aT,if_false];show wpAny _ _ (if (Value.ref d==Value.none)=true then _ else _) _ _ s;rw[if_neg (show ¬ ((Value.ref d==Value.none)=true) from aA)];refine ab (ac ?_);refine ab (eS hod hdd ?_);rw[if_neg (by simp)];refine ab (ac ?_);refine ab (wpAny_dictEpoch hod hdd ?_);rw[if_neg (by simp)];refine ac ?_;simp only[show ¬ ((es.size:Int)<0) from by lia,if_false,aL,Array.getElem?_eq_none (ag es.size)];refine ab ?_
 first | refine ab (cg hit.typeIs (ac ?_)) | refine ab (cN hit.typeIs (ac ?_))
 show wpAny _ _ (setField (.ref it) 0 .none >>= _) _ _ s;refine ab (da ho hd (by simp) ?_);show wpAny _ _ (newExc (.type "StopIteration") [] >>= _) _ _ _;refine ab ?_;simp only[newExc,newTuple];refine ab (bj ?_ (by size_fits));refine ab (m:=firstArgMember _ _) (wpAny_of_eq (a:=Value.none) (by first | rfl | (simp only[firstArgMember];rfl)) ?_);refine bj ?_ (by size_fits);simp only[raiseNew];refine ab (wpAny_handled ?_);rw[show A.in1.handled=none from hh];refine ab (ac (wpAny_throw ?_));refine ab (cS (T := "StopIteration") (b:=true) ⟨_,aP _ rfl,rfl⟩ dD ?_);exact ac (hQ _ (((bN ..).extBut.push _).push _))
theorem zgM (hh:A.handled=none)(I d:Addr)(hne:d≠I)(ep:Nat) :
  Walks prog w A I [I,d] [I] es.size (fun i v=>∃e,es[i]?=some e/\v=e.key) (fun i h=>h.IsKeyIter I d i es.size ep/\zaV h d es ep) where
 sub:=fun b hb=>by simp at hb;simp[hb]
 frame:=fun _ _ _ st hk=>⟨let ⟨o,ho,r⟩:=st.1;⟨o,hk I (by simp) o ho,r⟩,st.2.keep fun o e=>hk d (by simp) o e⟩
 item:=fun i s Q E hi st hQ=>by refine zgW st.1 st.2 (aY hi) fun h' hit' sb=>?_;exact hQ _ h' s.toks ⟨_,aY hi,rfl⟩ ⟨hit',st.2.keep fun o e=>(sb.2 d hne).trans e⟩ fun b o hb e=>sb.extBut b o (fun h=>hb (by simp[h])) e
 done:=fun s Q E st hQ=>ziR hh st.1 st.2 fun h' he'=>hQ h' s.toks fun b o hb e=>he' b o (fun h=>hb (by simp[h])) e
 self:=fun _ _ _ _ st hQ=>wpAny_pyIter_keyiter st.1 hQ
theorem zkd (d:Addr)(ep:Nat)(lo:(d==sysModules)=false):KdlSrc prog w "dict" d d es.size (fun i v=>∃e,es[i]?=some e/\v=e.key) (fun h=>zaV h d es ep) where
 type:=fun s S=>S.typeIs
 there:=fun _ S=>⟨S.lt,S.lt⟩
 keep:=fun _ _ S hk=>S.keep fun o e=>hk d (.inl rfl) o e
 notList:=by decide
 notTuple:=by decide
 hint:=fun _ _ _ _ S hq=>kdl_hint_dict S.typeIs hq
 iter:=fun A s hh S=>⟨_,_,(fun _ _ hq=>zie lo S hq),zgM hh _ d (aO S.lt) ep,⟨⟨_,aP _ rfl,rfl,rfl⟩,S.keep fun o e=>ai _ e⟩⟩
end
section
variable {prog:Program}{w:World}{A:Around}{E:Value->Shared->Prop}{s:Shared}
end
section
variable {X:Cx}
end
def zjS (kvs:List (List Int×V)):List (List Key×V):=kvs.map fun q=>(q.1.map Sum.inl,q.2)
def dtO (kvs:List (List Int×V)):HO:=.dT (zjS kvs)
theorem zkv (kvs:List (List Int×V))(st:List Int):za9 (zjS kvs) (st.map Sum.inl)=za9 kvs st:=by
 unfold zjS
 induction kvs with
 | nil=>rfl
 | cons q r ih=>
  rw[ao];by_cases e:q.1=st
  ·rw[xg (p:=q) e,xg (p:=(q.1.map Sum.inl,q.2)) (by rw[e])]
  ·rw[xB (p:=q) e,xB (p:=(q.1.map Sum.inl,q.2)) (fun z=>e (xJ z)),ih]
theorem zku (kvs:List (List Int×V))(st:List Int)(v:V):u4 (zjS kvs) (st.map Sum.inl) v=zjS (u4 kvs st v):=by
 have hd:∀q:List Int×V,decide ((q.1.map (Sum.inl:Int->Key))=st.map Sum.inl)=decide (q.1=st):=fun q=>by rw[cr,bF,bF];exact⟨xJ,fun z=>by rw[z]⟩
 have ha:((zjS kvs).any fun kv=>decide (kv.1=st.map Sum.inl))=kvs.any fun kv=>decide (kv.1=st):=by unfold zjS;rw[List.any_map];congr 1;funext q;exact hd q
 unfold u4;rw[ha];by_cases h:(kvs.any fun kv=>decide (kv.1=st))=true
 ·rw[if_pos h,if_pos h];unfold zjS;rw[az,az];refine cv fun q _=>?_;by_cases e:q.1=st
  ·show (if (q.1.map Sum.inl)=st.map Sum.inl then _ else _)=_;rw[if_pos (by rw[e])];show _=(fun q:List Int×V=>(q.1.map (Sum.inl:Int->Key),q.2)) (if q.1=st then (q.1,v) else q);rw[if_pos e]
  ·show (if (q.1.map Sum.inl)=st.map Sum.inl then _ else _)=_;rw[if_neg fun z=>e (xJ z)];show _=(fun q:List Int×V=>(q.1.map (Sum.inl:Int->Key),q.2)) (if q.1=st then (q.1,v) else q);rw[if_neg e]
 ·rw[if_neg h,if_neg h];unfold zjS;rw[aB];rfl
theorem zd5.i {H:Hp}{a b:Addr}{kvs:List (List Int×V)}{st:List Int}(e:H a=some (dtO kvs))(eb:H b=some (.tup (st.map V.int))):zd5 H a (.ref b) (za9 kvs st):=by have:=zd5.t (k:=st.map Sum.inl) e (by rw[zfp];exact eb);rwa[zkv] at this
theorem zd6.i {H:Hp}{a b:Addr}{kvs:List (List Int×V)}{st:List Int}{v:V}(e:H a=some (dtO kvs))(eb:H b=some (.tup (st.map V.int)))(hl:kvs.length<sizeLine):zd6 H a (.ref b) v (upd H a (dtO (u4 kvs st v))):=by have:=zd6.t (k:=st.map Sum.inl) (v:=v) e (by rw[zfp];exact eb) (by unfold zjS;rw[aa];exact hl);rwa[zku] at this
def zoj:TE:=fun _ H Q=>New H (dtO []) Q
section
variable {X:Cx}
theorem zkV {pos:Pos}:QE X (.Dict [] [] pos) zoj:=⟨fun pins s σ H Q I h=>zkL pins s σ H Q I fun p hp=>h.at hp⟩
end
open PySem PySem.Spec PyProof.Rows
abbrev Up' (l:List (List Int)):Prop:=l.Pairwise fun a b=>HT.lexLt a b=true
def zmI (x:List Int):List (List Int)->List (List Int)
 | []=>[x]
 | y::r=>if HT.lexLt x y then x::y::r else if x=y then y::r else y::zmI x r
def zdX (l:List (List Int)):List (List Int):=l.foldr zmI []
theorem zdr {x z:List Int}:∀ {l:List (List Int)},z∈zmI x l↔z=x\/z∈l
 | []=>by show z∈[x]↔_;simp
 | y::r=>by
  unfold zmI;split
  ·simp
  ·split
   ·rename_i e;subst e;simp
   ·rw[aG,zdr,aG];constructor
    ·rintro (h | h | h)
     ·exact .inr (.inl h)
     ·exact .inl h
     ·exact .inr (.inr h)
    ·rintro (h | h | h)
     ·exact .inr (.inl h)
     ·exact .inl h
     ·exact .inr (.inr h)
theorem y4 {z:List Int}:∀ {l:List (List Int)},z∈zdX l↔z∈l
 | []=>Iff.rfl
 | x::l=>by show z∈zmI x (zdX l)↔_;rw[zdr,y4,aG]
theorem zh6 {x:List Int}{m:Nat}(hx:x.length=m):∀ {l:List (List Int)},(∀y∈l,y.length=m)->Up' l->Up' (zmI x l)
 | [],_,_=>cP _ _
 | y::r,hl,hu=>by
  have hy:=hl y ah;rw[Up',cb] at hu;unfold zmI;split
  ·rename_i h;refine cb.mpr ⟨fun z hz=>?_,cb.mpr hu⟩;rcases aG.mp hz with rfl | hz
   ·exact h
   ·exact zaC (hx.trans hy.symm) (hy.trans (hl z (ak _ hz)).symm) h (hu.1 z hz)
  ·rename_i h;split
   ·exact cb.mpr hu
   ·rename_i hne;refine cb.mpr ⟨fun z hz=>?_,zh6 hx (fun z hz=>hl z (ak _ hz)) hu.2⟩;rcases zdr.mp hz with rfl | hz
    ·rcases uF (a:=z) (b:=y) (hx.trans hy.symm) with e | e | e
     ·exact absurd e hne
     ·exact absurd e h
     ·exact e
    ·exact hu.1 z hz
theorem zeU {m:Nat}{l:List (List Int)}(h:∀y∈l,y.length=m):∀y∈zdX l,y.length=m:=fun y hy=>h y (y4.mp hy)
theorem zbH {m:Nat}:∀ {l:List (List Int)},(∀y∈l,y.length=m)->Up' (zdX l)
 | [],_=>.nil
 | x::l,h=>zh6 (h x ah) (zeU fun y hy=>h y (ak _ hy)) (zbH fun y hy=>h y (ak _ hy))
theorem zjM {m:Nat}:∀ {l l':List (List Int)},(∀y∈l,y.length=m)->Up' l->Up' l'->(∀z,z∈l↔z∈l')->l=l'
 | [],[],_,_,_,_=>rfl
 | [],y::r,_,_,_,h=>absurd ((h y).mpr ah) (by simp)
 | x::l,[],_,_,_,h=>absurd ((h x).mp ah) (by simp)
 | x::l,y::r,hm,hu,hu',h=>by
  rw[Up',cb] at hu hu';have hm':∀z∈y::r,z.length=m:=fun z hz=>hm z ((h z).mpr hz)
  have e:x=y:=by
   rcases aG.mp ((h x).mp ah) with e | e
   ·exact e
   ·rcases aG.mp ((h y).mpr ah) with e' | e'
    ·exact e'.symm
    ·have h1:=hu'.1 x e;have h2:=hu.1 y e';have h3:=zaC ((hm x ah).trans (hm' y ah).symm) ((hm' y ah).trans (hm x ah).symm) h2 h1;rw[xC] at h3;cases h3
  subst e
  have notin:∀ {l:List (List Int)},(∀z∈l,HT.lexLt x z=true)->x∉l:=fun hl z=>by have:=hl x z;rw[xC] at this;cases this
  congr 1;refine zjM (fun z hz=>hm z (ak _ hz)) hu.2 hu'.2 fun z=>?_;constructor
  ·intro hz;rcases aG.mp ((h z).mp (ak _ hz)) with e | e
   ·subst e;exact absurd hz (notin hu.1)
   ·exact e
  ·intro hz;rcases aG.mp ((h z).mpr (ak _ hz)) with e | e
   ·subst e;exact absurd hz (notin hu'.1)
   ·exact e
theorem zbG {m:Nat}{l l':List (List Int)}(hm:∀y∈l,y.length=m)(hu:Up' l')(h:∀z,z∈l'↔z∈l):l'=zdX l:=
 zjM (fun y hy=>hm y ((h y).mp hy)) hu (zbH hm) fun z=>(h z).trans y4.symm
theorem zfR {m:Nat}{l l':List (List Int)}(hm:∀y∈l,y.length=m)(h:∀z,z∈l'↔z∈l):zdX l'=zdX l:=
 zbG hm (zbH fun y hy=>hm y ((h y).mp hy)) fun z=>y4.trans (h z)
theorem zll {l:List (List Int)}(h:Up' l):l.Nodup:=h.imp fun {a b} hab e=>by subst e;rw[xC] at hab;cases hab
def za1 (bk:List Wi)(st hs:List Int):List (List Int):=(bk.filter fun x=>uZ st x&&!hs.contains x.b).map fun x=>chg st x.b x.r
def zlr (bk:List Wi)(st hs:List Int):List (List Int):=zdX (za1 bk st hs)
theorem zbW {bk:List Wi}{st hs z:List Int}:z∈za1 bk st hs↔∃x∈bk,uZ st x=true/\x.b∉hs/\z=chg st x.b x.r:=by
 unfold za1;rw[aF];constructor
 ·rintro⟨x,hx,rfl⟩;rw[aV,ay] at hx;refine⟨x,hx.1,hx.2.1,fun z=>?_,rfl⟩;have:=hx.2.2;rw[bz.mpr z] at this;cases this
 ·rintro⟨x,h1,h2,h3,rfl⟩;refine⟨x,aV.mpr ⟨h1,?_⟩,rfl⟩;rw[h2,Bool.true_and]
  cases e:hs.contains x.b with
  | false=>rfl
  | true=>exact absurd (bz.mp e) h3
theorem zeo {rm:List Int}{bk:List Wi}{st hs:List Int}(hok:∀x∈bk,WishOk rm x)(hl:st.length=rm.length):∀z∈za1 bk st hs,z.length=rm.length:=fun z hz=>by obtain⟨x,hx,_,_,rfl⟩:=zbW.mp hz;have h1:=(hok x hx).b1;rw[xU (hok x hx).b0 (by lia)];exact hl
theorem ud {α:Type}[BEq α][LawfulBEq α]:∀ {l l':List α},l.Nodup->(∀x∈l,x∈l')->l.length<=l'.length
 | [],_,_,_=>a8 _
 | a::l,l',hn,h=>by
  rw[b8] at hn;have ha:=h a ah
  have:=ud (l:=l) (l':=l'.erase a) hn.2 fun x hx=>by have hne:x≠a:=fun z=>hn.1 (by rw[<- z];exact hx);exact (List.mem_erase_of_ne hne).mpr (h x (ak _ hx))
  rw[List.length_erase_of_mem ha] at this;have:0<l'.length:=List.length_pos_of_mem ha;rw[aS];lia
theorem zen {rm:List Int}{bk:List Wi}{st hs:List Int}{ks:List (List Int)}(hok:∀x∈bk,WishOk rm x)(h8:rm.length<=8)(hb:∀r∈rm,2<=r/\r<=4)(hn:ks.Nodup)(hk:∀z∈ks,z∈za1 bk st hs):ks.length<=32:=by
 have:=ud (l':=(List.range 32).map fun c=>chg st ((c / 4:Nat):Int) ((c % 4:Nat):Int)) hn fun z hz=>by obtain⟨x,hx,_,_,rfl⟩:=zbW.mp (hk z hz);have o:=hok x hx;have h1:=o.b1;have h2:=o.b0;have h3:=o.r0;have h4:=o.r1;have h5:=(yf hb h2 h1).2;refine aF.mpr ⟨4 * x.b.toNat+x.r.toNat,aQ.mpr (by lia),?_⟩;rw[show (4 * x.b.toNat+x.r.toNat) / 4=x.b.toNat by lia,show (4 * x.b.toNat+x.r.toNat) % 4=x.r.toNat by lia,b4 h2,b4 h3]
 rw[aa,am] at this;exact this
open PySem
end L2
namespace L2
open PySem PySem.Spec PyProof.Rows PySem.SeqAt
theorem zbI:∀ds:List Dt,Dt.toWs ds=ds.map Dt.toW
 | []=>rfl
 | d::ds=>by rw[Dt.toWs,ao,zbI ds]
theorem zev:∀ds:List PySem.W.Dat,PySem.W.kqdPs ds=ds.map PySem.W.kqdP
 | []=>by simp[PySem.W.kqdPs]
 | d::ds=>by rw[ao,<- zev ds];simp[PySem.W.kqdPs]
def zrU (neg:Bool):R2:=fun x y H Q=>∃d ds,Is H d x/\(Is H (.lst ds) y\/Is H (.tup ds) y)/\d.eqOk/\(Dt.lst ds).eqOk/\∀b:Bool,(b=true↔d∈ds)->Q (.bl (if neg then !b else b)) H
section
variable {X:Cx}
theorem zdt {ds:List Dt}(h:(Dt.lst ds).eqOk):∀d∈ds,PySem.W.kqdOk 7 d.toW=true:=fun d hd=>by have h':PySem.W.kqdOk 8 (Dt.lst ds).toW=true:=h;simp only[Dt.toW,PySem.W.kqdOk,bB,zbI] at h';exact h' _ (aF.mpr ⟨d,hd,rfl⟩)
theorem zdh {d:Dt}{ds:List Dt}(hd:d.eqOk)(hs:(Dt.lst ds).eqOk):((PySem.W.kqdPs (Dt.toWs ds)).any fun y=>PyData.eqv y (PySem.W.kqdP d.toW))=true↔d∈ds:=by
 rw[zev,zbI,az,List.any_map,df];constructor
 ·rintro⟨e,he,h⟩;have:=(PySem.W.kqd_eqv 7 e.toW d.toW 8 (zdt hs e he) hd).mp h;rw[<- zfT this];exact he
 ·intro h;exact⟨d,h,(PySem.W.kqd_eqv 7 d.toW d.toW 8 (zdt hs d h) hd).mpr rfl⟩
theorem zkx {d:PySem.W.Dat}(h:PySem.W.kqdOk 7 d=true):PySem.W.kqdOk 8 d=true:=by
 have gen:∀ (n:Nat) (d:PySem.W.Dat),PySem.W.kqdOk n d=true->PySem.W.kqdOk (n+1) d=true:=by
  intro n
  induction n with
  | zero=>intro d h;cases d <;> simp_all [PySem.W.kqdOk]
  | succ n ih=>
   intro d h;cases d <;> simp_all [PySem.W.kqdOk]
 exact gen 7 d h
theorem zlG {d:Dt}{ds:List Dt}{u:Nat}(hd:d.eqOk)(hs:(Dt.lst ds).eqOk)(hu:u+64<cLine):PyData.canLayAll0 (PySem.W.kqdPs (Dt.toWs ds))=true/\(PySem.W.kqdP d.toW).canLay0=true/\u+1+min (PyData.depthAll (PySem.W.kqdPs (Dt.toWs ds))) (PySem.W.kqdP d.toW).depth<cLine:=by
 have l1:=PySem.W.kqd_lay 8 _ hd
 have l2:=PySem.W.kqd_layL (ds:=Dt.toWs ds) fun e he=>by rw[zbI] at he;obtain⟨e',he',rfl⟩:=aF.mp he;exact zkx (zdt hs e' he')
 refine⟨l2.1,l1.1,?_⟩;have:min (PyData.depthAll (PySem.W.kqdPs (Dt.toWs ds))) (PySem.W.kqdP d.toW).depth<=8:=ax (Nat.min_le_right _ _) l1.2;lia
theorem zlN (hu:X.A.units+64<cLine):OpQ X (compareOp .In) (zrU false):=⟨by
 intro pins s σ H x y v u Q I rx ry h;obtain⟨d,ds,hd,hy,kd,ks,q⟩:=h;obtain⟨as,ra⟩:=yY I.hok 8 hd rx kd;obtain⟨l1,l2,l3⟩:=zlG kd ks hu;rcases hy with hy | hy
 ·obtain⟨bs,rb⟩:=yY I.hok 8 hy ry ks;exact in_list_reads rb ra l1 l2 l3 ⟨.bl _,H,I,rfl,q _ (zdh kd ks)⟩
 ·obtain⟨bs,rb⟩:=yY I.hok 8 hy ry (show (Dt.tup ds).eqOk from ks);exact in_tuple_reads rb ra l1 l2 l3 ⟨.bl _,H,I,rfl,q _ (zdh kd ks)⟩⟩
theorem zi5 (hu:X.A.units+64<cLine):OpQ X (compareOp .NotIn) (zrU true):=⟨by
 intro pins s σ H x y v u Q I rx ry h;obtain⟨d,ds,hd,hy,kd,ks,q⟩:=h;obtain⟨as,ra⟩:=yY I.hok 8 hd rx kd;obtain⟨l1,l2,l3⟩:=zlG kd ks hu;rcases hy with hy | hy
 ·obtain⟨bs,rb⟩:=yY I.hok 8 hy ry ks;exact notIn_list_reads rb ra l1 l2 l3 ⟨.bl _,H,I,rfl,q _ (zdh kd ks)⟩
 ·obtain⟨bs,rb⟩:=yY I.hok 8 hy ry (show (Dt.tup ds).eqOk from ks);exact notIn_tuple_reads rb ra l1 l2 l3 ⟨.bl _,H,I,rfl,q _ (zdh kd ks)⟩⟩
end
open PySem PySem.Spec PyProof.Rows
def zeJ (bk:List Wi)(box:Int)(st:List Int):List (List Int):=(bk.filter fun x=>decide (x.b=box)&&xl st x.g).map fun x=>[x.w,x.r]
def lpF (bk:List Wi)(box:Int)(st:List Int):List (List Int):=zdX (zeJ bk box st)
theorem yW {bk:List Wi}{box:Int}{st z:List Int}:z∈zeJ bk box st↔∃x∈bk,x.b=box/\xl st x.g=true/\z=[x.w,x.r]:=by
 unfold zeJ;rw[aF];constructor
 ·rintro⟨x,hx,rfl⟩;rw[aV,ay] at hx;exact⟨x,hx.1,bC hx.2.1,hx.2.2,rfl⟩
 ·rintro⟨x,h1,h2,h3,rfl⟩;exact⟨x,aV.mpr ⟨h1,by rw[h3,aR h2];rfl⟩,rfl⟩
theorem xE {bk:List Wi}{box:Int}{st:List Int}:∀z∈zeJ bk box st,z.length=2:=fun z hz=>by obtain⟨x,_,_,_,rfl⟩:=yW.mp hz;rfl
theorem za7 {rm:List Int}{bk:List Wi}{box:Int}{st:List Int}{ks:List (List Int)}(hok:∀x∈bk,WishOk rm x)(hb:∀r∈rm,2<=r/\r<=4)(hn:ks.Nodup)(hk:∀z∈ks,z∈zeJ bk box st):ks.length<=16:=by
 have:=ud (l':=(List.range 16).map fun c=>[((c / 4:Nat):Int),((c % 4:Nat):Int)]) hn fun z hz=>by obtain⟨x,hx,_,_,rfl⟩:=yW.mp (hk z hz);have o:=hok x hx;have h3:=o.r0;have h4:=o.r1;have h5:=(yf hb o.b0 o.b1).2;have h6:=o.w0;have h7:=o.w1;refine aF.mpr ⟨4 * x.w.toNat+x.r.toNat,aQ.mpr (by lia),?_⟩;rw[show (4 * x.w.toNat+x.r.toNat) / 4=x.w.toNat by lia,show (4 * x.w.toNat+x.r.toNat) % 4=x.r.toNat by lia,b4 h6,b4 h3]
 rw[aa,am] at this;exact this
theorem zpE {rm:List Int}{bk:List Wi}{box:Int}{st:List Int}(hok:∀x∈bk,WishOk rm x)(hb:∀r∈rm,2<=r/\r<=4):(lpF bk box st).length<=16:=
 za7 hok hb (zll (zbH xE)) fun z hz=>y4.mp hz
theorem zpG {bk:List Wi}{box:Int}{st:List Int}:∀z∈lpF bk box st,z.length=2:=zeU xE
theorem ur {rm st:List Int}{x:Wi}{w:Int}(hx:WishOk rm x)(hl:st.length=rm.length):xl (chg st x.b w) x.g=xl st x.g:=by
 unfold xl;rw[cr,bB,bB];have b1:=hx.b1;have key:∀q∈x.g,ya (chg st x.b w) q.1=ya st q.1:=fun q hq=>by rw[yo hx.b0 (by lia) (hx.giv.ok q hq).1,if_neg (hx.apart q hq)]
 constructor
 ·intro h q hq;have:=h q hq;rwa[key q hq] at this
 ·intro h q hq;rw[key q hq];exact h q hq
theorem zlI {rm:List Int}{bk:List Wi}{box w:Int}{st:List Int}(hok:∀x∈bk,WishOk rm x)(hl:st.length=rm.length):lpF bk box (chg st box w)=lpF bk box st:=by
 refine zfR xE fun z=>?_;rw[yW,yW];constructor
 ·rintro⟨x,hx,h1,h2,h3⟩;subst h1;exact⟨x,hx,rfl,by rwa[ur (hok x hx) hl] at h2,h3⟩
 ·rintro⟨x,hx,h1,h2,h3⟩;subst h1;exact⟨x,hx,rfl,by rwa[ur (hok x hx) hl],h3⟩
def zZ (C:Nat->Nat->Bool)(w j:Nat):List (List Int):=((List.range j).filter (C w)).map fun b:Nat=>[(w:Int),(b:Int)]
def zbx (C:Nat->Nat->Bool)(n:Nat):Nat->List (List Int)
 | 0=>[]
 | i+1=>zbx C n i++zZ C i n
theorem zaT (C:Nat->Nat->Bool)(w j:Nat):zZ C w (j+1)=if C w j=true then zZ C w j++[[(w:Int),(j:Int)]] else zZ C w j:=by
 unfold zZ;rw[List.range_succ,ce];by_cases h:C w j=true
 ·rw[if_pos h,List.filter_cons_of_pos h,aB];rfl
 ·rw[if_neg h,List.filter_cons_of_neg h];simp
theorem zbq {C:Nat->Nat->Bool}{w j:Nat}{z:List Int}:z∈zZ C w j↔∃b,b<j/\C w b=true/\z=[(w:Int),(b:Int)]:=by
 unfold zZ;rw[aF];constructor
 ·rintro⟨b,hb,rfl⟩;rw[aV,aQ] at hb;exact⟨b,hb.1,hb.2,rfl⟩
 ·rintro⟨b,h1,h2,rfl⟩;exact⟨b,aV.mpr ⟨aQ.mpr h1,h2⟩,rfl⟩
theorem zcw {C:Nat->Nat->Bool}{n:Nat}{z:List Int}:∀ {i:Nat},z∈zbx C n i↔∃w b,w<i/\b<n/\C w b=true/\z=[(w:Int),(b:Int)]
 | 0=>⟨fun h=>(by cases h),by rintro⟨_,_,h,_⟩;exact (by lia)⟩
 | i+1=>by
  show z∈zbx C n i++zZ C i n↔_;rw[bg,zcw,zbq];constructor
  ·rintro (⟨w,b,h1,h2⟩ | ⟨b,h1,h2⟩)
   ·exact⟨w,b,by lia,h2⟩
   ·exact⟨i,b,by lia,h1,h2⟩
  ·rintro⟨w,b,h1,h2,h3⟩;by_cases e:w=i
   ·subst e;exact .inr ⟨b,h2,h3⟩
   ·exact .inl ⟨w,b,by lia,h2,h3⟩
theorem lex2 {a b c d:Int}:HT.lexLt [a,b] [c,d]=true↔a<c\/(a=c/\b<d):=by
 show (if a=c then (if b=d then _ else decide (b<d)) else decide (a<c))=true↔_;by_cases h1:a=c
 ·rw[if_pos h1];by_cases h2:b=d
  ·rw[if_pos h2];constructor
   ·intro h;cases h
   ·intro h;lia
  ·rw[if_neg h2,bF];lia
 ·rw[if_neg h1,bF];lia
theorem zgE (C:Nat->Nat->Bool)(n:Nat):∀i,Up' (zbx C n i)
 | 0=>.nil
 | i+1=>by
  refine List.pairwise_append.mpr ⟨zgE C n i,?_,fun a ha b hb=>?_⟩
  ·unfold zZ;refine cM.mpr ((List.pairwise_lt_range.filter _).imp ?_);intro a b hab;exact lex2.mpr (.inr ⟨rfl,by lia⟩)
  ·obtain⟨w,b1,h1,_,_,rfl⟩:=zcw.mp ha;obtain⟨b2,_,_,rfl⟩:=zbq.mp hb;exact lex2.mpr (.inl (by lia))
theorem zcv {C:Nat->Nat->Bool}{n i:Nat}:(zbx C n i).length<=i * n:=by
 induction i with
 | zero=>exact a8 _
 | succ i ih=>
  show (zbx C n i++zZ C i n).length<=_;rw[af,eE]
  have:(zZ C i n).length<=n:=by unfold zZ;rw[aa];have:=cE (C i) (List.range n);rwa[am] at this
  lia
def zce (bk:List Wi)(box:Int)(st:List Int)(w b:Nat):Bool:=decide (b≠w)&&bk.any fun x=>uZ (chg st box w) x&&decide (chg (chg st box w) x.b x.r=chg st box b)
theorem zcf {rm:List Int}{bk:List Wi}{box:Int}{st:List Int}{w b:Nat}(hok:∀x∈bk,WishOk rm x)(hl:st.length=rm.length)(h0:0<=box)(h1:box<rm.length):zce bk box st w b=true↔∃x∈bk,x.b=box/\xl st x.g=true/\x.w=w/\x.r=b:=by
 unfold zce;rw[ay,bF,df];have cl:∀v:Int,(chg st box v).length=st.length:=fun v=>xU h0 (by lia);constructor
 ·rintro⟨hne,x,hx,h⟩;rw[ay,bF] at h;obtain⟨hg,he⟩:=h;have o:=hok x hx;have b0:=o.b0;have b1:=o.b1;unfold uZ at hg;rw[ay,bF] at hg;have e1:ya (chg (chg st box w) x.b x.r) x.b=x.r:=by rw[yo b0 (by rw[cl];lia) b0,if_pos rfl]
  by_cases hb:x.b=box
  ·subst hb;rw[he,yo h0 (by lia) h0,if_pos rfl] at e1;have e2:=hg.1;rw[yo h0 (by lia) h0,if_pos rfl] at e2;refine⟨x,hx,rfl,?_,e2.symm,e1.symm⟩;have:=hg.2;rwa[ur o hl] at this
  ·exfalso;have e2:=hg.1;rw[yo h0 (by lia) b0,if_neg hb] at e2;rw[he,yo h0 (by lia) b0,if_neg hb] at e1;exact o.ne (e1.symm.trans e2)
 ·rintro⟨x,hx,rfl,hk,h2,h3⟩;have o:=hok x hx;refine⟨fun z=>o.ne (by rw[h2,h3,z]),x,hx,?_⟩;rw[ay,bF];constructor
  ·unfold uZ;rw[ay,bF,yo h0 (by lia) h0,if_pos rfl,ur o hl];exact⟨h2.symm,hk⟩
  ·rw[<- h3];refine zf8 (by rw[xU h0 (by rw[cl];lia),cl,cl]) fun c c0 c1=>?_;rw[yo h0 (by rw[cl];lia) c0,yo (w:=x.r) h0 (by lia) c0];by_cases hc:c=x.b
   ·rw[if_pos hc,if_pos hc]
   ·rw[if_neg hc,if_neg hc,yo h0 (by lia) c0,if_neg hc]
theorem zlh {rm:List Int}{bk:List Wi}{box:Int}{st:List Int}{n:Nat}(hok:∀x∈bk,WishOk rm x)(hl:st.length=rm.length)(h0:0<=box)(h1:box<rm.length)(hn:(n:Int)=ya rm box):zbx (zce bk box st) n n=lpF bk box st:=by
 refine zbG xE (zgE _ _ _) fun z=>?_;rw[zcw,yW];constructor
 ·rintro⟨w,b,_,_,h,rfl⟩;obtain⟨x,hx,h2,h3,h4,h5⟩:=(zcf hok hl h0 h1).mp h;exact⟨x,hx,h2,h3,by rw[h4,h5]⟩
 ·rintro⟨x,hx,h2,h3,rfl⟩;have o:=hok x hx;have w0:=o.w0;have w1:=o.w1;have r0:=o.r0;have r1:=o.r1;rw[h2] at w1 r1;refine⟨x.w.toNat,x.r.toNat,by lia,by lia,(zcf hok hl h0 h1).mpr ⟨x,hx,h2,h3,by lia,by lia⟩,?_⟩;rw[b4 w0,b4 r0]
open PySem PySem.Spec PyProof.Rows PySem.W PySem.Calls
section
variable {prog:Program}{w:World}{A:Around}{E:Value->Shared->Prop}{s:Shared}{R:Result->Shared->Prop}
end
section
variable {X:Cx}
end
open PySem PySem.Spec PyProof.Rows
section
variable {X:Cx}{e st:Expr}{te tk:TE}{pos p2:Pos}
end
theorem zbz {one other:List Int}{x:Wi}:zsA one other x=true↔uZ one x=true/\chg one x.b x.r=other:=by unfold zsA;rw[ay,bF]
theorem zmb {bk:List Wi}{one other:List Int}:other∈zlr bk one []↔∃x∈bk,zsA one other x=true:=by
 unfold zlr;rw[y4,zbW];constructor
 ·rintro⟨x,hx,h1,_,h2⟩;exact⟨x,hx,zbz.mpr ⟨h1,h2.symm⟩⟩
 ·rintro⟨x,hx,h⟩;obtain⟨h1,h2⟩:=zbz.mp h;exact⟨x,hx,h1,cA,h2.symm⟩
theorem zpD {rm:List Int}{bk:List Wi}{one:List Int}{box wo:Int}(hok:∀x∈bk,WishOk rm x)(h1:one.length=rm.length)(b0:0<=box)(b1:box<rm.length):[ya one box,wo]∈lpF bk box one↔chg one box wo∈zlr bk one []:=by
 unfold lpF;rw[y4,yW,zmb];constructor
 ·rintro⟨x,hx,rfl,hk,e⟩;injection e with e1 e2;injection e2 with e2 _;subst e2;refine⟨x,hx,zbz.mpr ⟨?_,rfl⟩⟩;unfold uZ;rw[hk,aR e1];rfl
 ·rintro⟨x,hx,h⟩;obtain⟨hg,he⟩:=zbz.mp h;have o:=hok x hx;have o0:=o.b0;have o1:=o.b1;unfold uZ at hg;rw[ay,bF] at hg;have e1:ya (chg one x.b x.r) x.b=x.r:=by rw[yo o0 (by lia) o0,if_pos rfl]
  by_cases hb:x.b=box
  ·subst hb;rw[he,yo b0 (by lia) b0,if_pos rfl] at e1;exact⟨x,hx,rfl,hg.2,by rw[hg.1,e1]⟩
  ·exfalso;rw[he,yo b0 (by lia) o0,if_neg hb,hg.1] at e1;exact o.ne e1.symm
def unlike (one z hs:List Int):List Int:=hs.filter fun b=>decide (ya one b≠ya z b)
section
variable {X:Cx}{pos:Pos}
end
end L2
namespace L2
open PySem PySem.Spec PyProof.Rows
end L2
namespace L2
open PySem PySem.Spec PyProof.Rows
section
variable {M:Model}{A:Around}{E:Value->Shared->Prop}{s:Shared}
theorem zbM {α:Type}{f:List (Str×Addr)->Sem α}{Q:α->Shared->Prop}:∀ (names:List (Str×NameKind)) (cells:List (Str×Addr)),(∀y∈names,y.2≠.cell)->wpAny M A (f cells) Q E s->
  wpAny M A ((forIn names cells fun x r=>match x with | (name,kind)=>if (kind==NameKind.cell)=true then do let a <- alloc { cls:=.type "cell",data:=.cell none };pure (ForInStep.yield ((name,a)::r)) else pure (ForInStep.yield r)) >>= f) Q E s
 | [],cells,_,h=>h
 | (n,k)::r,cells,hn,h=>by
  have hk:(k==NameKind.cell)=false:=by simpa using hn (n,k) ah
  rw[List.forIn_cons];simp only[hk,aT,if_false,pure_bind];exact zbM r cells (fun y hy=>hn y (ak _ hy)) h
theorem zbN {α:Type}{z:Str}{f:List (Str×Addr)->Sem α}{Q:α->Shared->Prop}:∀ (names:List (Str×NameKind)) (cells:List (Str×Addr)),names.filter (fun y=>y.2==.cell)=[(z,.cell)]->
  wpAny M A (f ((z,s.heap.objs.size)::cells)) Q E { s with heap:=s.heap.push { cls:=.type "cell",data:=.cell none } }->
  wpAny M A ((forIn names cells fun x r=>match x with | (name,kind)=>if (kind==NameKind.cell)=true then do let a <- alloc { cls:=.type "cell",data:=.cell none };pure (ForInStep.yield ((name,a)::r)) else pure (ForInStep.yield r)) >>= f) Q E s
 | [],cells,hn,h=>by cases hn
 | (n,k)::r,cells,hn,h=>by
  rw[List.forIn_cons];by_cases hk:(k==NameKind.cell)=true
  ·rw[List.filter_cons_of_pos (p:=fun y:Str×NameKind=>y.2==.cell) (a:=(n,k)) hk] at hn;injection hn with h1 h2;cases h1;simp only[hk,if_true,bind_assoc,pure_bind];refine ab (wpAny_alloc ?_);refine zbM r _ (fun y hy e=>?_) h;have:y∈r.filter (fun y=>y.2==.cell):=aV.mpr ⟨hy,by rw[e];rfl⟩;rw[h2] at this;cases this
  ·rw[List.filter_cons_of_neg (p:=fun y:Str×NameKind=>y.2==.cell) (a:=(n,k)) hk] at hn;simp only[hk,aT,if_false,pure_bind];exact zbN r cells hn h
theorem zfG {scope:Scope}{z:Str}{globals:Addr}{closure:List (Str×Addr)}{qual:Str}{o:Env}{Q:Env->Shared->Prop}(hn:scope.names.filter (fun y=>y.2==.cell)=[(z,.cell)])
  (h:Q { scope,locals:=s.heap.objs.size,globals,cells:=(z,(s.heap.push { cls:=.type "dict",data:=.dict #[] }).objs.size)::closure,qual,func:=none,code:=o.code,frame:=o.frame,builtins:=o.builtins } { s with heap:=(s.heap.push { cls:=.type "dict",data:=.dict #[] }).push { cls:=.type "cell",data:=.cell none } }) :
  wpAny M A (newFunctionEnv scope globals closure [] qual none .none (some o)) Q E s:=by
 unfold newFunctionEnv;simp only[Option.isSome_some,if_true];refine ab (wpAny_alloc ?_);refine zbN scope.names closure hn ?_;exact ab (ac (ac h))
end
def zT (X:Cx)(scope:Scope)(N:List Str)(z:Str)(C D:Addr)(s:Shared)(H:Hp)(ex:List Addr):Cx:=
 { zt X scope N C s H ex with env:={ compEnvC scope (zba X.env scope.names []) C X.env with cells:=(z,D)::zba X.env scope.names [] },fn:=fun y=>y==z }
def zhp (XN:List Str)(Xnames names:List (Str×NameKind))(N:List Str)(z:Str)(cix:List (Option Nat)):Bool:=
 N.length==cix.length&&(names.filter (fun y=>y.2==.cell)==[(z,NameKind.cell)]&&names.lookup z==some .cell)&&((N.zip cix).all fun p=>match p.2 with
  | none=>true
  | some i=>XN[i]?==some p.1&&names.lookup p.1==some .free&&(Xnames.lookup p.1==some .cell || Xnames.lookup p.1==some .free)) &&
 (names.all fun y=>y.2 != .free || (Xnames.lookup y.1==some .cell || Xnames.lookup y.1==some .free))
structure CompOkC (X:Cx)(scope:Scope)(N:List Str)(z:Str)(cix:List (Option Nat)):Prop where
 kind:scope.kind = .function
 names:∀x∈scope.names,x.2 = .local->scope.names.lookup x.1=some .local
 caps:zhp X.N X.env.scope.names scope.names N z cix=true
theorem mem_of_lookup {α β:Type}[BEq α][LawfulBEq α]{x:α}{k:β}:∀ {l:List (α×β)},l.lookup x=some k->(x,k)∈l
 | [],h=>by simp at h
 | (n,q)::r,h=>by
  rw[a9] at h
  cases e:x==n with
  | true=>
   rw[e] at h;have:=br e;subst this;have h':some q=some k:=h;cases h';exact ah
  | false=>
   rw[e] at h;exact ak _ (mem_of_lookup h)
theorem xc {env:Env}:∀ {names:List (Str×NameKind)} {x:Str} {k:NameKind},
  (names.map fun (n,k)=>if (k==NameKind.free&&env.scope.kind==.function&&env.kindOf n==some .cell) then (n,NameKind.cell) else (n,k)).lookup x=some k->(k = .cell\/k = .free)->names.lookup x=some .free\/names.lookup x=some .cell
 | [],_,_,h,_=>by simp at h
 | (n,k)::r,x,k',h,hk=>by
  have ih:=@xc env r x k';rw[ao] at h;rw[a9];by_cases hcond:(k==NameKind.free&&env.scope.kind==.function&&env.kindOf n==some .cell)=true
  ·have h':List.lookup x ((n,NameKind.cell)::r.map fun (n,k)=>if (k==NameKind.free&&env.scope.kind==.function&&env.kindOf n==some .cell) then (n,NameKind.cell) else (n,k))=some k':=by
    have:=h;simp only[hcond,if_true] at this;exact this
   rw[a9] at h'
   cases e:x==n with
   | true=>
    have:k = .free:=by rw[ay,ay] at hcond;exact br hcond.1.1
    subst this;exact .inl rfl
   | false=>
    rw[e] at h';exact ih h' hk
  ·have h':List.lookup x ((n,k)::r.map fun (n,k)=>if (k==NameKind.free&&env.scope.kind==.function&&env.kindOf n==some .cell) then (n,NameKind.cell) else (n,k))=some k':=by
    have:=h;simp only[hcond] at this;exact this
   rw[a9] at h'
   cases e:x==n with
   | true=>
    rw[e] at h';have h2:some k=some k':=h';cases h2;rcases hk with hk | hk
    ·subst hk;exact .inr rfl
    ·subst hk;exact .inl rfl
   | false=>
    rw[e] at h';exact ih h' hk
section
variable {X:Cx}{pins:List (Addr×Obj)}{σ:St}{H:Hp}{s:Shared}{scope:Scope}{N:List Str}{z:Str}{cix:List (Option Nat)}
theorem CompOkC.parts (c:CompOkC X scope N z cix):N.length=cix.length/\scope.names.filter (fun y=>y.2==.cell)=[(z,.cell)]:=by have h:=c.caps;unfold L2.zhp at h;rw[ay,ay,ay,ay] at h;exact⟨br h.1.1.1,br h.1.1.2.1⟩
theorem CompOkC.lk (c:CompOkC X scope N z cix):scope.names.lookup z=some .cell:=by have h:=c.caps;unfold L2.zhp at h;rw[ay,ay,ay,ay] at h;exact br h.1.1.2.2
theorem CompOkC.cells (c:CompOkC X scope N z cix)(ok:X.Ok):∀x∈scope.names,x.2 = .free->∃a,X.env.cells.lookup x.1=some a:=fun x hx e=>by
 have h:=c.caps;unfold L2.zhp at h;rw[ay] at h;have q:=bB.mp h.2 x hx;rw[e] at q;have q':(X.env.scope.names.lookup x.1==some NameKind.cell || X.env.scope.names.lookup x.1==some NameKind.free)=true:=by simpa using q
 rcases dg.mp q' with q | q
 ·exact ok.has _ (.inl (br q))
 ·exact ok.has _ (.inr (br q))
theorem CompOkC.cap (c:CompOkC X scope N z cix){j i:Nat}{x:Str}(h1:N[j]?=some x)(h2:cix[j]?=some (some i)):X.N[i]?=some x/\scope.names.lookup x=some .free/\(X.env.scope.names.lookup x=some .cell\/X.env.scope.names.lookup x=some .free):=by
 have h:=c.caps;unfold L2.zhp at h;rw[ay,ay] at h
 have hm:(x,some i)∈N.zip cix:=by refine aI (i:=j) ?_;rw[List.getElem?_zip_eq_some];exact⟨h1,h2⟩
 have q:=bB.mp h.1.2 _ hm;simp only[ay] at q;refine⟨br q.1.1,br q.1.2,?_⟩;rcases dg.mp q.2 with q | q
 ·exact .inl (br q)
 ·exact .inr (br q)
theorem CompOkC.isZ (c:CompOkC X scope N z cix){x:Str}(h:scope.names.lookup x=some .cell):x=z:=by have:(x,NameKind.cell)∈scope.names.filter (fun y=>y.2==.cell):=aV.mpr ⟨mem_of_lookup h,rfl⟩;rw[c.parts.2,aK] at this;exact (Prod.mk.inj this).1
theorem zh7 {fp:List Addr}{h':Heap}{tk:Nat}{m:Str->Option Value}{D:Addr}(I:Inv X pins σ H s)(c:CompOkC X scope N z cix)(hf:∀b∈fp,zcO X pins H b)(hfo:∀b∈fp,b<s.heap.objs.size)
  (hn:h'.Ns s.heap.objs.size m) (hD:s.heap.objs.size<=D) (hcd:h'.IsCell D none) (hk:∀b o,s.heap.get? b=some o->h'.get? b=some o) :
  Inv (zT X scope N z s.heap.objs.size D s H fp) [] (uT σ cix) H { s with heap:=h',toks:=tk }:=by
 have hcl:=c.cells I.ok
 have back:∀x a,((z,D)::zba X.env scope.names []).lookup x=some a->(x=z/\a=D)\/(x≠z/\(zba X.env scope.names []).lookup x=some a/\X.env.cells.lookup x=some a/\a<s.heap.objs.size):=fun x a e=>by
  rw[a9] at e
  cases q:x==z with
  | true=>
   rw[q] at e;have e':some D=some a:=e;exact .inl ⟨br q,(bc e').symm⟩
  | false=>
   rw[q] at e;have e':(zba X.env scope.names []).lookup x=some a:=e
   have hl:X.env.cells.lookup x=some a:=by
    rcases xh hcl e' with z | z
    ·exact z
    ·simp at z
   obtain⟨v,oc,hoc,_⟩:=I.cell x a hl;exact .inr ⟨fun z=>by subst z;simp at q,e',hl,aw hoc⟩
 refine⟨⟨I.mod,c.kind,I.ok.glob,I.ok.blt,ag _,fun x y a e1 e2=>?_,fun x hx=>?_,fun x a hz e=>?_,I.ok.hd,I.ok.frames,.inl rfl,
  fun b hb=>⟨aO (hfo b hb),fun x a e=>?_⟩,I.bs,ax I.ok.bsz I.sz,fun b o e hb=>?_,fun b hb z=>?_,I.stack,I.stkFree⟩,
  I.os ▸ rfl,I.bare,Un.kept hk,⟨m,hn,fun j x v h1 h2 h3=>?_⟩,fun x a e=>?_,I.hok.fresh (ag _),fun x a e=>?_,fun p hp=>absurd (show p∈([]:List (Addr×Obj)) from hp) (by simp),I.hok.kept hk,?_⟩
 ·rcases back x a e1 with ⟨r1,r2⟩ | ⟨_,_,r1,r2⟩ <;> rcases back y a e2 with ⟨q1,q2⟩ | ⟨_,_,q1,q2⟩
  ·exact r1.trans q1.symm
  ·exact absurd (aU q2 (r2 ▸ hD)) (bQ _)
  ·exact absurd (aU r2 (q2 ▸ hD)) (bQ _)
  ·exact I.ok.inj x y a r1 q1
 ·have hx':((relabel scope X.env).names.lookup x=some .cell\/(relabel scope X.env).names.lookup x=some .free):=hx
  have hx2:scope.names.lookup x=some .free\/scope.names.lookup x=some .cell:=by
   rcases hx' with q | q
   ·exact xc q (.inl rfl)
   ·exact xc q (.inr rfl)
  show ∃a,((z,D)::zba X.env scope.names []).lookup x=some a;rw[a9]
  cases q:x==z with
  | true=>exact⟨D,rfl⟩
  | false=>
   rcases hx2 with e | e
   ·exact uS e
   ·exact absurd (c.isZ e) fun w=>by subst w;simp at q
 ·have hz':(x==z)=true:=hz;rcases back x a e with ⟨_,r⟩ | ⟨r,_⟩
  ·rw[r];exact hD
  ·exact absurd (br hz') r
 ·rcases back x a e with ⟨_,r⟩ | ⟨_,_,r,_⟩
  ·rw[r];exact dE (aU (hfo b hb) hD)
  ·exact (hf b hb).2.2.2.2.1 x a r
 ·rcases (hf b hb).2.2.2.1 with z | z
  ·exact I.ok.noex b o e z
  ·exact absurd (aU (aw e) (ax I.ok.bsz z)) (bQ _)
 ·rcases aG.mp (I.stkSub b z) with e | e
  ·exact (hf b hb).2.1 e
  ·exact (hf b hb).2.2.1 e
 ·have h1':N[j]?=some x:=h1;unfold uT at h2;rw[aC] at h2
  cases e:cix[j]? with
  | none=>rw[e] at h2;cases h2
  | some o=>
   rw[e] at h2
   cases o with
   | none=>cases h2
   | some i=>
    have h2':(σ[i]?).join=some v:=bc h2
    have h2'':σ[i]?=some (some v):=by
     cases q:σ[i]? with
     | none=>rw[q] at h2';cases h2'
     | some z=>rw[q] at h2';have:z=some v:=h2';rw[this]
    obtain⟨q1,q2,q3⟩:=c.cap h1' e;obtain⟨m0,hn0,hl0⟩:=I.loc;obtain⟨u,ru,hu⟩:=hl0 i x v q1 h2'' (q3.elim (fun z=>.inr (.inl z)) fun z=>.inr (.inr z));refine⟨u,ru,.inr ⟨yU q2,?_⟩⟩;rcases hu with ⟨z,_⟩ | ⟨_,a,ha,hcell⟩
    ·have z':X.env.scope.names.lookup x=some .local:=z;rcases q3 with q3 | q3 <;> rw[z'] at q3 <;> cases q3
    ·obtain⟨a',ha'⟩:=uS (env:=X.env) (cs:=[]) q2
     have hxz:(x==z)=false:=by
      cases q:x==z with
      | false=>rfl
      | true=>
       have:=br q;subst this;rw[c.lk] at q2;cases q2
     have hlk:((z,D)::zba X.env scope.names []).lookup x=some a':=by rw[a9,hxz];exact ha'
     have:a'=a:=by
      rcases back x a' hlk with ⟨r,_⟩ | ⟨_,_,r,_⟩
      ·subst r;simp at hxz
      ·exact bc (r.symm.trans ha)
     subst this;obtain⟨oc,hoc,hd⟩:=hcell;exact⟨a',hlk,oc,hk _ _ hoc,hd⟩
 ·rcases back x a e with ⟨_,r⟩ | ⟨_,_,r,_⟩
  ·rw[r];exact⟨none,hcd⟩
  ·obtain⟨v,oc,hoc,hd⟩:=I.cell x a r;exact⟨v,oc,hk _ _ hoc,hd⟩
 ·rcases back x a e with ⟨_,r⟩ | ⟨_,_,r,_⟩
  ·rw[r];exact I.hok.fresh hD
  ·exact I.freeC x a r
 ·show (uT σ cix).length=N.length;unfold uT;rw[aa,c.parts.1]
theorem zfq {fp:List Addr}{σ':St}{H':Hp}{s':Shared}{h'':Heap}{D:Addr}(I:Inv X pins σ H s)(hf:∀b∈fp,zcO X pins H b)(I':Inv (zT X scope N z s.heap.objs.size D s H fp) [] σ' H' s')(hs:Heap.SameBut s.heap.objs.size s'.heap h'') :
  Inv X pins σ H' { s' with heap:=h'' }:=by
 have ne:∀b o,s.heap.get? b=some o->b≠s.heap.objs.size:=fun b o e=>aO (aw e);have u:=I'.base;refine Inv.call' (ch:=fp) I I'.os ⟨fun b o e n hb hx=>?_,fun b o e n hb hx=>?_,u.free,fun b o e hx=>?_,u.tups,u.frzs,u.tbls⟩ (zbZ I'.hok I'.free hs) I'.bare fun b hb=>⟨(hf b hb).2.2.2.1,(hf b hb).2.1,(hf b hb).2.2.2.2.1,(hf b hb).2.2.2.2.2⟩
 ·exact (hs.2 b (ne b o e)).trans (u.keep b o e n hb hx)
 ·obtain⟨sl,q⟩:=u.slot b o e n hb hx;exact⟨sl,(hs.2 b (ne b o e)).trans q⟩
 ·obtain⟨o',q⟩:=u.there b o e hx;exact⟨o',(hs.2 b (ne b o e)).trans q⟩
end
end L2
namespace L2
open PySem PySem.Spec PyProof.Rows
end L2
namespace L2
open PySem PySem.Spec PyProof.Rows
section
variable {prog:Program}{w:World}{A:Around}{E:Value->Shared->Prop}{s:Shared}{R:Result->Shared->Prop}{Kt:Type}[DecidableEq Kt]{knd:KeyKind prog w Kt}{κ:Int->Kt}
end
end L2
namespace L2
open PySem PySem.Spec PyProof.Rows
theorem uv {X:Cx}{pins:List (Addr×Obj)}{σ:St}{H:Hp}{s:Shared}{a:Addr}{xs:List V}(I:Inv X pins σ H s)(h:SqL X.K H a xs):∃its:List Value,z4 xs its/\s.heap.IsList a its.toArray/\xs.length<=sizeLine:=by obtain⟨its,r,⟨o,n,e,c,_,d⟩,z⟩:=I.list h;exact⟨its,r,⟨o,e,c,n,d⟩,z⟩
def Iel (K:PySem.W.Frag)(a:Addr):It:=
 ⟨fun i H=>∃xs x,SqL K H a xs/\xs[i]?=some x,fun i H v H'=>∃T x,v = .ref T/\H T=none/\H'=upd H T (.tup [.int i,x])/\∀xs,SqL K H a xs->xs[i]?=some x,fun i H=>∃xs,SqL K H a xs/\xs.length<=i⟩
theorem zg7 {P:Program}{w:World}{K:PySem.W.Frag}{elts:List Expr}{x1}{tpos:Pos}(a it e:Addr)(hei:e≠it) :
  Turn P w K (.Tuple elts x1 tpos) (Iel K a) [e,it] e (fun i h=>(∃old,IsEnum h e it i old)/\h.IsListIter it a i) where
 mem:=by simp
 obj:=fun i h st b hb=>by
  rcases aG.mp hb with rfl | hb
  ·obtain⟨⟨old,he⟩,_⟩:=st
   exact⟨_,he,fun v z=>by have z':Data.fields _=Data.cell v:=z;cases z'⟩
  ·rw[aK.mp hb];obtain⟨_,o,e,c,d⟩:=st;exact⟨o,e,fun v z=>by rw[d] at z;cases z⟩
 keep:=fun i h h' st k=>by obtain⟨⟨old,he⟩,o,ho,r⟩:=st;exact⟨⟨old,k e (by simp) _ he⟩,o,k it (by simp) _ ho,r⟩
 item:=by
  intro X hP hw hK hc i pins s σ H E I hf st hg;subst hP hw hK;obtain⟨xs,x,hq,hx⟩:=hg;obtain⟨its,rv,p,hz⟩:=uv I hq;obtain⟨u,hu,ru⟩:=rv.get hx;obtain⟨f0,f1,f2,f3,f4,f5⟩:=hf e (by simp);obtain⟨g0,g1,g2,g3,g4,g5⟩:=hf it (by simp);obtain⟨⟨old,he⟩,hit⟩:=st
  have hsz:i<its.toArray.size:=by have:=(ae.mp hu).1;simpa using this
  have hai:a≠it:=by intro z;obtain⟨o,ho,hcl,_⟩:=p;obtain⟨o',ho',hcl',_⟩:=hit;rw[z,ho'] at ho;cases ho;rw[hcl'] at hcl;exact absurd (Value.type.inj hcl) (by decide)
  have hea:e≠a:=by intro z;obtain⟨o,ho,hcl,_⟩:=p;rw[<- z,he] at ho;cases ho;have:Value.type "enumerate" = Value.type "list" := hcl;exact absurd (Value.type.inj this) (by decide)
  refine wpAny_pyNext_enum_itemD (Draws.list (A:=X.A.in1) (I.ok.hd hc) it a hai its.toArray) he ⟨hit,p⟩ hsz hei (by simp[hei,hea]) fun y h' tk hy ho hst hT hsz' hk=>?_
  have hy':y=u:=by
   have:its.toArray[i]?=some y:=hy;have:its[i]?=some y:=by simpa using this
   rw[hu] at this;exact (bc this).symm
  subst hy';refine⟨_,rfl,?_⟩;refine wpAny_letOwnedTupleGo_enum ho fun h'' he'' hs''=>?_;have hTe:s.heap.objs.size≠e:=dE (aw he)
  have hTi:s.heap.objs.size≠it:=by obtain⟨o,hoi,_⟩:=hit;exact dE (aw hoi)
  have hnone:=I.hok.fresh (ag s.heap.objs.size);have kp:∀b o,b≠e->b≠it->s.heap.get? b=some o->h''.get? b=some o:=fun b o h1 h2 hb=>(hs''.2 b h1).trans (hk b o h1 h2 hb);have hT'':h''.get? s.heap.objs.size=some { cls:=.type "tuple",data:=.seq #[.int i tk,y] }:=(hs''.2 _ hTe).trans hT;obtain⟨oe,hoe⟩:∃o,h''.get? e=some o:=⟨_,he''⟩
  obtain⟨oi,hoi⟩:∃o,h''.get? it=some o:=by obtain⟨⟨o,ho2,_⟩,_⟩:=hst;exact⟨o,(hs''.2 it (Ne.symm hei)).trans ho2⟩
  have objK:∀b u',H b=some u'->b≠e/\b≠it:=fun b u' hb=>⟨zc hb f0,zc hb g0⟩
  have hok':HOk X.prog X.w (upd H s.heap.objs.size (.tup [.int i,x])) h'':=by
   intro b u' hb;by_cases hbT:b=s.heap.objs.size
   ·subst hbT;rw[zj] at hb;cases hb;exact⟨by show 2<=sizeLine;decide,[.int i tk,y],.cons ⟨tk,rfl⟩ (.cons ru .nil),_,hT'',rfl,⟨0,rfl⟩,rfl⟩
   ·rw[zh hbT] at hb;refine (I.hok b u' hb).stay (fun c v hcv q=>?_) (fun c q=>?_) (fun c ys q=>?_)
    ·refine kp c v ?_ ?_ q
     ·rcases hcv with rfl | hcv
      ·exact (objK _ _ hb).1
      ·exact zc hcv f0
     ·rcases hcv with rfl | hcv
      ·exact (objK _ _ hb).2
      ·exact zc hcv g0
    ·rw[zh (zc q hnone)];exact q
    ·rw[zh (zc q hnone)];exact q
  have I1:Inv X pins σ (upd H s.heap.objs.size (.tup [.int i,x])) { s with heap:=h'',toks:=tk+1 }:=by
   refine Inv.step (ch:=[e,it]) (g':=s.gens) (d':=s.drawn) (t':=tk+1) I (fun b hb=>?_) (fun b o h1 h2 h3 h4 h5=>?_) (fun b o h1 h2 h3 h4 h5=>?_) (fun b o h3 h4 h5=>?_) (fun b o h3 h4=>?_) (fun b ys q=>?_) (fun b o u' q=>?_) (fun b ps q=>?_) (fun m hm=>?_) hok' I.bare
   ·rcases aG.mp hb with rfl | hb
    ·exact⟨f3,f1,f4,f5⟩
    ·rw[aK.mp hb];exact⟨g3,g1,g4,g5⟩
   ·exact kp b o (fun z=>h3 (by simp[z])) (fun z=>h3 (by simp[z])) h4
   ·exact⟨o.slots,kp b o (fun z=>h3 (by simp[z])) (fun z=>h3 (by simp[z])) h4⟩
   ·rw[zh (aO (aw h4))];exact h5
   ·exact⟨o,kp b o (fun z=>h3 (by simp[z])) (fun z=>h3 (by simp[z])) h4⟩
   ·rw[zh (zc q hnone)];exact q
   ·rw[zh (zc q hnone)];exact q
   ·exact⟨#[],by rw[zh (zc q hnone),dw];exact q⟩
   ·obtain⟨o,es,ep,ho1,r1⟩:=hm;exact⟨o,es,ep,kp _ o (Ne.symm f1) (Ne.symm g1) ho1,r1⟩
  refine⟨.ref s.heap.objs.size,_,I1,rfl,⟨s.heap.objs.size,x,rfl,hnone,rfl,fun ys hy2=>by rw[I.list_inj hy2 hq];exact hx⟩,⟨⟨y,by have:=he'';push_cast;exact this⟩,?_⟩,fun b hb=>?_⟩
  ·obtain⟨⟨o,ho2,r2⟩,_⟩:=hst;exact⟨o,(hs''.2 it (Ne.symm hei)).trans ho2,r2⟩
  ·rcases aG.mp hb with rfl | hb
   ·rw[zh (Ne.symm hTe)];exact f0
   ·rw[aK.mp hb,zh (Ne.symm hTi)];exact g0
 done:=by
  intro X hP hw hK hc i pins s σ H E I hf st hg;subst hP hw hK;obtain⟨xs,hq,hx⟩:=hg;obtain⟨its,rv,p,hz⟩:=uv I hq;obtain⟨f0,f1,f2,f3,f4,f5⟩:=hf it (by simp);obtain⟨⟨old,he⟩,hit⟩:=st;have hl:=rv.length;have hT:s.TypeIs (.ref e) "enumerate" := ⟨_,he,rfl⟩;unfold pyNext
  refine ab (c5 (wpAny_callSpecial?_slot (name:=Str.ofString "__next__") hT F.slot_enumerate_next
   (bm F.slot_enumerate_next hT F.entry_enumerate_next ?_ (F.args_enumerate_next_1 _))))
  show wpAny _ _ (field (.ref e) 2 >>= _) _ _ _;refine ab (wpAny_field he rfl (x:=.ref it) rfl ?_);refine ab (wpAny_nextOf_list_end (A:=X.A.in1) (I.ok.hd hc) hit p (by simp;lia) fun h' x he' hx'=>?_);obtain⟨o,ho,hc'⟩:=hx';refine ab (cS (T := "StopIteration") (b:=true) ⟨o,ho,hc'⟩ dD ?_);exact ac ⟨rfl,I.turned (t':=s.toks) (fun b o hb e=>he' b o hb e) f0 f1 f3 f4 f5⟩
 self:=fun A i s Q E st h=>by obtain⟨⟨old,he⟩,hit⟩:=st;exact wpAny_pyIter_enum he h
def zlC (K:PySem.W.Frag)(ta:TA):TI:=fun σ H R=>ta σ H fun vs H1=>∃a,vs=[.ref a]/\(∃xs,SqL K H1 a xs)/\R (Iel K a) H1
theorem zkP {X:Cx}{elts:List Expr}{x1}{tpos:Pos}{a:Expr}{ta:TA}{p pos:Pos}(hg:Gl X "enumerate")(hm:X.mg "enumerate" = none)(ha:PA X [a] ta)(hs:starEach [a] X.env=[(false,eval a X.env)]:=by rfl) :
  PI X (.Tuple elts x1 tpos) (.Call (.Name "enumerate" p) [a] [] pos) (zlC X.K ta):=by
 intro pins s σ H R I h;refine Call_ (zc0 I hg hm boot_enumerate (cq (thn (ha pos pins s σ H _ I h) fun us s1 ⟨vs,H1,I1,r1,q1⟩=>?_) hs rfl));obtain⟨b,rfl,⟨xs,hq⟩,q⟩:=q1;obtain⟨u,rfl,ru⟩:=u6 r1;cases ru;obtain⟨its,rv,pt,hz⟩:=uv I1 hq;refine call_enumerate_list (show s1.heap.IsList b its.toArray from pt) fun h' he hit hsz hk=>?_;have I2:Inv X pins σ H1 { s1 with heap:=h',toks:=s1.toks }:=I1.kept (t':=s1.toks) hk;refine wpAny_pyIter_enum he ?_;refine⟨s1.heap.objs.size+1,[s1.heap.objs.size+1,s1.heap.objs.size],_,_,H1,rfl,I2,zg7 b s1.heap.objs.size (s1.heap.objs.size+1) (Nat.succ_ne_self _),⟨⟨_,he⟩,hit⟩,fun c hc=>?_,q⟩;rcases aG.mp hc with rfl | hc
 ·exact I1.fpOk (ef _) (I1.hok.fresh (ef _))
 ·rw[aK.mp hc];exact I1.fpOk (ag _) (I1.hok.fresh (ag _))
theorem zkY {X:Cx}{elts:List Expr}{x1}{tpos:Pos}{a:Expr}{ta:TA}{p pos:Pos}(hg:Gl X "enumerate")(hm:X.mg "enumerate" = none)(ha:QA X [a] ta)(hs:starEach [a] X.env=[(false,eval a X.env)]:=by rfl) :
  QI X (.Tuple elts x1 tpos) (.Call (.Name "enumerate" p) [a] [] pos) (zlC X.K ta):=⟨zkP hg hm ha.run hs⟩
def Izl (K:PySem.W.Frag)(a b:Addr):It:=
 ⟨fun i H=>∃xs ys x y,SqL K H a xs/\SqL K H b ys/\xs[i]?=some x/\ys[i]?=some y,fun i H v H'=>∃T x y,v = .ref T/\H T=none/\H'=upd H T (.tup [x,y])/\(∀xs,SqL K H a xs->xs[i]?=some x)/\∀ys,SqL K H b ys->ys[i]?=some y,fun i H=>∃xs ys,SqL K H a xs/\SqL K H b ys/\(xs.length<=i\/ys.length<=i)⟩
theorem zjK {P:Program}{w:World}{K:PySem.W.Frag}{elts:List Expr}{x1}{tpos:Pos}(z TI TO i1 i2 a b:Addr)(D:ZipApart z TI TO i1 i2 a b) :
  Turn P w K (.Tuple elts x1 tpos) (Izl K a b) [z,TI,TO,i1,i2] z (fun i h=>IsZip h z TI TO .none/\IsPair h TI (.ref i1) (.ref i2)/\(∃c d,IsPair h TO c d)/\h.IsListIter i1 a i/\h.IsListIter i2 b i) where
 mem:=by simp
 obj:=fun i h st c hc=>by
  obtain⟨hz,hTI,⟨u,v,hTO⟩,⟨o1,e1,c1,d1⟩,⟨o2,e2,c2,d2⟩⟩:=st;simp only[aG,cA,or_false] at hc;rcases hc with rfl | rfl | rfl | rfl | rfl
  ·exact⟨_,hz,fun v q=>by have q':Data.fields _=Data.cell v:=q;cases q'⟩
  ·exact⟨_,hTI,fun v q=>by have q':Data.seq _ 0=Data.cell v:=q;cases q'⟩
  ·exact⟨_,hTO,fun v q=>by have q':Data.seq _ 0=Data.cell v:=q;cases q'⟩
  ·exact⟨o1,e1,fun v q=>by rw[d1] at q;cases q⟩
  ·exact⟨o2,e2,fun v q=>by rw[d2] at q;cases q⟩
 keep:=fun i h h' st k=>by obtain⟨hz,hTI,⟨u,v,hTO⟩,⟨o1,e1,r1⟩,⟨o2,e2,r2⟩⟩:=st;exact⟨k z (by simp) _ hz,k TI (by simp) _ hTI,⟨u,v,k TO (by simp) _ hTO⟩,⟨o1,k i1 (by simp) _ e1,r1⟩,⟨o2,k i2 (by simp) _ e2,r2⟩⟩
 item:=by
  intro X hP hw hK hc i pins s σ H E I hf st hg;subst hP hw hK;obtain⟨xs,ys,x,y,hq1,hq2,hx,hy⟩:=hg;obtain⟨its1,rv1,p1,hz1⟩:=uv I hq1;obtain⟨its2,rv2,p2,hz2⟩:=uv I hq2;obtain⟨u1,hu1,ru1⟩:=rv1.get hx;obtain⟨u2,hu2,ru2⟩:=rv2.get hy;have fz:=hf z (by simp);have fTO:=hf TO (by simp);have f1:=hf i1 (by simp);have f2:=hf i2 (by simp);obtain⟨hz,hTI,⟨c0,d0,hTO⟩,hi1,hi2⟩:=st;have hT:s.TypeIs (.ref z) "zip" := ⟨_,hz,rfl⟩;unfold pyNext
  refine ab (c5 (wpAny_callSpecial?_slot (name:=Str.ofString "__next__") hT er
   (bm er hT F.entry_zip_next (zip_next_item (A:=X.A.in1) D hz hTI hTO hi1 hi2 p1 p2 (x:=u1) (y:=u2) (by simpa using hu1) (by simpa using hu2) fun h' gz gTO gi1 gi2 gT sz' hk=>?_) (F.args_zip_next_1 _))))
  refine ac ⟨_,rfl,?_⟩;refine wpAny_letOwnedTupleGo_zip (s:={ s with heap:=h' }) gz fun h'' gz'' hs''=>?_;have nz:∀b' o',s.heap.get? b'=some o'->s.heap.objs.size≠b':=fun b' o' e=>dE (aw e);have hTz:s.heap.objs.size≠z:=nz z _ hz;have hTTO:s.heap.objs.size≠TO:=nz TO _ hTO;have hT1:s.heap.objs.size≠i1:=by obtain⟨o,ho,_⟩:=hi1;exact nz i1 _ ho
  have hT2:s.heap.objs.size≠i2:=by obtain⟨o,ho,_⟩:=hi2;exact nz i2 _ ho
  have hTTI:s.heap.objs.size≠TI:=nz TI _ hTI;have hnone:=I.hok.fresh (ag s.heap.objs.size);have kp:∀c o,c≠z->c≠TO->c≠i1->c≠i2->s.heap.get? c=some o->h''.get? c=some o:=fun c o h1 h2 h3 h4 hb=>(hs''.2 c h1).trans (hk c o h1 h2 h3 h4 hb);have hT'':h''.get? s.heap.objs.size=some { cls:=.type "tuple",data:=.seq #[u1,u2] }:=(hs''.2 _ hTz).trans gT;have objK:∀b' u',H b'=some u'->b'≠z/\b'≠TO/\b'≠i1/\b'≠i2:=fun b' u' hb=>⟨zc hb fz.1,zc hb fTO.1,zc hb f1.1,zc hb f2.1⟩
  have hok':HOk X.prog X.w (upd H s.heap.objs.size (.tup [x,y])) h'':=by
   intro b' u' hb;by_cases hbT:b'=s.heap.objs.size
   ·subst hbT;rw[zj] at hb;cases hb;exact⟨by show 2<=sizeLine;decide,[u1,u2],.cons ru1 (.cons ru2 .nil),_,hT'',rfl,⟨0,rfl⟩,rfl⟩
   ·rw[zh hbT] at hb;refine (I.hok b' u' hb).stay (fun c v hcv q=>?_) (fun c q=>?_) (fun c ys q=>?_)
    ·have:c≠z/\c≠TO/\c≠i1/\c≠i2:=by
      rcases hcv with rfl | hcv
      ·exact objK _ _ hb
      ·exact⟨zc hcv fz.1,zc hcv fTO.1,zc hcv f1.1,zc hcv f2.1⟩
     exact kp c v this.1 this.2.1 this.2.2.1 this.2.2.2 q
    ·rw[zh (zc q hnone)];exact q
    ·rw[zh (zc q hnone)];exact q
  have kp':∀c o,c∉[z,TO,i1,i2]->s.heap.get? c=some o->h''.get? c=some o:=fun c o hc e=>kp c o (fun q=>hc (by simp[q])) (fun q=>hc (by simp[q])) (fun q=>hc (by simp[q])) (fun q=>hc (by simp[q])) e
  have I1:Inv X pins σ (upd H s.heap.objs.size (.tup [x,y])) { s with heap:=h'',toks:=s.toks }:=by
   refine Inv.step (ch:=[z,TO,i1,i2]) (g':=s.gens) (d':=s.drawn) (t':=s.toks) I (fun c hc=>?_) (fun c o h1 h2 h3 h4 h5=>?_) (fun c o h1 h2 h3 h4 h5=>?_) (fun c o h3 h4 h5=>?_) (fun c o h3 h4=>?_) (fun c ys q=>?_) (fun c o u' q=>?_) (fun c ps q=>?_) (fun m hm=>?_) hok' I.bare
   ·simp only[aG,cA,or_false] at hc;rcases hc with rfl | rfl | rfl | rfl
    ·exact⟨fz.2.2.2.1,fz.2.1,fz.2.2.2.2.1,fz.2.2.2.2.2⟩
    ·exact⟨fTO.2.2.2.1,fTO.2.1,fTO.2.2.2.2.1,fTO.2.2.2.2.2⟩
    ·exact⟨f1.2.2.2.1,f1.2.1,f1.2.2.2.2.1,f1.2.2.2.2.2⟩
    ·exact⟨f2.2.2.2.1,f2.2.1,f2.2.2.2.2.1,f2.2.2.2.2.2⟩
   ·exact kp' c o h3 h4
   ·exact⟨o.slots,kp' c o h3 h4⟩
   ·rw[zh (aO (aw h4))];exact h5
   ·exact⟨o,kp' c o h3 h4⟩
   ·rw[zh (zc q hnone)];exact q
   ·rw[zh (zc q hnone)];exact q
   ·exact⟨#[],by rw[zh (zc q hnone),dw];exact q⟩
   ·obtain⟨o,es,ep,ho1,r1⟩:=hm;exact⟨o,es,ep,kp _ o (Ne.symm fz.2.1) (Ne.symm fTO.2.1) (Ne.symm f1.2.1) (Ne.symm f2.2.1) ho1,r1⟩
  refine⟨.ref s.heap.objs.size,_,I1,rfl,⟨s.heap.objs.size,x,y,rfl,hnone,rfl,fun zs hz'=>by rw[I.list_inj hz' hq1];exact hx,fun zs hz'=>by rw[I.list_inj hz' hq2];exact hy⟩,⟨gz'',?_,⟨_,_,(hs''.2 TO D.TOz).trans gTO⟩,?_,?_⟩,fun c hc=>?_⟩
  ·exact kp TI _ D.TIz D.TITO D.TIi1 D.TIi2 hTI
  ·obtain⟨o,ho,r⟩:=gi1;exact⟨o,(hs''.2 i1 D.i1z).trans ho,r⟩
  ·obtain⟨o,ho,r⟩:=gi2;exact⟨o,(hs''.2 i2 D.i2z).trans ho,r⟩
  ·simp only[aG,cA,or_false] at hc;rcases hc with rfl | rfl | rfl | rfl | rfl
   ·rw[zh (Ne.symm hTz)];exact fz.1
   ·rw[zh (Ne.symm hTTI)];exact (hf _ (by simp)).1
   ·rw[zh (Ne.symm hTTO)];exact fTO.1
   ·rw[zh (Ne.symm hT1)];exact f1.1
   ·rw[zh (Ne.symm hT2)];exact f2.1
 done:=by
  intro X hP hw hK hc i pins s σ H E I hf st hg;subst hP hw hK;obtain⟨xs,ys,hq1,hq2,hx⟩:=hg;obtain⟨its1,rv1,p1,hzz⟩:=uv I hq1;obtain⟨its2,rv2,p2,hzz2⟩:=uv I hq2;have fz:=hf z (by simp);have fTO:=hf TO (by simp);have f1:=hf i1 (by simp);have f2:=hf i2 (by simp);obtain⟨hz,hTI,⟨c0,d0,hTO⟩,hi1,hi2⟩:=st;have hl1:=rv1.length;have hl2:=rv2.length;have hT:s.TypeIs (.ref z) "zip" := ⟨_,hz,rfl⟩;unfold pyNext
  refine ab (c5 (wpAny_callSpecial?_slot (name:=Str.ofString "__next__") hT er
   (bm er hT F.entry_zip_next (zip_next_end (A:=X.A.in1) (I.ok.hd hc) D hz hTI hTO hi1 hi2 p1 p2 (hx.elim (fun z=>.inl (by simp;lia)) fun z=>.inr (by simp;lia)) fun h' e ko he=>?_) (F.args_zip_next_1 _))))
  obtain⟨o,ho,hc'⟩:=he;refine ab (cS (T := "StopIteration") (b:=true) ⟨o,ho,hc'⟩ dD ?_);refine ac ⟨rfl,?_⟩;have kp':∀c o,c∉[z,TO,i1,i2]->s.heap.get? c=some o->h'.get? c=some o:=fun c o hc e=>ko c o (fun q=>hc (by simp[q])) (fun q=>hc (by simp[q])) (fun q=>hc (by simp[q])) (fun q=>hc (by simp[q])) e;refine Inv.step (ch:=[z,TO,i1,i2]) (g':=s.gens) (d':=s.drawn) (t':=s.toks) I (fun c hc=>?_) (fun c o h1 h2 h3 h4 h5=>kp' c o h3 h4) (fun c o h1 h2 h3 h4 h5=>⟨o.slots,kp' c o h3 h4⟩) (fun c o h3 h4 h5=>h5) (fun c o h3 h4=>⟨o,kp' c o h3 h4⟩) (fun c ys q=>q) (fun c o u' q=>q) (fun c ps q=>⟨#[],by rw[dw];exact q⟩) (fun m hm=>?_) (fun b' u' hb=>?_) I.bare
  ·simp only[aG,cA,or_false] at hc;rcases hc with rfl | rfl | rfl | rfl
   ·exact⟨fz.2.2.2.1,fz.2.1,fz.2.2.2.2.1,fz.2.2.2.2.2⟩
   ·exact⟨fTO.2.2.2.1,fTO.2.1,fTO.2.2.2.2.1,fTO.2.2.2.2.2⟩
   ·exact⟨f1.2.2.2.1,f1.2.1,f1.2.2.2.2.1,f1.2.2.2.2.2⟩
   ·exact⟨f2.2.2.2.1,f2.2.1,f2.2.2.2.2.1,f2.2.2.2.2.2⟩
  ·obtain⟨o,es,ep,ho1,r1⟩:=hm;exact⟨o,es,ep,ko _ o (Ne.symm fz.2.1) (Ne.symm fTO.2.1) (Ne.symm f1.2.1) (Ne.symm f2.2.1) ho1,r1⟩
  ·refine (I.hok b' u' hb).stay (fun c v hcv q=>?_) (fun c q=>q) (fun c ys q=>q)
   have:c≠z/\c≠TO/\c≠i1/\c≠i2:=by
    rcases hcv with rfl | hcv
    ·exact⟨zc hb fz.1,zc hb fTO.1,zc hb f1.1,zc hb f2.1⟩
    ·exact⟨zc hcv fz.1,zc hcv fTO.1,zc hcv f1.1,zc hcv f2.1⟩
   exact ko c v this.1 this.2.1 this.2.2.1 this.2.2.2 q
 self:=fun A i s Q E st h=>by obtain⟨hz,_⟩:=st;exact wpAny_pyIter_zip hz h
def zpm (K:PySem.W.Frag)(ta:TA):TI:=fun σ H R=>ta σ H fun vs H1=>∃a b,vs=[.ref a,.ref b]/\(∃xs,SqL K H1 a xs)/\(∃ys,SqL K H1 b ys)/\R (Izl K a b) H1
theorem znv {X:Cx}{elts:List Expr}{x1}{tpos:Pos}{a b:Expr}{ta:TA}{p pos:Pos}(hg:Gl X "zip")(hm:X.mg "zip" = none)(ha:PA X [a,b] ta)(hs:starEach [a,b] X.env=[(false,eval a X.env),(false,eval b X.env)]:=by rfl)(hs2:starEach [b] X.env=[(false,eval b X.env)]:=by rfl) :
  PI X (.Tuple elts x1 tpos) (.Call (.Name "zip" p) [a,b] [] pos) (zpm X.K ta):=by
 intro pins s σ H R I h;refine Call_ (zc0 I hg hm boot_zip (cq (thn (ha pos pins s σ H _ I h) fun us s1 ⟨vs,H1,I1,r1,q1⟩=>?_) (by rw[hs,hs2]) (by rw[hs2];rfl)));obtain⟨c,d,e,⟨xs,hq1⟩,⟨ys,hq2⟩,q⟩:=q1;subst e
 cases r1 with
 | cons r rr=>
  cases rr with
  | cons r' rr=>
   cases rr;cases r;cases r';obtain⟨its1,rv1,p1,hz1⟩:=uv I1 hq1;obtain⟨its2,rv2,p2,hz2⟩:=uv I1 hq2;have lt1:c<s1.heap.objs.size:=by obtain⟨o,ho,_⟩:=id p1;exact aw ho
   have lt2:d<s1.heap.objs.size:=by obtain⟨o,ho,_⟩:=id p2;exact aw ho
   refine call_zip_2 (show s1.heap.IsList c its1.toArray from p1) (show s1.heap.IsList d its2.toArray from p2) fun h' gz gTI gTO gi1 gi2 hsz hk=>?_;have I2:Inv X pins σ H1 { s1 with heap:=h',toks:=s1.toks }:=I1.kept (t':=s1.toks) hk;refine wpAny_pyIter_zip gz ?_;refine⟨s1.heap.objs.size+4,[s1.heap.objs.size+4,s1.heap.objs.size+2,s1.heap.objs.size+3,s1.heap.objs.size,s1.heap.objs.size+1],_,_,H1,rfl,I2,zjK _ _ _ _ _ c d (zipApart_new lt1 lt2),⟨gz,gTI,⟨_,_,gTO⟩,gi1,gi2⟩,fun e he=>?_,q⟩;simp only[aG,cA,or_false] at he;rcases he with rfl | rfl | rfl | rfl | rfl
   ·exact I1.fpOk (by lia) (I1.hok.fresh (by lia))
   ·exact I1.fpOk (by lia) (I1.hok.fresh (by lia))
   ·exact I1.fpOk (by lia) (I1.hok.fresh (by lia))
   ·exact I1.fpOk (ag _) (I1.hok.fresh (ag _))
   ·exact I1.fpOk (by lia) (I1.hok.fresh (by lia))
theorem znV {X:Cx}{elts:List Expr}{x1}{tpos:Pos}{a b:Expr}{ta:TA}{p pos:Pos}(hg:Gl X "zip")(hm:X.mg "zip" = none)(ha:QA X [a,b] ta)(hs:starEach [a,b] X.env=[(false,eval a X.env),(false,eval b X.env)]:=by rfl)(hs2:starEach [b] X.env=[(false,eval b X.env)]:=by rfl) :
  QI X (.Tuple elts x1 tpos) (.Call (.Name "zip" p) [a,b] [] pos) (zpm X.K ta):=⟨znv hg hm ha.run hs hs2⟩
section
variable {prog:Program}{w:World}{A:Around}{E:Value->Shared->Prop}{s:Shared}
end
section
variable {X:Cx}
def zn1:V->List V->Hp->VK->Prop:=fun x vs H Q=>∃l xs k y,x = .ref l/\vs=[.int k,y]/\H l=some (.lst xs)/\0<=k/\k<=xs.length/\xs.length<sizeLine/\Q .non (upd H l (.lst (xs.take k.toNat++y::xs.drop k.toNat)))
theorem ziO:MtM X "list.insert" zn1:=by
 intro pins s σ H x vs v us Q I rx rv h;obtain⟨l,xs,k,y,rfl,rfl,hH,h0,h1,hz,q⟩:=h;cases rx
 cases rv with
 | cons r1 rr=>
  cases rr with
  | cons r2 rn=>
   cases rn;obtain⟨t,rfl⟩:=r1;obtain⟨z,its,n,r,hl,e⟩:=I.lstM hH
   have hk:k<2 ^ 63:=by
    have:(xs.length:Int)<=2 ^ 40:=by have h2:xs.length<=2 ^ 40:=ax (ck hz) (by decide);lia
    lia
   refine dX PySem.F.slot_list_insert ⟨_,e,rfl⟩ PySem.F.entry_list_insert (PySem.F.args_list_insert_3 _ _ _)
    (AutoSeq1.list_insert_list_int_val_1 l its.toArray n k t _ (by rw[fitsIndex_both (by lia) hk];decide) (by rw[aq];lia)) ⟨e,?_⟩
   refine⟨.non,_,I.lset (its':=its.take k.toNat++_::its.drop k.toNat) hH e ?_ ((r.take _).append (.cons r2 (r.drop _))) ?_,rfl,q⟩
   ·show (its.toArray.extract 0 (if k<0 then (k+(its.toArray.size:Int)).toNat else min k.toNat its.toArray.size)).push _++its.toArray.extract (if k<0 then (k+(its.toArray.size:Int)).toNat else min k.toNat its.toArray.size)=_;rw[if_neg (by lia),aq,ei (by lia)];apply Array.toList_inj.mp;simp;rw[bK (by rw[bf];exact ag _)]
   ·rw[af,aS,aJ,bf];lia
theorem zeN {T:String}{name:Str}{id:String}{r:V->List V->Hp->VK->Prop}{o e:Expr}{es:List Expr}{to:TE}{t:TA}{apos cpos:Pos}(pa:PlainAttrs T)(slot:Slot T name id)(hty:typeOf (.builtin id)=pure (.type "method_descriptor"))(hm:MtR X id r)(ho:QE X o to)(ha:QA X (e::es) t)
  (hbase:attributeBase o name X.env (eval o X.env)=eval o X.env:=by rfl)
  (hfew:((backTo cpos (starEach (e::es) X.env)).all (fun x=>!x.1)&&(backToKw cpos (keywordEach [] X.env)).all (fun x=>x.1.isSome)
   && decide ((e::es).length+([]:List Keyword).length+(if ([]:List Keyword).isEmpty then 0 else 1)<30))=true:=by rfl)
  (hline:(apos.endLine==cpos.line)=true:=by rfl) (hs:starEach (e::es) X.env=(false,eval e X.env)::starEach es X.env:=by rfl) (hplain:(backTo cpos (starEach es X.env)).any (·.1)=false:=by rfl) :
  QE X (.Call (.Attribute o name apos) (e::es) [] cpos) (tBM X.K T r to t):=⟨zp9 pa slot hty hm ho.run ha.run hbase hfew hline hs hplain⟩
def zjm:List V->Hp->VK->Prop:=fun xs H Q=>∃ (l:Addr) (ns:List Int),xs=[.ref l]/\H l=some (.lst (ns.map V.int))/\ns.length<64/\∀ns':List Int,ns'.Perm ns->ns'.Pairwise (·<=·)->New H (.lst (ns'.map V.int)) Q
theorem zbA:∀ {ns:List Int} {its:List Value},z4 (ns.map V.int) its->IntsAre its ns
 | [],_,h=>by cases h;exact .nil
 | n::ns,_,h=>by
  cases h with
  | cons r1 r2=>
   obtain⟨t,rfl⟩:=r1;exact .cons _ _ (zbA r2)
theorem zj0 {ns:List Int}{its:List Value}(h:IntsAre its ns):z4 (ns.map V.int) its:=by
 induction h with
 | nil=>exact .nil
 | cons _ _ _ ih=>exact .cons ⟨_,rfl⟩ ih
theorem zj9:CallQ X (.builtin "sorted") zjm:=⟨by
 intro pins s σ H xs us Q I r h;obtain⟨l,ns,rfl,hl,h64,q⟩:=h;obtain⟨u,rfl,ru⟩:=u6 r;cases ru;obtain⟨its,rv,pl,hz⟩:=I.list (.of hl);obtain⟨m0,hns,_⟩:=id I.loc;refine PySem.W.kso_sorted (h₀:=(⟨#[],{}⟩:Heap)) (L:=X.env.locals) (m:=m0) (news:=zaO s.heap X.env.locals) ⟨hns,fun b o e=>?_,a8 _⟩ (fun p hp=>?_) pl.isList (zbA rv) h64 fun D vs' ns' c h' F N hDlt hi hlen hp hs _=>?_
 ·have:=aw e;simp at this
 ·obtain⟨b,o⟩:=p;have:=zQ.mp hp;refine⟨this.2,this.1,?_⟩
  cases e:(⟨#[],{}⟩:Heap).get? b with
  | none=>rfl
  | some o'=>
   have:=aw e;simp at this
 ·have kp2:∀b o,b≠X.env.locals->s.heap.get? b=some o->h'.get? b=some o:=fun b o hb e=>(N (b,o) (ak _ (zQ.mpr ⟨hb,e⟩))).1;have hDL:D≠X.env.locals:=(N (D,_) ah).2.1
  have hDn:s.heap.get? D=none:=by
   cases e:s.heap.get? D with
   | none=>rfl
   | some o=>exact absurd (hDlt (D,o) (zQ.mpr ⟨hDL,e⟩)) (bQ _)
  have hHD:H D=none:=by
   cases e:H D with
   | none=>rfl
   | some o=>
    obtain⟨o',ho'⟩:=zaF (I.hok D o e);rw[hDn] at ho';cases ho'
  have hout:=(N (D,_) ah).1;have I':=zds I hns (ys:=ns'.map V.int) kp2 F.ns hDn hHD hout (zj0 hi) (by rw[aa,hlen,bI];lia) s.toks;exact⟨.ref D,_,I',rfl,(q ns' hp hs).at hHD⟩⟩
end
end L2
namespace L3
open PySem L2
abbrev zq:=Addr×Addr×List Int
inductive W where
 | d (x:Dt) | pen (p:Addr) | dk (kvs:List (Key×Dt)) | dt (kvs:List (List Int×Dt)) | ss (P:Program) (w:World) (ks:List (List Int))
abbrev Mo (α:Type):=Nat->(α->Nat->Prop)->Prop
abbrev Ev:=List (Option W)
def NP (o:HO):Prop:=∀kvs,o = .dK kvs->za9 kvs (Sum.inr "at" : Key)=none
theorem NP.lst {xs:List V}:NP (.lst xs):=fun _ e=>by cases e
open Classical in
noncomputable def yd (A:Addr->Prop)(H:Hp):Hp:=fun b=>if A b then none else H b
section
variable {A A0:Addr->Prop}{H H' G G' T T':Hp}{a b:Addr}{o:HO}
theorem yQ:yd A H b=some o↔¬ A b/\H b=some o:=by
 unfold yd;by_cases h:A b
 ·simp[h]
 ·simp[h]
theorem ye (h:¬ A b)(e:H b=some o):yd A H b=some o:=yQ.mpr ⟨h,e⟩
theorem zE:x4 (yd A H) H:=fun b o e=>(yQ.mp e).2
theorem zN (s:zx H H'):zx (yd A H) (yd A H'):=fun b o e n=>ye (yQ.mp e).1 (s b o (yQ.mp e).2 n)
theorem zbY (s:x4 H H'):x4 (yd A H) (yd A H'):=fun b o e=>ye (yQ.mp e).1 (s b o (yQ.mp e).2)
theorem xj (h:∀b,A0 b->A b):x4 (yd A H) (yd A0 H):=fun b o e=>ye (fun z=>(yQ.mp e).1 (h b z)) (yQ.mp e).2
theorem yk (h:A a):yd A (upd H a o)=yd A H:=by
 funext b;unfold yd;by_cases hb:A b
 ·simp[hb]
 ·have:b≠a:=fun e=>hb (e ▸ h);simp[hb,zh this]
end
def DAt (T G:Hp):Dt->V->Prop
 | .lst l,v=>∃a xs,v = .ref a/\T a=some (.lst xs)/\IsL G l xs
 | .dct,v=>∃a kvs,v = .ref a/\T a=some (.dK kvs)/\za9 kvs (Sum.inr "at" : Key)=none
 | .non,v=>Is G .non v
 | .bl b,v=>Is G (.bl b) v
 | .int i,v=>Is G (.int i) v
 | .str x,v=>Is G (.str x) v
 | .tup l,v=>Is G (.tup l) v
theorem DAt.is {G:Hp}{x:Dt}{v:V}(h:DAt G G x v):Is G x v:=by cases x <;> exact h
theorem DAt.of {G:Hp}{x:Dt}{v:V}(h:Is G x v):DAt G G x v:=by cases x <;> exact h
theorem DAt.up {T T' G G':Hp}{x:Dt}{v:V}(t:zx T T')(g:zx G G')(h:DAt T G x v):DAt T' G' x v:=by
 cases x with
 | lst l=>obtain⟨a,xs,e,h1,h2⟩:=h;exact⟨a,xs,e,t.lst h1,h2.stay g⟩
 | dct=>obtain⟨a,kvs,e,h1,h2⟩:=h;exact⟨a,kvs,e,t _ _ h1 fun k q=>by cases q;exact h2,h2⟩
 | _=>exact Is.stay g h
theorem DAt.full {T G H:Hp}{x:Dt}{v:V}(t:x4 T H)(g:x4 G H)(h:DAt T G x v):Is H x v:=(DAt.up (zx.same t) (zx.same g) h).is
def uR {κ:Type}(G:Hp):List (κ×Dt)->List (κ×V)->Prop
 | [],ks=>ks=[]
 | q::r,ks=>∃v s,ks=(q.1,v)::s/\Is G q.2 v/\uR G r s
theorem uR.stay {κ:Type}{G G':Hp}(s:zx G G'):∀ {kvs:List (κ×Dt)} {ks:List (κ×V)},uR G kvs ks->uR G' kvs ks
 | [],_,h=>h
 | q::r,ks,⟨v,t,e,h1,h2⟩=>⟨v,t,e,h1.stay s,uR.stay s h2⟩
def SIs (G:Hp)(ks:List (List Int))(xs:List (List Int×Addr)):Prop:=ks=xs.map (·.1)/\(∀q∈xs,G q.2=some (.tup (q.1.map V.int)))/\ks.Nodup
theorem SIs.stay {G G':Hp}{ks:List (List Int)}{xs:List (List Int×Addr)}(h:SIs G ks xs)(s:zx G G'):SIs G' ks xs:=⟨h.1,fun q hq=>s _ _ (h.2.1 q hq) (fun _ e=>by cases e),h.2.2⟩
def WAt (T G:Hp):W->V->Prop
 | .d x,v=>DAt T G x v
 | .pen p,v=>v = .ref p
 | .dk kvs,v=>∃a ks,v = .ref a/\T a=some (.dK ks)/\uR G kvs ks/\za9 ks (Sum.inr "at" : Key)=none
 | .dt kvs,v=>∃a ks,v = .ref a/\T a=some (dtO ks)/\uR G kvs ks
 | .ss P w ks,v=>∃a xs,v = .ref a/\T a=some (zgz P w a (uE xs))/\SIs G ks xs
theorem WAt.up {T T' G G':Hp}{w:W}{v:V}(t:zx T T')(g:zx G G')(h:WAt T G w v):WAt T' G' w v:=by
 cases w with
 | d x=>exact DAt.up t g h
 | pen p=>exact h
 | dk kvs=>
  obtain⟨a,ks,e,h1,h2,h3⟩:=h;exact⟨a,ks,e,t _ _ h1 fun k q=>by cases q;exact h3,h2.stay g,h3⟩
 | dt kvs=>
  obtain⟨a,ks,e,h1,h2⟩:=h;exact⟨a,ks,e,t _ _ h1 (fun k q=>by cases q),h2.stay g⟩
 | ss P w kvs=>
  obtain⟨a,ks,e,h1,h2⟩:=h;exact⟨a,ks,e,t _ _ h1 (fun k q=>by cases q),h2.stay g⟩
@[reducible] def W.mut:W->Bool
 | .d (.lst _)=>true
 | .d .dct=>true
 | .dk _=>true
 | .dt _=>true
 | .ss _ _ _=>true
 | _=>false
abbrev Val (A:Addr->Prop)(H:Hp)(w:W)(v:V):Prop:=WAt (yd A H) (yd A H) w v
abbrev Bor (A:Addr->Prop)(H:Hp)(w:W)(v:V):Prop:=WAt H (yd A H) w v
theorem Val.bor {A:Addr->Prop}{H:Hp}{w:W}{v:V}(h:Val A H w v):Bor A H w v:=WAt.up (zx.same zE) (zx.refl _) h
theorem Val.stay {A:Addr->Prop}{H H':Hp}{w:W}{v:V}(h:Val A H w v)(s:zx H H'):Val A H' w v:=WAt.up (zN s) (zN s) h
theorem Bor.stay {A:Addr->Prop}{H H':Hp}{w:W}{v:V}(h:Bor A H w v)(s:zx H H'):Bor A H' w v:=WAt.up s (zN s) h
theorem Bor.is {A:Addr->Prop}{H:Hp}{x:Dt}{v:V}(h:Bor A H (.d x) v):Is H x v:=DAt.full (zjw _) zE h
theorem Val.is {A:Addr->Prop}{H:Hp}{x:Dt}{v:V}(h:Val A H (.d x) v):Is (yd A H) x v:=DAt.is h
theorem Val.of {A:Addr->Prop}{H:Hp}{x:Dt}{v:V}(h:Is (yd A H) x v):Val A H (.d x) v:=DAt.of h
mutual
theorem zpn {A:Addr->Prop}{H:Hp}(hA:∀a xs,A a->H a≠some (.tup xs)):∀ {x:Dt} {v:V},x.noL=true->Is H x v->Is (yd A H) x v
 | .non,_,_,h=>h
 | .bl _,_,_,h=>h
 | .int _,_,_,h=>h
 | .str _,_,_,h=>h
 | .tup l,_,n,h=>by obtain⟨p,xs,e,hp,hl⟩:=h;exact⟨p,xs,e,ye (fun z=>hA p xs z hp) hp,zb1 hA (by simpa [Dt.noL] using n) hl⟩
 | .lst l,_,n,_=>by simp[Dt.noL] at n
 | .dct,_,n,_=>by simp[Dt.noL] at n
theorem zb1 {A:Addr->Prop}{H:Hp}(hA:∀a xs,A a->H a≠some (.tup xs)):∀ {ds:List Dt} {xs:List V},Dt.noLs ds=true->IsL H ds xs->IsL (yd A H) ds xs
 | [],_,_,h=>h
 | d::ds,xs,n,h=>by
  obtain⟨x,r,e,h1,h2⟩:=h;have n':(d.noL&&Dt.noLs ds)=true:=by simpa [Dt.noLs] using n
  rw[ay] at n';exact⟨x,r,e,zpn hA n'.1 h1,zb1 hA n'.2 h2⟩
end
def xq (Pn:Option zq)(A:Addr->Prop)(n:Nat)(H:Hp):Prop:=
 match Pn with
 | none=>True
 | some (p,c,ns)=>Pen H p c ns n/\¬ A c/\¬ A p
def Own (A:Addr->Prop)(H:Hp)(w:W)(v:V):Prop:=∃a,v = .ref a/\A a/\Bor A H w v/\w.mut=true
def Al (A:Addr->Prop)(H:Hp):Prop:=∀a,A a->∃o,H a=some o/\NP o/\∀xs,o≠.tup xs
structure EnvR (A:Addr->Prop)(M:List Nat)(σ:St)(H:Hp)(ρ:Ev):Prop where
 len:σ.length=ρ.length
 val:∀i w,ρ[i]?=some (some w)->∃v,σ[i]?=some (some v)/\(i∉M->Val A H w v)/\(i∈M->Own A H w v)
 dis:∀i j w u a,i∈M->j∈M->i≠j->ρ[i]?=some (some w)->ρ[j]?=some (some u)->σ[i]?=some (some (.ref a))->σ[j]?≠some (some (.ref a))
 al:Al A H
theorem EnvR.stay {A:Addr->Prop}{M:List Nat}{σ:St}{H H':Hp}{ρ:Ev}(E:EnvR A M σ H ρ)(s:zx H H'):EnvR A M σ H' ρ where
 len:=E.len
 val:=fun i w e=>by obtain⟨v,h1,h2,h3⟩:=E.val i w e;refine⟨v,h1,fun z=>(h2 z).stay s,fun z=>?_⟩;obtain⟨a,e,h4,h5,h6⟩:=h3 z;exact⟨a,e,h4,h5.stay s,h6⟩
 dis:=E.dis
 al:=fun a h=>by obtain⟨o,h1,h2,h3⟩:=E.al a h;exact⟨o,s _ _ h1 h2,h2,h3⟩
theorem EnvR.new {A:Addr->Prop}{M:List Nat}{σ:St}{H:Hp}{ρ:Ev}(E:EnvR A M σ H ρ){p:Addr}(h:H p=none):¬ A p:=fun z=>by obtain⟨o,h1,_⟩:=E.al p z;rw[h] at h1;cases h1
def Fr (H:Hp)(a:Addr):Prop:=∀o,H a=some o->¬ NP o
theorem Fr.of {H:Hp}{a:Addr}(h:H a=none):Fr H a:=fun o e=>by rw[h] at e;cases e
theorem Fr.back {H H1:Hp}{a:Addr}(h:Fr H1 a)(s:zx H H1):Fr H a:=fun o e n=>h o (s _ _ e n) n
def FrV (A:Addr->Prop)(H H':Hp)(w:W)(v:V):Prop:=∃a,v = .ref a/\Fr H a/\WAt H' (yd (fun b=>A b\/b=a) H') w v
theorem FrV.back {A:Addr->Prop}{H H1 H':Hp}{w:W}{v:V}(h:FrV A H1 H' w v)(s:zx H H1):FrV A H H' w v:=let ⟨a,e,f,g⟩:=h;⟨a,e,f.back s,g⟩
theorem FrV.less {A A0:Addr->Prop}{H H':Hp}{w:W}{v:V}(h:FrV A H H' w v)(s:∀a,A0 a->A a):FrV A0 H H' w v:=let ⟨a,e,f,g⟩:=h;⟨a,e,f,WAt.up (zx.refl _) (zx.same (xj fun b z=>z.elim (fun z=>.inl (s b z)) .inr)) g⟩
theorem EnvR.newF {A:Addr->Prop}{M:List Nat}{σ:St}{H:Hp}{ρ:Ev}(E:EnvR A M σ H ρ){p:Addr}(h:Fr H p):¬ A p:=fun z=>by obtain⟨o,h1,h2,_⟩:=E.al p z;exact h o h1 h2
theorem yP {A:Addr->Prop}{H H':Hp}{p:Addr}(s:zx H H')(n:Fr H p):zx (yd A H) (yd (fun b=>A b\/b=p) H'):=fun b o e np=>by obtain⟨h1,h2⟩:=yQ.mp e;exact ye (fun z=>z.elim h1 fun z=>by subst z;exact n o h2 np) (s b o h2 np)
structure Go (Pn:Option zq)(A:Addr->Prop)(H:Hp)(n:Nat)(H':Hp):Prop where
 st:zx H H'
 pn:xq Pn A n H'
theorem Go.trans {Pn:Option zq}{A:Addr->Prop}{H H1 H2:Hp}{n m:Nat}(a:Go Pn A H n H1)(b:Go Pn A H1 m H2):Go Pn A H m H2:=⟨a.st.trans b.st,b.pn⟩
structure RE (Pn:Option zq)(M:List Nat)(fr:Bool)(te:TE)(f:Ev->Mo W):Prop where
 run:∀A σ H ρ n Q R,EnvR A M σ H ρ->xq Pn A n H->f ρ n R->(∀w m v H',R w m->Val A H' w v->Go Pn A H m H'->(fr=true->FrV A H H' w v)->Q v H')->te σ H Q
structure RB (Pn:Option zq)(M:List Nat)(te:TE)(f:Ev->Mo W):Prop where
 run:∀A σ H ρ n Q R,EnvR A M σ H ρ->xq Pn A n H->f ρ n R->(∀w m v H',R w m->Bor A H' w v->Go Pn A H m H'->Q v H')->te σ H Q
structure RT (Pn:Option zq)(M:List Nat)(te:TT)(f:Ev->Mo Bool):Prop where
 run:∀A σ H ρ n Q R,EnvR A M σ H ρ->xq Pn A n H->f ρ n R->(∀b m H',R b m->Go Pn A H m H'->Q b H')->te σ H Q
def zoF (A:Addr->Prop)(H:Hp):List W->List V->Prop
 | [],vs=>vs=[]
 | w::ws,vs=>∃v r,vs=v::r/\Bor A H w v/\zoF A H ws r
def zcP (A:Addr->Prop)(H:Hp):List W->List V->Prop
 | [],vs=>vs=[]
 | w::ws,vs=>∃v r,vs=v::r/\Val A H w v/\zcP A H ws r
theorem zcP.bor {A:Addr->Prop}{H:Hp}:∀ {ws:List W} {vs:List V},zcP A H ws vs->zoF A H ws vs
 | [],_,h=>h
 | _::_,_,⟨v,r,e,h1,h2⟩=>⟨v,r,e,h1.bor,zcP.bor h2⟩
structure RA (Pn:Option zq)(M:List Nat)(ta:TA)(f:Ev->Mo (List W)):Prop where
 run:∀A σ H ρ n Q R,EnvR A M σ H ρ->xq Pn A n H->f ρ n R->(∀ws m vs H',R ws m->zcP A H' ws vs->Go Pn A H m H'->Q vs H')->ta σ H Q
structure RAB (Pn:Option zq)(M:List Nat)(ta:TA)(f:Ev->Mo (List W)):Prop where
 run:∀A σ H ρ n Q R,EnvR A M σ H ρ->xq Pn A n H->f ρ n R->(∀ws m vs H',R ws m->zoF A H' ws vs->Go Pn A H m H'->Q vs H')->ta σ H Q
structure Kt where
 nx:Ev->Nat->Prop
 rt:W->Nat->Prop
 bk:Ev->Nat->Prop:=fun _ _=>False
 ct:Ev->Nat->Prop:=fun _ _=>False
abbrev Ms:=Ev->Nat->Kt->Prop
def StX (ca:Addr->Prop)(H0 H:Hp):Prop:=∀b o,H0 b=some o->NP o->¬ ca b->H b=some o
theorem StX.of {ca:Addr->Prop}{H0 H:Hp}(s:zx H0 H):StX ca H0 H:=fun b o e n _=>s b o e n
theorem StX.stay {H0 H:Hp}(s:StX (fun _=>False) H0 H):zx H0 H:=fun b o e n=>s b o e n fun z=>z
structure Frm (A0:Addr->Prop)(H0:Hp)(ca:Addr->Prop)(A:Addr->Prop)(H:Hp):Prop where
 sub:∀a,A0 a->A a
 new:∀a,A a->A0 a\/Fr H0 a\/ca a
 st:StX ca H0 H
 al:Al A0 H0
 cn:∀a,ca a->¬ A0 a
 cs:∀a,ca a->∃o,H a=some o/\NP o
theorem Frm.back {A0:Addr->Prop}{H0:Hp}{ca A:Addr->Prop}{H:Hp}(f:Frm A0 H0 ca A H){a:Addr}(h:Fr H a)(n:¬ A a):Fr H0 a:=fun o e np=>h o (f.st a o e np fun z=>let ⟨o2,e2,n2⟩:=f.cs a z;h o2 e2 n2) np
structure Bs where
 ca:Addr->Prop:=fun _=>False
 A0:Addr->Prop
 H0:Hp
 G0:Hp
 σ0:St
structure At3 (Pn:Option zq)(B:Bs)(S M:List Nat)(A:Addr->Prop)(σ:St)(H:Hp)(ρ:Ev)(n:Nat):Prop where
 env:EnvR A M σ H ρ
 frm:Frm B.A0 B.H0 B.ca A H
 pn:xq Pn A n H
 prot:zx B.G0 (yd A H)
 fix:∀i∈S,σ[i]?=B.σ0[i]?
 mine:∀i w a,i∈M->ρ[i]?=some (some w)->σ[i]?=some (some (.ref a))->Fr B.H0 a\/B.ca a
structure KOk (Pn:Option zq)(B:Bs)(S M:List Nat)(fr:Bool)(k:Kt)(D:Ends):Prop where
 nx:∀A σ H ρ n,At3 Pn B S M A σ H ρ n->k.nx ρ n->D.nx σ H
 bk:∀A σ H ρ n,At3 Pn B S M A σ H ρ n->k.bk ρ n->D.bk σ H
 ct:∀A σ H ρ n,At3 Pn B S M A σ H ρ n->k.ct ρ n->D.ct σ H
 fc:∀a,¬ B.ca a
 rt:∀w n v H,Val B.A0 H w v->StX B.ca B.H0 H->xq Pn B.A0 n H->(fr=true->FrV B.A0 B.H0 H w v)->k.rt w n->D.rt v H
structure RS (Pn:Option zq)(S M:List Nat)(fr:Bool)(ts:TS)(fs:Ms):Prop where
 run:∀B A σ H ρ n k D,At3 Pn B S M A σ H ρ n->KOk Pn B S M fr k D->fs ρ n k->ts D σ H
structure RG (S M:List Nat)(g:TG)(mg:W->Ev->(Ev->Prop)->Prop):Prop where
 run:∀A σ H ρ v w Q R,EnvR A M σ H ρ->Val A H w v->mg w ρ R->(∀ σ' ρ',R ρ'->EnvR A M σ' H ρ'->(∀i∈S,σ'[i]?=σ[i]?/\ρ'[i]?=ρ[i]?)->Q σ' H)->g v σ H Q
structure RGs (S M:List Nat)(g:TGs)(mg:List Dt->Ev->(Ev->Prop)->Prop):Prop where
 run:∀A σ H ρ vs ds Q R,EnvR A M σ H ρ->IsL (yd A H) ds vs->mg ds ρ R->(∀ σ' ρ',R ρ'->EnvR A M σ' H ρ'->(∀i∈S,σ'[i]?=σ[i]?/\ρ'[i]?=ρ[i]?)->Q σ' H)->g vs σ H Q
structure ItV (ow:Bool)(A:Addr->Prop)(H:Hp)(J:It)(l:List W):Prop where
 one:∀i w A2 H2,l[i]?=some w->zx (yd A H) (yd A2 H2)->(ow=true->zx H H2)->(∀p,H2 p=none->¬ A2 p)->J.go i H2/\∀x H3,J.yld i H2 x H3->x4 H2 H3/\Val A2 H3 w x
 stop:∀A2 H2,zx (yd A H) (yd A2 H2)->(ow=true->zx H H2)->J.stop l.length H2
structure RI (Pn:Option zq)(M:List Nat)(ow:Bool)(wi:TI)(f:Ev->Mo (List W)):Prop where
 run:∀A σ H ρ n Q R,EnvR A M σ H ρ->xq Pn A n H->f ρ n R->(∀l m J H',R l m->ItV ow A H' J l->Go Pn A H m H'->Q J H')->wi σ H Q
theorem RE.rb {Pn:Option zq}{M:List Nat}{fr:Bool}{te:TE}{f:Ev->Mo W}(h:RE Pn M fr te f):RB Pn M te f:=
 ⟨fun A σ H ρ n Q R E P hf k=>h.run A σ H ρ n Q R E P hf fun w m v H' r a g _=>k w m v H' r a.bor g⟩
theorem RA.rab {Pn:Option zq}{M:List Nat}{te:TA}{f:Ev->Mo (List W)}(h:RA Pn M te f):RAB Pn M te f:=
 ⟨fun A σ H ρ n Q R E P hf k=>h.run A σ H ρ n Q R E P hf fun w m v H' r a g=>k w m v H' r a.bor g⟩
theorem xq.same {Pn:Option zq}{A:Addr->Prop}{n:Nat}{H H':Hp}(h:xq Pn A n H)(s:x4 H H'):xq Pn A n H':=by
 unfold xq at h ⊢;split at h
 ·trivial
 ·exact⟨h.1.same s,h.2⟩
theorem Go.same {Pn:Option zq}{A:Addr->Prop}{n:Nat}{H H':Hp}(h:xq Pn A n H)(s:x4 H H'):Go Pn A H n H':=⟨zx.same s,h.same s⟩
theorem Go.refl {Pn:Option zq}{A:Addr->Prop}{n:Nat}{H:Hp}(h:xq Pn A n H):Go Pn A H n H:=⟨zx.refl _,h⟩
open PySem L2
structure JE (X:Cx)(Pn:Option zq)(M:List Nat)(fr:Bool)(e:Expr)(f:Ev->Mo W):Prop where
 ex:∃te,QE X e te/\RE Pn M fr te f
structure JB (X:Cx)(Pn:Option zq)(M:List Nat)(e:Expr)(f:Ev->Mo W):Prop where
 ex:∃te,QE X e te/\RB Pn M te f
structure JT (X:Cx)(Pn:Option zq)(M:List Nat)(e:Expr)(f:Ev->Mo Bool):Prop where
 ex:∃te,QT X e te/\RT Pn M te f
structure JW (X:Cx)(Pn:Option zq)(M:List Nat)(e:Expr)(f:Ev->Mo Bool):Prop where
 ex:∃te,QW X e te/\RT Pn M te f
structure JA (X:Cx)(Pn:Option zq)(M:List Nat)(es:List Expr)(f:Ev->Mo (List W)):Prop where
 ex:∃te,QA X es te/\RA Pn M te f
structure JAB (X:Cx)(Pn:Option zq)(M:List Nat)(es:List Expr)(f:Ev->Mo (List W)):Prop where
 ex:∃te,QA X es te/\RAB Pn M te f
structure JO (X:Cx)(Pn:Option zq)(M:List Nat)(e:Option Expr)(f:Ev->Mo (Option Int)):Prop where
 ex:∃t,QO X e t/\∀A σ H ρ n Q R,EnvR A M σ H ρ->xq Pn A n H->f ρ n R->(∀o m H',R o m->Go Pn A H m H'->Q o H')->t σ H Q
section
variable {X:Cx}{Pn:Option zq}{M:List Nat}{fr:Bool}{e a b c:Expr}{es:List Expr}{f fa fb fc:Ev->Mo W}{pos p:Pos}
def zpJ (i:Nat):Ev->Mo W:=fun ρ n Q=>∃w,ρ[i]?=some (some w)/\Q w n
@[reducible] def mC (w:W):Ev->Mo W:=fun _ n Q=>Q w n
@[reducible] def zoB (F:W->W->Mo W) (fa fb:Ev->Mo W):Ev->Mo W:=fun ρ n Q=>fa ρ n fun x n1=>fb ρ n1 fun y n2=>F x y n2 Q
@[reducible] def mUn (F:W->Mo W) (fa:Ev->Mo W):Ev->Mo W:=fun ρ n Q=>fa ρ n fun x n1=>F x n1 Q
def znb (fa:Ev->Mo W):Ev->Mo Bool:=fun ρ n Q=>fa ρ n fun x n1=>∃c,x = .d (.bl c)/\Q c n1
def zrO (t u:Ev->Mo Bool):Ev->Mo Bool:=fun ρ n Q=>t ρ n fun c n1=>if c=true then u ρ n1 Q else Q false n1
def mOr (t u:Ev->Mo Bool):Ev->Mo Bool:=fun ρ n Q=>t ρ n fun c n1=>if c=true then Q true n1 else u ρ n1 Q
def zsT (t:Ev->Mo Bool):Ev->Mo Bool:=fun ρ n Q=>t ρ n fun c n1=>Q (!c) n1
@[reducible] def zsS:Ev->Mo (List W):=fun _ n Q=>Q [] n
@[reducible] def zmZ (fa:Ev->Mo W) (fr:Ev->Mo (List W)):Ev->Mo (List W):=fun ρ n Q=>fa ρ n fun x n1=>fr ρ n1 fun xs n2=>Q (x::xs) n2
@[reducible] def zsJ (F:List W->Mo W) (fa:Ev->Mo (List W)):Ev->Mo W:=fun ρ n Q=>fa ρ n fun xs n1=>F xs n1 Q
theorem JE.bo (h:JE X Pn M fr e f):JB X Pn M e f:=let ⟨te,h1,h2⟩:=h.ex;⟨te,h1,h2.rb⟩
theorem JA.bo {f:Ev->Mo (List W)}(h:JA X Pn M es f):JAB X Pn M es f:=let ⟨te,h1,h2⟩:=h.ex;⟨te,h1,h2.rab⟩
theorem zpq (h:JE X Pn M true e f):JE X Pn M false e f:=let ⟨te,h1,h2⟩:=h.ex;⟨te,h1,⟨fun A σ H ρ n Q R E P hf k=>h2.run A σ H ρ n Q R E P hf fun w m v H' r a g _=>k w m v H' r a g fun z=>by cases z⟩⟩
theorem zqR {i:Nat}(hi:i∉M):RE Pn M false (zlg i) (zpJ i):=⟨fun A σ H ρ n Q R E P hf k=>by obtain⟨w,e,r⟩:=hf;obtain⟨v,h1,h2,_⟩:=E.val i w e;exact⟨v,h1,k w n v H r (h2 hi) (Go.refl P) fun z=>by cases z⟩⟩
theorem zqM {i:Nat}:RB Pn M (zlg i) (zpJ i):=⟨fun A σ H ρ n Q R E P hf k=>by
 obtain⟨w,e,r⟩:=hf;obtain⟨v,h1,h2,h3⟩:=E.val i w e;refine⟨v,h1,k w n v H r ?_ (Go.refl P)⟩;by_cases hi:i∈M
 ·obtain⟨a,_,_,h,_⟩:=h3 hi;exact h
 ·exact (h2 hi).bor⟩
theorem zsF (i:Nat){x:Str}(hi:i∉M:=by decide)(hN:X.N[i]?=some x:=by rfl)(hv:Vis X.env.scope x:=by first | exact Or.inl rfl | exact Or.inr (Or.inl rfl) | exact Or.inr (Or.inr rfl))(hd:(x==("__debug__" : Str))=false:=by decide)
  (hcd:(x==("__classdict__" : Str))=false:=by decide):JE X Pn M false (.Name x pos) (zpJ i):=⟨_,qv i hN hv hd hcd,zqR hi⟩
theorem zsC (i:Nat){x:Str}(hN:X.N[i]?=some x:=by rfl)(hv:Vis X.env.scope x:=by first | exact Or.inl rfl | exact Or.inr (Or.inl rfl) | exact Or.inr (Or.inr rfl))(hd:(x==("__debug__" : Str))=false:=by decide)
  (hcd:(x==("__classdict__" : Str))=false:=by decide):JB X Pn M (.Name x pos) (zpJ i):=⟨_,qv i hN hv hd hcd,zqM⟩
theorem ztq {x:Dt}{v:V}(h:∀G,Is G x v):RE Pn M false (tC v) (mC (.d x)):=⟨fun A σ H ρ n Q R E P hf k=>k _ n v H hf (Val.of (h _)) (Go.refl P) fun z=>by cases z⟩
theorem zw {i:Int}{j:Nat}:JE X Pn M false (.Constant (.int i) j pos) (mC (.d (.int i))):=⟨_,yv,ztq fun _=>rfl⟩
theorem zjR {k:Bool}{j:Nat}:JE X Pn M false (.Constant (.bool k) j pos) (mC (.d (.bl k))):=⟨_,zti,ztq fun _=>rfl⟩
theorem zsD {j:Nat}:JE X Pn M false (.Constant .none j pos) (mC (.d .non)):=⟨_,zqA,ztq fun _=>rfl⟩
theorem Al.new {A:Addr->Prop}{H:Hp}(h:Al A H){p:Addr}(e:H p=none):¬ A p:=fun z=>by obtain⟨o,h1,_⟩:=h p z;rw[e] at h1;cases h1
theorem Al.stay {A:Addr->Prop}{H H':Hp}(h:Al A H)(s:zx H H'):Al A H':=fun a z=>by obtain⟨o,h1,h2,h3⟩:=h a z;exact⟨o,s _ _ h1 h2,h2,h3⟩
theorem Al.noT {A:Addr->Prop}{H:Hp}(h:Al A H):∀a xs,A a->H a≠some (.tup xs):=fun a xs z e=>by obtain⟨o,h1,_,h3⟩:=h a z;rw[h1] at e;cases e;exact h3 xs rfl
theorem Al.noT' {A:Addr->Prop}{H H':Hp}(h:Al A H)(s:zx H H'){p:Addr}{xs:List V}(e:H' p=some (.tup xs)):¬ A p:=fun z=>(h.stay s).noT p xs z e
structure F2 (Pn:Option zq)(fr:Bool)(r:R2)(F:W->W->Mo W):Prop where
 run:∀A H x y wx wy n Q R,Al A H->Bor A H wx x->Bor A H wy y->xq Pn A n H->F wx wy n R->(∀w m v H',R w m->Val A H' w v->Go Pn A H m H'->(fr=true->FrV A H H' w v)->Q v H')->r x y H Q
structure F1 (Pn:Option zq)(fr:Bool)(r:V->Hp->VK->Prop)(F:W->Mo W):Prop where
 run:∀A H x wx n Q R,Al A H->Bor A H wx x->xq Pn A n H->F wx n R->(∀w m v H',R w m->Val A H' w v->Go Pn A H m H'->(fr=true->FrV A H H' w v)->Q v H')->r x H Q
structure FL (Pn:Option zq)(fr:Bool)(r:List V->Hp->VK->Prop)(F:List W->Mo W):Prop where
 run:∀A H xs ws n Q R,Al A H->zoF A H ws xs->xq Pn A n H->F ws n R->(∀w m v H',R w m->Val A H' w v->Go Pn A H m H'->(fr=true->FrV A H H' w v)->Q v H')->r xs H Q
theorem zk5 {r:R2}{F:W->W->Mo W}{ta tb:TE}(hr:F2 Pn fr r F)(ha:RB Pn M ta fa)(hb:RB Pn M tb fb):RE Pn M fr (tOp r ta tb) (zoB F fa fb):=⟨fun A σ H ρ n Q R E P hf k=>by refine ha.run A σ H ρ n _ _ E P hf fun x n1 v1 H1 r1 b1 g1=>?_;refine hb.run A σ H1 ρ n1 _ _ (E.stay g1.st) g1.pn r1 fun y n2 v2 H2 r2 b2 g2=>?_;have g:=g1.trans g2;exact hr.run A H2 v1 v2 x y n2 _ _ (E.stay g.st).al (b1.stay g2.st) b2 g2.pn r2 fun w m v H' h1 h2 h3 h4=>k w m v H' h1 h2 (g.trans h3) fun z=>(h4 z).back g.st⟩
theorem zts {r:V->Hp->VK->Prop}{F:W->Mo W}{ta:TE}(hr:F1 Pn fr r F)(ha:RB Pn M ta fa):RE Pn M fr (tUn r ta) (mUn F fa):=⟨fun A σ H ρ n Q R E P hf k=>by refine ha.run A σ H ρ n _ _ E P hf fun x n1 v1 H1 r1 b1 g1=>?_;exact hr.run A H1 v1 x n1 _ _ (E.stay g1.st).al b1 g1.pn r1 fun w m v H' h1 h2 h3 h4=>k w m v H' h1 h2 (g1.trans h3) fun z=>(h4 z).back g1.st⟩
theorem zqP {r:List V->Hp->VK->Prop}{F:List W->Mo W}{ta:TA}{fa:Ev->Mo (List W)}(hr:FL Pn fr r F)(ha:RAB Pn M ta fa):RE Pn M fr (tCB r ta) (zsJ F fa):=⟨fun A σ H ρ n Q R E P hf k=>by refine ha.run A σ H ρ n _ _ E P hf fun x n1 v1 H1 r1 b1 g1=>?_;exact hr.run A H1 v1 x n1 _ _ (E.stay g1.st).al b1 g1.pn r1 fun w m v H' h1 h2 h3 h4=>k w m v H' h1 h2 (g1.trans h3) fun z=>(h4 z).back g1.st⟩
theorem uz {op:Operator}{r:R2}{F:W->W->Mo W}(ho:OpQ X (binaryOp op) r)(hr:F2 Pn fr r F)(ha:JB X Pn M a fa)(hb:JB X Pn M b fb):JE X Pn M fr (.BinOp a op b pos) (zoB F fa fb):=by obtain⟨ta,qa,ra⟩:=ha.ex;obtain⟨tb,qb,rb⟩:=hb.ex;exact⟨_,y2 ho qa qb,zk5 hr ra rb⟩
theorem j_un {op:UnaryOp}{r:V->Hp->VK->Prop}{F:W->Mo W}(ho:UnQ X (unaryOp op) r)(hr:F1 Pn fr r F)(ha:JB X Pn M a fa):JE X Pn M fr (.UnaryOp op a pos) (mUn F fa):=by obtain⟨ta,qa,ra⟩:=ha.ex;exact⟨_,ztj ho qa,zts hr ra⟩
theorem zmP {op:CmpOp}{r:R2}{F:W->W->Mo W}(ho:OpQ X (compareOp op) r)(hr:F2 Pn fr r F)(ha:JB X Pn M a fa)(hb:JB X Pn M b fb)(hm:behindInMarks op b=false):JE X Pn M fr (.Compare a [op] [b] pos) (zoB F fa fb):=by obtain⟨ta,qa,ra⟩:=ha.ex;obtain⟨tb,qb,rb⟩:=hb.ex;exact⟨_,znK ho qa qb hm,zk5 hr ra rb⟩
theorem zlX {ta:TE}(h:RB Pn M ta fa):RT Pn M (zom ta) (znb fa):=⟨fun A σ H ρ n Q R E P hf k=>by refine h.run A σ H ρ n _ _ E P hf  ?_;rintro x n1 v1 H1 ⟨c,e,r⟩ b1 g1;subst e;have b1':v1 = .bl c:=b1;exact⟨c,b1',k c n1 H1 r g1⟩⟩
theorem zy {op:CmpOp}{r:R2}{F:W->W->Mo W}(ho:OpQ X (compareOp op) r)(hr:F2 Pn fr r F)(ha:JB X Pn M a fa)(hb:JB X Pn M b fb)(hm:behindInMarks op b=false):JT X Pn M (.Compare a [op] [b] pos) (znb (zoB F fa fb)):=by obtain⟨ta,qa,ra⟩:=ha.ex;obtain⟨tb,qb,rb⟩:=hb.ex;exact⟨_,zci ho qa qb hm,zlX (zk5 hr ra rb).rb⟩
theorem zcW (h:JB X Pn M e f)(he:∀whole,isTrue e X.env whole=(do let v <- whole;standAt e.pos;holding [v] (truthy v)):=by intro _;rfl):JT X Pn M e (znb f):=by obtain⟨ta,qa,ra⟩:=h.ex;exact⟨_,zqH qa he,zlX ra⟩
theorem zes {t:Ev->Mo Bool}(h:JT X Pn M a t):JT X Pn M (.UnaryOp .Not a pos) (zsT t):=by obtain⟨ta,qa,ra⟩:=h.ex;exact⟨_,zqG qa,⟨fun A σ H ρ n Q R E P hf k=>ra.run A σ H ρ n _ _ E P hf fun b m H' r g=>k _ m H' r g⟩⟩
theorem u9 {op:BoolOp}{t:Ev->Mo Bool}(hop:op = .And\/op = .Or)(h:JT X Pn M a t):JW X Pn M (.BoolOp op [a] pos) t:=by
 obtain⟨ta,qa,ra⟩:=h.ex;rcases hop with rfl | rfl
 ·exact⟨_,zjl qa,ra⟩
 ·exact⟨_,zqI qa,ra⟩
theorem zq2 {t u:TT}{ft fu:Ev->Mo Bool}(h:RT Pn M t ft)(h':RT Pn M u fu):RT Pn M (zty t u) (zrO ft fu):=⟨fun A σ H ρ n Q R E P hf k=>by
 refine h.run A σ H ρ n _ _ E P hf fun c m H1 r g=>?_
 cases c with
 | true=>exact h'.run A σ H1 ρ m _ _ (E.stay g.st) g.pn (by simpa using r) fun b m' H' r' g'=>k b m' H' r' (g.trans g')
 | false=>exact k false m H1 (by simpa using r) g⟩
theorem ztu {t u:TT}{ft fu:Ev->Mo Bool}(h:RT Pn M t ft)(h':RT Pn M u fu):RT Pn M (tOr t u) (mOr ft fu):=⟨fun A σ H ρ n Q R E P hf k=>by
 refine h.run A σ H ρ n _ _ E P hf fun c m H1 r g=>?_
 cases c with
 | false=>exact h'.run A σ H1 ρ m _ _ (E.stay g.st) g.pn (by simpa using r) fun b m' H' r' g'=>k b m' H' r' (g.trans g')
 | true=>exact k true m H1 (by simpa using r) g⟩
theorem zcX {zY:List Expr}{t u:Ev->Mo Bool}(h:JT X Pn M a t)(h':JW X Pn M (.BoolOp .And (b::zY) pos) u):JW X Pn M (.BoolOp .And (a::b::zY) pos) (zrO t u):=by obtain⟨ta,qa,ra⟩:=h.ex;obtain⟨tb,qb,rb⟩:=h'.ex;exact⟨_,zlS qa qb,zq2 ra rb⟩
theorem zgR {zY:List Expr}{t u:Ev->Mo Bool}(h:JT X Pn M a t)(h':JW X Pn M (.BoolOp .Or (b::zY) pos) u):JW X Pn M (.BoolOp .Or (a::b::zY) pos) (mOr t u):=by obtain⟨ta,qa,ra⟩:=h.ex;obtain⟨tb,qb,rb⟩:=h'.ex;exact⟨_,ztk qa qb,ztu ra rb⟩
theorem JW.t {t:Ev->Mo Bool}(h:JW X Pn M e t):JT X Pn M e t:=let ⟨te,h1,h2⟩:=h.ex;⟨te,h1.pt,h2⟩
def zm6 (fa:Ev->Mo W):Ev->Mo W:=fun ρ n Q=>fa ρ n fun x n1=>∃c,x = .d (.bl c)/\Q (.d (.bl (!c))) n1
theorem zsE (h:JB X Pn M a fa):JE X Pn M false (.UnaryOp .Not a pos) (zm6 fa):=by obtain⟨ta,qa,ra⟩:=h.ex;refine⟨_,zqB qa,⟨fun A σ H ρ n Q R E P hf k=>?_⟩⟩;refine ra.run A σ H ρ n _ _ E P hf  ?_;rintro x m v H1 ⟨c,ec,r⟩ b1 g;subst ec;have b1':v = .bl c:=b1;exact⟨c,b1',k _ m _ H1 r (Val.of rfl) g fun z=>by cases z⟩
@[reducible] def isNon:W->Bool
 | .d .non=>true
 | _=>false
theorem Bor.isNon {A:Addr->Prop}{H:Hp}{w:W}{v:V}(h:Bor A H w v):decide (v = .non)=isNon w:=by
 cases w with
 | d x=>
  cases x with
  | non=>have:v = .non:=h;subst this;rfl
  | bl c=>have:v = .bl c:=h;subst this;rfl
  | int c=>have:v = .int c:=h;subst this;rfl
  | str c=>have:v = .str c:=h;subst this;rfl
  | tup l=>obtain⟨a,_,rfl,_⟩:=h;rfl
  | lst l=>obtain⟨a,_,rfl,_⟩:=h;rfl
  | dct=>obtain⟨a,_,rfl,_⟩:=h;rfl
 | pen p=>have:v = .ref p:=h;subst this;rfl
 | dk k=>obtain⟨a,_,rfl,_⟩:=h;rfl
 | dt k=>obtain⟨a,_,rfl,_⟩:=h;rfl
 | ss P w k=>obtain⟨a,_,rfl,_⟩:=h;rfl
@[reducible] def mIsN (fa:Ev->Mo W):Ev->Mo W:=fun ρ n Q=>fa ρ n fun x n1=>Q (.d (.bl (isNon x))) n1
@[reducible] def mNotN (fa:Ev->Mo W):Ev->Mo W:=fun ρ n Q=>fa ρ n fun x n1=>Q (.d (.bl (!isNon x))) n1
theorem zqQ {ta:TE}(h:RB Pn M ta fa):RE Pn M false (ztA ta) (mIsN fa):=⟨fun A σ H ρ n Q R E P hf k=>by refine h.run A σ H ρ n _ _ E P hf fun x m v H1 r b1 g=>?_;exact k _ m _ H1 r (Val.of (by rw[b1.isNon];rfl)) g fun z=>by cases z⟩
theorem ztv {ta:TE}(h:RB Pn M ta fa):RT Pn M (tB ta) (znb fa):=⟨fun A σ H ρ n Q R E P hf k=>by refine h.run A σ H ρ n _ _ E P hf  ?_;rintro x n1 v1 H1 ⟨c,e,r⟩ b1 g1;subst e;have b1':v1 = .bl c:=b1;exact⟨c,b1',k c n1 H1 r g1⟩⟩
theorem zpu {j:Nat}{pos':Pos}(h:JB X Pn M a fa):JT X Pn M (.Compare a [.Is] [.Constant .none j pos'] pos) (znb (mIsN fa)):=by obtain⟨ta,qa,ra⟩:=h.ex;exact⟨_,zqF (zqx qa),ztv (zqQ ra).rb⟩
theorem zd:JA X Pn M [] zsS:=⟨_,yB,⟨fun A σ H ρ n Q R E P hf k=>k [] n [] H hf rfl (Go.refl P)⟩⟩
theorem za {fs:Ev->Mo (List W)}(ha:JE X Pn M fr e f)(hr:JA X Pn M es fs)(hs:starEach (e::es) X.env=(false,eval e X.env)::starEach es X.env:=by rfl):JA X Pn M (e::es) (zmZ f fs):=by obtain⟨ta,qa,ra⟩:=ha.ex;obtain⟨tb,qb,rb⟩:=hr.ex;refine⟨_,zI qa qb hs,⟨fun A σ H ρ n Q R E P hf k=>?_⟩⟩;refine ra.run A σ H ρ n _ _ E P hf fun x n1 v1 H1 r1 b1 g1 _=>?_;exact rb.run A σ H1 ρ n1 _ _ (E.stay g1.st) g1.pn r1 fun xs n2 vs H2 r2 b2 g2=>k _ n2 _ H2 r2 ⟨v1,vs,rfl,b1.stay g2.st,b2⟩ (g1.trans g2)
theorem zm:JAB X Pn M [] zsS:=zd.bo
theorem zi {fs:Ev->Mo (List W)}(ha:JB X Pn M e f)(hr:JAB X Pn M es fs)(hs:starEach (e::es) X.env=(false,eval e X.env)::starEach es X.env:=by rfl):JAB X Pn M (e::es) (zmZ f fs):=by obtain⟨ta,qa,ra⟩:=ha.ex;obtain⟨tb,qb,rb⟩:=hr.ex;refine⟨_,zI qa qb hs,⟨fun A σ H ρ n Q R E P hf k=>?_⟩⟩;refine ra.run A σ H ρ n _ _ E P hf fun x n1 v1 H1 r1 b1 g1=>?_;exact rb.run A σ H1 ρ n1 _ _ (E.stay g1.st) g1.pn r1 fun xs n2 vs H2 r2 b2 g2=>k _ n2 _ H2 r2 ⟨v1,vs,rfl,b1.stay g2.st,b2⟩ (g1.trans g2)
def lim:Nat:=500000
theorem zc1 {n:Nat}(h:n<=lim):n<=sizeLine:=ax h (by decide)
theorem zey {n:Nat}(h:n<=lim):n<sizeLine:=be h (by decide)
def dts:List W->Option (List Dt)
 | []=>some []
 | .d x::r=>(dts r).map (x::·)
 | _::_=>none
theorem zcP.dts {A:Addr->Prop}{H:Hp}:∀ {ws:List W} {vs:List V} {l:List Dt},zcP A H ws vs->dts ws=some l->IsL (yd A H) l vs
 | [],vs,l,h,e=>by cases e;exact h
 | .d x::ws,vs,l,⟨v,r,e1,h1,h2⟩,e=>by obtain⟨l',e2,rfl⟩:=aH.mp e;exact⟨v,r,e1,h1.is,zcP.dts h2 e2⟩
 | .pen _::_,_,_,_,e=>by cases e
 | .dk _::_,_,_,_,e=>by cases e
 | .dt _::_,_,_,_,e=>by cases e
 | .ss _ _ _::_,_,_,_,e=>by cases e
theorem zcP.len {A:Addr->Prop}{H:Hp}:∀ {ws:List W} {vs:List V},zcP A H ws vs->vs.length=ws.length
 | [],_,h=>by cases h;rfl
 | _::ws,vs,⟨v,r,e,_,h2⟩=>by rw[e,aS,aS,zcP.len h2]
theorem zd3 {A:Addr->Prop}{H H':Hp}{p:Addr}{xs:List V}{l:List Dt}(hl:IsL (yd A H) l xs)(s:zx H H')(n:¬ A p)(g:H' p=some (.tup xs)):Val A H' (.d (.tup l)) (.ref p):=
 Val.of ⟨p,xs,rfl,ye n g,hl.stay (zN s)⟩
theorem x3 {A:Addr->Prop}{H H':Hp}{p:Addr}{xs:List V}{l:List Dt}(hl:IsL (yd A H) l xs)(s:zx H H')(n:¬ A p)(g:H' p=some (.lst xs)):Val A H' (.d (.lst l)) (.ref p):=
 Val.of ⟨p,xs,rfl,ye n g,hl.stay (zN s)⟩
theorem uo {A:Addr->Prop}{H H':Hp}{p:Addr}{xs:List V}{l:List Dt}(hl:IsL (yd A H) l xs)(s:x4 H H')(n:H p=none)(g:H' p=some (.lst xs)):FrV A H H' (.d (.lst l)) (.ref p):=
 ⟨p,rfl,.of n,p,xs,rfl,g,hl.stay (yP (zx.same s) (.of n))⟩
@[reducible] def zrR:Nat->List W->(List Dt->Prop)->Prop
 | _,[],P=>P []
 | k+1,.d x::r,P=>zrR k r fun l=>P (x::l)
 | _,_,_=>False
theorem zdH:∀ {k:Nat} {l:List W} {P:List Dt->Prop},zrR k l P->∃ds,dts l=some ds/\P ds/\l.length<=k
 | 0,[],P,h=>⟨[],rfl,h,a8 _⟩
 | k+1,[],P,h=>⟨[],rfl,h,a8 _⟩
 | 0,.d x::r,P,h=>h.elim
 | k+1,.d x::r,P,h=>by obtain⟨ds,e,h2,hz⟩:=zdH (k:=k) (l:=r) (P:=fun l=>P (x::l)) h;exact⟨x::ds,by simp[dts,e],h2,Nat.succ_le_succ hz⟩
 | 0,.pen _::r,P,h=>h.elim
 | k+1,.pen _::r,P,h=>h.elim
 | 0,.dk _::r,P,h=>h.elim
 | k+1,.dk _::r,P,h=>h.elim
 | 0,.dt _::r,P,h=>h.elim
 | 0,.ss _ _ _::r,P,h=>h.elim
 | k+1,.dt _::r,P,h=>h.elim
 | k+1,.ss _ _ _::r,P,h=>h.elim
@[reducible] def zpI (fa:Ev->Mo (List W)):Ev->Mo W:=fun ρ n Q=>fa ρ n fun ws m=>zrR 200 ws fun l=>Q (.d (.tup l)) m
theorem xo {x1}{fs:Ev->Mo (List W)}(h:JA X Pn M es fs):JE X Pn M false (.Tuple es x1 pos) (zpI fs):=by obtain⟨ta,qa,ra⟩:=h.ex;refine⟨_,znQ qa,⟨fun A σ H ρ n Q R E P hf k=>?_⟩⟩;refine ra.run A σ H ρ n _ _ E P hf fun ws m vs H1 hq b g=>?_;obtain⟨l,e,r,hz⟩:=zdH hq;refine⟨zc1 (by rw[b.len];exact ax hz (by decide)),fun p H2 np gp S=>?_⟩;exact k _ m _ H2 r (zd3 (b.dts e) (zx.same S) ((E.stay g.st).new np) gp) (g.trans (Go.same g.pn S)) fun z=>by cases z
@[reducible] def zsR (fa:Ev->Mo (List W)):Ev->Mo W:=fun ρ n Q=>fa ρ n fun ws m=>zrR 200 ws fun l=>Q (.d (.lst l)) m
theorem uc {fs:Ev->Mo (List W)}(h:JA X Pn M es fs):JE X Pn M true (.List es pos) (zsR fs):=by obtain⟨ta,qa,ra⟩:=h.ex;refine⟨_,znN qa,⟨fun A σ H ρ n Q R E P hf k=>?_⟩⟩;refine ra.run A σ H ρ n _ _ E P hf fun ws m vs H1 hq b g=>?_;obtain⟨l,e,r,hz⟩:=zdH hq;refine⟨zc1 (by rw[b.len];exact ax hz (by decide)),fun p H2 np gp S=>?_⟩;exact k _ m _ H2 r (x3 (b.dts e) (zx.same S) ((E.stay g.st).new np) gp) (g.trans (Go.same g.pn S)) fun _=>(uo (b.dts e) S np gp).back g.st
theorem zO {id:String}{r:List V->Hp->VK->Prop}{F:List W->Mo W}{x:Str}{fs:Ev->Mo (List W)}(hc:CallQ X (.builtin id) r)(hr:FL Pn fr r F)(hg:Gl X x)(hm:X.mg x=none)(hv:bootBuiltins x=some (.builtin id))(ha:JAB X Pn M (e::es) fs)(hn:x ≠ "__name__" := by decide)(hdb:(x==("__debug__" : Str))=false:=by decide)
  (he:starEach (e::es) X.env=(false,eval e X.env)::starEach es X.env:=by rfl) (hpl:(backTo pos (starEach es X.env)).any (·.1)=false:=by rfl):JE X Pn M fr (.Call (.Name x p) (e::es) [] pos) (zsJ F fs):=by
 obtain⟨ta,qa,ra⟩:=ha.ex;exact⟨_,y1 hc hg hm hv qa hn hdb he hpl,zqP hr ra⟩
theorem uq {T:String}{r:List V->Hp->VK->Prop}{F:List W->Mo W}{x:Str}{fs:Ev->Mo (List W)}(hc:CallQ X (.type T) r)(hr:FL Pn fr r F)(hg:Gl X x)(hm:X.mg x=none)(hv:bootBuiltins x=some (.type T))(ha:JAB X Pn M (e::es) fs)(hn:x ≠ "__name__" := by decide)(hdb:(x==("__debug__" : Str))=false:=by decide)
  (he:starEach (e::es) X.env=(false,eval e X.env)::starEach es X.env:=by rfl) (hpl:(backTo pos (starEach es X.env)).any (·.1)=false:=by rfl):JE X Pn M fr (.Call (.Name x p) (e::es) [] pos) (zsJ F fs):=by
 obtain⟨ta,qa,ra⟩:=ha.ex;exact⟨_,uL hc hg hm hv qa hn hdb he hpl,zqP hr ra⟩
end
open PySem L2
section
variable {Pn:Option zq}{K:PySem.W.Frag}{A:Addr->Prop}{H:Hp}
theorem yI {i:Int}{v:V}(h:Bor A H (.d (.int i)) v):v = .int i:=h
theorem zoV {i:Bool}{v:V}(h:Bor A H (.d (.bl i)) v):v = .bl i:=h
theorem ul {l:List Dt}{v:V}(h:Bor A H (.d (.tup l)) v):∃a xs,v = .ref a/\H a=some (.tup xs)/\IsL (yd A H) l xs:=by obtain⟨a,xs,e,h1,h2⟩:=h;exact⟨a,xs,e,zE _ _ h1,h2⟩
theorem yJ {l:List Dt}{v:V}(h:Bor A H (.d (.lst l)) v):∃a xs,v = .ref a/\H a=some (.lst xs)/\IsL (yd A H) l xs:=h
theorem zhn {l:List Dt}{v:V}(h:Bor A H (.d (.lst l)) v\/Bor A H (.d (.tup l)) v):∃a xs,v = .ref a/\(SqL K H a xs\/SqT K H a xs)/\IsL (yd A H) l xs:=by
 rcases h with h | h
 ·obtain⟨a,xs,e,h1,h2⟩:=yJ h;exact⟨a,xs,e,.inl (.of h1),h2⟩
 ·obtain⟨a,xs,e,h1,h2⟩:=ul h;exact⟨a,xs,e,.inr (.of h1),h2⟩
def fI (C:Int->Int->Prop)(g:Int->Int->Dt):W->W->Mo W:=fun x y n Q=>∃i j,x = .d (.int i)/\y = .d (.int j)/\C i j/\Q (.d (g i j)) n
def fI0 (g:Int->Int->Dt):W->W->Mo W:=fun x y n Q=>∃i j,x = .d (.int i)/\y = .d (.int j)/\Q (.d (g i j)) n
theorem f2_I {C:Int->Int->Prop}{g:Int->Int->V}{g':Int->Int->Dt}(hg:∀i j G,Is G (g' i j) (g i j)):F2 Pn false (rI C g) (fI C g'):=⟨by
 rintro A H x y wx wy n Q R al bx byy P ⟨i,j,e1,e2,c,r⟩ k;subst e1 e2;exact⟨i,j,yI bx,yI byy,c,k _ n _ H r (Val.of (hg _ _ _)) (Go.refl P) fun z=>by cases z⟩⟩
theorem zhQ {g:Int->Int->V}{g':Int->Int->Dt}(hg:∀i j G,Is G (g' i j) (g i j)):F2 Pn false (rI0 g) (fI0 g'):=⟨by
 rintro A H x y wx wy n Q R al bx byy P ⟨i,j,e1,e2,r⟩ k;subst e1 e2;exact⟨i,j,yI bx,yI byy,k _ n _ H r (Val.of (hg _ _ _)) (Go.refl P) fun z=>by cases z⟩⟩
abbrev fAdd:=fI0 fun i j=>.int (i+j)
abbrev fSub:=fI0 fun i j=>.int (i - j)
abbrev fDiv:=fI zoy fun i j=>.int (i / j)
abbrev fMod:=fI (fun _ j=>0<j) fun i j=>.int (i % j)
abbrev fLt:=fI0 fun i j=>.bl (decide (i<j))
abbrev fLe:=fI0 fun i j=>.bl (decide (i<=j))
abbrev fGt:=fI0 fun i j=>.bl (decide (j<i))
theorem ztF:F2 Pn false (rI0 fun i j=>.int (i+j)) fAdd:=zhQ fun _ _ _=>rfl
theorem ztQ:F2 Pn false (rI0 fun i j=>.int (i - j)) fSub:=zhQ fun _ _ _=>rfl
theorem zrz:F2 Pn false (rI zoy fun i j=>.int (i / j)) fDiv:=f2_I fun _ _ _=>rfl
theorem ztN:F2 Pn false (rI (fun _ j=>0<j) fun i j=>.int (i % j)) fMod:=f2_I fun _ _ _=>rfl
theorem v_lt:F2 Pn false (rI0 fun i j=>.bl (decide (i<j))) fLt:=zhQ fun _ _ _=>rfl
theorem v_le:F2 Pn false (rI0 fun i j=>.bl (decide (i<=j))) fLe:=zhQ fun _ _ _=>rfl
theorem v_gt:F2 Pn false (rI0 fun i j=>.bl (decide (j<i))) fGt:=zhQ fun _ _ _=>rfl
def zsx:W->Mo W:=fun x n Q=>∃i,x = .d (.int i)/\Q (.d (.int (-i))) n
theorem ztP:F1 Pn false (rU fun i=>.int (-i)) zsx:=⟨by
 rintro A H x wx n Q R al bx P ⟨i,e,r⟩ k;subst e;exact⟨i,yI bx,k _ n _ H r (Val.of rfl) (Go.refl P) fun z=>by cases z⟩⟩
@[reducible] def sEq:Dt->Dt->Option Bool
 | .int i,.int j=>some (decide (i=j))
 | .bl i,.bl j=>some (decide (i=j))
 | .str i,.str j=>some (decide (i=j))
 | .non,.non=>some true
 | .non,.int _=>some false
 | .int _,.non=>some false
 | .non,.bl _=>some false
 | .bl _,.non=>some false
 | .non,.str _=>some false
 | .str _,.non=>some false
 | .int _,.str _=>some false
 | .str _,.int _=>some false
 | _,_=>none
def plain:Dt->Option V
 | .int i=>some (.int i)
 | .bl i=>some (.bl i)
 | .str i=>some (.str i)
 | .non=>some .non
 | _=>none
theorem zlZ {a b:Dt}{r:Bool}(h:sEq a b=some r):∃x y,plain a=some x/\plain b=some y/\ztw x y=true/\decide (x=y)=r:=by cases a <;> cases b <;> cases h <;> refine⟨_,_,rfl,rfl,rfl,?_⟩ <;> first | rfl | exact aN (by intro z;cases z) | exact decide_eq_decide.mpr (by constructor <;> (intro z;cases z;rfl))
theorem zal {a:Dt}{x v:V}(h:Bor A H (.d a) v)(e:plain a=some x):v=x:=by cases a <;> cases e <;> exact h
def fEq:W->W->Mo W:=fun x y n Q=>∃a b r,x = .d a/\y = .d b/\sEq a b=some r/\Q (.d (.bl r)) n
def fNe:W->W->Mo W:=fun x y n Q=>∃a b r,x = .d a/\y = .d b/\sEq a b=some r/\Q (.d (.bl (!r))) n
theorem v_eq:F2 Pn false rEq fEq:=⟨by
 rintro A H x y wx wy n Q R al bx byy P ⟨a,b,r,e1,e2,e,h⟩ k;subst e1 e2;obtain⟨x',y',p1,p2,s,d⟩:=zlZ e;obtain rfl:=zal bx p1;obtain rfl:=zal byy p2;exact⟨s,k _ n _ H h (Val.of (by rw[d];rfl)) (Go.refl P) fun z=>by cases z⟩⟩
theorem v_ne:F2 Pn false rNe fNe:=⟨by
 rintro A H x y wx wy n Q R al bx byy P ⟨a,b,r,e1,e2,e,h⟩ k;subst e1 e2;obtain⟨x',y',p1,p2,s,d⟩:=zlZ e;obtain rfl:=zal bx p1;obtain rfl:=zal byy p2;exact⟨s,k _ n _ H h (Val.of (by rw[d];rfl)) (Go.refl P) fun z=>by cases z⟩⟩
def zsq:W->W->Mo W:=fun x y n Q=>∃a b,x = .d a/\y = .d b/\a.eqOk/\b.eqOk/\∀r:Bool,(r=true↔a=b)->Q (.d (.bl r)) n
def zsw:W->W->Mo W:=fun x y n Q=>∃a b,x = .d a/\y = .d b/\a.eqOk/\b.eqOk/\∀r:Bool,(r=true↔a=b)->Q (.d (.bl (!r))) n
theorem ztH:F2 Pn false zrT zsq:=⟨by
 rintro A H x y wx wy n Q R al bx byy P ⟨a,b,e1,e2,o1,o2,h⟩ k;subst e1 e2;exact⟨a,b,bx.is,byy.is,o1,o2,fun r hr=>k _ n _ H (h r hr) (Val.of rfl) (Go.refl P) fun z=>by cases z⟩⟩
theorem ztO:F2 Pn false zrX zsw:=⟨by
 rintro A H x y wx wy n Q R al bx byy P ⟨a,b,e1,e2,o1,o2,h⟩ k;subst e1 e2;exact⟨a,b,bx.is,byy.is,o1,o2,fun r hr=>k _ n _ H (h r hr) (Val.of rfl) (Go.refl P) fun z=>by cases z⟩⟩
def zss:W->W->Mo W:=fun x y n Q=>∃ (b:Int) (ns:List Int),x = .d (.int b)/\(y = .d (.lst (ns.map .int))\/y = .d (.tup (ns.map .int)))/\Q (.d (.bl (ns.contains b))) n
def zfj:W->W->Mo W:=fun x y n Q=>∃ (b:Int) (ns:List Int),x = .d (.int b)/\(y = .d (.lst (ns.map .int))\/y = .d (.tup (ns.map .int)))/\Q (.d (.bl (!ns.contains b))) n
theorem ztJ:F2 Pn false (rIn K false) zss:=⟨by
 rintro A H x y wx wy n Q R al bx byy P ⟨b,ns,e1,e2,h⟩ k;subst e1
 have hb:Bor A H (.d (.lst (ns.map .int))) y\/Bor A H (.d (.tup (ns.map .int))) y:=by
  rcases e2 with rfl | rfl
  ·exact .inl byy
  ·exact .inr byy
 obtain⟨a,xs,e,hs,hl⟩:=zhn (K:=K) hb;obtain rfl:=hl.of_ints;obtain rfl:=yI bx;exact⟨a,_,e,hs,rfl,zek ns,k _ n _ H h (Val.of (by rw[zgb];rfl)) (Go.refl P) fun z=>by cases z⟩⟩
theorem zlm:F2 Pn false (rIn K true) zfj:=⟨by
 rintro A H x y wx wy n Q R al bx byy P ⟨b,ns,e1,e2,h⟩ k;subst e1
 have hb:Bor A H (.d (.lst (ns.map .int))) y\/Bor A H (.d (.tup (ns.map .int))) y:=by
  rcases e2 with rfl | rfl
  ·exact .inl byy
  ·exact .inr byy
 obtain⟨a,xs,e,hs,hl⟩:=zhn (K:=K) hb;obtain rfl:=hl.of_ints;obtain rfl:=yI bx;exact⟨a,_,e,hs,rfl,zek ns,k _ n _ H h (Val.of (by rw[zgb];rfl)) (Go.refl P) fun z=>by cases z⟩⟩
def zsr (neg:Bool):W->W->Mo W:=fun x y n Q=>∃d ds,x = .d d/\(y = .d (.lst ds)\/y = .d (.tup ds))/\d.eqOk/\(Dt.lst ds).eqOk/\∀b:Bool,(b=true↔d∈ds)->Q (.d (.bl (if neg then !b else b))) n
theorem ztI {neg:Bool}:F2 Pn false (zrU neg) (zsr neg):=⟨by
 rintro A H x y wx wy n Q R al bx byy P ⟨d,ds,e1,e2,o1,o2,h⟩ k;subst e1;refine⟨d,ds,bx.is,?_,o1,o2,fun b hb=>k _ n _ H (h b hb) (Val.of rfl) (Go.refl P) fun z=>by cases z⟩;rcases e2 with rfl | rfl
 ·exact .inl byy.is
 ·exact .inr byy.is⟩
theorem zlE {G:Hp}{l:List Dt}{xs:List V}{i:Int}{d:Dt}(h:IsL G l xs)(e:atI l i=some d):∃v,atI xs i=some v/\Is G d v:=by unfold atI at e ⊢;rw[h.length];obtain⟨j,h1,h2⟩:=Option.bind_eq_some_iff.mp e;obtain⟨v,h3,h4⟩:=h.getD h2;exact⟨v,by rw[h1];exact h3,h4⟩
def zsu:W->W->Mo W:=fun x y n Q=>∃l i d,x = .d (.tup l)/\y = .d (.int i)/\atI l i=some d/\Q (.d d) n
def zst:W->W->Mo W:=fun x y n Q=>∃l i d,x = .d (.lst l)/\y = .d (.int i)/\atI l i=some d/\Q (.d d) n
theorem ztL:F2 Pn false (zrW K) zsu:=⟨by
 rintro A H x y wx wy n Q R al bx byy P ⟨l,i,d,e1,e2,e,h⟩ k;subst e1 e2;obtain⟨a,xs,ea,ha,hl⟩:=ul bx;obtain⟨v,h1,h2⟩:=zlE hl e;exact⟨a,xs,i,v,ea,yI byy,.of ha,h1,k _ n _ H h (Val.of h2) (Go.refl P) fun z=>by cases z⟩⟩
theorem ztK:F2 Pn false (zrV K) zst:=⟨by
 rintro A H x y wx wy n Q R al bx byy P ⟨l,i,d,e1,e2,e,h⟩ k;subst e1 e2;obtain⟨a,xs,ea,ha,hl⟩:=yJ bx;obtain⟨v,h1,h2⟩:=zlE hl e;exact⟨a,xs,i,v,ea,yI byy,.of ha,h1,k _ n _ H h (Val.of h2) (Go.refl P) fun z=>by cases z⟩⟩
def zfi:W->W->Mo W:=fun x y n Q=>∃l m,x = .d (.tup l)/\y = .d (.tup m)/\l.length+m.length<=lim/\Q (.d (.tup (l++m))) n
theorem zry:F2 Pn false (zk2 K) zfi:=⟨by
 rintro A H x y wx wy n Q R al bx byy P ⟨l,m,e1,e2,z,h⟩ k;subst e1 e2;obtain⟨a,xs,ea,ha,hl⟩:=ul bx;obtain⟨b,ys,eb,hb,hm⟩:=ul byy;refine⟨a,b,xs,ys,ea,eb,ha,hb,zc1 (by rw[hl.length,hm.length];exact z),fun p H' g S=>?_⟩;exact k _ n _ H' h (zd3 (hl.append hm) (zx.same S) (al.noT' (zx.same S) g) g) (Go.same P S) fun z=>by cases z⟩
def zmu:W->W->Mo W:=fun x y n Q=>∃l m,x = .d (.lst l)/\y = .d (.lst m)/\l.length+m.length<=lim/\Q (.d (.lst (l++m))) n
theorem zrx:F2 Pn true znZ zmu:=⟨by
 rintro A H x y wx wy n Q R al bx byy P ⟨l,m,e1,e2,z,h⟩ k;subst e1 e2;obtain⟨a,xs,ea,ha,hl⟩:=yJ bx;obtain⟨b,ys,eb,hb,hm⟩:=yJ byy;refine⟨a,b,xs,ys,ea,eb,ha,hb,zc1 (by rw[hl.length,hm.length];exact z),fun p H' np g S=>?_⟩;exact k _ n _ H' h (x3 (hl.append hm) (zx.same S) (al.new np) g) (Go.same P S) fun z=>uo (hl.append hm) S np g⟩
theorem zfs {G:Hp}{l:List Dt}{xs:List V}(h:IsL G l xs):∀k:Nat,IsL G (List.replicate k l).flatten (List.replicate k xs).flatten
 | 0=>rfl
 | k+1=>by rw[bZ,bZ,cJ,cJ];exact h.append (zfs h k)
@[reducible] def lenD:W->Option Nat
 | .d (.lst l)=>some l.length
 | .d (.tup l)=>some l.length
 | _=>none
def zsv:List W->Mo W:=fun ws n Q=>∃x k,ws=[x]/\lenD x=some k/\Q (.d (.int (k:Int))) n
theorem zcz {w:W}{vs:List V}(h:zoF A H [w] vs):∃v,vs=[v]/\Bor A H w v:=by obtain⟨v,r,e,h1,h2⟩:=h;cases h2;exact⟨v,e,h1⟩
theorem ztM:FL Pn false (fun xs H Q=>∃x n,xs=[x]/\zoL K x H n/\Q (.int n) H) zsv:=⟨by
 rintro A H xs ws n Q R al b P ⟨x,j,e1,e2,h⟩ k;subst e1;obtain⟨v,rfl,bb⟩:=zcz b;refine⟨v,j,rfl,?_,k _ n _ H h (Val.of rfl) (Go.refl P) fun z=>by cases z⟩
 cases x with
 | d x=>
  cases x with
  | lst l=>
   cases e2;obtain⟨a,ys,rfl,ha,hl⟩:=yJ bb;exact .inl ⟨ys,.of ha,hl.length.symm⟩
  | tup l=>
   cases e2;obtain⟨a,ys,rfl,ha,hl⟩:=ul bb;exact .inr ⟨ys,.of ha,hl.length.symm⟩
  | _=>cases e2
 | _=>cases e2⟩
theorem zh9 {G:Hp}:∀ {bs:List Bool} {xs:List V},IsL G (bs.map .bl) xs->xs=bs.map V.bl
 | [],_,h=>h
 | b::bs,xs,h=>by obtain⟨y,r,rfl,h1,h2⟩:=h;cases h1;rw[zh9 h2];rfl
def zsp:List W->Mo W:=fun ws n Q=>∃bs:List Bool,ws=[.d (.lst (bs.map .bl))]/\Q (.d (.bl (bs.all id))) n
theorem ztG:FL Pn false (fun xs H Q=>∃ (p:Addr) (bs:List Bool),xs=[.ref p]/\H p=some (.lst (bs.map V.bl))/\Q (.bl (bs.all id)) H) zsp:=⟨by
 rintro A H xs ws n Q R al b P ⟨bs,e1,h⟩ k;subst e1;obtain⟨v,rfl,bb⟩:=zcz b;obtain⟨a,ys,rfl,ha,hl⟩:=yJ bb;obtain rfl:=zh9 hl;exact⟨a,bs,rfl,ha,k _ n _ H h (Val.of rfl) (Go.refl P) fun z=>by cases z⟩⟩
def zlA:List W->Mo W:=fun ws n Q=>∃l,(ws=[.d (.lst l)]\/ws=[.d (.tup l)])/\Q (.d (.tup l)) n
theorem zow:FL Pn false (zfM K) zlA:=⟨by
 rintro A H xs ws n Q R al b P ⟨l,e1,h⟩ k;rcases e1 with rfl | rfl
 ·obtain⟨v,rfl,bb⟩:=zcz b;obtain⟨a,ys,rfl,ha,hl⟩:=yJ bb;exact⟨a,ys,rfl,.inl ⟨.of ha,fun p H' np g S=>k _ n _ H' h (zd3 hl (zx.same S) (al.new np) g) (Go.same P S) fun z=>by cases z⟩⟩
 ·obtain⟨v,rfl,bb⟩:=zcz b;obtain⟨a,ys,e,ha,hl⟩:=id bb;subst e;exact⟨a,ys,rfl,.inr ⟨.of (zE _ _ ha),k _ n _ H h (Val.of ⟨a,ys,rfl,ha,hl⟩) (Go.refl P) fun z=>by cases z⟩⟩⟩
def xV {α:Type}(xs:List α)(lo hi:Option Int):List α:=(xs.drop (HT.sIx xs.length 0 lo)).take (HT.sIx xs.length xs.length hi - HT.sIx xs.length 0 lo)
theorem zfr {G:Hp}{l:List Dt}{xs:List V}{lo hi:Option Int}(h:IsL G l xs):IsL G (xV l lo hi) (zcB xs lo hi):=by unfold xV zcB;rw[h.length];exact (h.drop _).take _
def xN {κ:Type}[DecidableEq κ](kvs:List (κ×Dt))(k:κ):Option Dt:=(kvs.find? fun q=>decide (q.1=k)).map (·.2)
theorem uR.look {κ:Type}[DecidableEq κ]{G:Hp}{k:κ}:∀ {kvs:List (κ×Dt)} {ks:List (κ×V)},uR G kvs ks->(xN kvs k=none->za9 ks k=none)/\∀d,xN kvs k=some d->∃v,za9 ks k=some v/\Is G d v
 | [],_,h=>by cases h;exact⟨fun _=>rfl,fun d e=>by cases e⟩
 | q::r,ks,⟨v,s,e,h1,h2⟩=>by
  subst e;have ih:=uR.look (k:=k) h2;by_cases hk:q.1=k
  ·refine⟨fun z=>?_,fun d z=>?_⟩
   ·simp[xN,bA,hk] at z
   ·simp[xN,bA,hk] at z;subst z;exact⟨v,xg hk,h1⟩
  ·have e1:xN (q::r) k=xN r k:=by simp[xN,bA,hk]
   rw[e1,xB hk];exact ih
end
open PySem L2
section
variable {X:Cx}{Pn:Option zq}{M S:List Nat}{fr:Bool}{e a b c:Expr}{es:List Expr}{f fa fb fc:Ev->Mo W}{pos p:Pos}
theorem zak {r:R2}{F:W->W->Mo W}(hx:IxQ X r)(hr:F2 Pn fr r F)(ha:JB X Pn M a fa)(hb:JB X Pn M b fb)(hs:ze5 b):JE X Pn M fr (.Subscript a b pos) (zoB F fa fb):=by obtain⟨ta,qa,ra⟩:=ha.ex;obtain⟨tb,qb,rb⟩:=hb.ex;exact⟨_,zqz hx qa qb hs,zk5 hr ra rb⟩
@[reducible] def zm5:Ev->Mo (Option Int):=fun _ n Q=>Q none n
def zm7 (fa:Ev->Mo W):Ev->Mo (Option Int):=fun ρ n Q=>fa ρ n fun x m=>∃i,x = .d (.int i)/\Q (some i) m
theorem zU:JO X Pn M none zm5:=⟨_,zji,fun A σ H ρ n Q R E P hf k=>k none n H hf (Go.refl P)⟩
theorem zV (h:JB X Pn M e f):JO X Pn M (some e) (zm7 f):=by obtain⟨te,q,r⟩:=h.ex;refine⟨_,zjj q,fun A σ H ρ n Q R E P hf k=>?_⟩;refine r.run A σ H ρ n _ _ E P hf  ?_;rintro w m v H' ⟨i,e,r⟩ bb g;subst e;exact⟨i,yI bb,k (some i) m H' r g⟩
def zsW (fa:Ev->Mo W)(fl fh:Ev->Mo (Option Int)):Ev->Mo W:=fun ρ n Q=>fa ρ n fun x n1=>fl ρ n1 fun lo n2=>fh ρ n2 fun hi n3=>∃l,x = .d (.tup l)/\Q (.d (.tup (xV l lo hi))) n3
def zsV (fa:Ev->Mo W)(fl fh:Ev->Mo (Option Int)):Ev->Mo W:=fun ρ n Q=>fa ρ n fun x n1=>fl ρ n1 fun lo n2=>fh ρ n2 fun hi n3=>∃l,x = .d (.lst l)/\Q (.d (.lst (xV l lo hi))) n3
theorem zbu {lo hi:Option Expr}{fl fh:Ev->Mo (Option Int)}{p2:Pos}(he:JB X Pn M e f)(hl:JO X Pn M lo fl)(hh:JO X Pn M hi fh):JE X Pn M false (.Subscript e (.Slice lo hi none p2) pos) (zsW f fl fh):=by obtain⟨te,qe,re⟩:=he.ex;obtain⟨tl,ql,rl⟩:=hl.ex;obtain⟨th,qh,rh⟩:=hh.ex;refine⟨_,zdO zog qe ql qh,⟨fun A σ H ρ n Q R E P hf k=>?_⟩⟩;refine re.run A σ H ρ n _ _ E P hf fun w m v H1 r1 bb g1=>?_;refine rl A σ H1 ρ m _ _ (E.stay g1.st) g1.pn r1 fun o m2 H2 r2 g2=>?_;refine rh A σ H2 ρ m2 _ _ ((E.stay g1.st).stay g2.st) g2.pn r2  ?_;rintro o3 m3 H3 ⟨l,e,r3⟩ g3;subst e;have g:=(g1.trans g2).trans g3;obtain⟨ad,xs,rfl,ha,hl⟩:=ul (bb.stay (g2.trans g3).st);exact⟨ad,xs,rfl,ha,fun p H' gp S=>k _ m3 _ H' r3 (zd3 (zfr hl) (zx.same S) (Al.noT' (E.stay g.st).al (zx.same S) gp) gp) (g.trans (Go.same g3.pn S)) fun z=>by cases z⟩
theorem zb3 {lo hi:Option Expr}{fl fh:Ev->Mo (Option Int)}{p2:Pos}(he:JB X Pn M e f)(hl:JO X Pn M lo fl)(hh:JO X Pn M hi fh):JE X Pn M true (.Subscript e (.Slice lo hi none p2) pos) (zsV f fl fh):=by obtain⟨te,qe,re⟩:=he.ex;obtain⟨tl,ql,rl⟩:=hl.ex;obtain⟨th,qh,rh⟩:=hh.ex;refine⟨_,zdO zjE qe ql qh,⟨fun A σ H ρ n Q R E P hf k=>?_⟩⟩;refine re.run A σ H ρ n _ _ E P hf fun w m v H1 r1 bb g1=>?_;refine rl A σ H1 ρ m _ _ (E.stay g1.st) g1.pn r1 fun o m2 H2 r2 g2=>?_;refine rh A σ H2 ρ m2 _ _ ((E.stay g1.st).stay g2.st) g2.pn r2  ?_;rintro o3 m3 H3 ⟨l,e,r3⟩ g3;subst e;have g:=(g1.trans g2).trans g3;obtain⟨ad,xs,rfl,ha,hl⟩:=yJ (bb.stay (g2.trans g3).st);refine⟨ad,xs,rfl,.of ha,fun p np=>?_⟩;have S:=x4.upd (o:=.lst (zcB xs o o3)) np;exact k _ m3 _ _ r3 (x3 (zfr hl) (zx.same S) ((E.stay g.st).new np) zj) (g.trans (Go.same g3.pn S)) fun z=>(uo (zfr hl) S np zj).back g.st
theorem zft {G:Hp}:∀ {ds:List Dt} {xs:List V},IsL G ds xs->IsL G ds.reverse xs.reverse
 | [],_,h=>by cases h;rfl
 | d::ds,xs,h=>by obtain⟨x,r,rfl,h1,h2⟩:=h;rw[c4,c4];exact (zft h2).append (IsL.one h1)
def zna (fa:Ev->Mo W):Ev->Mo W:=fun ρ n Q=>fa ρ n fun x m=>∃l,x = .d (.lst l)/\Q (.d (.lst l.reverse)) m
theorem zpr {j:Nat}{p2 p3 p4:Pos}(he:JB X Pn M e f):JE X Pn M true (.Subscript e (.Slice none none (some (.UnaryOp .USub (.Constant (.int 1) j p4) p3)) p2) pos) (zna f):=by obtain⟨te,qe,re⟩:=he.ex;refine⟨_,znP qe,⟨fun A σ H ρ n Q R E P hf k=>?_⟩⟩;refine re.run A σ H ρ n _ _ E P hf  ?_;rintro w m v H1 ⟨l,e,r⟩ bb g;subst e;obtain⟨ad,xs,rfl,ha,hl⟩:=yJ bb;exact⟨ad,xs,rfl,ha,fun p H' np gp S=>k _ m _ H' r (x3 (zft hl) (zx.same S) ((E.stay g.st).new np) gp) (g.trans (Go.same g.pn S)) fun z=>(uo (zft hl) S np gp).back g.st⟩
@[reducible] def zpv:W->Option Key
 | .d (.int i)=>some (Sum.inl i)
 | .d (.str x)=>some (Sum.inr x)
 | _=>none
theorem zpw {A:Addr->Prop}{H:Hp}{w:W}{v:V}{k:Key}(h:Bor A H w v)(e:zpv w=some k):v=kV k:=by
 cases w with
 | d x=>
  cases x with
  | int i=>cases e;exact h
  | str i=>cases e;exact h
  | _=>cases e
 | _=>cases e
def zm0 (fd fk:Ev->Mo W):Ev->Mo W:=fun ρ n Q=>fd ρ n fun x n1=>fk ρ n1 fun y n2=>∃kvs k d,x = .dk kvs/\zpv y=some k/\xN kvs k=some d/\Q (.d d) n2
theorem zhm {A:Addr->Prop}{H:Hp}{kvs:List (Key×Dt)}{v:V}(h:Bor A H (.dk kvs) v):∃a ks,v = .ref a/\H a=some (.dK ks)/\uR (yd A H) kvs ks/\za9 ks (Sum.inr "at" : Key)=none:=h
theorem zgf (hu:X.A.units+1<cLine)(ha:JB X Pn M a fa)(hb:JB X Pn M b fb)(hs:zoM b):JE X Pn M false (.Subscript a b pos) (zm0 fa fb):=by obtain⟨ta,qa,ra⟩:=ha.ex;obtain⟨tb,qb,rb⟩:=hb.ex;refine⟨_,xZ hu qa qb hs,⟨fun A σ H ρ n Q R E P hf k=>?_⟩⟩;refine ra.run A σ H ρ n _ _ E P hf fun w1 m1 v1 H1 r1 b1 g1=>?_;refine rb.run A σ H1 ρ m1 _ _ (E.stay g1.st) g1.pn r1  ?_;rintro w2 m2 v2 H2 ⟨kvs,ky,d,e1,e2,e3,r⟩ b2 g2;subst e1;obtain⟨ad,ks,rfl,had,hk,_⟩:=zhm (b1.stay g2.st);obtain⟨v,h1,h2⟩:=(hk.look (k:=ky)).2 d e3;refine⟨ad,v,rfl,?_,k _ m2 _ H2 r (Val.of h2) (g1.trans g2) fun z=>by cases z⟩;rw[zpw b2 e2,<- h1];exact zd5.k had
@[reducible] def prD (q:Int×Dt):Dt:=.tup [.int q.1,q.2]
def kvD (q:Int×Dt):Key×Dt:=(Sum.inl q.1,q.2)
def spV (k:Nat)(fr:Bool)(F:Option zq->List W->Mo W):Sp:=fun vs H Q _=>∃Pn A ws n R,Al A H/\zcP A H ws vs/\ws.length=k/\xq Pn A n H/\F Pn ws n R/\∀w m v H',R w m->Val A H' w v->Go Pn A H m H'->(fr=true->FrV A H H' w v)->Q v H'
def mFn (k:Nat)(F:List W->Mo W)(fa:Ev->Mo (List W)):Ev->Mo W:=fun ρ n Q=>fa ρ n fun ws m=>ws.length=k/\F ws m Q
theorem ztr {k:Nat}{F:Option zq->List W->Mo W}{ta:TA}{fs:Ev->Mo (List W)}(ha:RA Pn M ta fs):RE Pn M fr (zfS (spV k fr F) [] E0 ta) (mFn k (F Pn) fs):=⟨fun A σ H ρ n Q R E P hf kk=>by refine ha.run A σ H ρ n _ _ E P hf  ?_;rintro ws m vs H1 ⟨hk,r⟩ b g;rw[cI];exact⟨Pn,A,ws,m,R,(E.stay g.st).al,b,hk,g.pn,r,fun w m' v H' h1 h2 h3 h4=>kk w m' v H' h1 h2 (g.trans h3) fun z=>(h4 z).back g.st⟩⟩
theorem yG {x:Str}{st:Stmt}{ps:List Str}{fA:Addr}{fd:FuncData}{k:Nat}{F:Option zq->List W->Mo W}{j kk:Nat}{fs:Ev->Mo (List W)}(D:Dfn X.K X.mg x st ps fA fd)(G:FnOk X.prog X.w X.K X.mg X.base CX0 j fA fd ps (spV k fr F))(hr:Room kk X.A)
  (ha:JA X Pn M (e::es) fs) (hjk:j<=kk:=by decide) (hg:Gl X x:=by rfl) (hdb:(x==("__debug__" : Str))=false:=by decide) (he:starEach (e::es) X.env=(false,eval e X.env)::starEach es X.env:=by rfl) (hpl:(backTo pos (starEach es X.env)).any (·.1)=false:=by rfl) :
  JE X Pn M fr (.Call (.Name x p) (e::es) [] pos) (mFn k (F Pn) fs):=by
 obtain⟨ta,qa,ra⟩:=ha.ex;exact⟨_,zkW D G hr qa hjk hg hdb he hpl,ztr ra⟩
@[reducible] def W.flat (fr:Bool):W->Bool
 | .d (.lst l)=>fr&&Dt.noLs l
 | .d x=>x.noL
 | .pen _=>true
 | .dk _=>false
 | .dt _=>false
 | .ss _ _ _=>false
theorem xq.less {A A':Addr->Prop}{n:Nat}{H:Hp}(h:xq Pn A n H)(s:∀a,A' a->A a):xq Pn A' n H:=by
 unfold xq at h ⊢;split at h
 ·trivial
 ·exact⟨h.1,fun z=>h.2.1 (s _ z),fun z=>h.2.2 (s _ z)⟩
end
open PySem L2
structure JG (X:Cx)(S M:List Nat)(e:Expr)(mg:W->Ev->(Ev->Prop)->Prop):Prop where
 ex:∃g,QG X e g/\RG S M g mg
structure JGs (X:Cx)(S M:List Nat)(es:List Expr)(mg:List Dt->Ev->(Ev->Prop)->Prop):Prop where
 ex:∃g,QGs X es g/\RGs S M g mg
structure JI (X:Cx)(Pn:Option zq)(M:List Nat)(ow:Bool)(tg e:Expr)(f:Ev->Mo (List W)):Prop where
 ex:∃wi,QI X tg e wi/\RI Pn M ow wi f
structure JTs (X:Cx)(Pn:Option zq)(M:List Nat)(es:List Expr)(f:Ev->Mo Bool):Prop where
 ex:∃t,QTs X es t/\RT Pn M t f
section
variable {X:Cx}{Pn:Option zq}{M S:List Nat}{fr:Bool}{e a b c:Expr}{es:List Expr}{f fa fb fc:Ev->Mo W}{pos p:Pos}
def gN (i:Nat):W->Ev->(Ev->Prop)->Prop:=fun w ρ Q=>Q (ρ.set i (some w))
def gNl:List Dt->Ev->(Ev->Prop)->Prop:=fun ds ρ Q=>ds=[]/\Q ρ
def gCn (g:W->Ev->(Ev->Prop)->Prop)(u:List Dt->Ev->(Ev->Prop)->Prop):List Dt->Ev->(Ev->Prop)->Prop:=fun ds ρ Q=>∃d r,ds=d::r/\g (.d d) ρ fun ρ'=>u r ρ' Q
def gTp (n:Nat)(u:List Dt->Ev->(Ev->Prop)->Prop):W->Ev->(Ev->Prop)->Prop:=fun w ρ Q=>∃ds,w = .d (.tup ds)/\ds.length=n/\u ds ρ Q
theorem EnvR.set {A:Addr->Prop}{σ:St}{H:Hp}{ρ:Ev}(E:EnvR A M σ H ρ){i:Nat}{w:W}{v:V}(hi:i∉M)(h:Val A H w v):EnvR A M (σ.set i (some v)) H (ρ.set i (some w)) where
 len:=by rw[aX,aX];exact E.len
 val:=fun j u e=>by
  by_cases hj:j=i
  ·subst hj
   have hl:j<ρ.length:=by have:=(ae.mp e).1;rwa[aX] at this
   rw[aM hl] at e;cases e;exact⟨v,aM (by rw[E.len];exact hl),fun _=>h,fun z=>absurd z hi⟩
  ·rw[ar (Ne.symm hj)] at e ⊢;exact E.val j u e
 dis:=fun j k u u' ad hj hk hne e1 e2 s1=>by have hj':i≠j:=fun z=>hi (z ▸ hj);have hk':i≠k:=fun z=>hi (z ▸ hk);rw[ar hj'] at e1 s1;rw[ar hk'] at e2 ⊢;exact E.dis j k u u' ad hj hk hne e1 e2 s1
 al:=E.al
theorem zfN {i:Nat}(hi:i∉M)(hs:i∉S):RG S M (zag i) (gN i):=⟨fun A σ H ρ v w Q R E h r k=>k _ _ r (E.set hi h) fun j hj=>⟨ar fun (z:i=j)=>hs (by rw[z];exact hj),ar fun (z:i=j)=>hs (by rw[z];exact hj)⟩⟩
theorem zg {i:Nat}{x:Str}(hN:X.N.Nodup)(hx:X.N[i]?=some x)(hl:Loc X.env.scope x)(hi:i∉M:=by decide)(hs:i∉S:=by decide)(hf:X.fn x=true\/X.env.scope.names.lookup x=some .local:=by first | exact .inl rfl | exact .inr rfl | assumption):JG X S M (.Name x pos) (gN i):=⟨_,zjf hN hx hl hf,zfN hi hs⟩
theorem yp:JGs X S M [] gNl:=⟨_,znT,⟨by
 rintro A σ H ρ vs ds Q R E h ⟨e,r⟩ k;subst e;exact⟨h,k σ ρ r E fun _ _=>⟨rfl,rfl⟩⟩⟩⟩
theorem zl {g:W->Ev->(Ev->Prop)->Prop}{u:List Dt->Ev->(Ev->Prop)->Prop}(h1:JG X S M e g)(h2:JGs X S M es u)(hs:(assignEach (e::es) X.env).map (·.2)=assign e X.env::(assignEach es X.env).map (·.2):=by rfl):JGs X S M (e::es) (gCn g u):=by obtain⟨t1,q1,r1⟩:=h1.ex;obtain⟨t2,q2,r2⟩:=h2.ex;refine⟨_,zkX q1 q2 hs,⟨ ?_⟩⟩;rintro A σ H ρ vs ds Q R E h ⟨d,r,e,hg⟩ k;subst e;obtain⟨v,s,rfl,hv,hr⟩:=h;refine⟨v,s,rfl,?_⟩;refine r1.run A σ H ρ v _ _ _ E (Val.of hv) hg fun σ' ρ' hu E' f1=>?_;exact r2.run A σ' H ρ' s _ _ _ E' hr hu fun σ2 ρ2 hR E2 f2=>k σ2 ρ2 hR E2 fun i hi=>⟨(f2 i hi).1.trans (f1 i hi).1,(f2 i hi).2.trans (f1 i hi).2⟩
theorem xb {k n:Nat}{u:List Dt->Ev->(Ev->Prop)->Prop}(K:PySem.W.Frag)(hK:X.K=K)(hc:X.calm=true)(h:JGs X S M es u)(hn:(assignEach es X.env).length=n:=by rfl)(hst:(assignEach es X.env).findIdx? (·.1)=none:=by rfl):JG X S M (.Tuple es k pos) (gTp n u):=by obtain⟨t1,q1,r1⟩:=h.ex;refine⟨_,znS K hK hc q1 hn hst,⟨ ?_⟩⟩;rintro A σ H ρ v w Q R E h ⟨ds,e,hl,hu⟩ kk;subst e;obtain⟨ad,xs,rfl,had,hx⟩:=h;exact⟨ad,xs,rfl,.of (zE _ _ had),by rw[hx.length];exact hl,r1.run A σ H ρ xs ds _ _ E hx hu kk⟩
def zsO (fa:Ev->Mo W):Ev->Mo (List W):=fun ρ n Q=>fa ρ n fun x m=>∃l,x = .d (.lst l)/\Q (l.map W.d) m
def zsQ (fa:Ev->Mo W):Ev->Mo (List W):=fun ρ n Q=>fa ρ n fun x m=>∃l,x = .d (.tup l)/\Q (l.map W.d) m
theorem zih {G G':Hp}{l:List Dt}{xs:List V}{i:Nat}{w:W}(h:IsL G l xs)(e:(l.map W.d)[i]?=some w)(s:zx G G'):∃d x,w = .d d/\xs[i]?=some x/\Is G' d x:=by rw[aC] at e;obtain⟨d,h1,rfl⟩:=aH.mp e;obtain⟨x,h2,h3⟩:=h.getD h1;exact⟨d,x,rfl,h2,h3.stay s⟩
theorem zkp {K:PySem.W.Frag}{A:Addr->Prop}{H:Hp}{ad:Addr}{xs:List V}{l:List Dt}(h:yd A H ad=some (.lst xs))(hl:IsL (yd A H) l xs):ItV false A H (Itl K ad) (l.map W.d) where
 one:=fun i w A2 H2 e s _ _=>by obtain⟨d,x,rfl,hx,hd⟩:=zih hl e s;have g:=zE _ _ (s.lst h);refine⟨⟨xs,x,.of g,hx⟩,?_⟩;rintro y H3 ⟨e3,hy⟩;subst e3;have:=hy xs (.of g);rw[hx] at this;cases this;exact⟨fun _ _ z=>z,Val.of hd⟩
 stop:=fun A2 H2 s _=>⟨xs,.of (zE _ _ (s.lst h)),by rw[aa,hl.length];exact ag _⟩
theorem zmN {K:PySem.W.Frag}{A:Addr->Prop}{H:Hp}{ad:Addr}{xs:List V}{l:List Dt}(h:yd A H ad=some (.tup xs))(hl:IsL (yd A H) l xs):ItV false A H (Itt K ad) (l.map W.d) where
 one:=fun i w A2 H2 e s _ _=>by obtain⟨d,x,rfl,hx,hd⟩:=zih hl e s;have g:=zE _ _ (s.tup h);refine⟨⟨xs,x,.of g,hx⟩,?_⟩;rintro y H3 ⟨e3,hy⟩;subst e3;have:=hy xs (.of g);rw[hx] at this;cases this;exact⟨fun _ _ z=>z,Val.of hd⟩
 stop:=fun A2 H2 s _=>⟨xs,.of (zE _ _ (s.tup h)),by rw[aa,hl.length];exact ag _⟩
theorem yq {tg:Expr}(K:PySem.W.Frag)(hK:X.K=K)(h:JE X Pn M fr e f):JI X Pn M false tg e (zsO f):=by obtain⟨te,q,r⟩:=h.ex;refine⟨_,zkZ K hK q,⟨fun A σ H ρ n Q R E P hf k=>?_⟩⟩;refine r.run A σ H ρ n _ _ E P hf  ?_;rintro w m v H1 ⟨l,e,r⟩ hv g _;subst e;obtain⟨ad,xs,rfl,had,hl⟩:=hv;exact⟨ad,rfl,⟨xs,.of (zE _ _ had)⟩,k _ m _ H1 r (zkp had hl) g⟩
theorem zcV {tg:Expr}(K:PySem.W.Frag)(hK:X.K=K)(h:JE X Pn M fr e f):JI X Pn M false tg e (zsQ f):=by obtain⟨te,q,r⟩:=h.ex;refine⟨_,znU K hK q,⟨fun A σ H ρ n Q R E P hf k=>?_⟩⟩;refine r.run A σ H ρ n _ _ E P hf  ?_;rintro w m v H1 ⟨l,e,r⟩ hv g _;subst e;obtain⟨ad,xs,rfl,had,hl⟩:=hv;exact⟨ad,rfl,⟨xs,.of (zE _ _ had)⟩,k _ m _ H1 r (zmN had hl) g⟩
def zg4 (lo:Int)(n:Nat):List W:=(List.range n).map fun i:Nat=>W.d (.int (lo+i))
theorem zmM {A:Addr->Prop}{H:Hp}{lo:Int}{n:Nat}:ItV false A H (Itr lo n) (zg4 lo n) where
 one:=fun i w A2 H2 e s _ _=>by unfold zg4 at e;rw[aC] at e;obtain⟨j,h1,rfl⟩:=aH.mp e;obtain⟨hi,h2⟩:=ae.mp h1;rw[bT] at h2;subst h2;rw[am] at hi;refine⟨hi,?_⟩;rintro y H3 ⟨e3,hy⟩;subst e3 hy;exact⟨fun _ _ z=>z,Val.of rfl⟩
 stop:=fun A2 H2 s _=>by show n<=(zg4 lo n).length;unfold zg4;rw[aa,am];exact ag _
def zsP (fa:Ev->Mo (List W)):Ev->Mo (List W):=fun ρ n Q=>fa ρ n fun ws m=>∃j:Int,ws=[.d (.int j)]/\j<=1000000/\-1000000<=j/\Q (zg4 0 j.toNat) m
theorem zJ {tg:Expr}{fs:Ev->Mo (List W)}(hg:Gl X "range")(hm:X.mg "range" = none)(ha:JAB X Pn M [a] fs)(hs:starEach [a] X.env=[(false,eval a X.env)]:=by rfl):JI X Pn M false tg (.Call (.Name "range" p) [a] [] pos) (zsP fs):=by obtain⟨te,q,r⟩:=ha.ex;refine⟨_,zjh hg hm q hs,⟨fun A σ H ρ n Q R E P hf k=>?_⟩⟩;refine r.run A σ H ρ n _ _ E P hf  ?_;rintro ws m vs H1 ⟨j,e,j1,j2,r⟩ hv g;subst e;obtain⟨v,rfl,bb⟩:=zcz hv;obtain rfl:=yI bb;exact⟨j,rfl,by lia,by lia,k _ m _ H1 r zmM g⟩
def enW:Nat->List Dt->List W
 | _,[]=>[]
 | k,x::r=>.d (.tup [.int k,x])::enW (k+1) r
theorem zdo:∀ (l:List Dt) (k i:Nat),(enW k l)[i]?=(l[i]?).map fun x=>W.d (.tup [.int ((k+i:Nat):Int),x])
 | [],_,_=>by simp[enW]
 | x::r,k,0=>by simp[enW]
 | x::r,k,i+1=>by have:=zdo r (k+1) i;simp only[enW,bH,this];rw[show k+1+i=k+(i+1) by lia]
theorem zhL:∀ (l:List Dt) (k:Nat),(enW k l).length=l.length
 | [],_=>rfl
 | x::r,k=>by rw[enW,aS,aS,zhL r]
def ziW:List Dt->List Dt->List W
 | x::r,y::s=>.d (.tup [x,y])::ziW r s
 | _,_=>[]
def zcA (ρ:Ev)(cix:List (Option Nat)):Ev:=cix.map fun o=>match o with
 | none=>none
 | some i=>(ρ[i]?).join
def yO (M:List Nat)(cix:List (Option Nat)):List Nat:=(List.range cix.length).filter fun k=>match cix[k]? with
 | some (some i)=>M.contains i
 | _=>false
theorem zbD {cix:List (Option Nat)}{k:Nat}:k∈yO M cix↔∃i,cix[k]?=some (some i)/\i∈M:=by
 unfold yO;rw[aV,aQ];constructor
 ·rintro⟨h1,h2⟩;rw[aj h1] at h2 ⊢
  cases e:cix[k] with
  | none=>rw[e] at h2;cases h2
  | some i=>rw[e] at h2;exact⟨i,rfl,by simpa using h2⟩
 ·rintro⟨i,h1,h2⟩;exact⟨(ae.mp h1).1,by rw[h1];simpa using h2⟩
theorem zaY {α:Type}{l:List (Option α)}{cix:List (Option Nat)}{k:Nat}{x:α}:(cix.map fun o=>match o with | none=>none | some i=>(l[i]?).join)[k]?=some (some x)↔∃i,cix[k]?=some (some i)/\l[i]?=some (some x):=by
 rw[aC]
 cases e:cix[k]? with
 | none=>simp
 | some o=>
  cases o with
  | none=>simp
  | some i=>
   simp only[eA,Option.some.injEq];constructor
   ·intro h;refine⟨i,rfl,?_⟩
    cases q:l[i]? with
    | none=>rw[q] at h;cases h
    | some z=>rw[q] at h;cases z with
     | none=>cases h
     | some y=>cases h;rfl
   ·rintro⟨j,rfl,h⟩;rw[h];rfl
theorem EnvR.cap {A:Addr->Prop}{σ:St}{H:Hp}{ρ:Ev}(E:EnvR A M σ H ρ){cix:List (Option Nat)}(hn:(cix.filterMap id).Nodup):EnvR A (yO M cix) (uT σ cix) H (zcA ρ cix) where
 len:=by unfold uT zcA;rw[aa,aa]
 val:=fun k w e=>by obtain⟨i,h1,h2⟩:=zaY.mp e;obtain⟨v,s1,s2,s3⟩:=E.val i w h2;refine⟨v,zaY.mpr ⟨i,h1,s1⟩,fun z=>s2 fun y=>z (zbD.mpr ⟨i,h1,y⟩),fun z=>?_⟩;obtain⟨j,h3,h4⟩:=zbD.mp z;rw[h1] at h3;cases h3;exact s3 h4
 dis:=fun k k' w u ad hk hk' hne e1 e2 s1 s2=>by
  obtain⟨i,h1,h2⟩:=zaY.mp e1;obtain⟨i',h1',h2'⟩:=zaY.mp e2;obtain⟨j,h3,h4⟩:=zaY.mp s1;obtain⟨j',h3',h4'⟩:=zaY.mp s2;rw[h1] at h3;cases h3;rw[h1'] at h3';cases h3';obtain⟨m,m1,m2⟩:=zbD.mp hk;rw[h1] at m1;cases m1;obtain⟨m',m1',m2'⟩:=zbD.mp hk';rw[h1'] at m1';cases m1';refine E.dis _ _ w u ad m2 m2' (fun z=>?_) h2 h2' h4 h4';subst z
  have key:∀ (l:List (Option Nat)) (a b:Nat) (x:Nat),(l.filterMap id).Nodup->l[a]?=some (some x)->l[b]?=some (some x)->a=b:=by
   intro l
   induction l with
   | nil=>intro a b x _ h;simp at h
   | cons o l ih=>
    intro a b x hn ha hb;have mem:∀ (l:List (Option Nat)) (a:Nat),l[a]?=some (some x)->x∈l.filterMap id:=fun l a h=>cV.mpr ⟨some x,aI h,rfl⟩
    cases o with
    | none=>
     have hn':(l.filterMap id).Nodup:=by simpa using hn
     cases a with
     | zero=>simp at ha
     | succ a=>
      cases b with
      | zero=>simp at hb
      | succ b=>rw[ih a b x hn' (by simpa using ha) (by simpa using hb)]
    | some y=>
     have hn2:y∉l.filterMap id/\(l.filterMap id).Nodup:=by have hn':(y::l.filterMap id).Nodup:=hn;exact b8.mp hn'
     cases a with
     | zero=>
      have ha':y=x:=by simpa using ha
      subst ha'
      cases b with
      | zero=>rfl
      | succ b=>exact absurd (mem l b (by simpa using hb)) hn2.1
     | succ a=>
      cases b with
      | zero=>
       have hb':y=x:=by simpa using hb
       subst hb';exact absurd (mem l a (by simpa using ha)) hn2.1
      | succ b=>rw[ih a b x hn2.2 (by simpa using ha) (by simpa using hb)]
  exact hne (key cix k k' _ hn h1 h1')
 al:=E.al
theorem EnvR.more {A:Addr->Prop}{σ:St}{H H':Hp}{ρ:Ev}(E:EnvR A M σ H ρ){p:Addr}{o:HO}(s:zx H H')(n:Fr H p)(g:H' p=some o)(np:NP o)(nt:∀xs,o≠.tup xs):EnvR (fun b=>A b\/b=p) M σ H' ρ where
 len:=E.len
 val:=fun i w e=>by obtain⟨v,h1,h2,h3⟩:=E.val i w e;refine⟨v,h1,fun z=>WAt.up (yP s n) (yP s n) (h2 z),fun z=>?_⟩;obtain⟨a,e,h4,h5,h6⟩:=h3 z;exact⟨a,e,.inl h4,WAt.up s (yP s n) h5,h6⟩
 dis:=E.dis
 al:=fun a h=>by
  rcases h with h | h
  ·obtain⟨o,h1,h2,h3⟩:=E.al a h;exact⟨o,s _ _ h1 h2,h2,h3⟩
  ·subst h;exact⟨o,g,np,nt⟩
theorem EnvR.upd {A:Addr->Prop}{σ:St}{H:Hp}{ρ:Ev}(E:EnvR A M σ H ρ){p:Addr}{o:HO}(hp:A p)(hn:∀i w,i∈M->ρ[i]?=some (some w)->σ[i]?≠some (some (.ref p)))(np:NP o)(nt:∀xs,o≠.tup xs):EnvR A M σ (L2.upd H p o) ρ where
 len:=E.len
 val:=fun i w e=>by
  obtain⟨v,h1,h2,h3⟩:=E.val i w e;refine⟨v,h1,fun z=>?_,fun z=>?_⟩
  ·show WAt _ _ _ _;rw[yk hp];exact h2 z
  ·obtain⟨a,e',h4,h5,h6⟩:=h3 z;have hne:a≠p:=fun q=>hn i w z e (by rw[h1,e',q]);refine⟨a,e',h4,?_,h6⟩;show WAt _ _ _ _;rw[yk hp]
   cases w with
   | d x=>
    cases x with
    | lst l=>obtain⟨a2,xs,e2,g1,g2⟩:=h5;rw[e'] at e2;cases e2;exact⟨a,xs,e',by rw[zh hne];exact g1,g2⟩
    | dct=>obtain⟨a2,xs,e2,g1,g2⟩:=h5;rw[e'] at e2;cases e2;exact⟨a,xs,e',by rw[zh hne];exact g1,g2⟩
    | _=>cases h6
   | pen p=>cases h6
   | dk k=>obtain⟨a2,xs,e2,g1,g2⟩:=h5;rw[e'] at e2;cases e2;exact⟨a,xs,e',by rw[zh hne];exact g1,g2⟩
   | dt k=>obtain⟨a2,xs,e2,g1,g2⟩:=h5;rw[e'] at e2;cases e2;exact⟨a,xs,e',by rw[zh hne];exact g1,g2⟩
   | ss P w k=>obtain⟨a2,xs,e2,g1,g2⟩:=h5;rw[e'] at e2;cases e2;exact⟨a,xs,e',by rw[zh hne];exact g1,g2⟩
 dis:=E.dis
 al:=fun a h=>by
  by_cases ha:a=p
  ·subst ha;exact⟨o,zj,np,nt⟩
  ·rw[zh ha];exact E.al a h
theorem xq.upd {A:Addr->Prop}{n:Nat}{H:Hp}{p:Addr}{o:HO}(h:xq Pn A n H)(hp:A p):xq Pn A n (L2.upd H p o):=by
 unfold xq at h ⊢;split at h
 ·trivial
 ·refine⟨?_,h.2⟩;rename_i q c ns;obtain⟨h1,h2,h3⟩:=h;have e1:c≠p:=fun z=>h2 (z ▸ hp);have e2:q≠p:=fun z=>h3 (z ▸ hp);obtain⟨a,l,g1,g2,g3,g4⟩:=h1.ob;exact⟨⟨a,l,by rw[zh e2];exact g1,g2,g3,g4⟩,by rw[zh e1];exact h1.ls,h1.len⟩
end
open PySem L2
structure JS (X:Cx)(Pn:Option zq)(S M:List Nat)(fr:Bool)(st:Stmt)(fs:Ms):Prop where
 ex:∃ts,QS X st ts/\RS Pn S M fr ts fs
structure JSs (X:Cx)(Pn:Option zq)(S M:List Nat)(fr:Bool)(st:List Stmt)(fs:Ms):Prop where
 ex:∃ts,QSs X st ts/\RS Pn S M fr ts fs
section
variable {X:Cx}{Pn:Option zq}{M S:List Nat}{fr fr':Bool}{e a b c:Expr}{es:List Expr}{f fa fb fc:Ev->Mo W}{pos p:Pos}
theorem xq.grow {A:Addr->Prop}{n:Nat}{H H':Hp}{q:Addr}{o:HO}(h:xq Pn A n H)(h':xq Pn A n H')(hq:Fr H q)(g:H' q=some o)(np:NP o):xq Pn (fun b=>A b\/b=q) n H':=by
 unfold xq at h h' ⊢;split at h
 ·trivial
 ·rename_i p c ns;refine⟨h'.1,fun z=>z.elim h'.2.1 fun z=>?_,fun z=>z.elim h'.2.2 fun z=>?_⟩
  ·subst z;exact hq _ h.1.ls NP.lst
  ·subst z;obtain⟨a,l,e,_⟩:=h'.1.ob;rw[e] at g;cases g;have:=np _ rfl;rw[zkN] at this;cases this
theorem xq.grow' {A:Addr->Prop}{n m:Nat}{H H':Hp}{q:Addr}{o:HO}(h:xq Pn A n H)(h':xq Pn A m H')(hq:Fr H q)(g:H' q=some o)(np:NP o):xq Pn (fun b=>A b\/b=q) m H':=by
 unfold xq at h h' ⊢;split at h
 ·trivial
 ·rename_i p c ns;refine⟨h'.1,fun z=>z.elim h'.2.1 fun z=>?_,fun z=>z.elim h'.2.2 fun z=>?_⟩
  ·subst z;exact hq _ h.1.ls NP.lst
  ·subst z;obtain⟨a,l,e,_⟩:=h'.1.ob;rw[e] at g;cases g;have:=np _ rfl;rw[zkN] at this;cases this
theorem zli {scope:Scope}{N:List Str}{fr:Bool}(h:∀C s H ex,JE (zt X scope N C s H ex) Pn M fr e f):∃te,(∀C s H ex,QE (zt X scope N C s H ex) e te)/\RE Pn M fr te f:=
 ⟨fun σ H Q=>∀C s H0 ex,(h C s H0 ex).ex.choose σ H Q,fun C s H0 ex=>⟨fun pins s' σ H Q I z=>(h C s H0 ex).ex.choose_spec.1.run pins s' σ H Q I (z C s H0 ex)⟩,
  ⟨fun A σ H ρ n Q R E P hf k C s H0 ex=>(h C s H0 ex).ex.choose_spec.2.run A σ H ρ n Q R E P hf k⟩⟩
theorem zlk {scope:Scope}{N:List Str}{ft:Ev->Mo Bool}(h:∀C s H ex,JTs (zt X scope N C s H ex) Pn M es ft):∃te,(∀C s H ex,QTs (zt X scope N C s H ex) es te)/\RT Pn M te ft:=
 ⟨fun σ H Q=>∀C s H0 ex,(h C s H0 ex).ex.choose σ H Q,fun C s H0 ex=>⟨fun pins s' σ H Q I z=>(h C s H0 ex).ex.choose_spec.1.run pins s' σ H Q I (z C s H0 ex)⟩,
  ⟨fun A σ H ρ n Q R E P hf k C s H0 ex=>(h C s H0 ex).ex.choose_spec.2.run A σ H ρ n Q R E P hf k⟩⟩
theorem zlj {scope:Scope}{N:List Str}{mg:W->Ev->(Ev->Prop)->Prop}(h:∀C s H ex,JG (zt X scope N C s H ex) S M e mg):∃g,(∀C s H ex,QG (zt X scope N C s H ex) e g)/\RG S M g mg:=
 ⟨fun v σ H Q=>∀C s H0 ex,(h C s H0 ex).ex.choose v σ H Q,fun C s H0 ex=>⟨fun pins s' σ H v u Q I rv z=>(h C s H0 ex).ex.choose_spec.1.run pins s' σ H v u Q I rv (z C s H0 ex)⟩,
  ⟨fun A σ H ρ v w Q R E hv hf k C s H0 ex=>(h C s H0 ex).ex.choose_spec.2.run A σ H ρ v w Q R E hv hf k⟩⟩
def zee (mg:W->Ev->(Ev->Prop)->Prop)(ft:Ev->Mo Bool)(fe:Ev->Mo W)(ρ0:Ev)(Q:W->Nat->Prop):List W->Nat->Prop:=fun l n1=>l.length<=lim/\∃I:Nat->Ev->Nat->List Dt->Prop,I 0 ρ0 n1 []/\
 (∀i w ρ' n' acc,l[i]?=some w->I i ρ' n' acc->mg w ρ' fun ρ1=>ft ρ1 n' fun b n2=>if b=true then fe ρ1 n2 fun x n3=>∃d,x = .d d/\I (i+1) ρ1 n3 (acc++[d]) else I (i+1) ρ1 n2 acc)/\
 ∀ ρ' n' acc,I l.length ρ' n' acc->Q (.d (.lst acc)) n'
@[reducible] def zmY (fi:Ev->Mo (List W)) (mg:W->Ev->(Ev->Prop)->Prop) (ft:Ev->Mo Bool) (fe:Ev->Mo W) (cix:List (Option Nat)):Ev->Mo W:=fun ρ n Q=>fi ρ n (zee mg ft fe (zcA ρ cix) Q)
theorem zjo {wi:TI}{g:TG}{ti:TT}{te:TE}{cix:List (Option Nat)}{fi:Ev->Mo (List W)}{mg:W->Ev->(Ev->Prop)->Prop}{ft:Ev->Mo Bool}{fe:Ev->Mo W}{ow:Bool}(hn:(cix.filterMap id).Nodup)
  (hi:RI Pn M ow wi fi) (hg:RG (yO M cix) (yO M cix) g mg) (ht:RT Pn (yO M cix) ti ft) (he:RE Pn (yO M cix) fr' te fe):RE Pn M true (zjF wi g ti te cix) (zmY fi mg ft fe cix):=⟨fun A σ H ρ n Q R E P hf k=>by
 refine hi.run A σ H ρ n _ _ E P hf fun l m J H1 ⟨hz,I,i0,it,ie⟩ iv g1=>fun acc hacc=>?_;have E1:=E.stay g1.st;have E2:=(E1.cap hn).more (zx.upd (o:=.lst []) hacc) (Fr.of hacc) zj NP.lst (by intro xs z;cases z);have P2:xq Pn (fun b=>A b\/b=acc) m (L2.upd H1 acc (.lst [])):=g1.pn.grow (g1.pn.same (x4.upd hacc)) (Fr.of hacc) zj NP.lst
 have nacc:∀k w,k∈yO M cix->(zcA ρ cix)[k]?=some (some w)->(uT σ cix)[k]?≠some (some (.ref acc)):=fun k w hk hw z=>by obtain⟨v,s1,_,s3⟩:=(E1.cap hn).val k w hw;obtain⟨a,e,hA,_⟩:=s3 hk;rw[z] at s1;cases s1;cases e;exact E1.new hacc hA
 have key:∀ σ' ρ' H',EnvR (fun b=>A b\/b=acc) (yO M cix) σ' H' ρ'->(∀k∈yO M cix,σ'[k]?=(uT σ cix)[k]?/\ρ'[k]?=(zcA ρ cix)[k]?)->∀k w,k∈yO M cix->ρ'[k]?=some (some w)->σ'[k]?≠some (some (.ref acc)):=fun σ' ρ' H' E' hfx k w hk hw z=>by obtain⟨f1,f2⟩:=hfx k hk;rw[f1] at z;rw[f2] at hw;exact nacc k w hk hw z
 refine⟨fun i mm σ' H'=>mm=l.length - i/\i<=l.length/\∃ ρ' n' accD xs,EnvR (fun b=>A b\/b=acc) (yO M cix) σ' H' ρ'/\xq Pn (fun b=>A b\/b=acc) n' H'/\I i ρ' n' accD/\H' acc=some (.lst xs)/\IsL (yd (fun b=>A b\/b=acc) H') accD xs/\accD.length<=i/\zx (yd A H1) (yd (fun b=>A b\/b=acc) H')/\zx H1 H'/\(∀k∈yO M cix,σ'[k]?=(uT σ cix)[k]?/\ρ'[k]?=(zcA ρ cix)[k]?),
  ⟨l.length,by simp,a8 _,_,m,[],[],E2,P2,i0,zj,rfl,ag _,yP (zx.upd hacc) (Fr.of hacc),zx.upd hacc,fun k hk=>⟨rfl,rfl⟩⟩,?_⟩
 rintro i mm σ' H' ⟨rfl,hil,ρ',n',accD,xs,E',P',hI,hac,hxs,hal,st,s1,hfx⟩;by_cases hlt:i<l.length
 ·right;have hget:l[i]?=some l[i]:=aj hlt;obtain⟨go,yl⟩:=iv.one i l[i] _ H' hget st (fun _=>s1) fun p hp=>E'.new hp
  refine⟨go,fun σ2 H2=>∃ ρ' n' accD xs,EnvR (fun b=>A b\/b=acc) (yO M cix) σ2 H2 ρ'/\xq Pn (fun b=>A b\/b=acc) n' H2/\I (i+1) ρ' n' accD/\H2 acc=some (.lst xs)/\IsL (yd (fun b=>A b\/b=acc) H2) accD xs/\accD.length<=i+1/\zx (yd A H1) (yd (fun b=>A b\/b=acc) H2)/\zx H1 H2/\(∀k∈yO M cix,σ2[k]?=(uT σ cix)[k]?/\ρ'[k]?=(zcA ρ cix)[k]?),
   fun σ2 H2 h=>⟨l.length - (i+1),by lia,rfl,hlt,h⟩,fun x H2 hy=>?_⟩
  obtain⟨S2,V2⟩:=yl x H2 hy;refine hg.run _ σ' H2 ρ' x l[i] _ _ (E'.stay (zx.same S2)) V2 (it i l[i] ρ' n' accD hget hI) fun σ3 ρ3 r3 E3 f3=>?_;have hfx3:∀k∈yO M cix,σ3[k]?=(uT σ cix)[k]?/\ρ3[k]?=(zcA ρ cix)[k]?:=fun k hk=>⟨(f3 k hk).1.trans (hfx k hk).1,(f3 k hk).2.trans (hfx k hk).2⟩;refine ht.run _ σ3 H2 ρ3 n' _ _ E3 (P'.same S2) r3 fun b m3 H4 r4 g4=>?_;have s24:=(zx.same S2).trans g4.st
  cases b with
  | false=>
   rw[if_neg (by decide)] at r4 ⊢;exact⟨ρ3,m3,accD,xs,E3.stay g4.st,g4.pn,r4,s24.lst hac,hxs.stay (zN s24),by lia,st.trans (zN s24),s1.trans s24,hfx3⟩
  | true=>
   rw[if_pos rfl] at r4 ⊢;refine he.run _ σ3 H4 ρ3 m3 _ _ (E3.stay g4.st) g4.pn r4  ?_;rintro w5 m5 v5 H5 ⟨d,e5,r5⟩ V5 g5 _;subst e5;have s25:=s24.trans g5.st;have E5:=(E3.stay g4.st).stay g5.st;have hac5:=s25.lst hac;refine⟨xs,hac5,zey (by rw[hxs.length];lia),ρ3,m5,accD++[d],xs++[v5],E5.upd (.inr rfl) (key σ3 ρ3 H5 E5 hfx3) NP.lst (by intro xs z;cases z),g5.pn.upd (.inr rfl),r5,zj,?_,by rw[af];simp;lia,?_,?_,hfx3⟩
   ·rw[yk (.inr rfl)];exact (hxs.stay (zN s25)).append (IsL.one V5.is)
   ·rw[yk (.inr rfl)];exact st.trans (zN s25)
   ·exact fun b o e nn=>by rw[zh (zc e hacc)];exact s1.trans s25 b o e nn
 ·left;have hie:i=l.length:=by lia
  subst hie;refine⟨iv.stop _ H' st (fun _=>s1),k _ n' _ H' (ie ρ' n' accD hI) (Val.of ⟨acc,xs,rfl,ye (E1.new hacc) hac,hxs.stay (zx.same (xj fun b z=>.inl z))⟩) (g1.trans ⟨s1,P'.less fun a z=>.inl z⟩) fun _=>⟨acc,rfl,(Fr.of hacc).back g1.st,acc,xs,rfl,hac,hxs⟩⟩⟩
@[reducible] def zrQ:Ev->Mo Bool:=fun _ n Q=>Q true n
theorem yL:JTs X Pn M [] zrQ:=⟨_,zjk,⟨fun A σ H ρ n Q R E P hf k=>k true n H hf (Go.refl P)⟩⟩
theorem xW {ft:Ev->Mo Bool}(h:JT X Pn M c ft):JTs X Pn M [c] ft:=let ⟨t,h1,h2⟩:=h.ex;⟨t,znY h1,h2⟩
theorem xk {elt tg iter:Expr}{ifs:List Expr}{scope:Scope}{N:List Str}{cix:List (Option Nat)}{fi:Ev->Mo (List W)}{mg:W->Ev->(Ev->Prop)->Prop}{ft:Ev->Mo Bool}{fe:Ev->Mo W}{ow:Bool}(hc:X.calm=true)(cc:CompOk X scope N cix)
  (hi:JI X Pn M ow tg iter fi) (hg:∀C s H ex,JG (zt X scope N C s H ex) (yO M cix) (yO M cix) tg mg) (ht:∀C s H ex,JTs (zt X scope N C s H ex) Pn (yO M cix) ifs ft) (he:∀C s H ex,JE (zt X scope N C s H ex) Pn (yO M cix) fr' elt fe)
  (hn:(cix.filterMap id).Nodup:=by decide) (hs:∀x,foldedSetIterable iter X.env x=pure x:=by intro _;rfl):JE X Pn M true (.ListComp elt [⟨tg,iter,ifs,0⟩] scope pos) (zmY fi mg ft fe cix):=by
 obtain⟨ti,qi,ri⟩:=hi.ex;obtain⟨g,qg,rg⟩:=zlj hg;obtain⟨tt,qt,rt⟩:=zlk ht;obtain⟨te,qe,re⟩:=zli he;exact⟨_,zgv hc cc qi qg qt qe hs,zjo hn ri rg rt re⟩
theorem zaz {elt tg iter:Expr}{ifs:List Expr}{scope:Scope}{N:List Str}{cix:List (Option Nat)}{fi:Ev->Mo (List W)}{mg:W->Ev->(Ev->Prop)->Prop}{ft:Ev->Mo Bool}{fe:Ev->Mo W}{ow:Bool}{ix:Nat}{nx:Str}{px spos:Pos}(hNd:X.N.Nodup)(hix:X.N[ix]?=some nx)(hlx:X.env.scope.names.lookup nx=some .local)(hc:X.calm=true)(cc:CompOk X scope N cix)
  (hi:JI X Pn M ow tg iter fi) (hg:∀C s H ex,JG (zt X scope N C s H ex) (yO M cix) (yO M cix) tg mg) (ht:∀C s H ex,JTs (zt X scope N C s H ex) Pn (yO M cix) ifs ft) (he:∀C s H ex,JE (zt X scope N C s H ex) Pn (yO M cix) fr' elt fe)
  (hn:(cix.filterMap id).Nodup:=by decide) (hsw:swapsWithSole [.Name nx px] (.ListComp elt [⟨tg,iter,ifs,0⟩] scope pos) spos.line X.env=pure true:=by rfl)
  (hs:∀x,foldedSetIterable iter X.env x=pure x:=by intro _;rfl)
  (h1a:(assignEach [.Name nx px] X.env).map (·.2)=[assign (.Name nx px) X.env]:=by rfl):∃te,QS X (.Assign [.Name nx px] (.ListComp elt [⟨tg,iter,ifs,0⟩] scope pos) spos) (zgD te (zag ix))/\RE Pn M true te (zmY fi mg ft fe cix):=by
 obtain⟨ti,qi,ri⟩:=hi.ex;obtain⟨g,qg,rg⟩:=zlj hg;obtain⟨tt,qt,rt⟩:=zlk ht;obtain⟨te,qe,re⟩:=zli he;exact⟨_,znX hNd hix hlx hc cc qi qg qt qe hsw hs h1a,zjo hn ri rg rt re⟩
theorem At3.step {B:Bs}{A:Addr->Prop}{σ:St}{H H':Hp}{ρ:Ev}{n m:Nat}(h:At3 Pn B S M A σ H ρ n)(g:Go Pn A H m H'):At3 Pn B S M A σ H' ρ m where
 env:=h.env.stay g.st
 frm:=⟨h.frm.sub,h.frm.new,fun b o e n c=>g.st b o (h.frm.st b o e n c) n,h.frm.al,h.frm.cn,fun a z=>let ⟨o,e,n⟩:=h.frm.cs a z;⟨o,g.st a o e n,n⟩⟩
 pn:=g.pn
 prot:=h.prot.trans (zN g.st)
 fix:=h.fix
 mine:=h.mine
@[reducible] def mRet (f:Ev->Mo W):Ms:=fun ρ n k=>f ρ n k.rt
theorem zq0 {te:TE}(h:RE Pn M fr te f):RS Pn S M fr (zrZ te) (mRet f):=⟨fun B A σ H ρ n k D a kk hf=>by
 refine h.run A σ H ρ n _ _ a.env a.pn hf fun w m v H' r hv g hr=>?_;have a':=a.step g
 exact kk.rt w m v H' (WAt.up (zx.same (xj a.frm.sub)) (zx.same (xj a.frm.sub)) hv) a'.frm.st (g.pn.less a.frm.sub) (fun z=>by obtain⟨b,e,f1,f2⟩:=hr z;exact FrV.less ⟨b,e,a.frm.back f1 (a.env.newF f1),f2⟩ a.frm.sub) r⟩
theorem z3 (h:JE X Pn M fr e f):JS X Pn S M fr (.Return (some e) pos) (mRet f):=let ⟨te,q,r⟩:=h.ex;⟨_,zch q,zq0 r⟩
def zm9 (i:Nat):Ms:=fun ρ n k=>∃w,ρ[i]?=some (some w)/\k.rt w n
theorem zn8 {i:Nat}(hi:i∈M):RS Pn S M fr (zrZ (zlg i)) (zm9 i):=⟨by
 rintro B A σ H ρ n k D a kk ⟨w,e,r⟩;obtain⟨v,s1,_,s3⟩:=a.env.val i w e;obtain⟨ad,rfl,hA,hb,hm⟩:=s3 hi;have hF:=a.mine i w ad hi e s1
 have hn:¬ B.A0 ad:=fun z=>by
  rcases hF with hF | hF
  ·obtain⟨o,o1,o2,_⟩:=a.frm.al ad z;exact hF o o1 o2
  ·exact a.frm.cn ad hF z
 have less:x4 (yd A H) (yd B.A0 H):=xj a.frm.sub;have less2:x4 (yd A H) (yd (fun b=>B.A0 b\/b=ad) H):=xj fun b z=>z.elim (a.frm.sub b) fun z=>z ▸ hA;refine⟨.ref ad,s1,kk.rt w n (.ref ad) H ?_ a.frm.st (a.pn.less a.frm.sub) (fun z=>⟨ad,rfl,hF.resolve_right (kk.fc ad),WAt.up (zx.refl _) (zx.same less2) hb⟩) r⟩
 cases w with
 | d x=>
  cases x with
  | lst l=>obtain⟨a2,xs,e2,g1,g2⟩:=hb;cases e2;exact⟨ad,xs,rfl,ye hn g1,g2.stay (zx.same less)⟩
  | dct=>obtain⟨a2,xs,e2,g1,g2⟩:=hb;cases e2;exact⟨ad,xs,rfl,ye hn g1,g2⟩
  | _=>cases hm
 | pen p=>cases hm
 | dk kvs=>obtain⟨a2,xs,e2,g1,g2,g3⟩:=hb;cases e2;exact⟨ad,xs,rfl,ye hn g1,g2.stay (zx.same less),g3⟩
 | dt kvs=>obtain⟨a2,xs,e2,g1,g2⟩:=hb;cases e2;exact⟨ad,xs,rfl,ye hn g1,g2.stay (zx.same less)⟩
 | ss P w kvs=>obtain⟨a2,xs,e2,g1,g2⟩:=hb;cases e2;exact⟨ad,xs,rfl,ye hn g1,g2.stay (zx.same less)⟩⟩
theorem zb4 (i:Nat){x:Str}(hi:i∈M:=by decide)(hN:X.N[i]?=some x:=by rfl)(hv:Vis X.env.scope x:=by first | exact Or.inl rfl | exact Or.inr (Or.inl rfl) | exact Or.inr (Or.inr rfl))(hd:(x==("__debug__" : Str))=false:=by decide)
  (hcd:(x==("__classdict__" : Str))=false:=by decide) {pos':Pos}:JS X Pn S M fr (.Return (some (.Name x pos)) pos') (zm9 i):=⟨_,zch (qv i hN hv hd hcd),zn8 hi⟩
@[reducible] def zmX (f:Ev->Mo W) (mg:W->Ev->(Ev->Prop)->Prop):Ms:=fun ρ n k=>f ρ n fun w m=>mg w ρ fun ρ'=>k.nx ρ' m
theorem EnvR.mineG {B:Bs}{A:Addr->Prop}{σ σ':St}{H:Hp}{ρ ρ':Ev}{n:Nat}(a:At3 Pn B S M A σ H ρ n)(E:EnvR A M σ' H ρ')(f:∀i∈S++M,σ'[i]?=σ[i]?/\ρ'[i]?=ρ[i]?):At3 Pn B S M A σ' H ρ' n where
 env:=E
 frm:=a.frm
 pn:=a.pn
 prot:=a.prot
 fix:=fun i hi=>(f i (bg.mpr (.inl hi))).1.trans (a.fix i hi)
 mine:=fun i w ad hi e s=>by obtain⟨f1,f2⟩:=f i (bg.mpr (.inr hi));rw[f1] at s;rw[f2] at e;exact a.mine i w ad hi e s
theorem zju {te:TE}{g:TG}{mg:W->Ev->(Ev->Prop)->Prop}(h:RE Pn M fr' te f)(hg:RG (S++M) M g mg):RS Pn S M fr (zgD te g) (zmX f mg):=⟨fun B A σ H ρ n k D a kk hf=>by refine h.run A σ H ρ n _ _ a.env a.pn hf fun w m v H' r hv g' _=>?_;have a':=a.step g';exact hg.run A σ H' ρ v w _ _ a'.env hv r fun σ2 ρ2 r2 E2 f2=>kk.nx A σ2 H' ρ2 m (EnvR.mineG a' E2 f2) r2⟩
theorem zu {i:Nat}{x:Str}{pos':Pos}(hN:X.N.Nodup)(hi:X.N[i]?=some x)(hx:Loc X.env.scope x)(he:JE X Pn M fr' e f)(hiM:i∉M:=by decide)(hiS:i∉S++M:=by decide)(hs:swapsWith e (some (.Name x pos')) pos.line X.env=pure false:=by rfl)(hf:X.fn x=true\/X.env.scope.names.lookup x=some .local:=by first | exact .inl rfl | exact .inr rfl | assumption) :
  JS X Pn S M fr (.Assign [.Name x pos'] e pos) (zmX f (gN i)):=let ⟨te,q,r⟩:=he.ex;⟨_,ug hN hi hx q hs hf,zju r (zfN hiM hiS)⟩
theorem zfx {i:Nat}{st:Stmt}(h:∃te,QS X st (zgD te (zag i))/\RE Pn M true te f)(hiM:i∉M:=by decide)(hiS:i∉S++M:=by decide):JS X Pn S M fr st (zmX f (gN i)):=let ⟨te,q,r⟩:=h;⟨_,q,zju r (zfN hiM hiS)⟩
theorem zik {tg:Expr}{mg:W->Ev->(Ev->Prop)->Prop}(he:JE X Pn M fr' e f)(hg:JG X (S++M) M tg mg)(hs:swapsWithSole [tg] e pos.line X.env=pure false:=by rfl)(hw:swappedStores [tg] e X.env=pure none:=by rfl)
  (h1:(assignEach [tg] X.env).map (·.2)=[assign tg X.env]:=by rfl):JS X Pn S M fr (.Assign [tg] e pos) (zmX f mg):=let ⟨te,q,r⟩:=he.ex;let ⟨g,q2,r2⟩:=hg.ex;⟨_,zlR q q2 hs hw h1,zju r r2⟩
def zpH (i:Nat)(f:Ev->Mo W):Ms:=fun ρ n k=>f ρ n fun w m=>w.mut=true/\k.nx (ρ.set i (some w)) m
theorem ziP {T G:Hp}{w:W}{v:V}(h:WAt T G w v)(hm:w.mut=true):∃a o,v = .ref a/\T a=some o/\NP o/\∀xs,o≠.tup xs:=by
 cases w with
 | d x=>
  cases x with
  | lst l=>obtain⟨a,xs,e,g1,_⟩:=h;exact⟨a,_,e,g1,NP.lst,fun _ z=>by cases z⟩
  | dct=>obtain⟨a,xs,e,g1,g2⟩:=h;exact⟨a,_,e,g1,fun k z=>by cases z;exact g2,fun _ z=>by cases z⟩
  | _=>cases hm
 | pen p=>cases hm
 | dk kvs=>obtain⟨a,xs,e,g1,_,g3⟩:=h;exact⟨a,_,e,g1,fun k z=>by cases z;exact g3,fun _ z=>by cases z⟩
 | dt kvs=>obtain⟨a,xs,e,g1,_⟩:=h;exact⟨a,_,e,g1,(fun k z=>by cases z),fun _ z=>by cases z⟩
 | ss P w kvs=>obtain⟨a,xs,e,g1,_⟩:=h;exact⟨a,_,e,g1,(fun k z=>by cases z),fun _ z=>by cases z⟩
theorem zlW {te:TE}{i:Nat}(h:RE Pn M true te f)(hi:i∈M)(hs:i∉S):RS Pn S M fr (zgD te (zag i)) (zpH i f):=⟨fun B A σ H ρ n k D a kk hf=>by
 refine h.run A σ H ρ n _ _ a.env a.pn hf  ?_;rintro w m v H' ⟨hm,r⟩ hv g' hfr;obtain⟨ad,rfl,hF,hb⟩:=hfr rfl;obtain⟨a2,o,e2,ho,np,nt⟩:=ziP hb hm;cases e2;have E1:=a.env.more g'.st hF ho np nt;have hnA:¬ A ad:=a.env.newF hF;refine kk.nx (fun b=>A b\/b=ad) _ H' _ m ⟨⟨?_,?_,?_,E1.al⟩,⟨fun b z=>.inl (a.frm.sub b z),fun b z=>?_,fun b o e n c=>g'.st b o (a.frm.st b o e n c) n,a.frm.al,a.frm.cn,fun b z=>let ⟨o,e,n⟩:=a.frm.cs b z;⟨o,g'.st b o e n,n⟩⟩,a.pn.grow' g'.pn hF ho np,a.prot.trans (yP g'.st hF),fun j hj=>?_,fun j u b hj e s=>?_⟩ r
 ·rw[aX,aX];exact a.env.len
 ·intro j u e;by_cases hj:j=i
  ·subst hj
   have hl:j<ρ.length:=by have:=(ae.mp e).1;rwa[aX] at this
   rw[aM hl] at e;cases e;exact⟨.ref ad,aM (by rw[a.env.len];exact hl),fun z=>absurd hi z,fun _=>⟨ad,rfl,.inr rfl,hb,hm⟩⟩
  ·rw[ar (Ne.symm hj)] at e ⊢;exact E1.val j u e
 ·intro j l u u' b hj hl hne e1 e2 s1 s2
  have own:∀q u,q∈M->q≠i->ρ[q]?=some (some u)->σ[q]?≠some (some (.ref ad)):=fun q u hq hqi eq sq=>by obtain⟨v,s,_,s3⟩:=a.env.val q u eq;obtain⟨c,ec,hc,_⟩:=s3 hq;rw[sq] at s;cases s;cases ec;exact hnA hc
  have len:∀q (u:W),(ρ.set i (some w))[q]?=some (some u)->q<σ.length:=fun q u e=>by have:=(ae.mp e).1;rw[aX] at this;rw[a.env.len];exact this
  by_cases hji:j=i
  ·subst hji;rw[aM (len _ _ e1)] at s1;cases s1;rw[ar hne] at e2 s2;exact own l u' hl (Ne.symm hne) e2 s2
  ·rw[ar (Ne.symm hji)] at e1 s1;by_cases hli:l=i
   ·subst hli;rw[aM (len _ _ e2)] at s2;cases s2;exact own j u hj hji e1 s1
   ·rw[ar (Ne.symm hli)] at e2 s2;exact a.env.dis j l u u' b hj hl hne e1 e2 s1 s2
 ·rcases z with z | z
  ·exact a.frm.new b z
  ·subst z;exact .inr (.inl (a.frm.back hF hnA))
 ·rw[ar fun (z:i=j)=>hs (by rw[z];exact hj)];exact a.fix j hj
 ·by_cases hji:j=i
  ·subst hji
   have hl:j<σ.length:=by have:=(ae.mp s).1;rwa[aX] at this
   rw[aM hl] at s;cases s;exact .inl (a.frm.back hF hnA)
  ·rw[ar (Ne.symm hji)] at e s;exact a.mine j u b hj e s⟩
theorem xP {i:Nat}{x:Str}{pos':Pos}(hN:X.N.Nodup)(hi:X.N[i]?=some x)(hx:Loc X.env.scope x)(he:JE X Pn M true e f)(hiM:i∈M:=by decide)(hiS:i∉S:=by decide)(hs:swapsWith e (some (.Name x pos')) pos.line X.env=pure false:=by rfl)(hf:X.fn x=true\/X.env.scope.names.lookup x=some .local:=by first | exact .inl rfl | exact .inr rfl | assumption) :
  JS X Pn S M fr (.Assign [.Name x pos'] e pos) (zpH i f):=let ⟨te,q,r⟩:=he.ex;⟨_,ug hN hi hx q hs hf,zlW r hiM hiS⟩
theorem zim {i:Nat}{st:Stmt}(h:∃te,QS X st (zgD te (zag i))/\RE Pn M true te f)(hiM:i∈M:=by decide)(hiS:i∉S:=by decide):JS X Pn S M fr st (zpH i f):=let ⟨te,q,r⟩:=h;⟨_,q,zlW r hiM hiS⟩
end
open PySem PySem.Spec L2
section
variable {X:Cx}{Pn:Option zq}{M S:List Nat}{fr fr':Bool}{e a b c:Expr}{es:List Expr}{f fa fb fc:Ev->Mo W}{pos p:Pos}{st:Stmt}{sts:List Stmt}{fs gs:Ms}
@[reducible] def mNx:Ms:=fun ρ n k=>k.nx ρ n
structure blk (g:Ms)(ρ:Ev)(n:Nat)(k:Kt):Prop where
 go:g ρ n k
theorem zoU {g:Ms}{ρ:Ev}{n:Nat}{k:Kt}(h:g ρ n k):blk g ρ n k:=⟨h⟩
theorem zoT {g:Ms}{ρ:Ev}{n:Nat}{k:Kt}:blk g ρ n k=g ρ n k:=propext ⟨fun h=>h.go,fun h=>⟨h⟩⟩
@[reducible] def mSeq (f g:Ms):Ms:=fun ρ n k=>f ρ n { k with nx:=fun ρ' n'=>blk g ρ' n' k }
def zsM (t:Ev->Mo Bool)(f g:Ms):Ms:=fun ρ n k=>t ρ n fun c m=>if c=true then blk f ρ m k else blk g ρ m k
theorem zL:JSs X Pn S M fr [] mNx:=⟨_,zdS,⟨fun B A σ H ρ n k D a kk hf=>kk.nx A σ H ρ n a hf⟩⟩
theorem zq1 {t u:TS}(h1:RS Pn S M fr t fs)(h2:RS Pn S M fr u gs):RS Pn S M fr (ztB t u) (mSeq fs gs):=⟨fun B A σ H ρ n k D a kk hf=>
 h1.run B A σ H ρ n { k with nx:=fun ρ' n'=>blk gs ρ' n' k } _ a ⟨fun A' σ' H' ρ' n' a' r=>h2.run B A' σ' H' ρ' n' k D a' kk r.go,kk.bk,kk.ct,kk.fc,kk.rt⟩ hf⟩
theorem zb (h1:JS X Pn S M fr st fs)(h2:JSs X Pn S M fr sts gs):JSs X Pn S M fr (st::sts) (mSeq fs gs):=let ⟨t,q,r⟩:=h1.ex;let ⟨u,q2,r2⟩:=h2.ex;⟨_,ym q q2,zq1 r r2⟩
theorem ze (h1:JS X Pn S M fr st fs):JSs X Pn S M fr [st] fs:=let ⟨t,q,r⟩:=h1.ex;⟨_,zaj q,r⟩
theorem yZ {body other:List Stmt}{t:Ev->Mo Bool}(hc:JT X Pn M c t)(ha:JSs X Pn S M fr body fs)(hb:JSs X Pn S M fr other gs):JS X Pn S M fr (.If c body other pos) (zsM t fs gs):=by
 obtain⟨tc,qc,rc⟩:=hc.ex;obtain⟨ta,qa,ra⟩:=ha.ex;obtain⟨tb,qb,rb⟩:=hb.ex;refine⟨_,zk0 qc qa qb,⟨fun B A σ H ρ n k D a kk hf=>?_⟩⟩;refine rc.run A σ H ρ n _ _ a.env a.pn hf fun c m H1 r g=>?_
 cases c with
 | true=>rw[if_pos rfl] at r ⊢;exact ra.run B A σ H1 ρ m k D (a.step g) kk r.go
 | false=>rw[if_neg (by decide)] at r ⊢;exact rb.run B A σ H1 ρ m k D (a.step g) kk r.go
@[reducible] def mDrop (f:Ev->Mo W):Ms:=fun ρ n k=>f ρ n fun _ m=>k.nx ρ m
theorem At3.wr {B:Bs}{A:Addr->Prop}{σ:St}{H:Hp}{ρ:Ev}{n:Nat}(h:At3 Pn B S M A σ H ρ n){i:Nat}{w:W}{ad:Addr}{xs:List V}{l:List Dt}(hi:i∈M)(e:ρ[i]?=some (some w))(s:σ[i]?=some (some (.ref ad)))(hl:IsL (yd A H) l xs):At3 Pn B S M A σ (L2.upd H ad (.lst xs)) (ρ.set i (some (.d (.lst l)))) n:=by
 obtain⟨v,s1,_,s3⟩:=h.env.val i w e;rw[s] at s1;cases s1;obtain⟨a2,e2,hA,_,_⟩:=s3 hi;cases e2;have hlen:i<ρ.length:=(ae.mp e).1
 have hE:EnvR A M σ (L2.upd H ad (.lst xs)) (ρ.set i (some (.d (.lst l)))):=by
  refine⟨by rw[aX];exact h.env.len,fun j u ej=>?_,fun j q u u' b hj hq hne e1 e2=>?_,fun b hb=>?_⟩
  ·by_cases hj:j=i
   ·subst hj;rw[aM hlen] at ej;cases ej;exact⟨.ref ad,s,fun z=>absurd hi z,fun _=>⟨ad,rfl,hA,⟨ad,xs,rfl,zj,by rw[yk hA];exact hl⟩,rfl⟩⟩
   ·rw[ar (Ne.symm hj)] at ej;obtain⟨v,t1,t2,t3⟩:=h.env.val j u ej;refine⟨v,t1,fun z=>?_,fun z=>?_⟩
    ·show WAt _ _ _ _;rw[yk hA];exact t2 z
    ·obtain⟨b,rfl,hb,hbb,hm⟩:=t3 z;have hne:b≠ad:=fun q=>h.env.dis i j w u ad hi z (Ne.symm hj) e ej s (by rw[t1,q]);refine⟨b,rfl,hb,?_,hm⟩;show WAt _ _ _ _;rw[yk hA]
     cases u with
     | d x=>
      cases x with
      | lst l=>obtain⟨a2,xs,e2,g1,g2⟩:=hbb;cases e2;exact⟨b,xs,rfl,by rw[zh hne];exact g1,g2⟩
      | dct=>obtain⟨a2,xs,e2,g1,g2⟩:=hbb;cases e2;exact⟨b,xs,rfl,by rw[zh hne];exact g1,g2⟩
      | _=>cases hm
     | pen p=>cases hm
     | dk k=>obtain⟨a2,xs,e2,g1,g2⟩:=hbb;cases e2;exact⟨b,xs,rfl,by rw[zh hne];exact g1,g2⟩
     | dt k=>obtain⟨a2,xs,e2,g1,g2⟩:=hbb;cases e2;exact⟨b,xs,rfl,by rw[zh hne];exact g1,g2⟩
     | ss P w k=>obtain⟨a2,xs,e2,g1,g2⟩:=hbb;cases e2;exact⟨b,xs,rfl,by rw[zh hne];exact g1,g2⟩
  ·have get:∀q (u:W),(ρ.set i (some (.d (.lst l))))[q]?=some (some u)->∃u',ρ[q]?=some (some u'):=fun q u z=>by
    by_cases hq:q=i
    ·subst hq;exact⟨w,e⟩
    ·rw[ar (Ne.symm hq)] at z;exact⟨u,z⟩
   obtain⟨v1,f1⟩:=get j u e1;obtain⟨v2,f2⟩:=get q u' e2;exact h.env.dis j q v1 v2 b hj hq hne f1 f2
  ·by_cases hb':b=ad
   ·subst hb';exact⟨_,zj,NP.lst,fun _ z=>by cases z⟩
   ·rw[zh hb'];exact h.env.al b hb
 refine⟨hE,⟨h.frm.sub,h.frm.new,fun b o eb nn nc=>?_,h.frm.al,h.frm.cn,fun b z=>(by
  by_cases hb':b=ad
  ·subst hb';exact⟨_,zj,NP.lst⟩
  ·rw[zh hb'];exact h.frm.cs b z)⟩,h.pn.upd hA,by rw[yk hA];exact h.prot,h.fix,fun j u b hj ej sj=>?_⟩
 ·have hne:b≠ad:=fun q=>by
   subst q;rcases h.mine i w b hi e s with z | z
   ·exact z o eb nn
   ·exact nc z
  rw[zh hne];exact h.frm.st b o eb nn nc
 ·by_cases hj':j=i
  ·subst hj';exact h.mine j w b hj e sj
  ·rw[ar (Ne.symm hj')] at ej;exact h.mine j u b hj ej sj
def zrP (i:Nat)(f:Ev->Mo W):Ms:=fun ρ n k=>(∃l,ρ[i]?=some (some (.d (.lst l))))/\f ρ n fun w m=>∃l d,ρ[i]?=some (some (.d (.lst l)))/\w = .d d/\l.length<lim/\k.nx (ρ.set i (some (.d (.lst (l++[d]))))) m
theorem zqX {K:PySem.W.Frag}{te:TE}{i:Nat}(h:RE Pn M fr' te f)(hi:i∈M):RS Pn S M fr (zok (tBM K "list" zfL (zlg i) (zct te zl3))) (zrP i f):=⟨by
 rintro B A σ H ρ n k D a kk ⟨⟨l0,e0⟩,hf⟩;obtain⟨v,s1,_,s3⟩:=a.env.val i _ e0;obtain⟨ad,rfl,hA,hb,_⟩:=s3 hi;obtain⟨a2,xs0,e2,g0,_⟩:=hb;cases e2;refine⟨.ref ad,s1,.inl ⟨rfl,_,SqL.of g0⟩,?_⟩;refine h.run A σ H ρ n _ _ a.env a.pn hf  ?_;rintro w m v H' ⟨l,d,e,ed,hz,r⟩ hv g _;subst ed;have a':=a.step g;obtain⟨v2,t1,_,t3⟩:=a'.env.val i _ e;rw[s1] at t1;cases t1;obtain⟨a3,e3,hA3,hb3,_⟩:=t3 hi;cases e3;obtain⟨a4,xs,e4,g4,hl⟩:=hb3;cases e4;exact⟨ad,xs,v,rfl,rfl,g4,zey (by rw[hl.length];exact ck hz),kk.nx A σ _ _ m (a'.wr hi e s1 (hl.append (IsL.one hv.is))) r⟩⟩
theorem zbb (i:Nat){x:Str}{ap cp sp np:Pos}(he:JE X Pn M fr' e f)(hi:i∈M:=by decide)(hN:X.N[i]?=some x:=by rfl)(hv:Vis X.env.scope x:=by first | exact Or.inl rfl | exact Or.inr (Or.inl rfl) | exact Or.inr (Or.inr rfl))(hd:(x==("__debug__" : Str))=false:=by decide)
  (hcd:(x==("__classdict__" : Str))=false:=by decide) (hs1:starEach (e::[]) X.env=(false,eval e X.env)::starEach [] X.env:=by rfl) (hs:swapsWith (.Call (.Attribute (.Name x np) "append" ap) [e] [] cp) none sp.line X.env=pure false:=by rfl) (hbase:attributeBase (.Name x np) "append" X.env (eval (.Name x np) X.env)=eval (.Name x np) X.env:=by rfl) (hline:(ap.endLine==cp.line)=true:=by rfl)
  (hfew:((backTo cp (starEach [e] X.env)).all (fun x=>!x.1)&&(backToKw cp (keywordEach [] X.env)).all (fun x=>x.1.isSome)&&decide (([e]:List Expr).length+([]:List Keyword).length+(if ([]:List Keyword).isEmpty then 0 else 1)<30))=true:=by rfl) (hplain:(backTo cp (starEach [] X.env)).any (·.1)=false:=by rfl) :
  JS X Pn S M fr (.Expr (.Call (.Attribute (.Name x np) "append" ap) [e] [] cp) sp) (zrP i f):=by
 obtain⟨te,q,r⟩:=he.ex;exact⟨_,zdR (zqy (qv i hN hv hd hcd) (zI q yB hs1) hbase hfew hline hs1 hplain) hs,zqX r hi⟩
def zpi (mg:W->Ev->(Ev->Prop)->Prop)(fb:Ms)(ρ:Ev)(k:Kt):List W->Nat->Prop:=fun l n1=>∃I:Nat->Ev->Nat->Prop,I 0 ρ n1/\
 (∀i w ρ' n',l[i]?=some w->I i ρ' n'->mg w ρ' fun ρ1=>fb ρ1 n' { k with nx:=I (i+1),ct:=I (i+1),bk:=k.nx })/\∀ ρ' n',I l.length ρ' n'->k.nx ρ' n'
@[reducible] def mFor (fi:Ev->Mo (List W)) (mg:W->Ev->(Ev->Prop)->Prop) (fb:Ms):Ms:=fun ρ n k=>fi ρ n (zpi mg fb ρ k)
theorem zqY {wi:TI}{g:TG}{tb:TS}{fi:Ev->Mo (List W)}{mg:W->Ev->(Ev->Prop)->Prop}{fb:Ms}(hi:RI Pn M false wi fi)(hg:RG (S++M) M g mg)(hb:RS Pn S M fr tb fb):RS Pn S M fr (ztz wi g tb) (mFor fi mg fb):=⟨fun B A σ H ρ n k D a kk hf=>by
 refine hi.run A σ H ρ n _ _ a.env a.pn hf  ?_;rintro l m J H1 ⟨I,i0,it,ie⟩ iv g1;have a1:=a.step g1;have out:∀ {A':Addr->Prop} {σ':St} {H':Hp} {ρ':Ev} {n':Nat},At3 Pn { B with G0:=yd A H1 } S M A' σ' H' ρ' n'->At3 Pn B S M A' σ' H' ρ' n':=fun {A' σ' H' ρ' n'} q=>⟨q.env,q.frm,q.pn,a1.prot.trans q.prot,q.fix,q.mine⟩;refine⟨fun i mm σ' H'=>mm=l.length - i/\i<=l.length/\∃A' ρ' n',At3 Pn { B with G0:=yd A H1 } S M A' σ' H' ρ' n'/\I i ρ' n',⟨l.length,by simp,a8 _,A,ρ,m,⟨a1.env,a1.frm,a1.pn,zx.refl _,a1.fix,a1.mine⟩,i0⟩,?_⟩;rintro i mm σ' H' ⟨rfl,hil,A',ρ',n',a',hI⟩;by_cases hlt:i<l.length
 ·right;have hget:l[i]?=some l[i]:=aj hlt;obtain⟨go,yl⟩:=iv.one i l[i] A' H' hget a'.prot (fun z=>by cases z) fun p hp=>a'.env.new hp;refine⟨go,fun σ2 H2=>∃A' ρ' n',At3 Pn { B with G0:=yd A H1 } S M A' σ2 H2 ρ' n'/\I (i+1) ρ' n',fun σ2 H2 h=>⟨l.length - (i+1),by lia,rfl,hlt,h⟩,fun x H2 hy=>?_⟩;obtain⟨S2,V2⟩:=yl x H2 hy;have a2:=a'.step (Go.same a'.pn S2);refine hg.run A' σ' H2 ρ' x l[i] _ _ a2.env V2 (it i l[i] ρ' n' hget hI) fun σ3 ρ3 r3 E3 f3=>?_;refine hb.run { B with G0:=yd A H1 } A' σ3 H2 ρ3 n' _ _ (EnvR.mineG a2 E3 f3) ⟨?_,?_,?_,kk.fc,?_⟩ r3
  ·exact fun A4 σ4 H4 ρ4 n4 a4 r4=>⟨A4,ρ4,n4,a4,r4⟩
  ·exact fun A4 σ4 H4 ρ4 n4 a4 r4=>kk.nx A4 σ4 H4 ρ4 n4 (out a4) r4
  ·exact fun A4 σ4 H4 ρ4 n4 a4 r4=>⟨A4,ρ4,n4,a4,r4⟩
  ·exact kk.rt
 ·left;have hie:i=l.length:=by lia
  subst hie;exact⟨iv.stop A' H' a'.prot (fun z=>by cases z),kk.nx A' σ' H' ρ' n' (out a') (ie ρ' n' hI)⟩⟩
theorem yH {tg iter:Expr}{body:List Stmt}{fi:Ev->Mo (List W)}{mg:W->Ev->(Ev->Prop)->Prop}{fb:Ms}(hp:PassesOwn (model X.prog X.w) X.A X.env X.xe)(hc:X.calm=true)(hi:JI X Pn M false tg iter fi)(hg:JG X (S++M) M tg mg)(hb:JSs X Pn S M fr body fb)(hs:∀x,foldedSetIterable iter X.env x=pure x:=by intro _;rfl) :
  JS X Pn S M fr (.For tg iter body [] pos) (mFor fi mg fb):=by
 obtain⟨ti,qi,ri⟩:=hi.ex;obtain⟨tg',qg,rg⟩:=hg.ex;obtain⟨tb,qb,rb⟩:=hb.ex;exact⟨_,zqE hp hc qi qg qb hs,zqY ri rg rb⟩
def xn (N:List Str)(ws:List W):Ev:=ws.map some++List.replicate (N.length - ws.length) none
theorem zcP.get {A:Addr->Prop}{H:Hp}:∀ {ws:List W} {vs:List V} {i:Nat} {w:W},zcP A H ws vs->ws[i]?=some w->∃v,vs[i]?=some v/\Val A H w v
 | [],_,_,_,_,e=>by simp at e
 | x::ws,vs,0,w,⟨v,r,e1,h1,_⟩,e=>by
  subst e1;have:x=w:=by simpa using e
  subst this;exact⟨v,rfl,h1⟩
 | x::ws,vs,i+1,w,⟨v,r,e1,_,h2⟩,e=>by subst e1;obtain⟨u,h3,h4⟩:=zcP.get (i:=i) h2 (by simpa using e);exact⟨u,by simpa using h3,h4⟩
theorem zhN {A:Addr->Prop}{H:Hp}{N:List Str}{ws:List W}{vs:List V}(al:Al A H)(h:zcP A H ws vs)(hM:∀i∈M,ws.length<=i):EnvR A M (L2.xf N vs) H (xn N ws) where
 len:=by unfold L2.xf xn;rw[af,af,aa,aa,dF,dF,h.len]
 val:=fun i w e=>by
  unfold xn at e
  have hi:i<ws.length:=by apply bD;intro z;rw[ba (by rw[aa];lia)] at e;obtain⟨_,q⟩:=ae.mp e;rw[cw] at q;cases q
  rw[a6 (by rw[aa];exact hi),aC] at e;obtain⟨w',e1,e2⟩:=aH.mp e;cases e2;obtain⟨v,h1,h2⟩:=h.get e1;refine⟨v,?_,fun _=>h2,fun z=>absurd (hM i z) (by lia)⟩;unfold L2.xf;have hi':i<vs.length:=by rw[h.len];exact hi
  rw[a6 (by rw[aa];exact hi'),aC,h1];rfl
 dis:=fun i j w u ad hi hj hne e1=>by unfold xn at e1;have:=hM i hi;rw[ba (by rw[aa];lia)] at e1;obtain⟨_,q⟩:=ae.mp e1;rw[cw] at q;cases q
 al:=al
theorem zpN {P:Program}{w:World}{K:PySem.W.Frag}{mg:Str->Option Value}{base:Heap}{qual:Str}{st:Stmt}{f:Addr}{fd:FuncData}{N ps:List Str}{k m:Nat}{F:Option zq->List W->Mo W}(M:List Nat)(okq:(∀vs H Q E,spV m fr F vs H Q E->vs.length=ps.length)->(∀ (cdv:Value) (A:Around) (outer:List Env) (s:Shared) (H:Hp) (vs:List V) (Q:VK) (E:XK),Room k (A.deeper (PyProof.Rows.envOfC qual (zf st) s.heap.objs.size f cdv))->spV m fr F vs H Q E->
   ∃t,QSs (zdl CX0 P w K mg base N qual (zf st) f cdv A outer s H E).nox (yj st) t/\t { nx:=fun _ H'=>Q .non H',rt:=Q } (L2.xf N vs) H)->FnOk P w K mg base CX0 (k+1) f fd ps (spV m fr F)) (hm:m=ps.length) (hM:∀i∈M,m<=i)
  (hbody:∀ (cdv:Value) (A:Around) (outer:List Env) (s:Shared) (H:Hp) (E:XK) (Pn:Option zq),Room k (A.deeper (PyProof.Rows.envOfC qual (zf st) s.heap.objs.size f cdv))->
   ∃fs,JSs (zdl CX0 P w K mg base N qual (zf st) f cdv A outer s H E).nox Pn [] M fr (yj st) fs/\∀ws n R,ws.length=m->F Pn ws n R->fs (xn N ws) n { nx:=fun _ n'=>fr=false/\R (.d .non) n',rt:=R }):FnOk P w K mg base CX0 (k+1) f fd ps (spV m fr F):=by
 refine okq (fun vs H Q E h=>?_) (fun cdv A outer s H vs Q E hr h=>?_)
 ·obtain⟨Pn,A,ws,n,R,_,hv,hl,_⟩:=h;rw[hv.len,hl,hm]
 ·obtain⟨Pn,A3,ws,n,R,al,hv,hl,hp,hF,q⟩:=h;obtain⟨fs,⟨t,qs,rs⟩,hfs⟩:=hbody cdv A outer s H E Pn hr;refine⟨t,qs,rs.run { A0:=A3,H0:=H,G0:=yd A3 H,σ0:=L2.xf N vs } A3 (L2.xf N vs) H (xn N ws) n _ _ ⟨zhN al hv (fun i hi=>by rw[hl];exact hM i hi),⟨fun _ z=>z,fun _ z=>.inl z,.of (zx.refl _),al,fun _ z=>z.elim,fun _ z=>z.elim⟩,hp,zx.refl _,fun i hi=>rfl,fun i w a hi e=>?_⟩ ⟨?_,?_,?_,fun _ z=>z,?_⟩ (hfs ws n R hl hF)⟩
  ·exact absurd e (by unfold xn;have:=hM i hi;rw[ba (by rw[aa];lia)];intro z;obtain⟨_,q⟩:=ae.mp z;rw[cw] at q;cases q)
  ·intro A' σ' H' ρ' n' a' ⟨hfr,r⟩;exact q _ n' .non H' r (Val.of (show Is _ .non .non from rfl)) ⟨a'.frm.st.stay,a'.pn.less a'.frm.sub⟩ fun z=>by rw[hfr] at z;cases z
  ·intro _ _ _ _ _ _ z;exact z.elim
  ·intro _ _ _ _ _ _ z;exact z.elim
  ·intro w n' v H' hv' st pn hfr r;exact q w n' v H' r hv' ⟨st.stay,pn⟩ hfr
end
open PySem PySem.Spec L2
section
variable {X:Cx}{Pn:Option zq}{M S:List Nat}{fr fr':Bool}{e a b c:Expr}{es:List Expr}{f fa fb fc:Ev->Mo W}{pos p p2:Pos}
def zoC (B:Dt->Bool)(f:Ev->Mo W):Ev->Mo W:=fun ρ n Q=>f ρ n fun w m=>∃d,w = .d d/\Q (.d (.bl (B d))) m
theorem zjp {K:PySem.W.Frag}{T:String}{B:Dt->Bool}{te:TE}(hk:∀d:Dt,PySem.W.kitOne K (.type d.ty) (.type T)=some (B d))(h:RB Pn M te f):RE Pn M false (tCB (fun xs H Q=>∃x T t b,xs=[x,.ty T]/\TyOf K H x t/\PySem.W.kitOne K t (.type T)=some b/\Q (.bl b) H) (zct te (zct (tC (.ty T)) zl3))) (zoC B f):=⟨fun A σ H ρ n Q R E P hf k=>by refine h.run A σ H ρ n _ _ E P hf  ?_;rintro w m v H' ⟨d,e,r⟩ bb g;subst e;exact⟨v,T,_,_,rfl,bb.is.ty,hk d,k _ m _ H' r (Val.of rfl) g fun z=>by cases z⟩⟩
@[reducible] def isStr:Dt->Bool
 | .str _=>true
 | _=>false
@[reducible] def isDct:Dt->Bool
 | .dct=>true
 | _=>false
theorem zpp {T:String}{x:Str}{B:Dt->Bool}(hk:∀d:Dt,PySem.W.kitOne X.K (.type d.ty) (.type T)=some (B d))(hv:bootBuiltins x=some (.type T))(hg2:Gl X x)(hn:x ≠ "__name__")(hd:(x==("__debug__" : Str))=false)(hg:Gl X "isinstance")(hm:X.mg "isinstance" = none)(hm2:X.mg x=none)(h:JB X Pn M e f)
  (hs1:starEach (e::[.Name x p2]) X.env=(false,eval e X.env)::starEach [.Name x p2] X.env) (hs2:starEach (.Name x p2::[]) X.env=(false,eval (.Name x p2) X.env)::starEach [] X.env) (hpl:(backTo pos (starEach [.Name x p2] X.env)).any (·.1)=false):JE X Pn M false (.Call (.Name "isinstance" p) [e,.Name x p2] [] pos) (zoC B f):=by
 obtain⟨te,q,r⟩:=h.ex;exact⟨_,y1 zhw hg hm PyProof.Rows.boot_isinstance (zI q (zI (znJ (v:=.ty T) hg2 hm2 hv rfl hn hd) yB hs2) hs1) (by decide) (by decide) hs1 hpl,zjp hk r⟩
theorem zax (hg:Gl X "isinstance")(hm:X.mg "isinstance" = none)(hm2:X.mg "list" = none)(h:JB X Pn M e f)(hg2:Gl X "list" := by rfl)(hs1:starEach (e::[.Name "list" p2]) X.env=(false,eval e X.env)::starEach [.Name "list" p2] X.env:=by rfl)(hs2:starEach (.Name "list" p2::[]) X.env=(false,eval (.Name "list" p2) X.env)::starEach [] X.env:=by rfl)(hpl:(backTo pos (starEach [.Name "list" p2] X.env)).any (·.1)=false:=by rfl) :
  JE X Pn M false (.Call (.Name "isinstance" p) [e,.Name "list" p2] [] pos) (zoC Dt.isLst f):=zpp (zmS _) cx hg2 (by decide) (by decide) hg hm hm2 h hs1 hs2 hpl
theorem zaw (hg:Gl X "isinstance")(hm:X.mg "isinstance" = none)(hm2:X.mg "bool" = none)(h:JB X Pn M e f)(hg2:Gl X "bool" := by rfl)(hs1:starEach (e::[.Name "bool" p2]) X.env=(false,eval e X.env)::starEach [.Name "bool" p2] X.env:=by rfl)(hs2:starEach (.Name "bool" p2::[]) X.env=(false,eval (.Name "bool" p2) X.env)::starEach [] X.env:=by rfl)(hpl:(backTo pos (starEach [.Name "bool" p2] X.env)).any (·.1)=false:=by rfl) :
  JE X Pn M false (.Call (.Name "isinstance" p) [e,.Name "bool" p2] [] pos) (zoC Dt.isBl f):=zpp (zpB _) PyProof.Rows.boot_bool hg2 (by decide) (by decide) hg hm hm2 h hs1 hs2 hpl
def zgx (n:Nat):List Dt:=(List.range n).map fun i:Nat=>Dt.int i
theorem zia {G:Hp}(n:Nat):IsL G (zgx n) ((List.range n).map fun i:Nat=>V.int i):=by
 have e1:zgx n=(((List.range n).map fun i:Nat=>(i:Int))).map Dt.int:=by unfold zgx;rw[az];rfl
 have e2:((List.range n).map fun i:Nat=>V.int i)=(((List.range n).map fun i:Nat=>(i:Int))).map V.int:=by rw[az];rfl
 rw[e1,e2];exact IsL.ints
def zdA (fa:Ev->Mo (List W)):Ev->Mo W:=fun ρ n Q=>fa ρ n fun ws m=>∃j:Nat,ws=[.d (.int (j:Int))]/\j<=1000/\Q (.d (.lst (zgx j))) m
theorem zay {q:Pos}{pr:Pos}{fs:Ev->Mo (List W)}(hm:X.mg "list" = none)(hm2:X.mg "range" = none)(ha:JAB X Pn M [a] fs)(hc:X.calm=true:=by rfl)(hg:Gl X "list" := by rfl)(hg2:Gl X "range" := by rfl)(hs:starEach (a::[]) X.env=(false,eval a X.env)::starEach [] X.env:=by rfl)(hs2:starEach (.Call (.Name "range" pr) [a] [] q::[]) X.env=(false,eval (.Call (.Name "range" pr) [a] [] q) X.env)::starEach [] X.env:=by rfl)
  (hp1:(backTo q (starEach [] X.env)).any (·.1)=false:=by rfl) (hp2:(backTo pos (starEach [] X.env)).any (·.1)=false:=by rfl):JE X Pn M true (.Call (.Name "list" p) [.Call (.Name "range" pr) [a] [] q] [] pos) (zdA fs):=by
 obtain⟨ta,qa,ra⟩:=ha.ex;refine⟨_,uL (zfb hc) hg hm cx (zI (uL zj8 hg2 hm2 PyProof.Rows.boot_range qa (by decide) (by decide) hs hp1) yB hs2) (by decide) (by decide) hs2 hp2,⟨fun A σ H ρ n Q R E P hf k=>?_⟩⟩;refine ra.run A σ H ρ n _ _ E P hf  ?_;rintro ws m vs H1 ⟨j,e,hj,r⟩ bb g;subst e;obtain⟨v,rfl,b1⟩:=zcz bb;obtain rfl:=yI b1;refine⟨_,rfl,fun p1 H2 np g2 S2=>⟨p1,j,rfl,g2,hj,fun p3 H3 np3 g3 S3=>?_⟩⟩;have g12:=g.trans (Go.same g.pn S2);exact k _ m _ H3 r (x3 (H:=H2) (zia j) (zx.same S3) ((E.stay g12.st).new np3) g3) (g12.trans (Go.same g12.pn S3)) fun _=>(uo (H:=H2) (zia j) S3 np3 g3).back g12.st
@[reducible] def truD:W->Option Bool
 | .d (.lst l)=>some (!l.isEmpty)
 | .d (.tup l)=>some (!l.isEmpty)
 | .d (.bl b)=>some b
 | .d (.int i)=>some (i != 0)
 | .d .non=>some false
 | _=>none
def zsX (f:Ev->Mo W):Ev->Mo Bool:=fun ρ n Q=>f ρ n fun w m=>∃b,truD w=some b/\Q b m
theorem zeh {G:Hp}{l:List Dt}{xs:List V}(h:IsL G l xs):xs.isEmpty=l.isEmpty:=by have:=h.length;cases l <;> cases xs <;> simp_all
theorem zgg (h:JB X Pn M e f)(he:∀whole,isTrue e X.env whole=(do let v <- whole;standAt e.pos;holding [v] (truthy v)):=by intro _;rfl):JT X Pn M e (zsX f):=by
 obtain⟨te,q,r⟩:=h.ex;refine⟨_,zk1 q he,⟨fun A σ H ρ n Q R E P hf k=>?_⟩⟩;refine r.run A σ H ρ n _ _ E P hf fun w m v H1 ⟨b,e,r⟩ bb g=>⟨b,?_,k b m H1 r g⟩
 cases w with
 | d x=>
  cases x with
  | lst l=>cases e;obtain⟨ad,xs,rfl,h1,h2⟩:=yJ bb;exact .inl ⟨xs,.of h1,by rw[zeh h2]⟩
  | tup l=>cases e;obtain⟨ad,xs,rfl,h1,h2⟩:=ul bb;exact .inr (.inl ⟨xs,.of h1,by rw[zeh h2]⟩)
  | bl b=>cases e;obtain rfl:=zoV bb;rfl
  | int b=>cases e;obtain rfl:=yI bb;rfl
  | non=>cases e;have:v = .non:=bb;subst this;rfl
  | str _=>cases e
  | dct=>cases e
 | _=>cases e
theorem At3.own {B:Bs}{A:Addr->Prop}{σ:St}{H:Hp}{ρ:Ev}{n:Nat}(h:At3 Pn B S M A σ H ρ n){i:Nat}{l:List Dt}(hi:i∈M)(e:ρ[i]?=some (some (.d (.lst l)))):∃ad xs,σ[i]?=some (some (.ref ad))/\A ad/\H ad=some (.lst xs)/\IsL (yd A H) l xs:=by obtain⟨v,s1,_,s3⟩:=h.env.val i _ e;obtain⟨ad,rfl,hA,hb,_⟩:=s3 hi;obtain⟨a2,xs,e2,g0,hl⟩:=hb;cases e2;exact⟨ad,xs,s1,hA,g0,hl⟩
theorem zib {G:Hp}{d:Dt}{v:V}(hd:Is G d v):∀ {ds:List Dt} {xs:List V} (k:Nat),IsL G ds xs->IsL G (ds.set k d) (xs.set k v)
 | [],_,_,h=>by cases h;rfl
 | x::ds,xs,0,⟨y,r,e,h1,h2⟩=>by subst e;exact⟨v,r,rfl,hd,h2⟩
 | x::ds,xs,k+1,⟨y,r,e,h1,h2⟩=>by subst e;exact⟨y,_,rfl,h1,zib hd k h2⟩
def zsU (i:Nat)(fk f:Ev->Mo W):Ms:=fun ρ n k=>(∃l,ρ[i]?=some (some (.d (.lst l))))/\f ρ n fun w m=>fk ρ m fun y m2=>∃l d j,ρ[i]?=some (some (.d (.lst l)))/\w = .d d/\y = .d (.int j)/\0<=j/\j<l.length/\k.nx (ρ.set i (some (.d (.lst (l.set j.toNat d))))) m2
theorem zlF (i:Nat){x:Str}{np sp:Pos}(hk:JB X Pn M c fc)(he:JE X Pn M fr' e f)(hi:i∈M:=by decide)(hN:X.N[i]?=some x:=by rfl)(hv:Vis X.env.scope x:=by first | exact Or.inl rfl | exact Or.inr (Or.inl rfl) | exact Or.inr (Or.inr rfl))(hd:(x==("__debug__" : Str))=false:=by decide)
  (hcd:(x==("__classdict__" : Str))=false:=by decide) (hs:swapsWithSole [.Subscript (.Name x np) c p] e sp.line X.env=pure false:=by rfl) (hw:swappedStores [.Subscript (.Name x np) c p] e X.env=pure none:=by rfl)
  (h1:(assignEach [.Subscript (.Name x np) c p] X.env).map (·.2)=[assign (.Subscript (.Name x np) c p) X.env]:=by rfl) (ha:∀v,assign (.Subscript (.Name x np) c p) X.env v=(do
   let ov <- holding [v] (eval (.Name x np) X.env)
   let iv <- holding [v,ov] (eval c X.env)
   standAt p
   holding [v,ov,iv] (setItem ov iv v)
   release [v,ov,iv] []):=by intro _;rfl) :
  JS X Pn S M fr (.Assign [.Subscript (.Name x np) c p] e sp) (zsU i fc f):=by
 obtain⟨te,q,r⟩:=he.ex;obtain⟨tk,qk,rk⟩:=hk.ex;refine⟨_,zlR q (znR (qv i hN hv hd hcd) qk ha) hs hw h1,⟨ ?_⟩⟩;rintro B A σ H ρ n k D a kk ⟨⟨l0,e0⟩,hf⟩;obtain⟨ad,xs0,s0,hA,_⟩:=a.own hi e0;refine r.run A σ H ρ n _ _ a.env a.pn hf fun w m v H1 r1 hv1 g1 _=>⟨.ref ad,s0,?_⟩;have a1:=a.step g1;refine rk.run A σ H1 ρ m _ _ a1.env a1.pn r1  ?_;rintro y m2 v2 H2 ⟨l,d,j,e,ed,ey,j0,j1,r2⟩ b2 g2;subst ed ey;have a2:=a1.step g2;obtain⟨ad2,xs,s2,_,g,hl⟩:=a2.own hi e;rw[s0] at s2;cases s2;exact⟨ad,xs,j,rfl,yI b2,g,j0,by rw[hl.length];exact j1,kk.nx A σ _ _ m2 (a2.wr hi e s0 (zib (hv1.stay g2.st).is _ hl)) r2⟩
end
open PySem PySem.Spec L2
section
variable {A:Addr->Prop}{H:Hp}
theorem ztR {w:W}{vs:List V}(h:zcP A H [w] vs):∃v,vs=[v]/\Val A H w v:=by obtain⟨v,r,e,h1,h2⟩:=h;cases h2;exact⟨v,e,h1⟩
theorem zrB {w u:W}{vs:List V}(h:zcP A H [w,u] vs):∃v y,vs=[v,y]/\Val A H w v/\Val A H u y:=by obtain⟨v,r,e,h1,h2⟩:=h;obtain⟨y,rfl,h3⟩:=ztR h2;exact⟨v,y,e,h1,h3⟩
theorem zrC {st:List Int}{v:V}(h:Val A H (.d (stD st)) v):∃a,v = .ref a/\H a=some (.tup (st.map V.int)):=by obtain⟨a,xs,e,h1,h2⟩:=h;obtain rfl:=h2.of_ints;exact⟨a,e,zE _ _ h1⟩
end
structure RoomOk (rm:List Int):Prop where
 ne:rm≠[]
 few:rm.length<=8
 box:∀r∈rm,2<=r/\r<=4
theorem RoomOk.pos {rm:List Int}(h:RoomOk rm):1<=rm.length:=by
 cases rm with
 | nil=>exact absurd rfl h.ne
 | cons _ _=>simp
abbrev FV:=Option zq->List W->Mo W
def zr4 (k:Nat)(fr:Bool)(F:FV)(sp:Sp):Prop:=∀vs H Q E,spV k fr F vs H Q E->sp vs H Q E
theorem FnOk.lift {P:Program}{w:World}{K:PySem.W.Frag}{mg:Str->Option Value}{base:Heap}{CX:CXT}{j k:Nat}{f:Addr}{fd:FuncData}{ps:List Str}{sp:Sp}{fr:Bool}{F:FV}(h:FnOk P w K mg base CX j f fd ps sp)(l:zr4 k fr F sp):FnOk P w K mg base CX j f fd ps (spV k fr F):=h.imp l
def zhc:FV:=fun Pn ws n R=>∃p c ns ya,Pn=some (p,c,ns)/\ws=[.pen p,.d (.int ya)]/\n<=1000000/\1<=ya/\ya<1073741824/\∀r,0<=r->r<ya->R (.d (.int r)) (n+1)
theorem ziw:zr4 2 false zhc zjC:=by rintro vs H Q E ⟨Pn,A,ws,n,R,al,hv,hl,hp,⟨p,c,ns,ya,rfl,rfl,h1,h2,h3,h4⟩,q⟩;obtain⟨v,y,rfl,b1,b2⟩:=zrB hv;have e1:v = .ref p:=b1;have e2:y = .int ya:=b2;subst e1 e2;exact⟨p,c,ns,n,ya,rfl,hp.1,h1,h2,h3,fun r H' r0 r1 P' S'=>q _ (n+1) _ H' (h4 r r0 r1) (Val.of rfl) ⟨S',P',hp.2⟩ fun z=>by cases z⟩
@[reducible] def zrH:FV:=fun Pn ws n R=>∃p c ns most,Pn=some (p,c,ns)/\ws=[.pen p,.d (.int most)]/\n+20<=1000000/\4<=most/\most<=256/\∀rm,RoomOk rm->yw rm<=most->R (.d (stD rm)) (n+10)
@[reducible] def zlp:FV:=fun Pn ws n R=>∃p c ns rm,Pn=some (p,c,ns)/\ws=[.pen p,.d (stD rm)]/\n+20<=1000000/\RoomOk rm/\∀st,st.length=rm.length->(∀b:Int,0<=b->b<rm.length->0<=ya st b/\ya st b<ya rm b)->R (.d (stD st)) (n+10)
@[reducible] def zdp (g:List (Int×Int)):Dt:=.tup (g.map yb)
@[reducible] def zoI:FV:=fun Pn ws n R=>∃p c ns rm apart,Pn=some (p,c,ns)/\ws=[.pen p,.d (stD rm),.d (.int apart)]/\n+40<=1000000/\RoomOk rm/\∀g,Giv rm g->(∀q∈g,q.1≠apart)->g.length<=8->R (.d (zdp g)) (n+30)
@[reducible] def zr3:FV:=fun _ ws n R=>∃d,ws=[.d d]/\R (.d (.bl d.isWhole)) n
@[reducible] def zr2:FV:=fun _ ws n R=>∃a b,ws=[.d (.bl a),.d (.bl b)]/\R (.d (.bl (a==b))) n
@[reducible] def F_prod:FV:=fun _ ws n R=>∃ns:List Int,ws=[.d (stD ns)]/\(∀n∈ns,2<=n/\n<=4)/\R (.d (.int (yw ns))) n
@[reducible] def zr1:FV:=fun _ ws n R=>∃st g,ws=[.d (stD st),.d (zdp g)]/\(∀q∈g,0<=q.1/\q.1<st.length)/\R (.d (.bl (xl st g))) n
@[reducible] def zbp (sts:List (List Int)):Dt:=.lst (sts.map stD)
@[reducible] def F_all:FV:=fun _ ws n R=>∃rm,ws=[.d (stD rm)]/\RoomOk rm/\yw rm<=256/\R (.d (zbp (uY (rm.map zp)))) n
@[reducible] def lsD (c:List Int):Dt:=.lst (c.map .int)
@[reducible] def zoz:FV:=fun _ ws n R=>∃cs:List (List Int),ws=[.d (.lst (cs.map lsD))]/\cs.length<=8/\(∀c∈cs,c.length<=4)/\R (.d (zbp (uY cs))) n
theorem zs0 {P:Program}{w:World}{K:PySem.W.Frag}{mg:Str->Option Value}{base:Heap}{x qual:Str}{st:Stmt}{f:Addr}{fd:FuncData}{N ps:List Str}{k r:Nat}(M:List Nat)(Fu:Fun K x qual st f fd)(S:FnScope N ps (zf st))(hps:ps.length=1)(hN:N.length=r+2)(hM:∀i∈M,2<=i)
  (hbody:∀ (cdv:Value) (A:Around) (outer:List Env) (s:Shared) (H:Hp) (E:XK) (Pn:Option zq),Room k (A.deeper (PyProof.Rows.envOfC qual (zf st) s.heap.objs.size f cdv))->
   ∃s1 zY fs,yj st=s1::zY/\QS (zdl CX0 P w K mg base N qual (zf st) f cdv A outer s H E).nox s1 (zgD (zfS (zlb K) [] E0 (zct (zlg 0) zl3)) (zag 1))/\
    JSs (zdl CX0 P w K mg base N qual (zf st) f cdv A outer s H E).nox Pn [] M false zY fs/\∀p c ns,Pn=some (p,c,ns)->fs (none::some (.pen p)::List.replicate r none) 0 { nx:=fun _ _=>False,rt:=fun w _=>w = .d (.bl true) }):FnOk P w K mg base CX0 (k+1) f fd ps (zjD K):=by
 refine Fun.okQ Fu S (fun vs H Q E h=>?_) (fun cdv A outer s H vs Q E hr h=>?_)
 ·obtain⟨a,ns,rfl,_⟩:=h;exact hps.symm
 ·obtain⟨a,ns,rfl,hS,hl,q⟩:=h;have ctx:=fun (Pn:Option zq)=>hbody cdv A outer s H E Pn hr
  have hN1:L2.xf N [.ref a]=some (.ref a)::none::List.replicate r none:=by unfold L2.xf;rw[hN];rfl
  have hd:∃s1 zY,yj st=s1::zY:=let ⟨s1,zY,_,e,_⟩:=ctx none;⟨s1,zY,e⟩;obtain⟨s1,zY,e0⟩:=hd;rw[e0]
  have c2:∀Pn,∃fs,JSs (zdl CX0 P w K mg base N qual (zf st) f cdv A outer s H E).nox Pn [] M false zY fs/\∀p c ns,Pn=some (p,c,ns)->fs (none::some (.pen p)::List.replicate r none) 0 { nx:=fun _ _=>False,rt:=fun w _=>w = .d (.bl true) }:=fun Pn=>by obtain⟨s1',rest',fs,e,_,h1,h2⟩:=ctx Pn;rw[e0] at e;cases e;exact⟨fs,h1,h2⟩
  have q1:QS (zdl CX0 P w K mg base N qual (zf st) f cdv A outer s H E).nox s1 (zgD (zfS (zlb K) [] E0 (zct (zlg 0) zl3)) (zag 1)):=by obtain⟨s1',rest',fs,e,h0,_⟩:=ctx none;rw[e0] at e;cases e;exact h0
  refine⟨_,ym q1 (u:=fun D σ H=>∃Pn,(c2 Pn).choose_spec.1.ex.choose D σ H) ⟨fun pins s' σ H D I ⟨Pn,z⟩=>(c2 Pn).choose_spec.1.ex.choose_spec.1.run pins s' σ H D I z⟩,?_⟩;refine⟨.ref a,by rw[hN1];rfl,a,ns,rfl,hS,hl,fun p c H1 P1 S1=>⟨some (p,c,ns),?_⟩⟩;have hs:=(c2 (some (p,c,ns))).choose_spec.2 p c ns rfl;have e1:(L2.xf N [.ref a]).set 1 (some (.ref p))=some (.ref a)::some (.ref p)::List.replicate r none:=by rw[hN1];rfl
  rw[e1]
  have hnone:∀i (u:W),(none::some (.pen p)::List.replicate r none:Ev)[i]?=some (some u)->i=1/\u = .pen p:=fun i u e=>by
   match i,e with
   | 0,e=>simp at e
   | 1,e=>exact⟨rfl,by simpa using e.symm⟩
   | i+2,e=>
    simp only[bH] at e;obtain⟨_,q⟩:=ae.mp e;rw[cw] at q;cases q
  refine (c2 (some (p,c,ns))).choose_spec.1.ex.choose_spec.2.run { A0:=fun _=>False,H0:=H1,G0:=yd (fun _=>False) H1,σ0:=[] } (fun _=>False) _ H1 _ 0 _ _ ⟨⟨?_,?_,?_,fun _ z=>z.elim⟩,⟨fun _ z=>z,fun _ z=>z.elim,.of (zx.refl _),fun _ z=>z.elim,fun _ z=>z.elim,fun _ z=>z.elim⟩,⟨P1,fun z=>z,fun z=>z⟩,zx.refl _,fun i hi=>by simp at hi,?_⟩ ⟨?_,?_,?_,fun _ z=>z,?_⟩ hs
  ·simp
  ·intro i u e;obtain⟨rfl,rfl⟩:=hnone i u e;exact⟨.ref p,rfl,fun _=>rfl,fun z=>absurd (hM 1 z) (by lia)⟩
  ·intro i j u u' b hi hj hne e1;obtain⟨rfl,rfl⟩:=hnone i u e1;exact absurd (hM 1 hi) (by lia)
  ·intro i u b hi e;obtain⟨rfl,rfl⟩:=hnone i u e;exact absurd (hM 1 hi) (by lia)
  ·intro _ _ _ _ _ _ z;exact z.elim
  ·intro _ _ _ _ _ _ z;exact z.elim
  ·intro _ _ _ _ _ _ z;exact z.elim
  ·intro w n' v H' hv st pn _ r;have r':w = .d (.bl true):=r;subst r';have:v = .bl true:=hv;subst this;exact q H'
open PySem PySem.Spec L2
theorem zht {α:Type}{l:List W}{ρ0:Ev}{n:Nat}{mg:W->Ev->(Ev->Prop)->Prop}{ft:Ev->Mo Bool}{fe:Ev->Mo W}{Q:W->Nat->Prop}(xs:List α)(toW:α->W)(hl:l=xs.map toW)(J:Ev->Prop)(P:α->Bool)(E:α->Dt)(hlim:xs.length<=lim)(j0:J ρ0)
  (h:∀a∈xs,∀ ρ',J ρ'->∀C:Ev->Nat->Option Dt->Prop,(∀ ρ1,J ρ1->C ρ1 n (if P a then some (E a) else none))->mg (toW a) ρ' fun ρ1=>ft ρ1 n fun b n2=>if b=true then fe ρ1 n2 fun x n3=>∃d,x = .d d/\C ρ1 n3 (some d) else C ρ1 n2 none)
  (fin:Q (.d (.lst ((xs.filter P).map E))) n):zee mg ft fe ρ0 Q l n:=by
 subst hl;refine⟨by rw[aa];exact hlim,fun i ρ' n' acc=>J ρ'/\n'=n/\acc=((xs.take i).filter P).map E,⟨j0,rfl,by simp⟩,?_,?_⟩
 ·rintro i w ρ' n' acc hw ⟨hj,rfl,rfl⟩;rw[aC] at hw;obtain⟨a,ha,rfl⟩:=aH.mp hw
  have:=h a (aI ha) ρ' hj (fun ρ1 n3 o=>match o with
   | some d=>J ρ1/\n3=n'/\((xs.take i).filter P).map E++[d]=((xs.take (i+1)).filter P).map E
   | none=>J ρ1/\n3=n'/\((xs.take i).filter P).map E=((xs.take (i+1)).filter P).map E) (fun ρ1 hj1=>by
    rw[zr ha,ce,aB];by_cases hp:P a=true
    ·rw[if_pos hp];exact⟨hj1,rfl,by simp[hp]⟩
    ·rw[if_neg hp];exact⟨hj1,rfl,by simp[hp]⟩)
  exact this
 ·rintro ρ' n' acc ⟨_,rfl,rfl⟩;rw[aa,bn];exact fin
theorem zj6 {α:Type}{l:List W}{ρ0:Ev}{n:Nat}{mg:W->Ev->(Ev->Prop)->Prop}{fe:Ev->Mo W}{Q:W->Nat->Prop}(xs:List α)(toW:α->W)(hl:l=xs.map toW)(J:Ev->Prop)(E:α->Dt)(hlim:xs.length<=lim)(j0:J ρ0)
  (h:∀a∈xs,∀ ρ',J ρ'->∀C:Ev->Nat->Dt->Prop,(∀ ρ1,J ρ1->C ρ1 n (E a))->mg (toW a) ρ' fun ρ1=>fe ρ1 n fun x n3=>∃d,x = .d d/\C ρ1 n3 d)
  (fin:Q (.d (.lst (xs.map E))) n):zee mg zrQ fe ρ0 Q l n:=by
 subst hl;refine⟨by rw[aa];exact hlim,fun i ρ' n' acc=>J ρ'/\n'=n/\acc=(xs.take i).map E,⟨j0,rfl,by simp⟩,?_,?_⟩
 ·rintro i w ρ' n' acc hw ⟨hj,rfl,rfl⟩;rw[aC] at hw;obtain⟨a,ha,rfl⟩:=aH.mp hw;exact h a (aI ha) ρ' hj (fun ρ1 n3 d=>J ρ1/\n3=n'/\(xs.take i).map E++[d]=(xs.take (i+1)).map E) fun ρ1 hj1=>⟨hj1,rfl,by rw[zr ha,aB];rfl⟩
 ·rintro ρ' n' acc ⟨_,rfl,rfl⟩;rw[aa,bn];exact fin
theorem zmD {r:Nat}{ρ:Ev}{n:Nat}{mg:W->Ev->(Ev->Prop)->Prop}{fb:Ms}{k:Kt}(I:Nat->Ev->Nat->Prop)(h0:I 0 ρ n)
  (h:∀i ρ' n',i<r->I i ρ' n'->mg (.d (.int (i:Int))) ρ' fun ρ1=>fb ρ1 n' { k with nx:=I (i+1),ct:=I (i+1),bk:=k.nx }) (hd:∀ ρ' n',I r ρ' n'->k.nx ρ' n'):zpi mg fb ρ k (zg4 0 r) n:=by
 refine⟨I,h0,fun i w ρ' n' hw hI=>?_,fun ρ' n' hI=>hd ρ' n' ?_⟩
 ·unfold zg4 at hw;rw[aC] at hw;obtain⟨j,h1,rfl⟩:=aH.mp hw;obtain⟨hi,h2⟩:=ae.mp h1;rw[bT] at h2;subst h2;rw[am] at hi;have:=h i ρ' n' hi hI;rw[Int.zero_add];exact this
 ·unfold zg4 at hI;rwa[aa,am] at hI
theorem zhV {α:Type}{l:List W}{ρ:Ev}{n:Nat}{mg:W->Ev->(Ev->Prop)->Prop}{fb:Ms}{k:Kt}(xs:List α)(toW:α->W)(hl:l=xs.map toW)(I:Nat->Ev->Nat->Prop)(h0:I 0 ρ n)
  (h:∀i a ρ' n',xs[i]?=some a->I i ρ' n'->mg (toW a) ρ' fun ρ1=>fb ρ1 n' { k with nx:=I (i+1),ct:=I (i+1),bk:=k.nx }) (hd:∀ ρ' n',I xs.length ρ' n'->k.nx ρ' n'):zpi mg fb ρ k l n:=by
 subst hl;refine⟨I,h0,fun i w ρ' n' hw hI=>?_,fun ρ' n' hI=>hd ρ' n' (by rwa[aa] at hI)⟩;rw[aC] at hw;obtain⟨a,ha,rfl⟩:=aH.mp hw;exact h i a ρ' n' ha hI
theorem zar {r:Nat}{ρ:Ev}{n:Nat}{mg:W->Ev->(Ev->Prop)->Prop}{fb:Ms}{k:Kt}(I:Nat->Ev->Nat->Prop)(h0:I 0 ρ n)
  (h:∀i ρ' n',i<r->I i ρ' n'->∀ (C B:Ev->Nat->Prop) (E:W->Nat->Prop),(∀ {ρ m},I (i+1) ρ m->C ρ m)->(∀ {ρ m},k.nx ρ m->B ρ m)->(∀ {w m},k.rt w m->E w m)->mg (.d (.int (i:Int))) ρ' fun ρ1=>fb ρ1 n' { rt:=E,nx:=C,ct:=C,bk:=B }) (hd:∀ ρ' n',I r ρ' n'->k.nx ρ' n'):zpi mg fb ρ k (zg4 0 r) n:=
 zmD I h0 (fun i ρ' n' hi hI=>h i ρ' n' hi hI (I (i+1)) k.nx k.rt (fun z=>z) (fun z=>z) fun z=>z) hd
theorem yE {α:Type}{l:List W}{ρ:Ev}{n:Nat}{mg:W->Ev->(Ev->Prop)->Prop}{fb:Ms}{k:Kt}(xs:List α)(toW:α->W)(hl:l=xs.map toW)(I:Nat->Ev->Nat->Prop)(h0:I 0 ρ n)
  (h:∀i a ρ' n',xs[i]?=some a->I i ρ' n'->∀ (C B:Ev->Nat->Prop) (E:W->Nat->Prop),(∀ {ρ m},I (i+1) ρ m->C ρ m)->(∀ {ρ m},k.nx ρ m->B ρ m)->(∀ {w m},k.rt w m->E w m)->mg (toW a) ρ' fun ρ1=>fb ρ1 n' { rt:=E,nx:=C,ct:=C,bk:=B }) (hd:∀ ρ' n',I xs.length ρ' n'->k.nx ρ' n'):zpi mg fb ρ k l n:=
 zhV xs toW hl I h0 (fun i a ρ' n' ha hI=>h i a ρ' n' ha hI (I (i+1)) k.nx k.rt (fun z=>z) (fun z=>z) fun z=>z) hd
theorem zj5 {α:Type}{l:List W}{ρ0:Ev}{n:Nat}{mg:W->Ev->(Ev->Prop)->Prop}{ft:Ev->Mo Bool}{fe:Ev->Mo W}{Q:W->Nat->Prop}(xs:List α)(toW:α->W)(hl:l=xs.map toW)(hlim:xs.length<=lim)(I:Nat->Ev->Nat->List Dt->Prop)(h0:I 0 ρ0 n [])
  (h:∀i a ρ' n' acc,xs[i]?=some a->I i ρ' n' acc->∀C:Ev->Nat->List Dt->Prop,(∀ {ρ m l},I (i+1) ρ m l->C ρ m l)->mg (toW a) ρ' fun ρ1=>ft ρ1 n' fun b n2=>if b=true then fe ρ1 n2 fun x n3=>∃d,x = .d d/\C ρ1 n3 (acc++[d]) else C ρ1 n2 acc)
  (fin:∀ ρ' n' acc,I xs.length ρ' n' acc->Q (.d (.lst acc)) n'):zee mg ft fe ρ0 Q l n:=by
 subst hl;refine⟨by rw[aa];exact hlim,I,h0,fun i w ρ' n' acc hw hI=>?_,fun ρ' n' acc hI=>fin ρ' n' acc (by rwa[aa] at hI)⟩;rw[aC] at hw;obtain⟨a,ha,rfl⟩:=aH.mp hw;exact h i a ρ' n' acc ha hI (I (i+1)) fun z=>z
theorem zbL {α:Type}{l:List α}{i:Nat}{x:α}(h:l[i]?=some x):atI l (i:Int)=some x:=by have:=(ae.mp h).1;unfold atI ixN;rw[if_pos (by lia),if_pos (by lia)];simpa using h
theorem zoP {α:Type}{l:List α}{i:Int}(h0:0<=i)(h1:i<l.length):∃d,atI l i=some d/\d∈l:=by
 obtain⟨j,rfl⟩:∃j:Nat,i=j:=⟨i.toNat,by lia⟩;have hj:j<l.length:=by lia
 exact⟨l[j],zbL (aj hj),bh hj⟩
theorem zma {st:List Int}{b:Int}(h0:0<=b)(h1:b<st.length):atI (st.map Dt.int) b=some (.int (ya st b)):=by
 obtain⟨j,rfl⟩:∃j:Nat,b=j:=⟨b.toNat,by lia⟩;have hj:j<st.length:=by lia
 refine zbL ?_;rw[aC,aj hj,yc];simp[hj]
open PySem L2
def gw (g:List (Int×Int))(i:Nat):Option Int:=(g.find? fun q=>decide (q.1=(i:Int))).map (·.2)
theorem zms (rm:List Int):enW 0 (rm.map Dt.int)=(List.range rm.length).map fun i:Nat=>W.d (.tup [.int (i:Int),.int (rm.getD i 0)]):=by
 apply dz;intro i;rw[zdo,aC,aC];by_cases h:i<rm.length
 ·rw[aj h,dh h];simp[h]
 ·rw[bw (by lia),bw (by rw[am];lia)];rfl
def cho (rm:List Int)(g:List (Int×Int))(i:Nat):List Int:=match gw g i with
 | some w=>[w]
 | none=>zp (rm.getD i 0)
def chs (rm:List Int)(g:List (Int×Int)):List (List Int):=(List.range rm.length).map (cho rm g)
def zsI (rm:List Int)(g:List (Int×Int)):List (List Int):=uY (chs rm g)
section
variable {X:Cx}{Pn:Option zq}{M S:List Nat}{fr fr':Bool}{e a b c:Expr}{es:List Expr}{f fa fb fc:Ev->Mo W}{pos p p2:Pos}
def zm2 (fa:Ev->Mo (List W)):Ev->Mo (List W):=fun ρ n Q=>fa ρ n fun ws m=>∃l,ws=[.d (.lst l)]/\Q (enW 0 l) m
theorem zig {K:PySem.W.Frag}{A:Addr->Prop}{H:Hp}{ad:Addr}{xs:List V}{l:List Dt}(h:yd A H ad=some (.lst xs))(hl:IsL (yd A H) l xs):ItV false A H (Iel K ad) (enW 0 l) where
 one:=fun i w A2 H2 e s _ hA=>by rw[zdo] at e;obtain⟨d,h1,rfl⟩:=aH.mp e;obtain⟨x,hx,hd⟩:=hl.getD h1;have g:=zE _ _ (s.lst h);refine⟨⟨xs,x,.of g,hx⟩,?_⟩;rintro y H3 ⟨T,z,e1,hT,e3,hy⟩;subst e1 e3;have:=hy xs (.of g);rw[hx] at this;cases this;have S:=x4.upd (o:=.tup [.int i,x]) hT;refine⟨S,Val.of ⟨T,_,rfl,ye (hA T hT) zj,_,_,rfl,?_,_,_,rfl,(hd.stay s).stay (zx.same (zbY S)),rfl⟩⟩;show V.int (i:Int)=V.int ((0+i:Nat):Int);rw[Nat.zero_add]
 stop:=fun A2 H2 s _=>⟨xs,.of (zE _ _ (s.lst h)),by rw[zhL,hl.length];exact ag _⟩
theorem zdu {elts:List Expr}{x1}{tpos:Pos}{fs:Ev->Mo (List W)}(hg:Gl X "enumerate")(hm:X.mg "enumerate" = none)(ha:JA X Pn M [a] fs)(hs:starEach [a] X.env=[(false,eval a X.env)]:=by rfl):JI X Pn M false (.Tuple elts x1 tpos) (.Call (.Name "enumerate" p) [a] [] pos) (zm2 fs):=by obtain⟨te,q,r⟩:=ha.ex;refine⟨_,zkY hg hm q hs,⟨fun A σ H ρ n Q R E P hf k=>?_⟩⟩;refine r.run A σ H ρ n _ _ E P hf  ?_;rintro ws m vs H1 ⟨l,e,r⟩ hv g;subst e;obtain⟨v,s,rfl,⟨ad,xs,rfl,had,hl⟩,hs⟩:=hv;cases hs;exact⟨ad,rfl,⟨xs,.of (zE _ _ had)⟩,k _ m _ H1 r (zig had hl) g⟩
theorem zgG:∀ (l k:List Dt) (i:Nat),(ziW l k)[i]?=(l[i]?).bind fun x=>(k[i]?).map fun y=>W.d (.tup [x,y])
 | [],_,_=>by simp[ziW]
 | _::_,[],_=>by simp[ziW]
 | x::r,y::s,0=>by simp[ziW]
 | x::r,y::s,i+1=>by have:=zgG r s i;simp only[ziW,bH,this]
theorem zgH:∀ (l k:List Dt),(ziW l k).length=min l.length k.length
 | [],_=>by simp[ziW]
 | _::_,[]=>by simp[ziW]
 | x::r,y::s=>by rw[ziW,aS,aS,aS,zgH r s];lia
def zm3 (fa:Ev->Mo (List W)):Ev->Mo (List W):=fun ρ n Q=>fa ρ n fun ws m=>∃l k,ws=[.d (.lst l),.d (.lst k)]/\Q (ziW l k) m
theorem zkq {K:PySem.W.Frag}{A:Addr->Prop}{H:Hp}{ad bd:Addr}{xs ys:List V}{l k:List Dt}(h:yd A H ad=some (.lst xs))(hl:IsL (yd A H) l xs)(h':yd A H bd=some (.lst ys))(hk:IsL (yd A H) k ys):ItV false A H (Izl K ad bd) (ziW l k) where
 one:=fun i w A2 H2 e s _ hA=>by rw[zgG] at e;obtain⟨d,h1,e⟩:=Option.bind_eq_some_iff.mp e;obtain⟨d',h1',rfl⟩:=aH.mp e;obtain⟨x,hx,hd⟩:=hl.getD h1;obtain⟨y,hy,hd'⟩:=hk.getD h1';have g:=zE _ _ (s.lst h);have g':=zE _ _ (s.lst h');refine⟨⟨xs,ys,x,y,.of g,.of g',hx,hy⟩,?_⟩;rintro v H3 ⟨T,z,z',e1,hT,e3,hz,hz'⟩;subst e1 e3;have q1:=hz xs (.of g);have q2:=hz' ys (.of g');rw[hx] at q1;rw[hy] at q2;cases q1;cases q2;have S:=x4.upd (o:=.tup [x,y]) hT;exact⟨S,Val.of ⟨T,_,rfl,ye (hA T hT) zj,_,_,rfl,(hd.stay s).stay (zx.same (zbY S)),_,_,rfl,(hd'.stay s).stay (zx.same (zbY S)),rfl⟩⟩
 stop:=fun A2 H2 s _=>⟨xs,ys,.of (zE _ _ (s.lst h)),.of (zE _ _ (s.lst h')),by rw[zgH,hl.length,hk.length];lia⟩
theorem zfv {elts:List Expr}{x1}{tpos:Pos}{fs:Ev->Mo (List W)}(hg:Gl X "zip")(hm:X.mg "zip" = none)(ha:JA X Pn M [a,b] fs)(hs:starEach [a,b] X.env=[(false,eval a X.env),(false,eval b X.env)]:=by rfl)(hs2:starEach [b] X.env=[(false,eval b X.env)]:=by rfl):JI X Pn M false (.Tuple elts x1 tpos) (.Call (.Name "zip" p) [a,b] [] pos) (zm3 fs):=by obtain⟨te,q,r⟩:=ha.ex;refine⟨_,znV hg hm q hs hs2,⟨fun A σ H ρ n Q R E P hf k=>?_⟩⟩;refine r.run A σ H ρ n _ _ E P hf  ?_;rintro ws m vs H1 ⟨l,kk,e,r⟩ hv g;subst e;obtain⟨v,s,rfl,⟨ad,xs,rfl,had,hl⟩,v2,s2,rfl,⟨bd,ys,rfl,hbd,hk⟩,hs⟩:=hv;cases hs;exact⟨ad,bd,rfl,⟨xs,.of (zE _ _ had)⟩,⟨ys,.of (zE _ _ hbd)⟩,k _ m _ H1 r (zkq had hl hbd hk) g⟩
def zsL (i:Nat)(f:Ev->Mo W):Ms:=fun ρ n k=>(∃l,ρ[i]?=some (some (.d (.lst l))))/\f ρ n fun w m=>∃l l2,ρ[i]?=some (some (.d (.lst l)))/\w = .d (.lst l2)/\l.length+l2.length<=lim/\k.nx (ρ.set i (some (.d (.lst (l++l2))))) m
theorem zil (i:Nat){x:Str}{ap cp sp np:Pos}(he:JE X Pn M fr' e f)(hi:i∈M:=by decide)(hN:X.N[i]?=some x:=by rfl)(hv:Vis X.env.scope x:=by first | exact Or.inl rfl | exact Or.inr (Or.inl rfl) | exact Or.inr (Or.inr rfl))(hd:(x==("__debug__" : Str))=false:=by decide)
  (hcd:(x==("__classdict__" : Str))=false:=by decide) (hs1:starEach (e::[]) X.env=(false,eval e X.env)::starEach [] X.env:=by rfl) (hs:swapsWith (.Call (.Attribute (.Name x np) "extend" ap) [e] [] cp) none sp.line X.env=pure false:=by rfl) (hbase:attributeBase (.Name x np) "extend" X.env (eval (.Name x np) X.env)=eval (.Name x np) X.env:=by rfl) (hline:(ap.endLine==cp.line)=true:=by rfl)
  (hfew:((backTo cp (starEach [e] X.env)).all (fun x=>!x.1)&&(backToKw cp (keywordEach [] X.env)).all (fun x=>x.1.isSome)&&decide (([e]:List Expr).length+([]:List Keyword).length+(if ([]:List Keyword).isEmpty then 0 else 1)<30))=true:=by rfl) (hplain:(backTo cp (starEach [] X.env)).any (·.1)=false:=by rfl) :
  JS X Pn S M fr (.Expr (.Call (.Attribute (.Name x np) "extend" ap) [e] [] cp) sp) (zsL i f):=by
 obtain⟨te,q,r⟩:=he.ex;refine⟨_,zdR (zeN bS PySem.F.slot_list_extend PySem.F.type_list_extend ziN (qv i hN hv hd hcd) (zI q yB hs1) hbase hfew hline hs1 hplain) hs,⟨ ?_⟩⟩;rintro B A σ H ρ n k D a kk ⟨⟨l0,e0⟩,hf⟩;obtain⟨ad,xs0,s1,hA,g0,_⟩:=a.own hi e0;refine⟨.ref ad,s1,.inl ⟨rfl,_,SqL.of g0⟩,?_⟩;refine r.run A σ H ρ n _ _ a.env a.pn hf  ?_;rintro w m v H' ⟨l,l2,e,ed,hz,r⟩ hv g _;subst ed;have a':=a.step g;obtain⟨ad2,xs,s2,_,g4,hl⟩:=a'.own hi e;rw[s1] at s2;cases s2;obtain⟨b2,ys,rfl,hb2,hl2⟩:=hv;exact⟨ad,b2,xs,ys,rfl,rfl,g4,zE _ _ hb2,zc1 (by rw[hl.length,hl2.length];exact hz),kk.nx A σ _ _ m (a'.wr hi e s1 (hl.append hl2)) r⟩
def zlD {α:Type}(l:List α)(k:Nat)(x:α):List α:=l.take k++x::l.drop k
def zsN (i:Nat)(fk f:Ev->Mo W):Ms:=fun ρ n k=>(∃l,ρ[i]?=some (some (.d (.lst l))))/\fk ρ n fun y m=>f ρ m fun w m2=>∃l d j,ρ[i]?=some (some (.d (.lst l)))/\w = .d d/\y = .d (.int j)/\0<=j/\j<=l.length/\l.length<lim/\k.nx (ρ.set i (some (.d (.lst (zlD l j.toNat d))))) m2
theorem zpt (i:Nat){x:Str}{ap cp sp np:Pos}{frc:Bool}(hc:JE X Pn M frc c fc)(he:JE X Pn M fr' e f)(hi:i∈M:=by decide)(hN:X.N[i]?=some x:=by rfl)(hv:Vis X.env.scope x:=by first | exact Or.inl rfl | exact Or.inr (Or.inl rfl) | exact Or.inr (Or.inr rfl))(hd:(x==("__debug__" : Str))=false:=by decide)
  (hcd:(x==("__classdict__" : Str))=false:=by decide) (hs0:starEach (c::[e]) X.env=(false,eval c X.env)::starEach [e] X.env:=by rfl) (hs1:starEach (e::[]) X.env=(false,eval e X.env)::starEach [] X.env:=by rfl) (hs:swapsWith (.Call (.Attribute (.Name x np) "insert" ap) [c,e] [] cp) none sp.line X.env=pure false:=by rfl) (hbase:attributeBase (.Name x np) "insert" X.env (eval (.Name x np) X.env)=eval (.Name x np) X.env:=by rfl) (hline:(ap.endLine==cp.line)=true:=by rfl)
  (hfew:((backTo cp (starEach [c,e] X.env)).all (fun x=>!x.1)&&(backToKw cp (keywordEach [] X.env)).all (fun x=>x.1.isSome)&&decide (([c,e]:List Expr).length+([]:List Keyword).length+(if ([]:List Keyword).isEmpty then 0 else 1)<30))=true:=by rfl) (hplain:(backTo cp (starEach [e] X.env)).any (·.1)=false:=by rfl) :
  JS X Pn S M fr (.Expr (.Call (.Attribute (.Name x np) "insert" ap) [c,e] [] cp) sp) (zsN i fc f):=by
 obtain⟨te,q,r⟩:=he.ex;obtain⟨tc,qc,rc⟩:=hc.ex;refine⟨_,zdR (zeN bS PySem.F.slot_list_insert PySem.F.type_list_insert ziO (qv i hN hv hd hcd) (zI qc (zI q yB hs1) hs0) hbase hfew hline hs0 hplain) hs,⟨ ?_⟩⟩;rintro B A σ H ρ n k D a kk ⟨⟨l0,e0⟩,hf⟩;obtain⟨ad,xs0,s1,hA,g0,_⟩:=a.own hi e0;refine⟨.ref ad,s1,.inl ⟨rfl,_,SqL.of g0⟩,?_⟩;refine rc.run A σ H ρ n _ _ a.env a.pn hf fun w1 m1 v1 H1 r1 hv1 g1 _=>?_;have a1:=a.step g1;refine r.run A σ H1 ρ m1 _ _ a1.env a1.pn r1  ?_;rintro w m v H' ⟨l,d,j,e,ed,ey,j0,j1,hz,r⟩ hv g _;subst ed ey;have e1:v1 = .int j:=hv1;subst e1;have a':=a1.step g;obtain⟨ad2,xs,s2,_,g4,hl⟩:=a'.own hi e;rw[s1] at s2;cases s2;refine⟨ad,xs,j,v,rfl,rfl,g4,j0,by rw[hl.length];exact j1,zey (by rw[hl.length];exact ck hz),kk.nx A σ _ _ m (a'.wr hi e s1 ?_) r⟩;exact (hl.take _).append ⟨v,_,rfl,hv.is,hl.drop _⟩
theorem zeq {G:Hp}:∀ {ds:List Dt} {xs:List V} (k:Nat),IsL G ds xs->IsL G (ds.eraseIdx k) (xs.eraseIdx k)
 | [],_,_,h=>by cases h;rfl
 | x::ds,xs,0,⟨y,r,e,h1,h2⟩=>by subst e;exact h2
 | x::ds,xs,k+1,⟨y,r,e,h1,h2⟩=>by subst e;exact⟨y,_,rfl,h1,zeq k h2⟩
def zm8 (i:Nat)(fk:Ev->Mo W):Ms:=fun ρ n k=>(∃l,ρ[i]?=some (some (.d (.lst l))))/\fk ρ n fun y m=>∃l j,ρ[i]?=some (some (.d (.lst l)))/\y = .d (.int j)/\0<=j/\j<l.length/\l.length<=lim/\k.nx (ρ.set i (some (.d (.lst (l.eraseIdx j.toNat))))) m
theorem zl1 {n:Nat}{j:Int}(h0:0<=j)(h1:j<n):seqIndex? j n=some j.toNat:=(zfu (by unfold ixN;rw[if_pos h0,if_pos h1])).1
theorem zin (i:Nat){x:Str}{ap cp sp np:Pos}(hc:JB X Pn M c fc)(hi:i∈M:=by decide)(hN:X.N[i]?=some x:=by rfl)(hv:Vis X.env.scope x:=by first | exact Or.inl rfl | exact Or.inr (Or.inl rfl) | exact Or.inr (Or.inr rfl))(hd:(x==("__debug__" : Str))=false:=by decide)
  (hcd:(x==("__classdict__" : Str))=false:=by decide) (hs1:starEach (c::[]) X.env=(false,eval c X.env)::starEach [] X.env:=by rfl) (hs:swapsWith (.Call (.Attribute (.Name x np) "pop" ap) [c] [] cp) none sp.line X.env=pure false:=by rfl) (hbase:attributeBase (.Name x np) "pop" X.env (eval (.Name x np) X.env)=eval (.Name x np) X.env:=by rfl) (hline:(ap.endLine==cp.line)=true:=by rfl)
  (hfew:((backTo cp (starEach [c] X.env)).all (fun x=>!x.1)&&(backToKw cp (keywordEach [] X.env)).all (fun x=>x.1.isSome)&&decide (([c]:List Expr).length+([]:List Keyword).length+(if ([]:List Keyword).isEmpty then 0 else 1)<30))=true:=by rfl) (hplain:(backTo cp (starEach [] X.env)).any (·.1)=false:=by rfl) :
  JS X Pn S M fr (.Expr (.Call (.Attribute (.Name x np) "pop" ap) [c] [] cp) sp) (zm8 i fc):=by
 obtain⟨tc,qc,rc⟩:=hc.ex;refine⟨_,zdR (zeN bS PySem.F.slot_list_pop PySem.F.type_list_pop zgm (qv i hN hv hd hcd) (zI qc yB hs1) hbase hfew hline hs1 hplain) hs,⟨ ?_⟩⟩;rintro B A σ H ρ n k D a kk ⟨⟨l0,e0⟩,hf⟩;obtain⟨ad,xs0,s1,hA,g0,_⟩:=a.own hi e0;refine⟨.ref ad,s1,.inl ⟨rfl,_,SqL.of g0⟩,?_⟩;refine rc.run A σ H ρ n _ _ a.env a.pn hf  ?_;rintro w m v H' ⟨l,j,e,ey,j0,j1,hz,r⟩ hv g;subst ey;have e1:v = .int j:=hv;subst e1;have a':=a.step g;obtain⟨ad2,xs,s2,_,g4,hl⟩:=a'.own hi e;rw[s1] at s2;cases s2;have hlen:=hl.length;have hl40:(l.length:Int)<=500000:=by have:l.length<=500000:=hz;lia
 exact⟨ad,xs,j,j.toNat,xs[j.toNat]'(by lia),rfl,rfl,g4,by lia,by lia,zl1 j0 (by lia),aj _,kk.nx A σ _ _ m (a'.wr hi e s1 (zeq _ hl)) r⟩
def zmC:W->W->Mo W:=fun x y n Q=>∃l j,x = .d (.lst l)/\y = .d (.int j)/\0<=j/\j<=1000000/\l.length * j.toNat<=lim/\Q (.d (.lst (List.replicate j.toNat l).flatten)) n
theorem zrA:F2 Pn true zrY zmC:=⟨by
 rintro A H x y wx wy n Q R al bx byy P ⟨l,j,e1,e2,j1,j2,z,h⟩ k;subst e1 e2;obtain⟨a,xs,ea,ha,hl⟩:=yJ bx;refine⟨a,j,xs,ea,yI byy,ha,by lia,by lia,zc1 (by rw[hl.length];exact z),fun p np=>?_⟩;have S:=x4.upd (o:=.lst (List.replicate j.toNat xs).flatten) np;exact k _ n _ _ h (x3 (zfs hl _) (zx.same S) (al.new np) zj) (Go.same P S) fun z=>uo (zfs hl _) S np zj⟩
def zhR:List W->Mo W:=fun ws n Q=>∃ns:List Int,ws=[.d (.lst (ns.map .int))]/\ns.length<64/\∀ns':List Int,ns'.Perm ns->ns'.Pairwise (·<=·)->Q (.d (.lst (ns'.map .int))) n
theorem zou:FL Pn true zjm zhR:=⟨by
 rintro A H xs ws n Q R al b P ⟨ns,e,h64,h⟩ k;subst e;obtain⟨v,rfl,bb⟩:=zcz b;obtain⟨a,ys,rfl,ha,hl⟩:=yJ bb;obtain rfl:=hl.of_ints;exact⟨a,ns,rfl,ha,h64,fun ns' hp hs p H' np g S=>k _ n _ H' (h ns' hp hs) (x3 (H:=H) IsL.ints (zx.same S) (al.new np) g) (Go.same P S) fun z=>uo (H:=H) IsL.ints S np g⟩⟩
def zhT:List W->Mo W:=fun ws n Q=>∃ (sts:List (List Int)) (m:Nat),ws=[.d (.lst (sts.map stD))]/\sts.length<64/\1<=m/\(∀st∈sts,st.length=m)/\sts.Nodup/\∀sts':List (List Int),sts'.Perm sts->(sts'.Pairwise fun a b=>HT.lexLt a b=true)->Q (.d (zbp sts')) n
theorem zov:FL Pn true zn2 zhT:=⟨by
 rintro A H xs ws n Q R al b P ⟨sts,m,e,h64,h1,hm,hnd,h⟩ k;subst e;obtain⟨v,rfl,bb⟩:=zcz b;obtain⟨a,ys,rfl,ha,hl⟩:=yJ bb;refine⟨a,ys,sts,m,rfl,ha,hl.stay (zx.same zE),h64,h1,hm,hnd,fun ys' sts' hy hp hs p H' np g S=>?_⟩;have hy':IsL (yd A H) (sts'.map stD) ys':=zb1 al.noT (zbE sts') hy;exact k _ n _ H' (h sts' hp hs) (x3 hy' (zx.same S) (al.new np) g) (Go.same P S) fun z=>uo hy' S np g⟩
theorem zmQ:JE X Pn M true (.Dict [] [] pos) (mC (.dt [])):=⟨_,zkV,⟨fun A σ H ρ n Q R E P hf k=>fun p H' np g S=>k _ n _ H' hf ⟨p,[],rfl,ye (E.new np) g,rfl⟩ (Go.same P S) fun _=>⟨p,rfl,.of np,p,[],rfl,g,rfl⟩⟩⟩
def ziC (fd fk:Ev->Mo W):Ev->Mo W:=fun ρ n Q=>fd ρ n fun x n1=>fk ρ n1 fun y n2=>∃kvs st d,x = .dt kvs/\y = .d (stD st)/\xN kvs st=some d/\Q (.d d) n2
theorem zij (hu:X.A.units+1<cLine)(ha:JB X Pn M a fa)(hb:JB X Pn M b fb)(hs:zoM b):JE X Pn M false (.Subscript a b pos) (ziC fa fb):=by obtain⟨ta,qa,ra⟩:=ha.ex;obtain⟨tb,qb,rb⟩:=hb.ex;refine⟨_,xZ hu qa qb hs,⟨fun A σ H ρ n Q R E P hf k=>?_⟩⟩;refine ra.run A σ H ρ n _ _ E P hf fun w1 m1 v1 H1 r1 b1 g1=>?_;refine rb.run A σ H1 ρ m1 _ _ (E.stay g1.st) g1.pn r1  ?_;rintro w2 m2 v2 H2 ⟨kvs,st,d,e1,e2,e3,r⟩ b2 g2;subst e1 e2;obtain⟨ad,ks,rfl,had,hk⟩:=b1.stay g2.st;obtain⟨bd,xs,rfl,hbd,hx⟩:=ul b2;obtain rfl:=hx.of_ints;obtain⟨v,h1,h2⟩:=(hk.look (k:=st)).2 d e3;refine⟨ad,v,rfl,?_,k _ m2 _ H2 r (Val.of h2) (g1.trans g2) fun z=>by cases z⟩;rw[<- h1];exact zd5.i had hbd
def zgu {κ:Type}[DecidableEq κ](kvs:List (κ×Dt))(k:κ)(d:Dt):List (κ×Dt):=
 if (kvs.any fun kv=>decide (kv.1=k))=true then kvs.map (fun kv=>if kv.1=k then (kv.1,d) else kv) else kvs++[(k,d)]
theorem uR.any {κ:Type}[DecidableEq κ]{G:Hp}{k:κ}:∀ {kvs:List (κ×Dt)} {ks:List (κ×V)},uR G kvs ks->(ks.any fun kv=>decide (kv.1=k))=kvs.any fun kv=>decide (kv.1=k)
 | [],_,h=>by cases h;rfl
 | q::r,ks,⟨v,s,e,h1,h2⟩=>by subst e;rw[ci,ci,uR.any h2]
theorem uR.map1 {κ:Type}[DecidableEq κ]{G:Hp}{k:κ}{d:Dt}{x:V}(hd:Is G d x):∀ {kvs:List (κ×Dt)} {ks:List (κ×V)},uR G kvs ks->uR G (kvs.map fun kv=>if kv.1=k then (kv.1,d) else kv) (ks.map fun kv=>if kv.1=k then (kv.1,x) else kv)
 | [],_,h=>by cases h;rfl
 | q::r,ks,⟨v,s,e,h1,h2⟩=>by
  subst e;rw[ao,ao];by_cases hq:q.1=k
  ·rw[if_pos hq,if_pos hq];exact⟨x,_,rfl,hd,uR.map1 hd h2⟩
  ·rw[if_neg hq,if_neg hq];exact⟨v,_,rfl,h1,uR.map1 hd h2⟩
theorem uR.snoc {κ:Type}{G:Hp}{k:κ}{d:Dt}{x:V}(hd:Is G d x):∀ {kvs:List (κ×Dt)} {ks:List (κ×V)},uR G kvs ks->uR G (kvs++[(k,d)]) (ks++[(k,x)])
 | [],_,h=>by cases h;exact⟨x,[],rfl,hd,rfl⟩
 | q::r,ks,⟨v,s,e,h1,h2⟩=>by subst e;exact⟨v,_,rfl,h1,uR.snoc hd h2⟩
theorem uR.put {κ:Type}[DecidableEq κ]{G:Hp}{k:κ}{d:Dt}{x:V}{kvs:List (κ×Dt)}{ks:List (κ×V)}(h:uR G kvs ks)(hd:Is G d x):uR G (zgu kvs k d) (u4 ks k x):=by
 unfold zgu u4;rw[h.any];split
 ·exact h.map1 hd
 ·exact h.snoc hd
theorem uR.len {κ:Type}{G:Hp}:∀ {kvs:List (κ×Dt)} {ks:List (κ×V)},uR G kvs ks->ks.length=kvs.length
 | [],_,h=>by cases h;rfl
 | q::r,ks,⟨v,s,e,h1,h2⟩=>by subst e;rw[aS,aS,uR.len h2]
theorem At3.wrX {B:Bs}{A:Addr->Prop}{σ:St}{H:Hp}{ρ:Ev}{n:Nat}(h:At3 Pn B S M A σ H ρ n){i:Nat}{w w':W}{ad:Addr}{o:HO}(hi:i∈M)(e:ρ[i]?=some (some w))(s:σ[i]?=some (some (.ref ad)))(hw:WAt (L2.upd H ad o) (yd A H) w' (.ref ad))(hm':w'.mut=true)(np:NP o)(nt:∀xs,o≠.tup xs):At3 Pn B S M A σ (L2.upd H ad o) (ρ.set i (some w')) n:=by
 obtain⟨v,s1,_,s3⟩:=h.env.val i w e;rw[s] at s1;cases s1;obtain⟨a2,e2,hA,_,_⟩:=s3 hi;cases e2;have hlen:i<ρ.length:=(ae.mp e).1
 have hE:EnvR A M σ (L2.upd H ad o) (ρ.set i (some w')):=by
  refine⟨by rw[aX];exact h.env.len,fun j u ej=>?_,fun j q u u' b hj hq hne e1 e2=>?_,fun b hb=>?_⟩
  ·by_cases hj:j=i
   ·subst hj;rw[aM hlen] at ej;cases ej;exact⟨.ref ad,s,fun z=>absurd hi z,fun _=>⟨ad,rfl,hA,by show WAt _ _ _ _;rw[yk hA];exact hw,hm'⟩⟩
   ·rw[ar (Ne.symm hj)] at ej;obtain⟨v,t1,t2,t3⟩:=h.env.val j u ej;refine⟨v,t1,fun z=>?_,fun z=>?_⟩
    ·show WAt _ _ _ _;rw[yk hA];exact t2 z
    ·obtain⟨b,rfl,hb,hbb,hm⟩:=t3 z;have hne:b≠ad:=fun q=>h.env.dis i j w u ad hi z (Ne.symm hj) e ej s (by rw[t1,q]);refine⟨b,rfl,hb,?_,hm⟩;show WAt _ _ _ _;rw[yk hA]
     cases u with
     | d x=>
      cases x with
      | lst l=>obtain⟨a2,xs,e2,g1,g2⟩:=hbb;cases e2;exact⟨b,xs,rfl,by rw[zh hne];exact g1,g2⟩
      | dct=>obtain⟨a2,xs,e2,g1,g2⟩:=hbb;cases e2;exact⟨b,xs,rfl,by rw[zh hne];exact g1,g2⟩
      | _=>cases hm
     | pen p=>cases hm
     | dk k=>obtain⟨a2,xs,e2,g1,g2⟩:=hbb;cases e2;exact⟨b,xs,rfl,by rw[zh hne];exact g1,g2⟩
     | dt k=>obtain⟨a2,xs,e2,g1,g2⟩:=hbb;cases e2;exact⟨b,xs,rfl,by rw[zh hne];exact g1,g2⟩
     | ss P w k=>obtain⟨a2,xs,e2,g1,g2⟩:=hbb;cases e2;exact⟨b,xs,rfl,by rw[zh hne];exact g1,g2⟩
  ·have get:∀q (u:W),(ρ.set i (some w'))[q]?=some (some u)->∃u',ρ[q]?=some (some u'):=fun q u z=>by
    by_cases hq:q=i
    ·subst hq;exact⟨w,e⟩
    ·rw[ar (Ne.symm hq)] at z;exact⟨u,z⟩
   obtain⟨v1,f1⟩:=get j u e1;obtain⟨v2,f2⟩:=get q u' e2;exact h.env.dis j q v1 v2 b hj hq hne f1 f2
  ·by_cases hb':b=ad
   ·subst hb';exact⟨_,zj,np,nt⟩
   ·rw[zh hb'];exact h.env.al b hb
 refine⟨hE,⟨h.frm.sub,h.frm.new,fun b o eb nn nc=>?_,h.frm.al,h.frm.cn,fun b z=>(by
  by_cases hb':b=ad
  ·subst hb';exact⟨_,zj,np⟩
  ·rw[zh hb'];exact h.frm.cs b z)⟩,h.pn.upd hA,by rw[yk hA];exact h.prot,h.fix,fun j u b hj ej sj=>?_⟩
 ·have hne:b≠ad:=fun q=>by
   subst q;rcases h.mine i w b hi e s with z | z
   ·exact z o eb nn
   ·exact nc z
  rw[zh hne];exact h.frm.st b o eb nn nc
 ·by_cases hj':j=i
  ·subst hj';exact h.mine j w b hj e sj
  ·rw[ar (Ne.symm hj')] at ej;exact h.mine j u b hj ej sj
def ziD (i:Nat)(fk f:Ev->Mo W):Ms:=fun ρ n k=>(∃kvs,ρ[i]?=some (some (.dt kvs)))/\f ρ n fun w m=>fk ρ m fun y m2=>∃kvs st d,ρ[i]?=some (some (.dt kvs))/\w = .d d/\y = .d (stD st)/\kvs.length<lim/\k.nx (ρ.set i (some (.dt (zgu kvs st d)))) m2
theorem zkt (i:Nat){x:Str}{np sp:Pos}(hu:X.A.units+1<cLine)(hk:JB X Pn M c fc)(he:JE X Pn M fr' e f)(hi:i∈M:=by decide)(hN:X.N[i]?=some x:=by rfl)(hv:Vis X.env.scope x:=by first | exact Or.inl rfl | exact Or.inr (Or.inl rfl) | exact Or.inr (Or.inr rfl))(hd:(x==("__debug__" : Str))=false:=by decide)
  (hcd:(x==("__classdict__" : Str))=false:=by decide) (hs:swapsWith e (some (.Subscript (.Name x np) c p)) sp.line X.env=pure false:=by rfl) :
  JS X Pn S M fr (.Assign [.Subscript (.Name x np) c p] e sp) (ziD i fc f):=by
 obtain⟨te,q,r⟩:=he.ex;obtain⟨tk,qk,rk⟩:=hk.ex;refine⟨_,zdQ hu (qv i hN hv hd hcd) qk q hs,⟨ ?_⟩⟩;rintro B A σ H ρ n k D a kk ⟨⟨l0,e0⟩,hf⟩;obtain⟨v0,s0,_,o3⟩:=a.env.val i _ e0;obtain⟨ad,rfl,hA,hb0,_⟩:=o3 hi;refine r.run A σ H ρ n _ _ a.env a.pn hf fun w m v H1 r1 hv1 g1 _=>⟨.ref ad,s0,?_⟩;have a1:=a.step g1;refine rk.run A σ H1 ρ m _ _ a1.env a1.pn r1  ?_;rintro y m2 v2 H2 ⟨kvs,st,d,e,ed,ey,hz,r2⟩ b2 g2;subst ed ey;have a2:=a1.step g2;obtain⟨v3,s3,_,o4⟩:=a2.env.val i _ e;rw[s0] at s3;cases s3;obtain⟨ad2,e4,_,hb,_⟩:=o4 hi;cases e4;obtain⟨a5,ks,e5,had,hkv⟩:=hb;cases e5;obtain⟨bd,xs,rfl,hbd,hx⟩:=ul b2;obtain rfl:=hx.of_ints;exact⟨ad,_,rfl,zd6.i had hbd (zey (by rw[hkv.len];exact ck hz)),kk.nx A σ _ _ m2 (a2.wrX (w':=.dt (zgu kvs st d)) hi e s0 ⟨ad,_,rfl,zj,hkv.put (hv1.stay g2.st).is⟩ rfl (fun k z=>by cases z) (fun _ z=>by cases z)) r2⟩
end
open PySem PySem.Spec L2
theorem ziM {a c:Int}{n:Nat}(h0:0<=a)(h1:a<=n)(h2:n<=1000000)(c0:0<=c)(c1:c<2147483549):0<=(c+70009) * (2 * a+1)+6133 * a * a+577 * a/\(c+70009) * (2 * a+1)+6133 * a * a+577 * a<=11000000000000000:=by have e1:(c+70009) * (2 * a+1)<=2147553558 * 2000001:=c9 (by lia) (by lia) (by lia) (by lia);have e2:0<=(c+70009) * (2 * a+1):=Int.mul_nonneg (by lia) (by lia);have e3:a * a<=1000000 * 1000000:=c9 (by lia) (by lia) (by lia) (by lia);have e4:0<=a * a:=Int.mul_nonneg h0 h0;have e5:6133 * a * a=6133 * (a * a):=Int.mul_assoc ..;rw[e5];lia
theorem znO {X:Cx}(K:PySem.W.Frag)(hK:X.K=K){o e:Expr}{es:List Expr}{to:TE}{t:TA}{apos cpos:Pos}(ho:QE X o to)(ha:QA X (e::es) t)
  (hbase:attributeBase o "pop" X.env (eval o X.env)=eval o X.env:=by rfl)
  (hfew:((backTo cpos (starEach (e::es) X.env)).all (fun x=>!x.1)&&(backToKw cpos (keywordEach [] X.env)).all (fun x=>x.1.isSome)
   && decide ((e::es).length+([]:List Keyword).length+(if ([]:List Keyword).isEmpty then 0 else 1)<30))=true:=by rfl)
  (hline:(apos.endLine==cpos.line)=true:=by rfl) (hs:starEach (e::es) X.env=(false,eval e X.env)::starEach es X.env:=by rfl) (hplain:(backTo cpos (starEach es X.env)).any (·.1)=false:=by rfl) :
  QE X (.Call (.Attribute o "pop" apos) (e::es) [] cpos) (tBM K "list" zlU to t):=by
 subst hK;exact zeN bS PySem.F.slot_list_pop PySem.F.type_list_pop zgm ho ha hbase hfew hline hs hplain
def zl2:Sp:=fun vs H Q E=>∃ (p c a:Addr) (ns:List Int) (n:Nat) (xs:List V),vs=[.ref p,.ref a]/\Pen H p c ns n/\n+xs.length<=1000000/\xs.length<=100000/\H a=some (.lst xs)/\
 ∀b ys H',H b=none->H' b=some (.lst ys)->ys.Perm xs->Pen H' p c ns (n+xs.length)->zx H H'->Q (.ref b) H'
theorem zkn {G:Hp}{xs ys:List V}(h:ys.Perm xs):∀ {l:List Dt},IsL G l xs->∃l':List Dt,l'.Perm l/\IsL G l' ys:=by
 induction h with
 | nil=>intro l h;exact⟨l,.refl _,h⟩
 | cons x _ ih=>
  intro l h
  match l,h with
  | [],h=>exact absurd h (by intro z;cases z)
  | d::ds,⟨x',r,e,h1,h2⟩=>
   cases e;obtain⟨l',p,h3⟩:=ih h2;exact⟨d::l',p.cons d,x,_,rfl,h1,h3⟩
 | swap x y s=>
  intro l h
  match l,h with
  | [],h=>exact absurd h (by intro z;cases z)
  | [_],⟨_,_,e,_,h2⟩=>cases e;exact absurd h2 (by intro z;cases z)
  | d::e::ds,⟨_,_,q,h1,_,_,q2,h3,h4⟩=>
   cases q;cases q2;exact⟨e::d::ds,.swap _ _ _,_,_,rfl,h3,_,_,rfl,h1,h4⟩
 | trans _ _ ih1 ih2=>
  intro l h;obtain⟨l1,p1,h1⟩:=ih2 h;obtain⟨l2,p2,h2⟩:=ih1 h1;exact⟨l2,p2.trans p1,h2⟩
def zhd:FV:=fun Pn ws n R=>∃p c ns l,Pn=some (p,c,ns)/\ws=[.pen p,.d (.lst l)]/\n+l.length<=1000000/\l.length<=100000/\∀l':List Dt,l'.Perm l->R (.d (.lst l')) (n+l.length)
theorem zix:zr4 2 true zhd zl2:=by rintro vs H Q E ⟨Pn,A,ws,n,R,al,hv,hl,hp,⟨p,c,ns,l,rfl,rfl,h1,h2,h4⟩,q⟩;obtain⟨v,y,rfl,b1,b2⟩:=zrB hv;have e1:v = .ref p:=b1;subst e1;obtain⟨a,xs,rfl,ha,hx⟩:=b2;have hlen:=hx.length;refine⟨p,c,a,ns,n,xs,rfl,hp.1,by lia,by lia,zE _ _ ha,fun b ys H' hb hb' hperm P' S'=>?_⟩;obtain⟨l',pl,hl'⟩:=zkn hperm hx;refine q _ _ _ H' (h4 l' pl) (x3 hl' S' (al.new hb) hb') ⟨S',by rw[<- hlen];exact P',hp.2⟩ fun _=>⟨b,rfl,.of hb,b,ys,rfl,hb',hl'.stay (yP S' (.of hb))⟩
theorem zf1 {α:Type}:∀ {l:List α} {k:Nat} (h:k<l.length),(l[k]::l.eraseIdx k).Perm l
 | [],_,h=>absurd h (by simp)
 | x::l,0,_=>.refl _
 | x::l,k+1,h=>by have:=zf1 (l:=l) (k:=k) (by simpa using h);simp only[List.getElem_cons_succ,List.eraseIdx_cons_succ];exact (List.Perm.swap x _ _).trans (this.cons x)
theorem zgO {xs ys zs:List V}{k:Nat}(hk:k<zs.length)(h:(ys++zs).Perm xs):(ys++[zs[k]]++zs.eraseIdx k).Perm xs:=by refine .trans ?_ h;rw[bO];exact (zf1 hk).append_left ys
section
variable {X:Cx}{Pn:Option zq}{M S:List Nat}{fr fr':Bool}{e a b c:Expr}{es:List Expr}{f fa fb fc:Ev->Mo W}{pos p:Pos}
theorem uR.keys {κ:Type}{G:Hp}:∀ {kvs:List (κ×Dt)} {ks:List (κ×V)},uR G kvs ks->ks.map (·.1)=kvs.map (·.1)
 | [],_,h=>by cases h;rfl
 | q::r,_,⟨v,s,e,_,h⟩=>by subst e;rw[ao,ao,uR.keys h]
theorem WAt.mv {T T' G G':Hp}{w:W}{ad:Addr}(t:∀o,T ad=some o->T' ad=some o)(g:x4 G G')(m:w.mut=true)(h:WAt T G w (.ref ad)):WAt T' G' w (.ref ad):=by
 cases w with
 | d x=>
  cases x with
  | lst l=>obtain⟨a2,xs,e2,g1,g2⟩:=h;cases e2;exact⟨ad,xs,rfl,t _ g1,g2.stay (zx.same g)⟩
  | dct=>obtain⟨a2,xs,e2,g1,g2⟩:=h;cases e2;exact⟨ad,xs,rfl,t _ g1,g2⟩
  | _=>cases m
 | pen p=>cases m
 | dk k=>obtain⟨a2,xs,e2,g1,g2,g3⟩:=h;cases e2;exact⟨ad,xs,rfl,t _ g1,g2.stay (zx.same g),g3⟩
 | dt k=>obtain⟨a2,xs,e2,g1,g2⟩:=h;cases e2;exact⟨ad,xs,rfl,t _ g1,g2.stay (zx.same g)⟩
 | ss P w k=>obtain⟨a2,xs,e2,g1,g2⟩:=h;cases e2;exact⟨ad,xs,rfl,t _ g1,g2.stay (zx.same g)⟩
theorem At3.move {B:Bs}{A:Addr->Prop}{σ:St}{H:Hp}{ρ:Ev}{n:Nat}(h:At3 Pn B S M A σ H ρ n){i j:Nat}{w:W}{ad:Addr}(hj:j∈M)(hi:i∉M)(hiS:i∉S)(e:ρ[j]?=some (some w))(s:σ[j]?=some (some (.ref ad))):At3 Pn B S M (fun b=>A b/\b≠ad) (σ.set i (some (.ref ad))) H ((ρ.set j none).set i (some w)) n:=by
 obtain⟨v,s1,_,s3⟩:=h.env.val j w e;rw[s] at s1;cases s1;obtain⟨a2,e2,hA,hbor,hmut⟩:=s3 hj;cases e2;have hij:i≠j:=fun z=>hi (z ▸ hj);have hless:∀b,(A b/\b≠ad)->A b:=fun b z=>z.1;have hsm:x4 (yd A H) (yd (fun b=>A b/\b≠ad) H):=xj hless
 have get:∀q (u:W),((ρ.set j none).set i (some w))[q]?=some (some u)->q≠i->q≠j/\ρ[q]?=some (some u):=fun q u z hq=>by
  rw[ar (Ne.symm hq)] at z;by_cases hqj:q=j
  ·subst hqj;rw[List.getElem?_set] at z;split at z
   ·split at z
    ·cases z
    ·cases z
   ·exact absurd rfl ‹_›
  ·rw[ar (Ne.symm hqj)] at z;exact⟨hqj,z⟩
 have hnotA0:¬ B.A0 ad:=fun z=>by
  rcases h.mine j w ad hj e s with q | q
  ·obtain⟨o,o1,o2,_⟩:=h.frm.al ad z;exact q o o1 o2
  ·exact h.frm.cn ad q z
 have vmain:Val (fun b=>A b/\b≠ad) H w (.ref ad):=by exact WAt.mv (fun o ho=>ye (fun z=>z.2 rfl) ho) hsm hmut hbor
 refine⟨⟨?_,?_,?_,?_⟩,⟨fun b z=>⟨h.frm.sub b z,fun q=>hnotA0 (q ▸ z)⟩,fun b z=>h.frm.new b z.1,h.frm.st,h.frm.al,h.frm.cn,h.frm.cs⟩,h.pn.less hless,h.prot.trans (zx.same hsm),fun k hk=>?_,fun k u b hk ek sk=>?_⟩
 ·rw[aX,aX,aX];exact h.env.len
 ·intro q u eq;by_cases hq:q=i
  ·subst hq
   have hlen:q<(ρ.set j none).length:=by have:=(ae.mp eq).1;rwa[aX] at this
   rw[aM hlen] at eq;cases eq;rw[aX] at hlen;refine⟨.ref ad,aM (by rw[h.env.len];exact hlen),fun _=>vmain,fun z=>absurd z hi⟩
  ·obtain⟨hqj,z⟩:=get q u eq hq;obtain⟨v,t1,t2,t3⟩:=h.env.val q u z;refine⟨v,by rw[ar (Ne.symm hq)];exact t1,fun y=>WAt.up (zx.same hsm) (zx.same hsm) (t2 y),fun y=>?_⟩;obtain⟨b,rfl,hb,hbb,hm⟩:=t3 y;refine⟨b,rfl,⟨hb,fun q'=>?_⟩,WAt.up (zx.refl _) (zx.same hsm) hbb,hm⟩;subst q';exact h.env.dis j q w u b hj y (Ne.symm hqj) e z s t1
 ·intro q k u u' b hq hk hne e1 e2;have hqi:q≠i:=fun z=>hi (z ▸ hq);have hki:k≠i:=fun z=>hi (z ▸ hk);rw[ar (Ne.symm hqi),ar (Ne.symm hki)];exact h.env.dis q k u u' b hq hk hne (get q u e1 hqi).2 (get k u' e2 hki).2
 ·exact fun b z=>h.env.al b z.1
 ·have hki:k≠i:=fun z=>hiS (z ▸ hk);rw[ar (Ne.symm hki)];exact h.fix k hk
 ·have hki:k≠i:=fun z=>hi (z ▸ hk);rw[ar (Ne.symm hki)] at sk;exact h.mine k u b hk (get k u ek hki).2 sk
def zm4 (i j:Nat):Ms:=fun ρ n k=>∃w,ρ[j]?=some (some w)/\k.nx ((ρ.set j none).set i (some w)) n
theorem zfw {i:Nat}(j:Nat){x y:Str}{px py sp:Pos}(hN:X.N.Nodup)(hi:X.N[i]?=some x)(hx:Loc X.env.scope x)(hj:j∈M:=by decide)(hiM:i∉M:=by decide)(hiS:i∉S:=by decide)(hNj:X.N[j]?=some y:=by rfl)(hv:Vis X.env.scope y:=by first | exact Or.inl rfl | exact Or.inr (Or.inl rfl) | exact Or.inr (Or.inr rfl))(hd:(y==("__debug__" : Str))=false:=by decide)
  (hcd:(y==("__classdict__" : Str))=false:=by decide) (hs:swapsWith (.Name y py) (some (.Name x px)) sp.line X.env=pure false:=by rfl) (hf:X.fn x=true\/X.env.scope.names.lookup x=some .local:=by first | exact .inl rfl | exact .inr rfl | assumption):JS X Pn S M fr (.Assign [.Name x px] (.Name y py) sp) (zm4 i j):=by
 refine⟨_,ug (i:=i) hN hi hx (qv j hNj hv hd hcd) hs hf,⟨ ?_⟩⟩;rintro B A σ H ρ n k D a kk ⟨w,e,r⟩;obtain⟨v,s1,_,s3⟩:=a.env.val j w e;obtain⟨ad,rfl,hA,_,_⟩:=s3 hj;exact⟨.ref ad,s1,kk.nx _ _ H _ n (a.move hj hiM hiS e s1) r⟩
end
open PySem PySem.Spec L2
end L3
namespace L3
open PySem PySem.Spec L2
structure StOk (rm st:List Int):Prop where
 len:st.length=rm.length
 box:∀b:Int,0<=b->b<rm.length->0<=ya st b/\ya st b<ya rm b
theorem xF:∀ (ns:List Int),(∀n∈ns,1<=n)->((uY (ns.map zp)).length:Int)=yw ns:=by
 have:∀ (k:Nat) (ns:List Int),ns.length=k->(∀n∈ns,1<=n)->((uY (ns.map zp)).length:Int)=yw ns:=by
  intro k
  induction k with
  | zero=>intro ns e _;rw[bt e];rfl
  | succ k ih=>
   intro ns e h
   obtain⟨m,x,rfl⟩:∃m x,ns=m++[x]:=by
    have hne:ns≠[]:=by intro z;rw[z] at e;cases e
    exact⟨ns.dropLast,ns.getLast hne,(bu hne).symm⟩
   rw[af] at e;rw[aB,ao,dG,x5,zaZ,uf,z6];have h1:=ih m (by simpa using e) fun n hn=>h n (bU _ hn);have h2:=h x (au _ (by simp));rw[Int.natCast_mul,h1,b4 (by lia)]
 exact fun ns h=>this _ ns rfl h
theorem zaN:∀ {ns:List Int},(∀n∈ns,1<=n)->1<=yw ns:=fun {ns} h=>by
 have h1:=xF ns h
 have:∀ (ns:List Int) (a:Int),1<=a->(∀n∈ns,1<=n)->1<=ns.foldl (· * ·) a:=by
  intro ns
  induction ns with
  | nil=>intro a ha _;exact ha
  | cons n ns ih=>
   intro a ha hn;refine ih (a * n) ?_ fun m hm=>hn m (ak _ hm);have:=hn n ah;exact Int.le_trans (by decide) (c9 ha this (by decide) (by lia))
 exact this ns 1 (by decide) h
theorem zeM {ns:List Int}(hne:ns≠[])(h:∀n∈ns,2<=n):2<=yw ns:=by
 obtain⟨m,x,rfl⟩:∃m x,ns=m++[x]:=⟨ns.dropLast,ns.getLast hne,(bu hne).symm⟩;rw[uf];have h1:=zaN (ns:=m) fun n hn=>by have:=h n (bU _ hn);lia
 have h2:=h x (au _ (by simp));exact Int.le_trans (by decide:(2:Int)<=1 * 2) (c9 h1 h2 (by decide) (by lia))
def zpj (a b:List Int)(k:Nat):Wi:=⟨((List.range a.length).filter fun i=>!decide (i=k)).map fun i:Nat=>((i:Int),a.getD i 0),(k:Int),b.getD k 0,a.getD k 0⟩
theorem zkj {rm a b:List Int}{k:Nat}(ha:StOk rm a)(hb:StOk rm b)(hk:k<a.length)(hne:a.getD k 0≠b.getD k 0):WishOk rm (zpj a b k):=by
 have hl:=ha.len
 have A:∀i:Nat,i<rm.length->0<=a.getD i 0/\a.getD i 0<ya rm (i:Int):=fun i hi=>by have:=ha.box (i:Int) (by lia) (by lia);rwa[yc] at this
 have Bb:∀i:Nat,i<rm.length->0<=b.getD i 0/\b.getD i 0<ya rm (i:Int):=fun i hi=>by have:=hb.box (i:Int) (by lia) (by lia);rwa[yc] at this
 have hk':k<rm.length:=by lia
 refine⟨⟨fun q hq=>?_,?_⟩,by show (0:Int)<=(k:Int);lia,by show (k:Int)<_;lia,fun q hq=>?_,(Bb k hk').1,(Bb k hk').2,(A k hk').1,(A k hk').2,fun z=>hne z.symm⟩
 ·obtain⟨i,hi,rfl⟩:=aF.mp hq;have hi':=aQ.mp (aV.mp hi).1;exact⟨by show (0:Int)<=(i:Int);lia,by show (i:Int)<_;lia,(A i (by lia)).1,(A i (by lia)).2⟩
 ·show List.Pairwise (fun a b:Int×Int=>a.1<b.1) (((List.range a.length).filter fun i=>!decide (i=k)).map fun i:Nat=>((i:Int),a.getD i 0));rw[cM];refine List.Pairwise.imp (R:=fun i j:Nat=>i<j) (fun {i j} h=>?_) (List.Pairwise.filter _ List.pairwise_lt_range);show (i:Int)<(j:Int);lia
 ·obtain⟨i,hi,rfl⟩:=aF.mp hq;have:=(aV.mp hi).2;show (i:Int)≠(k:Int);intro z;have:i=k:=by lia
  subst this;simp at *
def zr9 (rm:List Int)(bk:List Wi)(g:List (Int×Int)):List (List Int):=(zsI rm g).filter fun st=>decide (za1 bk st (g.map (·.1))=[])
@[reducible] def xw (bk:List Wi):Dt:=.tup (bk.map yg)
def y6 (rm:List Int)(bk:List Wi):Prop:=∀x∈bk,WishOk rm x
@[reducible] def F_bett:FV:=fun _ ws n R=>∃rm bk st hs,ws=[.d (stD rm),.d (xw bk),.d (stD st),.d (stD hs)]/\RoomOk rm/\y6 rm bk/\st.length=rm.length/\R (.d (zbp (zlr bk st hs))) n
@[reducible] def zrE:FV:=fun _ ws n R=>∃rm bk g,ws=[.d (stD rm),.d (xw bk),.d (zdp g)]/\RoomOk rm/\y6 rm bk/\Giv rm g/\R (.d (zbp (zr9 rm bk g))) n
theorem xA (r:Nat):zg4 0 r=(List.range r).map fun k:Nat=>W.d (.int (k:Int)):=by unfold zg4;apply cv;intro k _;simp
theorem zoR {rows:List (List Int)}{i:Nat}(h:i<rows.length):atI (rows.map stD) (i:Int)=some (stD (rows.getD i [])):=by refine zbL ?_;rw[aC,aj h];simp[h]
theorem zf0 {ns:List Int}(h8:ns.length<=8)(hb:∀m∈ns,2<=m/\m<=4)(k:Nat):(uY ((ns.take k).map zp)).length<=65536:=by
 have:=zjY (cs:=ns.map zp) (by rw[aa];exact h8) (fun c hc=>by obtain⟨m,hm,rfl⟩:=aF.mp hc;have:=hb m hm;rw[z6];lia) k
 rwa[<- dS] at this
theorem zas {rows:List (List Int)}{i:Nat}(h:i<rows.length):rows.getD i []∈rows:=by rw[aE,aj h];exact bh h
theorem zoO {L:List Dt}{a:Int}{G:Dt->Prop}(h0:0<=a)(h1:a<L.length)(h:∀x∈L,G x):∃x,atI L a=some x/\G x:=by obtain⟨d,h2,h3⟩:=zoP h0 h1;exact⟨d,h2,h d h3⟩
theorem zbi:∀ {rm:List Int},(∀r∈rm,2<=r/\r<=4)->yw rm<=256->rm.length<=8:=fun {rm} hb hp=>by
 have:∀ (k:Nat) (rm:List Int),rm.length=k->(∀r∈rm,2<=r/\r<=4)->(2:Int) ^ k<=yw rm:=by
  intro k
  induction k with
  | zero=>intro rm e _;rw[bt e];decide
  | succ k ih=>
   intro rm e hb
   obtain⟨m,x,rfl⟩:∃m x,rm=m++[x]:=by
    have hne:rm≠[]:=by intro z;rw[z] at e;cases e
    exact⟨rm.dropLast,rm.getLast hne,(bu hne).symm⟩
   rw[af] at e;have h1:=ih m (by simpa using e) fun n hn=>hb n (bU _ hn);have h2:=hb x (au _ (by simp));rw[uf,Int.pow_succ];have h3:(0:Int)<=2 ^ k:=Int.pow_nonneg (by decide);exact c9 h1 h2.1 (by decide) (by lia)
 apply bD;intro hn;have h1:=this _ rm rfl hb
 have h2:(2:Int) ^ 9<=2 ^ rm.length:=by
  have:(2:Nat) ^ 9<=2 ^ rm.length:=cF (by decide) (by lia)
  exact_mod_cast this
 have h3:(2:Int) ^ 9=512:=by decide
 lia
theorem zhJ {a b:List Int}(hl:a.length=b.length)(hne:a≠b):∃k zY,((List.range a.length).filter fun k=>!decide (a.getD k 0=b.getD k 0))=k::zY/\k<a.length/\a.getD k 0≠b.getD k 0:=by
 cases h:(List.range a.length).filter fun k=>!decide (a.getD k 0=b.getD k 0) with
 | nil=>
  exfalso;apply hne;apply de hl;intro i h1 h2;have:=List.filter_eq_nil_iff.mp h i (aQ.mpr h1);have e:a.getD i 0=b.getD i 0:=by simpa using this
  simpa [h1,h2] using e
 | cons k zY=>
  have hk:k∈(List.range a.length).filter fun k=>!decide (a.getD k 0=b.getD k 0):=by rw[h];simp
  obtain⟨h1,h2⟩:=aV.mp hk;exact⟨k,zY,rfl,aQ.mp h1,by simpa using h2⟩
theorem StOk.snoc {rm st:List Int}{w v:Int}(h:StOk rm st)(v0:0<=v)(v1:v<w):StOk (rm++[w]) (st++[v]):=by
 have hl:=h.len;refine⟨by rw[af,af,hl];rfl,fun b b0 b1=>?_⟩;rw[af] at b1;by_cases hb:b<(rm.length:Int)
 ·rw[zbd b0 (by lia),zbd b0 hb];exact h.box b b0 hb
 ·have e:b=(rm.length:Int):=by
   have:b<(rm.length:Int)+1:=by simpa using b1
   lia
  subst e;rw[zbc,<- hl,zbc];exact⟨v0,v1⟩
theorem zg6 {sts lg B:List (List Int)}{k w:Nat}(hk:k<sts.length)(hN:sts.Nodup)(h1:lg.Nodup)(h2:∀x∈lg,∃a∈sts.take k,∃v:Int,0<=v/\v<w/\x=a++[v])(h3:lg.length=k * w)(hB:B.Perm ((List.range w).map fun v:Nat=>sts.getD k []++[(v:Int)])) :
  (lg++B).Nodup/\(∀x∈lg++B,∃a∈sts.take (k+1),∃v:Int,0<=v/\v<w/\x=a++[v])/\(lg++B).length=(k+1) * w:=by
 have hrow:sts.getD k []=sts[k]:=by simp[hk]
 have ht:sts.take (k+1)=sts.take k++[sts[k]]:=zr (aj hk)
 have hb:∀x∈B,∃v:Int,0<=v/\v<w/\x=sts[k]++[v]:=fun x hx=>by obtain⟨v,hv,rfl⟩:=aF.mp (hB.mem_iff.mp hx);have:=aQ.mp hv;exact⟨(v:Int),by lia,by lia,by rw[hrow]⟩
 have nB:B.Nodup:=by
  refine hB.nodup_iff.mpr ?_;show List.Pairwise _ _;rw[cM];refine List.Pairwise.imp (fun {a b} h e=>h ?_) dO;have:=List.append_cancel_left e;have h2:(a:Int)=(b:Int):=by simpa using this
  lia
 have hnk:sts[k]∉sts.take k:=fun z=>by have hd:=hN;rw[<- dH k sts,List.drop_eq_getElem_cons hk] at hd;exact (dA.mp hd).2.2 _ z _ ah rfl
 refine⟨dA.mpr ⟨h1,nB,fun x hx y hy e=>?_⟩,fun x hx=>?_,?_⟩
 ·obtain⟨a,ha,v,_,_,rfl⟩:=h2 x hx;obtain⟨u,_,_,rfl⟩:=hb y hy;have:=(List.append_inj' e rfl).1;rw[this] at ha;exact hnk ha
 ·rw[ht];rcases bg.mp hx with z | z
  ·obtain⟨a,ha,r⟩:=h2 x z;exact⟨a,bU _ ha,r⟩
  ·obtain⟨v,r⟩:=hb x z;exact⟨_,au _ (by simp),v,r⟩
 ·rw[af,h3,hB.length_eq,aa,am,eE]
theorem yK {α β:Type}(f:α->β)(l:List α)(lo hi:Option Int):xV (l.map f) lo hi=(xV l lo hi).map f:=by unfold xV;rw[aa,<- eU,<- dS]
theorem zbR {α:Type}(l:List α)(lo hi:Option Int):(xV l lo hi).length<=l.length:=by unfold xV;rw[aJ,bf];lia
theorem zoY {st:List Int}{b w:Int}(h0:0<=b):xV st none (some b)++[w]++xV st (some (b+1)) none=chg st b w:=by
 have h:=zme st (w:=w) h0;have e1:zcB (st.map V.int) none (some b)=(xV st none (some b)).map V.int:=by rw[<- yK];rfl
 have e2:zcB (st.map V.int) (some (b+1)) none=(xV st (some (b+1)) none).map V.int:=by rw[<- yK];rfl
 rw[e1,e2] at h;have e3:(xV st none (some b)).map V.int++[V.int w]++(xV st (some (b+1)) none).map V.int=(xV st none (some b)++[w]++xV st (some (b+1)) none).map V.int:=by rw[aB,aB];rfl
 rw[e3] at h;exact List.map_inj_right (fun a b e=>by cases e;rfl) |>.mp h
theorem zgX {l:List (List Int)}(h:l.Nodup){k:Nat}(hk:k+1<l.length):l.getD k []≠l.getD (k+1) []:=by have:=b7.mp h k (k+1) (by lia) hk (by lia);simpa [show k<l.length by lia,hk] using this
theorem y6.app {rm:List Int}{bk bk':List Wi}(h:y6 rm bk)(h':y6 rm bk'):y6 rm (bk++bk'):=fun x hx=>(bg.mp hx).elim (h x) (h' x)
theorem y6.set {rm:List Int}{bk:List Wi}(h:y6 rm bk){x:Wi}(hx:WishOk rm x)(i:Nat):y6 rm (bk.set i x):=fun y hy=>(List.mem_or_eq_of_mem_set hy).elim (h y) fun e=>e ▸ hx
theorem y6.ins {rm:List Int}{bk:List Wi}(h:y6 rm bk){x:Wi}(hx:WishOk rm x)(i:Nat):y6 rm (zlD bk i x):=fun y hy=>by
 rcases bg.mp hy with z | z
 ·exact h y (bJ z)
 ·rcases aG.mp z with rfl | z
  ·exact hx
  ·exact h y (List.mem_of_mem_drop z)
theorem zmL {α β:Type}(f:α->β)(l:List α)(i:Nat)(x:α):zlD (l.map f) i (f x)=(zlD l i x).map f:=by unfold zlD;rw[<- dS,<- eU,aB,ao]
theorem zmK {α:Type}(l:List α)(i:Nat)(x:α):(zlD l i x).length=l.length+1:=by unfold zlD;rw[af,aS,aJ,bf];lia
def unI:Dt->Int
 | .int i=>i
 | _=>0
theorem uU {α:Type}(l:List α)(k:Nat):xV l none (some (k:Int))=l.take k:=by unfold xV;rw[HT.sIx_none,HT.sIx_nat,dC,eG];rw[List.take_eq_take_iff];lia
theorem zhi:∀ (ns st:List Int),st∈uY (ns.map zp)->StOk ns st:=by
 have:∀ (k:Nat) (ns:List Int),ns.length=k->∀st,st∈uY (ns.map zp)->StOk ns st:=by
  intro k
  induction k with
  | zero=>
   intro ns e st hst;rw[bt e] at hst ⊢;rw[aK.mp hst];exact⟨rfl,fun b b0 b1=>absurd b1 (by simp;lia)⟩
  | succ k ih=>
   intro ns e st hst
   obtain⟨m,x,rfl⟩:∃m x,ns=m++[x]:=by
    have hne:ns≠[]:=by intro z;rw[z] at e;cases e
    exact⟨ns.dropLast,ns.getLast hne,(bu hne).symm⟩
   rw[af] at e;rw[aB,ao,dG,x5] at hst;obtain⟨r,hr,hst⟩:=eZ.mp hst;obtain⟨v,hv,rfl⟩:=aF.mp hst;obtain⟨j,hj,rfl⟩:=aF.mp hv;have:=aQ.mp hj;exact (ih m (by simpa using e) r hr).snoc (by lia) (by lia)
 exact fun ns st h=>this _ ns rfl st h
theorem zd4:∀ (qs st:List Int),ziW (qs.map Dt.int) (st.map Dt.int)=(qs.zip st).map fun q=>W.d (yb q)
 | [],_=>by cases ‹List Int› <;> rfl
 | _::_,[]=>rfl
 | q::qs,s::st=>by show _::ziW (qs.map Dt.int) (st.map Dt.int)=_::_;rw[zd4 qs st];rfl
theorem zje {κ:Type}[DecidableEq κ](kvs:List (κ×Dt))(k:κ)(d:Dt):(zgu kvs k d).length<=kvs.length+1:=by
 unfold zgu;split
 ·rw[aa];lia
 ·rw[af];simp
theorem zcT (bk:List Wi)(x:Wi)(st hs:List Int):za1 (bk++[x]) st hs=za1 bk st hs++(if (uZ st x&&!hs.contains x.b)=true then [chg st x.b x.r] else []):=by
 unfold za1;rw[ce,aB];congr 1;by_cases h:(uZ st x&&!hs.contains x.b)=true
 ·rw[if_pos h,List.filter_cons,if_pos h];rfl
 ·rw[if_neg h,List.filter_cons,if_neg h];rfl
theorem zcS {ns:List Int}:(Dt.lst (ns.map .int)).eqOk:=zaq (ns:=ns)
theorem zmd {st:List Int}{b x:Int}{n:Nat}{Q:W->Nat->Prop}(b0:0<=b)(hz:st.length<=1000)(h:Q (.d (stD (chg st b x))) n):zfi (.d (.tup (xV (st.map Dt.int) none (some b)))) (.d (.tup [.int x])) n fun w m=>zfi w (.d (.tup (xV (st.map Dt.int) (some (b+1)) none))) m Q:=by
 have c1:=zbR st none (some b);have c2:=zbR st (some (b+1)) none;rw[yK,yK];refine⟨_,_,rfl,rfl,by rw[aa];exact ax (by simp;lia:_<=1001) (by decide),_,_,rfl,rfl,by rw[af,aa,aa];exact ax (by simp;lia:_<=2001) (by decide),?_⟩
 have e:(xV st none (some b)).map Dt.int++[Dt.int x]++(xV st (some (b+1)) none).map Dt.int=(chg st b x).map Dt.int:=by rw[<- zoY b0,aB,aB];rfl
 rw[e];exact h
section
variable {X:Cx}{Pn:Option zq}{M S:List Nat}{fr fr':Bool}{e a b c:Expr}{es:List Expr}{f fa fb fc:Ev->Mo W}{pos p:Pos}
def ziJ (t:Ev->Mo Bool)(fb:Ms):Ms:=fun ρ n k=>∃I:Nat->Ev->Nat->Prop,(∃m,I m ρ n)/\
 ∀m ρ' n',I m ρ' n'->t ρ' n' fun b n2=>if b=true then fb ρ' n2 { k with nx:=fun ρ2 n3=>∃m',m'<m/\I m' ρ2 n3,ct:=fun ρ2 n3=>∃m',m'<m/\I m' ρ2 n3,bk:=k.nx } else k.nx ρ' n2
theorem zdv {body:List Stmt}{t:Ev->Mo Bool}{fb:Ms}(hp:PassesOwn (model X.prog X.w) X.A X.env X.xe)(hc:JT X Pn M c t)(hb:JSs X Pn S M fr body fb):JS X Pn S M fr (.While c body [] pos) (ziJ t fb):=by
 obtain⟨tc,qc,rc⟩:=hc.ex;obtain⟨tb,qb,rb⟩:=hb.ex;refine⟨_,⟨zkS hp qc.run qb.run⟩,⟨ ?_⟩⟩;rintro B A σ H ρ n k D a kk ⟨I,⟨m0,i0⟩,it⟩;refine⟨fun m σ' H'=>∃A' ρ' n',At3 Pn B S M A' σ' H' ρ' n'/\I m ρ' n',⟨m0,A,ρ,n,a,i0⟩,?_⟩;rintro m σ' H' ⟨A',ρ',n',a',hI⟩;refine rc.run A' σ' H' ρ' n' _ _ a'.env a'.pn (it m ρ' n' hI) fun b n2 H2 r g=>?_;have a2:=a'.step g
 cases b with
 | false=>
  rw[if_neg (by decide)] at r ⊢;exact kk.nx A' σ' H2 ρ' n2 a2 r
 | true=>
  rw[if_pos rfl] at r ⊢;refine⟨fun σ3 H3=>∃A' ρ' n',At3 Pn B S M A' σ3 H3 ρ' n'/\∃m',m'<m/\I m' ρ' n',fun σ3 H3 ⟨A3,ρ3,n3,a3,m',hm,h⟩=>⟨m',hm,A3,ρ3,n3,a3,h⟩,?_⟩;refine rb.run B A' σ' H2 ρ' n2 { k with nx:=fun ρ2 n3=>∃m',m'<m/\I m' ρ2 n3,ct:=fun ρ2 n3=>∃m',m'<m/\I m' ρ2 n3,bk:=k.nx } _ a2 ⟨?_,?_,?_,kk.fc,?_⟩ r
  ·exact fun A4 σ4 H4 ρ4 n4 a4 r4=>⟨A4,ρ4,n4,a4,r4⟩
  ·exact fun A4 σ4 H4 ρ4 n4 a4 r4=>kk.nx A4 σ4 H4 ρ4 n4 a4 r4
  ·exact fun A4 σ4 H4 ρ4 n4 a4 r4=>⟨A4,ρ4,n4,a4,r4⟩
  ·exact kk.rt
theorem zjP {t:Ev->Mo Bool}{fb:Ms}{ρ:Ev}{n:Nat}{k:Kt}(I:Nat->Ev->Nat->Prop)(m0:Nat)(h0:I m0 ρ n)
  (h:∀m ρ' n',I m ρ' n'->t ρ' n' fun b n2=>if b=true then fb ρ' n2 { k with nx:=fun ρ2 n3=>∃m',m'<m/\I m' ρ2 n3,ct:=fun ρ2 n3=>∃m',m'<m/\I m' ρ2 n3,bk:=k.nx } else k.nx ρ' n2):ziJ t fb ρ n k:=⟨I,⟨m0,h0⟩,h⟩
end
end L3
namespace L2
open PySem PySem.Spec PyProof.Rows
theorem u8 {env:Env}(ke ve gens scope pos):eval (.DictComp ke ve gens scope pos) env=comprehension (.DictComp ke ve gens scope pos) scope env (firstIterPos gens pos) newDict (firstAsync gens) (firstIter gens env):=rfl
theorem zdk (ke ve target iter:Expr)(ifs:List Expr)(scope:Scope)(pos:Pos)(it:Value)(d:Addr)(env:Env) :
  compTurn (.DictComp ke ve [⟨target,iter,ifs,0⟩] scope pos) 0 it (.ref d) env=(do
   standAt iter.pos
   match <- pyNext it with
   | none=>pure (.done .next)
   | some v=>
    letOwnedTupleGo target it v
    assign target env v
    let mut ok:=true
    for c in ifs do
     if ok then ok <- isTrue c env (eval c env)
    if ok then
     (do
      let kv <- eval ke env
      let vv <- holding [kv] (eval ve env)
      standAt { ke.pos with endLine:=ve.pos.endLine,endCol:=ve.pos.endCol }
      holding [kv,vv] (dictSet d kv vv))
    again (.compLoop (.DictComp ke ve [⟨target,iter,ifs,0⟩] scope pos) 0 it (.ref d) env)):=by rfl
section
variable {prog:Program}{w:World}{A:Around}{E:Value->Shared->Prop}{R:Result->Shared->Prop}{s:Shared}
theorem y8 {ke ve target iter ifs zY scope pos it acc env}
  (h0:codeAny (model prog w) A (.compLoop (.DictComp ke ve (⟨target,iter,ifs,0⟩::zY) scope pos) 0 it acc env) R s)
  (h:wpAny (model prog w) A (pyIter it) (fun it' s'=>codeAny (model prog w) A (.compLoop (.DictComp ke ve (⟨target,iter,ifs,0⟩::zY) scope pos) 0 it' acc env) R s')
   (notedBy (model prog w) A env fun x s'=>R (.error x) s') s) :
  codeAny (model prog w) A (.compStart (.DictComp ke ve (⟨target,iter,ifs,0⟩::zY) scope pos) 0 it acc env) R s:=by
 refine codeAny_of_tree ?_;show wpAny _ _ ((compStart (.DictComp ke ve (⟨target,iter,ifs,0⟩::zY) scope pos) 0 it acc env).onRaise (fun x=>do noteFrame x env;standAt theWindowsPlace)) _ _ s;refine wpAny_notedAt ?_;unfold compStart;show wpAny _ _ (ask >>= _) _ _ s;refine ab (bG (wpAny_ite ?_));split
 ·first
   | exact ab (ac (ac (And.intro rfl h0)))
   | exact ac (And.intro rfl h0)
 ·first
   | exact ab (fg (ab (b6 (ab (bi h (fun it' s' h'=>ac (And.intro rfl h')) fun _ _ x=>x)))))
   | (refine ab (fg ?_);show wpAny _ _ (standAt iter.pos >>= _) _ _ s;exact ab (b6 (ab (bi h (fun it' s' h'=>ac (And.intro rfl h')) fun _ _ x=>x))))
theorem ua {ke ve target iter:Expr}{ifs:List Expr}{scope:Scope}{pos:Pos}{it:Value}{d:Addr}{env:Env}(I:Nat->Shared->Prop)
  (turn:∀n s,I n s->wpAny (model prog w) A (pyNext it) (fun r s₁=>match r with
   | none=>R (.ok .next) s₁
   | some v=>wpAny (model prog w) A (letOwnedTupleGo target it v) (fun _ s₂=>wpAny (model prog w) A (assign target env v) (fun _ s₃=>
     wpAny (model prog w) A (forIn ifs true fun c r=>if r=true then do let ok <- isTrue c env (eval c env);pure (ForInStep.yield ok) else pure (ForInStep.yield r)) (fun ok s₄=>
      if ok=true then wpAny (model prog w) A (eval ke env) (fun x s₅=>wpAny (model prog w) A (eval ve env) (fun y s₆=>
       wpAny (model prog w) A (dictSet d x y) (fun _ s₇=>∃m,m<n/\I m s₇) (fun _ _=>False) s₆) (fun _ _=>False) s₅) (fun _ _=>False) s₄
      else ∃m,m<n/\I m s₄) (fun _ _=>False) s₃) (fun _ _=>False) s₂) (fun _ _=>False) s₁) (fun _ _=>False) s)
  (n:Nat) (h:I n s) :
  codeAny (model prog w) A (.compLoop (.DictComp ke ve [⟨target,iter,ifs,0⟩] scope pos) 0 it (.ref d) env) R s:=by
 refine codeAny_loop rfl I (fun n s hI=>?_) n h;show wpAny _ A ((compTurn (.DictComp ke ve [⟨target,iter,ifs,0⟩] scope pos) 0 it (.ref d) env).onRaise (fun x=>do noteFrame x env;theTreesLotGoes x)) _ _ s;refine wpAny_noted ?_;rw[zdk];refine ab (b6 (ab (bi (turn n s hI) (fun r s₁ h₁=>?_) fun _ _ h'=>h'.elim)))
 cases r with
 | none=>exact ac h₁
 | some v=>
  refine ab (bi h₁ (fun _ s₂ h₂=>?_) fun _ _ h'=>h'.elim);refine ab (bi h₂ (fun _ s₃ h₃=>ab (bi h₃ (fun ok s₄ h₄=>?_) fun _ _ h'=>h'.elim)) fun _ _ h'=>h'.elim)
  cases ok with
  | false=>exact ac ⟨rfl,h₄⟩
  | true=>
   refine ab (ab (bi h₄ (fun x s₅ h₅=>?_) fun _ _ h'=>h'.elim));refine ab (bM (bi h₅ (fun y s₆ h₆=>?_) fun _ _ h'=>h'.elim));refine ab (b6 (bM (bi h₆ (fun _ s₇ h₇=>?_) fun _ _ h'=>h'.elim)));exact ac ⟨rfl,h₇⟩
theorem zc4 {Q:Value->Shared->Prop}(h:Q (.ref s.heap.objs.size) { s with heap:=s.heap.push { cls:=.type "dict",data:=.dict #[] } }):wpAny (model prog w) A (newDict) Q E s:=by simp only[newDict,newObj];exact ab (wpAny_alloc (ac h))
end
section
variable {X:Cx}{pins:List (Addr×Obj)}{σ:St}{H:Hp}{s:Shared}{a:Addr}{y v:V}{u r:Value}{o:Option V}{A:Around}{E:Value->Shared->Prop}
theorem zeg {H':Hp}{Q:Unit->Shared->Prop}(hu:A.units+1<cLine)(I:Inv X pins σ H s)(g:zd6 H a y v H')(ry:yN y u)(rv:yN v r)(h:∀s',Inv X pins σ H' s'->Q () s') :
  wpAny (model X.prog X.w) A (dictSet a u r) Q E s:=by
 rcases g with ⟨kvs,k,e,ey,l,eH⟩ | ⟨kvs,k,b,e,ey,eb,l,eH⟩
 ·subst ey eH;obtain⟨z,hd,vs,rel,dd⟩:=zke I.hok e;have hz:vs.length<=sizeLine:=by rw[<- rel.length];exact z
  have hl:(u4 kvs k v).length<=sizeLine:=by have:=xH kvs k v;lia
  refine wpAny_dictSet_pairs (hsz:=hz) (zio ry) dd fun h' dd' hs=>h _ ?_;have he:∃q,h'.get? a=some q:=let ⟨q,_,_,hq,_⟩:=dd';⟨q,hq⟩;exact zbS I (by rw[e];exact True.intro) hs he (zhK hl hd (rel.put k rv) dd')
 ·subst ey eH;cases (show u=Value.ref b from ry);obtain⟨z,hd,xs,rel,dd⟩:=zpc I.hok e;have hz:xs.length<=sizeLine:=by rw[<- dR rel];exact z
  have hl:(u4 kvs k v).length<=sizeLine:=by have:=xH kvs k v;lia
  refine wpAny_dictSet_heap (hsz:=hz) (Nat.lt_of_succ_lt hu) (zgi I.hok eb) dd fun h' dd' hs=>h _ ?_;obtain⟨q,es,ep,hq,h2,h3,h4,_,h5⟩:=dd';refine zbS I (by rw[e];exact True.intro) hs ⟨q,hq⟩ ⟨hl,hd,_,(rel.put k eb rv).keeps fun c ys ec=>?_,q,es,ep,hq,h2,h3,h4,h5⟩;rw[zh (zgV ec e (fun z=>nomatch z))];exact ec
end
def zso (g:TG)(ti:TT)(tk tv:TE)(acc:Addr)(N:St->Hp->Prop)(x:V)(σ:St)(H:Hp):Prop:=
 g x σ H fun σ3 H3=>ti σ3 H3 fun ok H4=>if ok=true then tk σ3 H4 fun y H5=>tv σ3 H5 fun v H6=>∃H7,zd6 H6 acc y v H7/\N σ3 H7 else N σ3 H4
def zsn (J:It)(g:TG)(ti:TT)(tk tv:TE)(acc:Addr)(Q:VK)(σ:St)(H:Hp):Prop:=∃W:Nat->Nat->St->Hp->Prop,(∃m,W 0 m σ H)/\
 ∀i m σ' H',W i m σ' H'->(J.stop i H'/\Q (.ref acc) H')\/(J.go i H'/\∃N:St->Hp->Prop,(∀ σ2 H2,N σ2 H2->∃m',m'<m/\W (i+1) m' σ2 H2)/\∀x H2,J.yld i H' x H2->zso g ti tk tv acc N x σ' H2)
def zeX (o0:HO)(wi:TI)(g:TG)(ti:TT)(tk tv:TE)(cix:List (Option Nat)):TE:=fun σ H Q=>wi σ H fun J H1=>∀acc,H1 acc=none->zsn J g ti tk tv acc Q (uT σ cix) (upd H1 acc o0)
theorem zfJ {X:Cx}{ke ve tg iter:Expr}{ifs:List Expr}{scope:Scope}{pos:Pos}{wi:TI}{g:TG}{ti:TT}{tk tv:TE}{N:List Str}{cix:List (Option Nat)}{o0:HO}(ho0:o0 = .dK []\/o0 = .dT [])(hu:X.A.units+1<cLine)(hc:X.calm=true)(c:CompOk X scope N cix)
  (hi:PI X tg iter wi) (hg:∀C s H ex,PG (zt X scope N C s H ex) tg g) (ht:∀C s H ex,PTs (zt X scope N C s H ex) ifs ti) (hk:∀C s H ex,PE (zt X scope N C s H ex) ke tk) (hv:∀C s H ex,PE (zt X scope N C s H ex) ve tv)
  (hs:∀x,foldedSetIterable iter X.env x=pure x:=by intro _;rfl):PE X (.DictComp ke ve [⟨tg,iter,ifs,0⟩] scope pos) (zeX o0 wi g ti tk tv cix):=by
 intro pins s σ H Q I h;rw[u8];refine b9 (use:=none) rfl hs (x9 (c.cells I.ok)) c.kind c.names (thn (hi pins s σ H _ I h) fun xv s1 h1=>thn h1 fun itv s2 h2=>?_);obtain⟨it,fp,tn,J,H2,e,I2,T,st2,f2,q2⟩:=h2;subst e;generalize hob:({ cls:=.type "dict",data:=.dict #[] }:Obj)=ob;refine zc4 ?_;rw[hob];refine c6 c.cell (by intro y hy;simp at hy) (fun h4 hns4 hsb4=>?_) c.kind;dsimp only at hns4 hsb4 ⊢;have hnone:=I2.hok.fresh (ag s2.heap.objs.size)
 have hnew:∀H',yy X.prog X.w H' (s2.heap.push ob) s2.heap.objs.size o0:=fun H'=>by
  rw[<- hob];rcases ho0 with rfl | rfl
  ·exact zdm s2.heap I2.big
  ·exact zdn s2.heap I2.big
 have I3:Inv X pins σ (upd H2 s2.heap.objs.size o0) { s2 with heap:=s2.heap.push ob,toks:=s2.toks }:=I2.laid (t':=s2.toks) (fun b u e=>ai _ e) (ag _) (hnew _);obtain⟨W,⟨m0,w0⟩,turn⟩:=q2 s2.heap.objs.size hnone
 have ltF:∀b∈fp,b<s2.heap.objs.size:=fun b hb=>by obtain⟨o,ho,_⟩:=T.obj _ _ st2 b hb;exact aw ho
 have f3:∀b∈fp,zcO X pins (upd H2 s2.heap.objs.size o0) b:=fun b hb=>⟨by rw[zh (aO (ltF b hb))];exact (f2 b hb).1,(f2 b hb).2⟩
 have kp:∀b o,(s2.heap.push ob).get? b=some o->h4.get? b=some o:=fun b o e=>
  hsb4.extBut b o (aO (aw e)) (ai _ e)
 have sz3:s2.heap.objs.size<(s2.heap.push ob).objs.size:=by rw[c8];exact cz _
 have I4:=zbB (tk:=s2.toks+([]:List (Str×Value)).length) I3 c f3 (fun b hb=>bW (ltF b hb) sz3) hns4 kp;have st4:tn 0 h4:=T.keep _ _ _ st2 fun b hb o e=>kp b o (ai _ e);generalize hX:zt X scope N (s2.heap.push ob).objs.size { s2 with heap:=s2.heap.push ob,toks:=s2.toks } (upd H2 s2.heap.objs.size o0) fp=X' at I4;have pX:X'.prog=X.prog:=by rw[<- hX];rfl
 have wX:X'.w=X.w:=by rw[<- hX];rfl
 have KX:X'.K=X.K:=by rw[<- hX];rfl
 have AX:X'.A=X.A:=by rw[<- hX];rfl
 have cX:X'.calm=true:=by rw[<- hX];exact hc
 have xX:X'.xe=fun _ _=>False:=by rw[<- hX];rfl
 have eX:X'.env=compEnvC scope (zba X.env scope.names []) (s2.heap.push ob).objs.size X.env:=by rw[<- hX];rfl
 have hg':PG X' tg g:=by rw[<- hX];exact hg _ _ _ _
 have ht':PTs X' ifs ti:=by rw[<- hX];exact ht _ _ _ _
 have hk':PE X' ke tk:=by rw[<- hX];exact hk _ _ _ _
 have hv':PE X' ve tv:=by rw[<- hX];exact hv _ _ _ _
 have f4:∀ {H':Hp},(∀b∈fp,H' b=none)->∀b∈fp,zcO X' [] H' b:=fun {H'} hn b hb=>by
  refine⟨hn b hb,?_,?_,.inl ?_,?_,?_⟩
  ·rw[eX];exact aO (bW (ltF b hb) sz3)
  ·have e1:X'.fs=frs X.stack:=by rw[<- hX];rfl
   rw[e1];intro z;rcases aG.mp (I2.stkSub b z) with e | e
   ·exact (f2 b hb).2.1 e
   ·exact (f2 b hb).2.2.1 e
  ·rw[<- hX];exact hb
  ·rw[eX];intro x a e;rcases xh (c.cells I.ok) e with z | z
   ·exact (f2 b hb).2.2.2.2.1 x a z
   ·simp at z
  ·intro p hp;have e1:X'.pn++([]:List (Addr×Obj))=[]:=by rw[<- hX];rfl
   rw[e1] at hp;simp at hp
 have loop:∀s4:Shared,s4={ s2 with heap:=h4,toks:=s2.toks+([]:List (Str×Value)).length }->
   codeAny (model X.prog X.w) X.A (.compLoop (.DictComp ke ve [⟨tg,iter,ifs,0⟩] scope pos) 0 (.ref it) (.ref s2.heap.objs.size) X'.env)
    (compPost (model X.prog X.w) X.A X.xe none (EP X pins σ Q) (.ref s2.heap.objs.size) (s2.heap.push ob).objs.size) s4:=by
  rintro s4 rfl;refine ua (fun n s'=>∃i σ' H',Inv X' [] σ' H' s'/\tn i s'.heap/\(∀b∈fp,H' b=none)/\W i n σ' H') ?_ m0 ⟨0,uT σ cix,_,I4,st4,fun b hb=>(f3 b hb).1,w0⟩;rintro n s5 ⟨i,σ5,H5,I5,st5,fr5,w5⟩;rcases turn i n σ5 H5 w5 with ⟨stop,qn⟩ | ⟨go,Nx,hN,step⟩
  ·have:=T.done X' pX wX KX cX i [] s5 σ5 H5 (fun _ _=>False) I5 (f4 fr5) st5 stop;rw[AX] at this;refine thn this  ?_;rintro r s6 ⟨hr,I6⟩;subst hr;obtain⟨m6,hn6,_⟩:=I6.loc;rw[eX] at hn6;refine⟨m6,hn6,fun h7 hs7=>?_⟩;have I6':=I6;rw[<- hX] at I6';exact⟨.ref s2.heap.objs.size,H5,uW I3 f3 I6' hs7,rfl,qn⟩
  ·have:=T.item X' pX wX KX cX i [] s5 σ5 H5 (fun _ _=>False) I5 (f4 fr5) st5 go;rw[AX] at this;refine thn this  ?_;rintro r s6 ⟨u,hr,h6⟩;subst hr;refine thn h6  ?_;rintro _ s7 ⟨x,H7,I7,r7,y7,st7,fr7⟩;have I7':=I7.pinned (f4 fr7) (T.obj _ _ st7);have a7:=hg' _ s7 σ5 H7 x u _ I7' r7 (step x H7 y7);rw[pX,wX,AX,xX] at a7;refine thn a7  ?_;rintro _ s8 ⟨σ8,H8,I8,q8⟩;have t8:=ht' _ s8 σ8 H8 _ I8 q8;rw[pX,wX,AX,xX] at t8;refine thn t8  ?_;rintro ok s9 ⟨H9,I9,q9⟩
   have again:∀ {s':Shared} {σ':St} {H':Hp},Inv X' ([]++zaM fp s7.heap) σ' H' s'->Nx σ' H'->∃m,m<n/\∃i σ' H',Inv X' [] σ' H' s'/\tn i s'.heap/\(∀b∈fp,H' b=none)/\W i m σ' H':=fun {s' σ' H'} J' n'=>by obtain⟨m',hm,w'⟩:=hN σ' H' n';refine⟨m',hm,i+1,σ',H',J'.unpinned,T.keep _ _ _ st7 fun b hb o e=>(J'.pin (b,o) (au _ (au _ (z5 hb e)))).1,fun b hb=>?_,w'⟩;obtain⟨o,e,d⟩:=T.obj _ _ st7 b hb;exact (J'.pin (b,o) (au _ (au _ (z5 hb e)))).2.1
   cases ok with
   | false=>exact again I9 q9
   | true=>
    have e9:=hk' _ s9 σ8 H9 _ I9 q9;rw[pX,wX,AX,xX] at e9;refine thn e9  ?_;rintro u2 s10 ⟨y,H10,I10,r10,q10⟩;have e10:=hv' _ s10 σ8 H10 _ I10 q10;rw[pX,wX,AX,xX] at e10;refine thn e10  ?_;rintro u3 s11 ⟨v,H11,I11,r11,H12,dp,nx⟩;have m10:=zeg (X:=X') (A:=X.A) (E:=fun _ _=>False) (Q:=fun _ s'=>∃m,m<n/\∃i σ' H',Inv X' [] σ' H' s'/\tn i s'.heap/\(∀b∈fp,H' b=none)/\W i m σ' H') hu I11 dp r10 r11 fun s' I'=>again I' nx;rw[pX,wX] at m10;exact m10
 have l0:=loop _ rfl;rw[eX] at l0;exact y8 l0 (T.self X.A 0 _ _ _ st4 l0)
theorem zfK {X:Cx}{pos:Pos}{tk tv:TE}{ke ve tg iter:Expr}{ifs:List Expr}{scope:Scope}{wi:TI}{g:TG}{ti:TT}{N:List Str}{cix:List (Option Nat)}{o0:HO}(ho0:o0 = .dK []\/o0 = .dT [])(hu:X.A.units+1<cLine)(hc:X.calm=true)(c:CompOk X scope N cix)
  (hi:QI X tg iter wi) (hg:∀C s H ex,QG (zt X scope N C s H ex) tg g) (ht:∀C s H ex,QTs (zt X scope N C s H ex) ifs ti) (hk:∀C s H ex,QE (zt X scope N C s H ex) ke tk) (hv:∀C s H ex,QE (zt X scope N C s H ex) ve tv)
  (hs:∀x,foldedSetIterable iter X.env x=pure x:=by intro _;rfl):QE X (.DictComp ke ve [⟨tg,iter,ifs,0⟩] scope pos) (zeX o0 wi g ti tk tv cix):=
 ⟨zfJ ho0 hu hc c hi.run (fun C s H ex=>(hg C s H ex).run) (fun C s H ex=>(ht C s H ex).run) (fun C s H ex=>(hk C s H ex).run) (fun C s H ex=>(hv C s H ex).run) hs⟩
end L2
namespace L3
open PySem PySem.Spec L2
section
variable {X:Cx}{Pn:Option zq}{M S:List Nat}{fr fr':Bool}{e a b c:Expr}{es:List Expr}{f fa fb fc:Ev->Mo W}{pos p:Pos}
theorem zlJ:NP (.dK []):=fun _ e=>by cases e;rfl
theorem ziU {ks:List (Key×V)}(h:∀q∈ks,∃j:Int,q.1=Sum.inl j):NP (.dK ks):=fun kvs e=>by
 cases e
 induction ks with
 | nil=>rfl
 | cons q r ih=>
  obtain⟨j,hj⟩:=h q ah;have:=ih fun q hq=>h q (ak _ hq);unfold za9 at this ⊢;rw[bA];have e:decide (q.1=(Sum.inr "at" : Key))=false:=aN fun z=>by rw[hj] at z;cases z
  simpa [e] using this
theorem zjd {ks:List (Key×V)}{i:Int}{v:V}(h:∀q∈ks,∃j:Int,q.1=Sum.inl j):∀q∈u4 ks (Sum.inl i:Key) v,∃j:Int,q.1=Sum.inl j:=fun q hq=>by
 unfold u4 at hq;split at hq
 ·obtain⟨q',hq',rfl⟩:=aF.mp hq;obtain⟨j,hj⟩:=h q' hq';refine⟨j,?_⟩;show (if q'.1=_ then (q'.1,v) else q').1=_;split <;> exact hj
 ·rcases bg.mp hq with z | z
  ·exact h q z
  ·rw[aK.mp z];exact⟨i,rfl⟩
def zpb (mg:W->Ev->(Ev->Prop)->Prop)(ft:Ev->Mo Bool)(fk fv:Ev->Mo W)(ρ0:Ev)(Q:W->Nat->Prop):List W->Nat->Prop:=fun l n1=>l.length<=lim/\∃I:Nat->Ev->Nat->List (List Int×Dt)->Prop,I 0 ρ0 n1 []/\
 (∀i w ρ' n' acc,l[i]?=some w->I i ρ' n' acc->mg w ρ' fun ρ1=>ft ρ1 n' fun b n2=>if b=true then fk ρ1 n2 fun y n3=>fv ρ1 n3 fun x n4=>∃st d,y = .d (stD st)/\x = .d d/\I (i+1) ρ1 n4 (zgu acc st d) else I (i+1) ρ1 n2 acc)/\
 ∀ ρ' n' acc,I l.length ρ' n' acc->Q (.dt acc) n'
@[reducible] def zsK (fi:Ev->Mo (List W)) (mg:W->Ev->(Ev->Prop)->Prop) (ft:Ev->Mo Bool) (fk fv:Ev->Mo W) (cix:List (Option Nat)):Ev->Mo W:=fun ρ n Q=>fi ρ n (zpb mg ft fk fv (zcA ρ cix) Q)
def zlx (mg:W->Ev->(Ev->Prop)->Prop)(ft:Ev->Mo Bool)(fk fv:Ev->Mo W)(ρ0:Ev)(Q:W->Nat->Prop):List W->Nat->Prop:=fun l n1=>l.length<=lim/\∃I:Nat->Ev->Nat->List (Key×Dt)->Prop,I 0 ρ0 n1 []/\
 (∀i w ρ' n' acc,l[i]?=some w->I i ρ' n' acc->mg w ρ' fun ρ1=>ft ρ1 n' fun b n2=>if b=true then fk ρ1 n2 fun y n3=>fv ρ1 n3 fun x n4=>∃ (j:Int) (d:Dt),y = .d (.int j)/\x = .d d/\I (i+1) ρ1 n4 (zgu acc (Sum.inl j) d) else I (i+1) ρ1 n2 acc)/\
 ∀ ρ' n' acc,I l.length ρ' n' acc->Q (.dk acc) n'
@[reducible] def zfA (fi:Ev->Mo (List W)) (mg:W->Ev->(Ev->Prop)->Prop) (ft:Ev->Mo Bool) (fk fv:Ev->Mo W) (cix:List (Option Nat)):Ev->Mo W:=fun ρ n Q=>fi ρ n (zlx mg ft fk fv (zcA ρ cix) Q)
theorem zeP {wi:TI}{g:TG}{ti:TT}{tk tv:TE}{cix:List (Option Nat)}{fi:Ev->Mo (List W)}{mg:W->Ev->(Ev->Prop)->Prop}{ft:Ev->Mo Bool}{fk fv:Ev->Mo W}{ow:Bool}(hn:(cix.filterMap id).Nodup)
  (hi:RI Pn M ow wi fi) (hg:RG (yO M cix) (yO M cix) g mg) (ht:RT Pn (yO M cix) ti ft) (hk:RB Pn (yO M cix) tk fk) (he:RE Pn (yO M cix) fr' tv fv):RE Pn M true (zeX (.dK []) wi g ti tk tv cix) (zfA fi mg ft fk fv cix):=⟨fun A σ H ρ n Q R E P hf k=>by
 refine hi.run A σ H ρ n _ _ E P hf fun l m J H1 ⟨hz,I,i0,it,ie⟩ iv g1=>fun acc hacc=>?_;have E1:=E.stay g1.st;have E2:=(E1.cap hn).more (zx.upd (o:=.dK []) hacc) (Fr.of hacc) zj zlJ (by intro xs z;cases z);have P2:xq Pn (fun b=>A b\/b=acc) m (L2.upd H1 acc (.dK [])):=g1.pn.grow (g1.pn.same (x4.upd hacc)) (Fr.of hacc) zj zlJ
 have nacc:∀k w,k∈yO M cix->(zcA ρ cix)[k]?=some (some w)->(uT σ cix)[k]?≠some (some (.ref acc)):=fun k w hk hw z=>by obtain⟨v,s1,_,s3⟩:=(E1.cap hn).val k w hw;obtain⟨a,e,hA,_⟩:=s3 hk;rw[z] at s1;cases s1;cases e;exact E1.new hacc hA
 have key:∀ σ' ρ' H',EnvR (fun b=>A b\/b=acc) (yO M cix) σ' H' ρ'->(∀k∈yO M cix,σ'[k]?=(uT σ cix)[k]?/\ρ'[k]?=(zcA ρ cix)[k]?)->∀k w,k∈yO M cix->ρ'[k]?=some (some w)->σ'[k]?≠some (some (.ref acc)):=fun σ' ρ' H' E' hfx k w hk hw z=>by obtain⟨f1,f2⟩:=hfx k hk;rw[f1] at z;rw[f2] at hw;exact nacc k w hk hw z
 refine⟨fun i mm σ' H'=>mm=l.length - i/\i<=l.length/\∃ ρ' n' accD xs,EnvR (fun b=>A b\/b=acc) (yO M cix) σ' H' ρ'/\xq Pn (fun b=>A b\/b=acc) n' H'/\I i ρ' n' accD/\H' acc=some (.dK xs)/\uR (yd (fun b=>A b\/b=acc) H') accD xs/\accD.length<=i/\(∀q∈xs,∃j:Int,q.1=Sum.inl j)/\zx (yd A H1) (yd (fun b=>A b\/b=acc) H')/\zx H1 H'/\(∀k∈yO M cix,σ'[k]?=(uT σ cix)[k]?/\ρ'[k]?=(zcA ρ cix)[k]?),
  ⟨l.length,by simp,a8 _,_,m,[],[],E2,P2,i0,zj,rfl,ag _,by simp,yP (zx.upd hacc) (Fr.of hacc),zx.upd hacc,fun k hk=>⟨rfl,rfl⟩⟩,?_⟩
 rintro i mm σ' H' ⟨rfl,hil,ρ',n',accD,xs,E',P',hI,hac,hxs,hal,hin,st,s1,hfx⟩;by_cases hlt:i<l.length
 ·right;have hget:l[i]?=some l[i]:=aj hlt;obtain⟨go,yl⟩:=iv.one i l[i] _ H' hget st (fun _=>s1) fun p hp=>E'.new hp
  refine⟨go,fun σ2 H2=>∃ ρ' n' accD xs,EnvR (fun b=>A b\/b=acc) (yO M cix) σ2 H2 ρ'/\xq Pn (fun b=>A b\/b=acc) n' H2/\I (i+1) ρ' n' accD/\H2 acc=some (.dK xs)/\uR (yd (fun b=>A b\/b=acc) H2) accD xs/\accD.length<=i+1/\(∀q∈xs,∃j:Int,q.1=Sum.inl j)/\zx (yd A H1) (yd (fun b=>A b\/b=acc) H2)/\zx H1 H2/\(∀k∈yO M cix,σ2[k]?=(uT σ cix)[k]?/\ρ'[k]?=(zcA ρ cix)[k]?),
   fun σ2 H2 h=>⟨l.length - (i+1),by lia,rfl,hlt,h⟩,fun x H2 hy=>?_⟩
  obtain⟨S2,V2⟩:=yl x H2 hy;refine hg.run _ σ' H2 ρ' x l[i] _ _ (E'.stay (zx.same S2)) V2 (it i l[i] ρ' n' accD hget hI) fun σ3 ρ3 r3 E3 f3=>?_;have hfx3:∀k∈yO M cix,σ3[k]?=(uT σ cix)[k]?/\ρ3[k]?=(zcA ρ cix)[k]?:=fun k hk=>⟨(f3 k hk).1.trans (hfx k hk).1,(f3 k hk).2.trans (hfx k hk).2⟩;refine ht.run _ σ3 H2 ρ3 n' _ _ E3 (P'.same S2) r3 fun b m3 H4 r4 g4=>?_;have s24:=(zx.same S2).trans g4.st
  cases b with
  | false=>
   rw[if_neg (by decide)] at r4 ⊢;exact⟨ρ3,m3,accD,xs,E3.stay g4.st,g4.pn,r4,s24 _ _ hac (ziU hin),hxs.stay (zN s24),by lia,hin,st.trans (zN s24),s1.trans s24,hfx3⟩
  | true=>
   rw[if_pos rfl] at r4 ⊢;refine hk.run _ σ3 H4 ρ3 m3 _ _ (E3.stay g4.st) g4.pn r4 fun y5 m5 u5 H5 r5 B5 g5=>?_;refine he.run _ σ3 H5 ρ3 m5 _ _ ((E3.stay g4.st).stay g5.st) g5.pn r5  ?_;rintro w6 m6 v6 H6 ⟨ky,d,ey,e6,r6⟩ V6 g6 _;subst ey e6;have s26:=(s24.trans g5.st).trans g6.st;have E6:=((E3.stay g4.st).stay g5.st).stay g6.st;have hac6:H6 acc=some (.dK xs):=s26 _ _ hac (ziU hin);have eu:u5 = .int ky:=B5;subst eu;have hpl:=zje accD (Sum.inl ky:Key) d;have hin2:∀q∈u4 xs (Sum.inl ky:Key) v6,∃j:Int,q.1=Sum.inl j:=zjd hin;refine⟨_,zd6.k (k:=(Sum.inl ky:Key)) hac6 (zey (by rw[hxs.len];lia)),ρ3,m6,zgu accD (Sum.inl ky) d,u4 xs (Sum.inl ky) v6,E6.upd (.inr rfl) (key σ3 ρ3 H6 E6 hfx3) (ziU hin2) (by intro xs z;cases z),g6.pn.upd (.inr rfl),r6,zj,?_,by lia,hin2,?_,?_,hfx3⟩
   ·rw[yk (.inr rfl)];exact (hxs.stay (zN s26)).put V6.is
   ·rw[yk (.inr rfl)];exact st.trans (zN s26)
   ·exact fun b o e nn=>by rw[zh (zc e hacc)];exact s1.trans s26 b o e nn
 ·left;have hie:i=l.length:=by lia
  subst hie;refine⟨iv.stop _ H' st (fun _=>s1),k _ n' _ H' (ie ρ' n' accD hI) ⟨acc,xs,rfl,ye (E1.new hacc) hac,hxs.stay (zx.same (xj fun b z=>.inl z)),ziU hin _ rfl⟩ (g1.trans ⟨s1,P'.less fun a z=>.inl z⟩) fun _=>⟨acc,rfl,(Fr.of hacc).back g1.st,acc,xs,rfl,hac,hxs,ziU hin _ rfl⟩⟩⟩
theorem ztE {scope:Scope}{N:List Str}(h:∀C s H ex,JB (zt X scope N C s H ex) Pn M e f):∃te,(∀C s H ex,QE (zt X scope N C s H ex) e te)/\RB Pn M te f:=
 ⟨fun σ H Q=>∀C s H0 ex,(h C s H0 ex).ex.choose σ H Q,fun C s H0 ex=>⟨fun pins s' σ H Q I z=>(h C s H0 ex).ex.choose_spec.1.run pins s' σ H Q I (z C s H0 ex)⟩,
  ⟨fun A σ H ρ n Q R E P hf k C s H0 ex=>(h C s H0 ex).ex.choose_spec.2.run A σ H ρ n Q R E P hf k⟩⟩
theorem zge {ke ve tg iter:Expr}{ifs:List Expr}{scope:Scope}{N:List Str}{cix:List (Option Nat)}{fi:Ev->Mo (List W)}{mg:W->Ev->(Ev->Prop)->Prop}{ft:Ev->Mo Bool}{fk fv:Ev->Mo W}{ow:Bool}(hu:X.A.units+1<cLine)(hc:X.calm=true)(cc:CompOk X scope N cix)
  (hi:JI X Pn M ow tg iter fi) (hg:∀C s H ex,JG (zt X scope N C s H ex) (yO M cix) (yO M cix) tg mg) (ht:∀C s H ex,JTs (zt X scope N C s H ex) Pn (yO M cix) ifs ft) (hk:∀C s H ex,JB (zt X scope N C s H ex) Pn (yO M cix) ke fk) (he:∀C s H ex,JE (zt X scope N C s H ex) Pn (yO M cix) fr' ve fv)
  (hn:(cix.filterMap id).Nodup:=by decide) (hs:∀x,foldedSetIterable iter X.env x=pure x:=by intro _;rfl):JE X Pn M true (.DictComp ke ve [⟨tg,iter,ifs,0⟩] scope pos) (zfA fi mg ft fk fv cix):=by
 obtain⟨ti,qi,ri⟩:=hi.ex;obtain⟨g,qg,rg⟩:=zlj hg;obtain⟨tt,qt,rt⟩:=zlk ht;obtain⟨tk,qk,rk⟩:=ztE hk;obtain⟨te,qe,re⟩:=zli he;exact⟨_,zfK (o0:=.dK []) (by simp) hu hc cc qi qg qt qk qe hs,zeP hn ri rg rt rk re⟩
end
open PySem PySem.Spec L2
@[reducible] def onI (w:W) (P:Int->Prop):Prop:=match w with | .d (.int i)=>P i | _=>False
@[reducible] def onB (w:W) (P:Bool->Prop):Prop:=match w with | .d (.bl i)=>P i | _=>False
@[reducible] def onT (w:W) (P:List Dt->Prop):Prop:=match w with | .d (.tup i)=>P i | _=>False
@[reducible] def onL (w:W) (P:List Dt->Prop):Prop:=match w with | .d (.lst i)=>P i | _=>False
@[reducible] def onS (w:W) (P:List Dt->Prop):Prop:=match w with | .d (.lst i)=>P i | .d (.tup i)=>P i | _=>False
@[reducible] def onD (w:W) (P:Dt->Prop):Prop:=match w with | .d i=>P i | _=>False
@[reducible] def onK (w:W) (P:List (Key×Dt)->Prop):Prop:=match w with | .dk i=>P i | _=>False
@[reducible] def onE (w:W) (P:List (List Int×Dt)->Prop):Prop:=match w with | .dt i=>P i | _=>False
@[reducible] def onO {α:Type} (o:Option α) (P:α->Prop):Prop:=match o with | some i=>P i | none=>False
@[reducible] def onC (c:Bool) (A B:Prop):Prop:=match c with | true=>A | false=>B
@[reducible] def on1 (l:List W) (P:W->Prop):Prop:=match l with | [a]=>P a | _=>False
@[reducible] def on2 (l:List W) (P:W->W->Prop):Prop:=match l with | [a,b]=>P a b | _=>False
@[reducible] def onV:Ev->Nat->(W->Prop)->Prop
 | [],_,_=>False
 | a::_,0,P=>onO a P
 | _::r,i+1,P=>onV r i P
@[reducible] def onP:Ev->Nat->W->(Ev->Prop)->Prop
 | [],_,_,Q=>Q []
 | _::r,0,w,Q=>Q (some w::r)
 | a::r,i+1,w,Q=>onP r i w fun r'=>Q (a::r')
@[reducible] def onN:Ev->Nat->(Ev->Prop)->Prop
 | [],_,Q=>Q []
 | _::r,0,Q=>Q (none::r)
 | a::r,i+1,Q=>onN r i fun r'=>Q (a::r')
@[reducible] def zdI {α:Type}:Nat->List α->Prop->Prop
 | 0,[],P=>P
 | k+1,_::r,P=>zdI k r P
 | _,_,_=>False
theorem xt {w:W}{P:Int->Prop}:onI w P = ∃i,w = .d (.int i)/\P i:=propext ⟨fun h=>by rcases w with (x|x|x|x|_) <;> first | exact False.elim h | (cases x <;> first | exact False.elim h | exact⟨_,rfl,h⟩),by rintro⟨i,e,h⟩;subst e;exact h⟩
theorem ziZ {w:W}{P:Bool->Prop}:onB w P = ∃i,w = .d (.bl i)/\P i:=propext ⟨fun h=>by rcases w with (x|x|x|x|_) <;> first | exact False.elim h | (cases x <;> first | exact False.elim h | exact⟨_,rfl,h⟩),by rintro⟨i,e,h⟩;subst e;exact h⟩
theorem zeG {w:W}{P:List Dt->Prop}:onT w P = ∃i,w = .d (.tup i)/\P i:=propext ⟨fun h=>by rcases w with (x|x|x|x|_) <;> first | exact False.elim h | (cases x <;> first | exact False.elim h | exact⟨_,rfl,h⟩),by rintro⟨i,e,h⟩;subst e;exact h⟩
theorem xu {w:W}{P:List Dt->Prop}:onL w P = ∃i,w = .d (.lst i)/\P i:=propext ⟨fun h=>by rcases w with (x|x|x|x|_) <;> first | exact False.elim h | (cases x <;> first | exact False.elim h | exact⟨_,rfl,h⟩),by rintro⟨i,e,h⟩;subst e;exact h⟩
theorem zgr {w:W}{P:List Dt->Prop}:onS w P = ∃i,(w = .d (.lst i)\/w = .d (.tup i))/\P i:=propext ⟨fun h=>by rcases w with (x|x|x|x|_) <;> first | exact False.elim h | (cases x <;> first | exact False.elim h | exact⟨_,.inl rfl,h⟩ | exact⟨_,.inr rfl,h⟩),by rintro⟨i,e,h⟩;rcases e with e | e <;> subst e <;> exact h⟩
theorem xR {w:W}{P:Dt->Prop}:onD w P = ∃i,w = .d i/\P i:=propext ⟨fun h=>by cases w <;> first | exact False.elim h | exact⟨_,rfl,h⟩,by rintro⟨i,e,h⟩;subst e;exact h⟩
theorem zi0 {w:W}{P:List (Key×Dt)->Prop}:onK w P = ∃i,w = .dk i/\P i:=propext ⟨fun h=>by cases w <;> first | exact False.elim h | exact⟨_,rfl,h⟩,by rintro⟨i,e,h⟩;subst e;exact h⟩
theorem zlK {w:W}{P:List (List Int×Dt)->Prop}:onE w P = ∃i,w = .dt i/\P i:=propext ⟨fun h=>by cases w <;> first | exact False.elim h | exact⟨_,rfl,h⟩,by rintro⟨i,e,h⟩;subst e;exact h⟩
theorem zbf {α:Type}{w:Option α}{P:α->Prop}:onO w P = ∃i,w=some i/\P i:=propext ⟨fun h=>by cases w <;> first | exact False.elim h | exact⟨_,rfl,h⟩,by rintro⟨i,e,h⟩;subst e;exact h⟩
theorem zaH {c:Bool}{A B:Prop}:onC c A B=if c=true then A else B:=by cases c <;> simp[onC]
theorem zab {l:List W}{P:W->Prop}:on1 l P = ∃a,l=[a]/\P a:=propext ⟨fun h=>by rcases l with (_|⟨a,_|⟨b,l⟩⟩) <;> first | exact False.elim h | exact⟨_,rfl,h⟩,by rintro⟨i,e,h⟩;subst e;exact h⟩
theorem zpQ {l:List W}{P:W->W->Prop}:on2 l P = ∃a b,l=[a,b]/\P a b:=propext ⟨fun h=>by rcases l with (_|⟨a,_|⟨b,_|⟨c,l⟩⟩⟩) <;> first | exact False.elim h | exact⟨_,_,rfl,h⟩,by rintro⟨i,j,e,h⟩;subst e;exact h⟩
theorem zbg:∀ {ρ:Ev} {i:Nat} {P:W->Prop},onV ρ i P = ∃w,ρ[i]?=some (some w)/\P w
 | [],i,P=>by simp[onV]
 | some w::r,0,P=>by simp[onV]
 | none::r,0,P=>by simp[onV]
 | some w::r,i+1,P=>by simpa [onV] using zbg (ρ:=r) (i:=i) (P:=P)
 | none::r,i+1,P=>by simpa [onV] using zbg (ρ:=r) (i:=i) (P:=P)
theorem uJ:∀ {ρ:Ev} {i:Nat} {w:W} {Q:Ev->Prop},onP ρ i w Q=Q (ρ.set i (some w))
 | [],i,w,Q=>rfl
 | a::r,0,w,Q=>rfl
 | a::r,i+1,w,Q=>by rw[onP,uJ];rfl
theorem zlL:∀ {ρ:Ev} {i:Nat} {Q:Ev->Prop},onN ρ i Q=Q (ρ.set i none)
 | [],i,Q=>rfl
 | a::r,0,Q=>rfl
 | a::r,i+1,Q=>by rw[onN,zlL];rfl
theorem zdJ {α:Type}:∀ {k:Nat} {l:List α} {P:Prop},zdI k l P=(l.length=k/\P)
 | 0,[],P=>by simp[zdI]
 | 0,a::r,P=>by simp[zdI]
 | k+1,[],P=>by simp[zdI]
 | k+1,a::r,P=>by simp[zdI,zdJ (l:=r)]
theorem xy {P:Prop}[Decidable P]{A B:Prop}(h1:P->A)(h2:¬ P->B):onC (decide P) A B:=by
 by_cases h:P
 ·rw[aR h];exact h1 h
 ·rw[aN h];exact h2 h
theorem zgY {P:Prop}[Decidable P]{A B:Prop}(h1:¬ P->A)(h2:P->B):onC (!decide P) A B:=by
 by_cases h:P
 ·rw[aR h];exact h2 h
 ·rw[aN h];exact h1 h
theorem zdG {c:Bool}{A B:Prop}(h1:c=true->A)(h2:c=false->B):onC c A B:=by
 cases c
 ·exact h2 rfl
 ·exact h1 rfl
theorem zpS {c:Bool}{A B:Prop}(h1:c=false->A)(h2:c=true->B):onC (!c) A B:=by
 cases c
 ·exact h1 rfl
 ·exact h2 rfl
theorem zpT {c:Bool}{A B:Prop}(h:c=true)(h1:A):onC c A B:=by subst h;exact h1
theorem zs1 {c:Bool}{A B:Prop}(h:c=false)(h1:B):onC c A B:=by subst h;exact h1
theorem zaI {α:Type}{o:Option α}{a:α}{P:α->Prop}(e:o=some a)(h:P a):onO o P:=by subst e;exact h
theorem onA {st:List Int}{b:Int}{P:Dt->Prop}(h0:0<=b)(h1:b<st.length)(h:P (.int (ya st b))):onO (atI (st.map Dt.int) b) P:=zaI (zma h0 h1) h
theorem zpR {L:List Dt}{a:Int}{P:Dt->Prop}(h0:0<=a)(h1:a<L.length)(h:∀x∈L,P x):onO (atI L a) P:=by obtain⟨x,e,hx⟩:=zoO h0 h1 h;exact zaI e hx
section
variable {X:Cx}{Pn:Option zq}{M S:List Nat}{fr fr':Bool}{e a b c:Expr}{es:List Expr}{f fa fb fc g:Ev->Mo W}{pos p:Pos}{t u:Ev->Mo Bool}{fs gs:Ev->Mo (List W)}
theorem wE (h:f=g)(j:JE X Pn M fr e f):JE X Pn M fr e g:=h ▸ j
theorem wB (h:f=g)(j:JB X Pn M e f):JB X Pn M e g:=h ▸ j
theorem wT (h:t=u)(j:JT X Pn M e t):JT X Pn M e u:=h ▸ j
theorem wW (h:t=u)(j:JW X Pn M e t):JW X Pn M e u:=h ▸ j
theorem wO {f g:Ev->Mo (Option Int)}{e:Option Expr}(h:f=g)(j:JO X Pn M e f):JO X Pn M e g:=h ▸ j
theorem wG {f g:W->Ev->(Ev->Prop)->Prop}(h:f=g)(j:JG X S M e f):JG X S M e g:=h ▸ j
theorem wH {f g:List Dt->Ev->(Ev->Prop)->Prop}(h:f=g)(j:JGs X S M es f):JGs X S M es g:=h ▸ j
theorem wI {tg:Expr}{ow:Bool}(h:fs=gs)(j:JI X Pn M ow tg e fs):JI X Pn M ow tg e gs:=h ▸ j
theorem wS {s:Stmt}{f g:Ms}(h:f=g)(j:JS X Pn S M fr s f):JS X Pn S M fr s g:=h ▸ j
@[reducible] def zpa (i:Nat):Ev->Mo W:=fun ρ n Q=>onV ρ i fun w=>Q w n
theorem ziI {i:Nat}:zpJ i=zpa i:=by funext ρ n Q;exact zbg.symm
theorem kv (i:Nat){x:Str}(hi:i∉M:=by decide)(hN:X.N[i]?=some x:=by rfl)(hv:Vis X.env.scope x:=by first | exact Or.inl rfl | exact Or.inr (Or.inl rfl) | exact Or.inr (Or.inr rfl))(hd:(x==("__debug__" : Str))=false:=by decide)
  (hcd:(x==("__classdict__" : Str))=false:=by decide):JE X Pn M false (.Name x pos) (zpa i):=wE ziI (zsF i hi hN hv hd hcd)
theorem kb (i:Nat){x:Str}(hN:X.N[i]?=some x:=by rfl)(hv:Vis X.env.scope x:=by first | exact Or.inl rfl | exact Or.inr (Or.inl rfl) | exact Or.inr (Or.inr rfl))(hd:(x==("__debug__" : Str))=false:=by decide)
  (hcd:(x==("__classdict__" : Str))=false:=by decide):JB X Pn M (.Name x pos) (zpa i):=wB ziI (zsC i hN hv hd hcd)
@[reducible] def dTst (fa:Ev->Mo W):Ev->Mo Bool:=fun ρ n Q=>fa ρ n fun x m=>onB x fun c=>Q c m
theorem zn:znb fa=dTst fa:=by funext ρ n Q;simp only[znb,dTst,ziZ]
@[reducible] def dAnd (t u:Ev->Mo Bool):Ev->Mo Bool:=fun ρ n Q=>t ρ n fun c m=>onC c (u ρ m Q) (Q false m)
theorem za2:zrO t u=dAnd t u:=by funext ρ n Q;simp only[zrO,dAnd,zaH]
@[reducible] def dOr (t u:Ev->Mo Bool):Ev->Mo Bool:=fun ρ n Q=>t ρ n fun c m=>onC c (Q true m) (u ρ m Q)
theorem zc3:mOr t u=dOr t u:=by funext ρ n Q;simp only[mOr,dOr,zaH]
@[reducible] def dNot (t:Ev->Mo Bool):Ev->Mo Bool:=fun ρ n Q=>t ρ n fun c m=>onC c (Q false m) (Q true m)
theorem zb7:zsT t=dNot t:=by funext ρ n Q;simp only[zsT,dNot];congr 1;funext c m;cases c <;> rfl
@[reducible] def dAndV (fa fb:Ev->Mo W):Ev->Mo W:=fun ρ n Q=>fa ρ n fun x m=>onB x fun c=>onC c (fb ρ m Q) (Q (.d (.bl false)) m)
@[reducible] def dOrV (fa fb:Ev->Mo W):Ev->Mo W:=fun ρ n Q=>fa ρ n fun x m=>onB x fun c=>onC c (Q (.d (.bl true)) m) (fb ρ m Q)
@[reducible] def zo5 (fa:Ev->Mo W):Ev->Mo W:=fun ρ n Q=>fa ρ n fun x m=>onB x fun c=>Q (.d (.bl (!c))) m
theorem zkB:zm6 fa=zo5 fa:=by funext ρ n Q;simp only[zm6,zo5,ziZ]
@[reducible] def dIf (t:Ev->Mo Bool) (fa fb:Ev->Mo W):Ev->Mo W:=fun ρ n Q=>t ρ n fun c m=>onC c (fa ρ m Q) (fb ρ m Q)
@[reducible] def dI (C:Int->Int->Prop) (g:Int->Int->Dt):W->W->Mo W:=fun x y n Q=>onI x fun i=>onI y fun j=>C i j/\Q (.d (g i j)) n
theorem zpg {C:Int->Int->Prop}{g:Int->Int->Dt}:fI C g=dI C g:=by funext x y n Q;simp only[dI,xt];exact propext ⟨by rintro⟨i,j,e1,e2,h⟩;exact⟨i,e1,j,e2,h⟩,by rintro⟨i,e1,j,e2,h⟩;exact⟨i,j,e1,e2,h⟩⟩
@[reducible] def dI0 (g:Int->Int->Dt):W->W->Mo W:=fun x y n Q=>onI x fun i=>onI y fun j=>Q (.d (g i j)) n
theorem zej {g:Int->Int->Dt}:fI0 g=dI0 g:=by funext x y n Q;simp only[dI0,xt];exact propext ⟨by rintro⟨i,j,e1,e2,h⟩;exact⟨i,e1,j,e2,h⟩,by rintro⟨i,e1,j,e2,h⟩;exact⟨i,j,e1,e2,h⟩⟩
theorem za8:F2 Pn false (rI0 fun i j=>.int (i+j)) (dI0 fun i j=>.int (i+j)):=zej ▸ ztF
theorem zot:F2 Pn false (rI0 fun i j=>.int (i - j)) (dI0 fun i j=>.int (i - j)):=zej ▸ ztQ
theorem zrm:F2 Pn false (rI zoy fun i j=>.int (i / j)) (dI zoy fun i j=>.int (i / j)):=zpg ▸ zrz
theorem zrq:F2 Pn false (rI (fun _ j=>0<j) fun i j=>.int (i % j)) (dI (fun _ j=>0<j) fun i j=>.int (i % j)):=zpg ▸ ztN
theorem zr0:F2 Pn false (rI0 fun i j=>.bl (decide (i<j))) (dI0 fun i j=>.bl (decide (i<j))):=zej ▸ v_lt
theorem u_le:F2 Pn false (rI0 fun i j=>.bl (decide (i<=j))) (dI0 fun i j=>.bl (decide (i<=j))):=zej ▸ v_le
theorem u_gt:F2 Pn false (rI0 fun i j=>.bl (decide (i > j))) (dI0 fun i j=>.bl (decide (j<i))):=zej ▸ v_gt
@[reducible] def zsk:W->Mo W:=fun x n Q=>onI x fun i=>Q (.d (.int (-i))) n
theorem ztD:F1 Pn false (rU fun i=>.int (-i)) zsk:=(show zsx=zsk by funext x n Q;simp only[zsx,zsk,xt]) ▸ ztP
@[reducible] def dEq:W->W->Mo W:=fun x y n Q=>onD x fun a=>onD y fun b=>onO (sEq a b) fun r=>Q (.d (.bl r)) n
theorem zpf:fEq=dEq:=by funext x y n Q;simp only[fEq,dEq,xR,zbf];exact propext ⟨by rintro⟨a,b,r,e1,e2,e3,h⟩;exact⟨a,e1,b,e2,r,e3,h⟩,by rintro⟨a,e1,b,e2,r,e3,h⟩;exact⟨a,b,r,e1,e2,e3,h⟩⟩
@[reducible] def dNe:W->W->Mo W:=fun x y n Q=>onD x fun a=>onD y fun b=>onO (sEq a b) fun r=>Q (.d (.bl (!r))) n
theorem zph:fNe=dNe:=by funext x y n Q;simp only[fNe,dNe,xR,zbf];exact propext ⟨by rintro⟨a,b,r,e1,e2,e3,h⟩;exact⟨a,e1,b,e2,r,e3,h⟩,by rintro⟨a,e1,b,e2,r,e3,h⟩;exact⟨a,b,r,e1,e2,e3,h⟩⟩
theorem zcL:F2 Pn false rEq dEq:=zpf ▸ v_eq
theorem zoE:F2 Pn false rNe dNe:=zph ▸ v_ne
@[reducible] def zsc:W->W->Mo W:=fun x y n Q=>onD x fun a=>onD y fun b=>a.eqOk/\b.eqOk/\∀r:Bool,(r=true↔a=b)->Q (.d (.bl r)) n
@[reducible] def zsj:W->W->Mo W:=fun x y n Q=>onD x fun a=>onD y fun b=>a.eqOk/\b.eqOk/\∀r:Bool,(r=true↔a=b)->Q (.d (.bl (!r))) n
theorem zmv:zsq=zsc:=by funext x y n Q;simp only[zsq,zsc,xR];exact propext ⟨by rintro⟨a,b,e1,e2,h⟩;exact⟨a,e1,b,e2,h⟩,by rintro⟨a,e1,b,e2,h⟩;exact⟨a,b,e1,e2,h⟩⟩
theorem zmB:zsw=zsj:=by funext x y n Q;simp only[zsw,zsj,xR];exact propext ⟨by rintro⟨a,b,e1,e2,h⟩;exact⟨a,e1,b,e2,h⟩,by rintro⟨a,e1,b,e2,h⟩;exact⟨a,b,e1,e2,h⟩⟩
theorem ztC:F2 Pn false zrT zsc:=zmv ▸ ztH
theorem zoq:F2 Pn false zrX zsj:=zmB ▸ ztO
@[reducible] def dIsB:W->W->Mo W:=fun x y n Q=>onB x fun a=>onB y fun b=>Q (.d (.bl (a==b))) n
@[reducible] def zsf:W->W->Mo W:=fun x y n Q=>onB x fun a=>onB y fun b=>Q (.d (.bl (a != b))) n
@[reducible] def zse:W->W->Mo W:=fun x y n Q=>onI x fun b=>onS y fun l=>∃ns:List Int,l=ns.map .int/\Q (.d (.bl (ns.contains b))) n
@[reducible] def zfe:W->W->Mo W:=fun x y n Q=>onI x fun b=>onS y fun l=>∃ns:List Int,l=ns.map .int/\Q (.d (.bl (!ns.contains b))) n
theorem zmx:zss=zse:=by funext x y n Q;simp only[zss,zse,xt,zgr];exact propext ⟨by rintro⟨a,b,e1,e2,h⟩;exact⟨a,e1,_,e2,b,rfl,h⟩,by rintro⟨a,e1,l,e2,b,e,h⟩;subst e;exact⟨a,b,e1,e2,h⟩⟩
theorem zgP:zfj=zfe:=by funext x y n Q;simp only[zfj,zfe,xt,zgr];exact propext ⟨by rintro⟨a,b,e1,e2,h⟩;exact⟨a,e1,_,e2,b,rfl,h⟩,by rintro⟨a,e1,l,e2,b,e,h⟩;subst e;exact⟨a,b,e1,e2,h⟩⟩
theorem zro {K:PySem.W.Frag}:F2 Pn false (rIn K false) zse:=zmx ▸ ztJ
theorem zd2 {K:PySem.W.Frag}:F2 Pn false (rIn K true) zfe:=zgP ▸ zlm
@[reducible] def xr:Bool->Bool->Bool
 | false,b=>b
 | true,b=>!b
@[reducible] def zsd (neg:Bool):W->W->Mo W:=fun x y n Q=>onD x fun d=>onS y fun ds=>d.eqOk/\(Dt.lst ds).eqOk/\∀b:Bool,(b=true↔d∈ds)->Q (.d (.bl (xr neg b))) n
theorem ztT {neg b:Bool}:(if neg then !b else b)=xr neg b:=by cases neg <;> rfl
theorem zmw {neg:Bool}:zsr neg=zsd neg:=by funext x y n Q;simp only[zsr,zsd,xR,zgr,ztT];exact propext ⟨by rintro⟨a,b,e1,e2,h⟩;exact⟨a,e1,b,e2,h⟩,by rintro⟨a,e1,b,e2,h⟩;exact⟨a,b,e1,e2,h⟩⟩
theorem zop {neg:Bool}:F2 Pn false (zrU neg) (zsd neg):=zmw ▸ ztI
@[reducible] def zsh:W->W->Mo W:=fun x y n Q=>onT x fun l=>onI y fun i=>onO (atI l i) fun d=>Q (.d d) n
@[reducible] def zsg:W->W->Mo W:=fun x y n Q=>onL x fun l=>onI y fun i=>onO (atI l i) fun d=>Q (.d d) n
theorem zmz:zsu=zsh:=by funext x y n Q;simp only[zsu,zsh,zeG,xt,zbf];exact propext ⟨by rintro⟨a,b,r,e1,e2,e3,h⟩;exact⟨a,e1,b,e2,r,e3,h⟩,by rintro⟨a,e1,b,e2,r,e3,h⟩;exact⟨a,b,r,e1,e2,e3,h⟩⟩
theorem zmy:zst=zsg:=by funext x y n Q;simp only[zst,zsg,xu,xt,zbf];exact propext ⟨by rintro⟨a,b,r,e1,e2,e3,h⟩;exact⟨a,e1,b,e2,r,e3,h⟩,by rintro⟨a,e1,b,e2,r,e3,h⟩;exact⟨a,b,r,e1,e2,e3,h⟩⟩
theorem uk {K:PySem.W.Frag}:F2 Pn false (zrW K) zsh:=zmz ▸ ztL
theorem zcM {K:PySem.W.Frag}:F2 Pn false (zrV K) zsg:=zmy ▸ ztK
@[reducible] def zkc:W->W->Mo W:=fun x y n Q=>onT x fun l=>onT y fun m=>l.length+m.length<=lim/\Q (.d (.tup (l++m))) n
@[reducible] def zmm:W->W->Mo W:=fun x y n Q=>onL x fun l=>onL y fun m=>l.length+m.length<=lim/\Q (.d (.lst (l++m))) n
theorem zkh:zfi=zkc:=by funext x y n Q;simp only[zfi,zkc,zeG];exact propext ⟨by rintro⟨a,b,e1,e2,h⟩;exact⟨a,e1,b,e2,h⟩,by rintro⟨a,e1,b,e2,h⟩;exact⟨a,b,e1,e2,h⟩⟩
theorem zkg:zmu=zmm:=by funext x y n Q;simp only[zmu,zmm,xu];exact propext ⟨by rintro⟨a,b,e1,e2,h⟩;exact⟨a,e1,b,e2,h⟩,by rintro⟨a,e1,b,e2,h⟩;exact⟨a,b,e1,e2,h⟩⟩
theorem xL {K:PySem.W.Frag}:F2 Pn false (zk2 K) zkc:=zkh ▸ zry
theorem zl4:F2 Pn true znZ zmm:=zkg ▸ zrx
@[reducible] def dRepT:W->W->Mo W:=fun x y n Q=>onT x fun l=>onI y fun j=>(1<=j/\j<=1000000/\l.length * j.toNat<=lim)/\Q (.d (.tup (List.replicate j.toNat l).flatten)) n
@[reducible] def zmo:W->W->Mo W:=fun x y n Q=>onL x fun l=>onI y fun j=>(0<=j/\j<=1000000/\l.length * j.toNat<=lim)/\Q (.d (.lst (List.replicate j.toNat l).flatten)) n
theorem zki:zmC=zmo:=by funext x y n Q;simp only[zmC,zmo,xu,xt,and_assoc];exact propext ⟨by rintro⟨a,b,e1,e2,h⟩;exact⟨a,e1,b,e2,h⟩,by rintro⟨a,e1,b,e2,h⟩;exact⟨a,b,e1,e2,h⟩⟩
theorem zl5:F2 Pn true zrY zmo:=zki ▸ zrA
@[reducible] def zsi:List W->Mo W:=fun ws n Q=>on1 ws fun x=>onO (lenD x) fun k=>Q (.d (.int (k:Int))) n
theorem zmA:zsv=zsi:=by funext ws n Q;simp only[zsv,zsi,zab,zbf];exact propext ⟨by rintro⟨x,k,e,e2,h⟩;exact⟨x,e,k,e2,h⟩,by rintro⟨x,e,k,e2,h⟩;exact⟨x,k,e,e2,h⟩⟩
theorem ux {K:PySem.W.Frag}:FL Pn false (fun xs H Q=>∃x n,xs=[x]/\zoL K x H n/\Q (.int n) H) zsi:=zmA ▸ ztM
@[reducible] def dAbs:List W->Mo W:=fun ws n Q=>on1 ws fun x=>onI x fun i=>Q (.d (.int (if i<0 then -i else i))) n
@[reducible] def dMin:List W->Mo W:=fun ws n Q=>on2 ws fun x y=>onI x fun i=>onI y fun j=>Q (.d (.int (if j<i then j else i))) n
@[reducible] def dMax:List W->Mo W:=fun ws n Q=>on2 ws fun x y=>onI x fun i=>onI y fun j=>Q (.d (.int (if j > i then j else i))) n
@[reducible] def zsb:List W->Mo W:=fun ws n Q=>on1 ws fun x=>onL x fun l=>∃bs:List Bool,l=bs.map .bl/\Q (.d (.bl (bs.all id))) n
theorem zmt:zsp=zsb:=by funext ws n Q;simp only[zsp,zsb,zab,xu];exact propext ⟨by rintro⟨x,e,h⟩;exact⟨_,e,_,rfl,x,rfl,h⟩,by rintro⟨x,e,k,e2,l,e3,h⟩;subst e3 e2;exact⟨l,e,h⟩⟩
theorem zrl:FL Pn false (fun xs H Q=>∃ (p:Addr) (bs:List Bool),xs=[.ref p]/\H p=some (.lst (bs.map V.bl))/\Q (.bl (bs.all id)) H) zsb:=zmt ▸ ztG
@[reducible] def dList:List W->Mo W:=fun ws n Q=>on1 ws fun x=>onS x fun l=>Q (.d (.lst l)) n
@[reducible] def zlw:List W->Mo W:=fun ws n Q=>on1 ws fun x=>onS x fun l=>Q (.d (.tup l)) n
theorem ztx {ws:List W}{P:List Dt->Prop}:(∃l,(ws=[.d (.lst l)]\/ws=[.d (.tup l)])/\P l)=on1 ws fun x=>onS x P:=by simp only[zab,zgr];exact propext ⟨by rintro⟨l,e,h⟩;exact e.elim (fun e=>⟨_,e,l,.inl rfl,h⟩) fun e=>⟨_,e,l,.inr rfl,h⟩,by rintro⟨x,e,l,e2,h⟩;exact⟨l,by rcases e2 with e2 | e2 <;> subst e2 <;> simp[e],h⟩⟩
theorem zcx {K:PySem.W.Frag}:FL Pn false (zfM K) zlw:=(show zlA=zlw by funext ws n Q;exact ztx) ▸ zow
@[reducible] def dDictT:List W->Mo W:=fun ws n Q=>on1 ws fun x=>onT x fun l=>∃ps:List (Int×Dt),l=ps.map prD/\(ps.map (·.1)).Nodup/\ps.length<=1000/\Q (.dk (ps.map kvD)) n
@[reducible] def dInt1:List W->Mo W:=fun ws n Q=>on1 ws fun x=>match x with
 | .d (.int i)=>Q (.d (.int i)) n
 | .d (.bl b)=>Q (.d (.int (if b then 1 else 0))) n
 | _=>False
@[reducible] def zhC:List W->Mo W:=fun ws n Q=>on1 ws fun x=>onL x fun l=>∃ns:List Int,l=ns.map .int/\ns.length<64/\∀ns':List Int,ns'.Perm ns->ns'.Pairwise (·<=·)->Q (.d (.lst (ns'.map .int))) n
theorem zhS:zhR=zhC:=by funext ws n Q;simp only[zhR,zhC,zab,xu];exact propext ⟨by rintro⟨x,e,h⟩;exact⟨_,e,_,rfl,x,rfl,h⟩,by rintro⟨x,e,k,e2,l,e3,h⟩;subst e3 e2;exact⟨l,e,h⟩⟩
theorem zor:FL Pn true zjm zhC:=zhS ▸ zou
@[reducible] def zhD:List W->Mo W:=fun ws n Q=>on1 ws fun x=>onL x fun l=>∃ (sts:List (List Int)) (m:Nat),l=sts.map stD/\sts.length<64/\1<=m/\(∀st∈sts,st.length=m)/\sts.Nodup/\∀sts':List (List Int),sts'.Perm sts->(sts'.Pairwise fun a b=>HT.lexLt a b=true)->Q (.d (zbp sts')) n
theorem zhU:zhT=zhD:=by funext ws n Q;simp only[zhT,zhD,zab,xu];exact propext ⟨by rintro⟨x,m,e,h⟩;exact⟨_,e,_,rfl,x,m,rfl,h⟩,by rintro⟨x,e,k,e2,l,m,e3,h⟩;subst e3 e2;exact⟨l,m,e,h⟩⟩
theorem zos:FL Pn true zn2 zhD:=zhU ▸ zov
@[reducible] def dListD:List W->Mo W:=fun ws n Q=>on1 ws fun x=>onE x fun kvs=>((kvs.map (·.1)).Nodup->Q (.d (.lst ((kvs.map (·.1)).map stD))) n)
end
open PySem PySem.Spec L2
section
variable {fa fb fc f fk fd fv:Ev->Mo W}{t u:Ev->Mo Bool}{fs gs:Ev->Mo (List W)}
@[reducible] def zo6 (fa:Ev->Mo W):Ev->Mo (Option Int):=fun ρ n Q=>fa ρ n fun x m=>onI x fun i=>Q (some i) m
theorem zH:zm7 fa=zo6 fa:=by funext ρ n Q;simp only[zm7,zo6,xt]
@[reducible] def dSlT (fa:Ev->Mo W) (fl fh:Ev->Mo (Option Int)):Ev->Mo W:=fun ρ n Q=>fa ρ n fun x n1=>fl ρ n1 fun lo n2=>fh ρ n2 fun hi n3=>onT x fun l=>Q (.d (.tup (xV l lo hi))) n3
theorem xp {fl fh:Ev->Mo (Option Int)}:zsW fa fl fh=dSlT fa fl fh:=by funext ρ n Q;simp only[zsW,dSlT,zeG]
@[reducible] def dSlL (fa:Ev->Mo W) (fl fh:Ev->Mo (Option Int)):Ev->Mo W:=fun ρ n Q=>fa ρ n fun x n1=>fl ρ n1 fun lo n2=>fh ρ n2 fun hi n3=>onL x fun l=>Q (.d (.lst (xV l lo hi))) n3
theorem xI {fl fh:Ev->Mo (Option Int)}:zsV fa fl fh=dSlL fa fl fh:=by funext ρ n Q;simp only[zsV,dSlL,xu]
@[reducible] def dRevT (fa:Ev->Mo W):Ev->Mo W:=fun ρ n Q=>fa ρ n fun x m=>onT x fun l=>Q (.d (.tup l.reverse)) m
@[reducible] def zo8 (fa:Ev->Mo W):Ev->Mo W:=fun ρ n Q=>fa ρ n fun x m=>onL x fun l=>Q (.d (.lst l.reverse)) m
theorem zkC:zna fa=zo8 fa:=by funext ρ n Q;simp only[zna,zo8,xu]
@[reducible] def zoZ (fd fk:Ev->Mo W):Ev->Mo W:=fun ρ n Q=>fd ρ n fun x n1=>fk ρ n1 fun y n2=>onK x fun kvs=>onO (zpv y) fun k=>onO (xN kvs k) fun d=>Q (.d d) n2
theorem zbC:zm0 fd fk=zoZ fd fk:=by funext ρ n Q;simp only[zm0,zoZ,zi0,zbf];congr 1;funext x n1;congr 1;funext y n2;exact propext ⟨by rintro⟨a,b,r,e1,e2,e3,h⟩;exact⟨a,e1,b,e2,r,e3,h⟩,by rintro⟨a,e1,b,e2,r,e3,h⟩;exact⟨a,b,r,e1,e2,e3,h⟩⟩
@[reducible] def dDIn (neg:Bool) (fk fd:Ev->Mo W):Ev->Mo W:=fun ρ n Q=>fk ρ n fun y n1=>fd ρ n1 fun x n2=>onK x fun kvs=>onO (zpv y) fun k=>Q (.d (.bl (xr neg (xN kvs k).isSome))) n2
@[reducible] def dFn (k:Nat) (F:List W->Mo W) (fs:Ev->Mo (List W)):Ev->Mo W:=fun ρ n Q=>fs ρ n fun ws m=>zdI k ws (F ws m Q)
theorem zo {k:Nat}{F:List W->Mo W}:mFn k F fs=dFn k F fs:=by funext ρ n Q;simp only[mFn,dFn,zdJ]
@[reducible] def dFnB (k:Nat) (fr:Bool) (F:List W->Mo W) (fs:Ev->Mo (List W)):Ev->Mo W:=fun ρ n Q=>fs ρ n fun ws m=>zdI k ws (F ws m fun w m'=>W.flat fr w=true/\Q w m')
@[reducible] def eN (i:Nat):W->Ev->(Ev->Prop)->Prop:=fun w ρ Q=>onP ρ i w Q
theorem zv {i:Nat}:gN i=eN i:=by funext w ρ Q;exact uJ.symm
@[reducible] def eNl:List Dt->Ev->(Ev->Prop)->Prop:=fun ds ρ Q=>match ds with | []=>Q ρ | _=>False
theorem y9:gNl=eNl:=by
 funext ds ρ Q
 cases ds with
 | nil=>simp[gNl,eNl]
 | cons _ _=>simp[gNl,eNl]
@[reducible] def eCn (g:W->Ev->(Ev->Prop)->Prop) (u:List Dt->Ev->(Ev->Prop)->Prop):List Dt->Ev->(Ev->Prop)->Prop:=fun ds ρ Q=>match ds with | d::r=>g (.d d) ρ fun ρ'=>u r ρ' Q | []=>False
theorem zB {g:W->Ev->(Ev->Prop)->Prop}{u:List Dt->Ev->(Ev->Prop)->Prop}:gCn g u=eCn g u:=by
 funext ds ρ Q
 cases ds with
 | nil=>simp[gCn,eCn]
 | cons d r=>exact propext ⟨by rintro⟨d',r',e,h⟩;cases e;exact h,fun h=>⟨d,r,rfl,h⟩⟩
@[reducible] def eTp (n:Nat) (u:List Dt->Ev->(Ev->Prop)->Prop):W->Ev->(Ev->Prop)->Prop:=fun w ρ Q=>onT w fun ds=>zdI n ds (u ds ρ Q)
theorem xa {n:Nat}{u:List Dt->Ev->(Ev->Prop)->Prop}:gTp n u=eTp n u:=by funext w ρ Q;simp only[gTp,eTp,zeG,zdJ]
@[reducible] def dItL (fa:Ev->Mo W):Ev->Mo (List W):=fun ρ n Q=>fa ρ n fun x m=>onL x fun l=>Q (l.map W.d) m
@[reducible] def dItT (fa:Ev->Mo W):Ev->Mo (List W):=fun ρ n Q=>fa ρ n fun x m=>onT x fun l=>Q (l.map W.d) m
theorem yr:zsO fa=dItL fa:=by funext ρ n Q;simp only[zsO,dItL,xu]
theorem za3:zsQ fa=dItT fa:=by funext ρ n Q;simp only[zsQ,dItT,zeG]
@[reducible] def dItR (fs:Ev->Mo (List W)):Ev->Mo (List W):=fun ρ n Q=>fs ρ n fun ws m=>on1 ws fun x=>onI x fun j=>(j<=1000000/\-1000000<=j)/\Q (zg4 0 j.toNat) m
theorem yt:zsP fs=dItR fs:=by funext ρ n Q;simp only[zsP,dItR,zab,xt];congr 1;funext ws m;exact propext ⟨by rintro⟨j,e,h1,h2,h⟩;exact⟨_,e,j,rfl,⟨h1,h2⟩,h⟩,by rintro⟨x,e,j,e2,⟨h1,h2⟩,h⟩;subst e2;exact⟨j,e,h1,h2,h⟩⟩
@[reducible] def dItR2 (fs:Ev->Mo (List W)):Ev->Mo (List W):=fun ρ n Q=>fs ρ n fun ws m=>on2 ws fun x y=>onI x fun i=>onI y fun j=>(j<=1000000/\-1000000<=j/\i<=1000000/\-1000000<=i)/\Q (zg4 i (j - i).toNat) m
@[reducible] def dItE (fs:Ev->Mo (List W)):Ev->Mo (List W):=fun ρ n Q=>fs ρ n fun ws m=>on1 ws fun x=>onT x fun l=>Q (enW 0 l) m
@[reducible] def zo1 (fs:Ev->Mo (List W)):Ev->Mo (List W):=fun ρ n Q=>fs ρ n fun ws m=>on1 ws fun x=>onL x fun l=>Q (enW 0 l) m
theorem zdy:zm2 fs=zo1 fs:=by funext ρ n Q;simp only[zm2,zo1,zab,xu];congr 1;funext ws m;exact propext ⟨by rintro⟨l,e,h⟩;exact⟨_,e,l,rfl,h⟩,by rintro⟨x,e,l,e2,h⟩;subst e2;exact⟨l,e,h⟩⟩
@[reducible] def dItZ (fs:Ev->Mo (List W)):Ev->Mo (List W):=fun ρ n Q=>fs ρ n fun ws m=>on2 ws fun x y=>onT x fun l=>onT y fun k=>l.length=k.length/\Q (ziW l k) m
@[reducible] def dItZM (fs:Ev->Mo (List W)):Ev->Mo (List W):=fun ρ n Q=>fs ρ n fun ws m=>on2 ws fun x y=>onL x fun l=>onT y fun k=>l.length=k.length/\Q (ziW l k) m
@[reducible] def zo2 (fs:Ev->Mo (List W)):Ev->Mo (List W):=fun ρ n Q=>fs ρ n fun ws m=>on2 ws fun x y=>onL x fun l=>onL y fun k=>Q (ziW l k) m
theorem zdz:zm3 fs=zo2 fs:=by funext ρ n Q;simp only[zm3,zo2,zpQ,xu];congr 1;funext ws m;exact propext ⟨by rintro⟨i,j,e,h⟩;exact⟨_,_,e,i,rfl,j,rfl,h⟩,by rintro⟨x,y,e,i,e1,j,e2,h⟩;subst e1 e2;exact⟨i,j,e,h⟩⟩
@[reducible] def dIfS (t:Ev->Mo Bool) (f g:Ms):Ms:=fun ρ n k=>t ρ n fun c m=>onC c (blk f ρ m k) (blk g ρ m k)
theorem zG {f g:Ms}:zsM t f g=dIfS t f g:=by funext ρ n k;simp only[zsM,dIfS,zaH]
@[reducible] def zsl (i:Nat):Ms:=fun ρ n k=>onV ρ i fun w=>k.rt w n
theorem zaD {i:Nat}:zm9 i=zsl i:=by funext ρ n k;exact zbg.symm
@[reducible] def dSet (i:Nat) (f:Ev->Mo W):Ms:=fun ρ n k=>f ρ n fun w m=>onP ρ i w fun ρ'=>k.nx ρ' m
theorem zk {i:Nat}:zmX f (gN i)=dSet i f:=by show zmX f (gN i)=zmX f (eN i);rw[zv]
@[reducible] def dOwn (i:Nat) (f:Ev->Mo W):Ms:=fun ρ n k=>f ρ n fun w m=>onC (W.mut w) (onP ρ i w fun ρ'=>k.nx ρ' m) False
theorem yM {i:Nat}:zpH i f=dOwn i f:=by funext ρ n k;simp only[zpH,dOwn,uJ (Q:=fun ρ'=>k.nx ρ' _)];congr 1;funext w m;cases h:W.mut w <;> simp
@[reducible] def dApp (i:Nat) (f:Ev->Mo W):Ms:=fun ρ n k=>onV ρ i fun v=>onL v fun l=>f ρ n fun w m=>onD w fun d=>l.length<lim/\onP ρ i (.d (.lst (l++[d]))) fun ρ'=>k.nx ρ' m
theorem zb6 {ρ:Ev}{i:Nat}{P:List Dt->Prop}:(onV ρ i fun v=>onL v P) = ∃l,ρ[i]?=some (some (.d (.lst l)))/\P l:=by simp only[zbg,xu];exact propext ⟨by rintro⟨w,e,l,e2,h⟩;exact⟨l,by rw[e,e2],h⟩,by rintro⟨l,e,h⟩;exact⟨_,e,l,rfl,h⟩⟩
theorem zpd {ρ:Ev}{i:Nat}{P:List (List Int×Dt)->Prop}:(onV ρ i fun v=>onE v P) = ∃l,ρ[i]?=some (some (.dt l))/\P l:=by simp only[zbg,zlK];exact propext ⟨by rintro⟨w,e,l,e2,h⟩;exact⟨l,by rw[e,e2],h⟩,by rintro⟨l,e,h⟩;exact⟨_,e,l,rfl,h⟩⟩
theorem uG {i:Nat}:zrP i f=dApp i f:=by
 funext ρ n k;simp only[zrP,dApp,zb6,xR,uJ (Q:=fun ρ'=>k.nx ρ' _)];refine propext ⟨fun⟨⟨l,e⟩,h⟩=>⟨l,e,?_⟩,fun⟨l,e,h⟩=>⟨⟨l,e⟩,?_⟩⟩
 all_goals
  refine (congrArg (f ρ n) ?_).mp h;funext w m;refine propext ?_;simp[e]
@[reducible] def dExt (i:Nat) (f:Ev->Mo W):Ms:=fun ρ n k=>onV ρ i fun v=>onL v fun l=>f ρ n fun w m=>onL w fun l2=>l.length+l2.length<=lim/\onP ρ i (.d (.lst (l++l2))) fun ρ'=>k.nx ρ' m
theorem zfB {i:Nat}:zsL i f=dExt i f:=by
 funext ρ n k;simp only[zsL,dExt,zb6];simp only[xu,uJ (Q:=fun ρ'=>k.nx ρ' _)];refine propext ⟨fun⟨⟨l,e⟩,h⟩=>⟨l,e,?_⟩,fun⟨l,e,h⟩=>⟨⟨l,e⟩,?_⟩⟩
 all_goals
  refine (congrArg (f ρ n) ?_).mp h;funext w m;refine propext ?_;simp[e]
@[reducible] def dIns (i:Nat) (fk f:Ev->Mo W):Ms:=fun ρ n k=>onV ρ i fun v=>onL v fun l=>fk ρ n fun y m=>f ρ m fun w m2=>onD w fun d=>onI y fun j=>(0<=j/\j<=l.length/\l.length<lim)/\onP ρ i (.d (.lst (zlD l j.toNat d))) fun ρ'=>k.nx ρ' m2
theorem zm1 {i:Nat}:zsN i fk f=dIns i fk f:=by
 funext ρ n k;simp only[zsN,dIns,zb6,xR,xt,uJ (Q:=fun ρ'=>k.nx ρ' _)];refine propext ⟨fun⟨⟨l,e⟩,h⟩=>⟨l,e,?_⟩,fun⟨l,e,h⟩=>⟨⟨l,e⟩,?_⟩⟩
 all_goals
  refine (congrArg (fk ρ n) ?_).mp h;funext y m;refine congrArg (f ρ m) ?_;funext w m2;refine propext ?_;simp[e,and_assoc]
@[reducible] def zo7 (i:Nat) (fk:Ev->Mo W):Ms:=fun ρ n k=>onV ρ i fun v=>onL v fun l=>fk ρ n fun y m=>onI y fun j=>(0<=j/\j<l.length/\l.length<=lim)/\onP ρ i (.d (.lst (l.eraseIdx j.toNat))) fun ρ'=>k.nx ρ' m
theorem zgl {i:Nat}:zm8 i fk=zo7 i fk:=by
 funext ρ n k;simp only[zm8,zo7,zb6,xt,uJ (Q:=fun ρ'=>k.nx ρ' _)];refine propext ⟨fun⟨⟨l,e⟩,h⟩=>⟨l,e,?_⟩,fun⟨l,e,h⟩=>⟨⟨l,e⟩,?_⟩⟩
 all_goals
  refine (congrArg (fk ρ n) ?_).mp h;funext y m;refine propext ?_;simp[e,and_assoc]
@[reducible] def zrL (i:Nat):Ms:=fun ρ n k=>onV ρ i fun v=>onL v fun l=>onP ρ i (.d (.lst l.reverse)) fun ρ'=>k.nx ρ' n
@[reducible] def dPut (i:Nat) (fk f:Ev->Mo W):Ms:=fun ρ n k=>onV ρ i fun v=>onL v fun l=>f ρ n fun w m=>fk ρ m fun y m2=>onD w fun d=>onI y fun j=>(0<=j/\j<l.length)/\onP ρ i (.d (.lst (l.set j.toNat d))) fun ρ'=>k.nx ρ' m2
theorem ziF {i:Nat}:zsU i fk f=dPut i fk f:=by
 funext ρ n k;simp only[zsU,dPut,zb6,xR,xt,uJ (Q:=fun ρ'=>k.nx ρ' _)];refine propext ⟨fun⟨⟨l,e⟩,h⟩=>⟨l,e,?_⟩,fun⟨l,e,h⟩=>⟨⟨l,e⟩,?_⟩⟩
 all_goals
  refine (congrArg (f ρ n) ?_).mp h;funext y m;refine congrArg (fk ρ m) ?_;funext w m2;refine propext ?_;simp[e,and_assoc]
@[reducible] def onSt (w:W) (P:List Int->Prop):Prop:=∃st,w = .d (stD st)/\P st
@[reducible] def zlt (fd fk:Ev->Mo W):Ev->Mo W:=fun ρ n Q=>fd ρ n fun x n1=>fk ρ n1 fun y n2=>onE x fun kvs=>∃st,y = .d (stD st)/\onO (xN kvs st) fun d=>Q (.d d) n2
theorem zeA:ziC fd fk=zlt fd fk:=by funext ρ n Q;simp only[ziC,zlt,zlK,zbf];congr 1;funext x n1;congr 1;funext y n2;exact propext ⟨by rintro⟨a,b,r,e1,e2,e3,h⟩;exact⟨a,e1,b,e2,r,e3,h⟩,by rintro⟨a,e1,b,e2,r,e3,h⟩;exact⟨a,b,r,e1,e2,e3,h⟩⟩
@[reducible] def zlu (i:Nat) (fk f:Ev->Mo W):Ms:=fun ρ n k=>onV ρ i fun v=>onE v fun kvs=>f ρ n fun w m=>fk ρ m fun y m2=>onD w fun d=>∃st,y = .d (stD st)/\kvs.length<lim/\onP ρ i (.dt (zgu kvs st d)) fun ρ'=>k.nx ρ' m2
theorem ziE {i:Nat}:ziD i fk f=zlu i fk f:=by
 funext ρ n k;simp only[ziD,zlu,zpd,xR,uJ (Q:=fun ρ'=>k.nx ρ' _)];refine propext ⟨fun⟨⟨l,e⟩,h⟩=>⟨l,e,?_⟩,fun⟨l,e,h⟩=>⟨⟨l,e⟩,?_⟩⟩
 all_goals
  refine (congrArg (f ρ n) ?_).mp h;funext y m;refine congrArg (fk ρ m) ?_;funext w m2;refine propext ?_;constructor
 ·rintro⟨kvs,st,d,e1,e2,e3,h1,h2⟩;rw[e] at e1;cases e1;exact⟨d,e2,st,e3,h1,h2⟩
 ·rintro⟨d,e2,st,e3,h1,h2⟩;exact⟨l,st,d,e,e2,e3,h1,h2⟩
 ·rintro⟨d,e2,st,e3,h1,h2⟩;exact⟨l,st,d,e,e2,e3,h1,h2⟩
 ·rintro⟨kvs,st,d,e1,e2,e3,h1,h2⟩;rw[e] at e1;cases e1;exact⟨d,e2,st,e3,h1,h2⟩
@[reducible] def zo4 (i j:Nat):Ms:=fun ρ n k=>onV ρ j fun w=>onN ρ j fun ρ1=>onP ρ1 i w fun ρ'=>k.nx ρ' n
theorem zdB {i j:Nat}:zm4 i j=zo4 i j:=by funext ρ n k;simp only[zm4,zo4,zbg,uJ (Q:=fun ρ'=>k.nx ρ' _),zlL (Q:=fun ρ1=>k.nx (ρ1.set i (some _)) n)]
@[reducible] def dPar (i j:Nat) (fs:Ev->Mo (List W)):Ms:=fun ρ n k=>fs ρ n fun ws m=>on2 ws fun w u=>onP ρ i w fun ρ1=>onP ρ1 j u fun ρ'=>k.nx ρ' m
@[reducible] def dIsi (B:Dt->Bool) (f:Ev->Mo W):Ev->Mo W:=fun ρ n Q=>f ρ n fun w m=>onD w fun d=>Q (.d (.bl (B d))) m
theorem zdx {B:Dt->Bool}:zoC B f=dIsi B f:=by funext ρ n Q;simp only[zoC,dIsi,xR]
@[reducible] def zf6 (fs:Ev->Mo (List W)):Ev->Mo W:=fun ρ n Q=>fs ρ n fun ws m=>on1 ws fun x=>onI x fun j=>(0<=j/\j<=1000)/\Q (.d (.lst (zgx j.toNat))) m
@[reducible] def zo9 (fs:Ev->Mo (List W)):Ev->Mo W:=fun ρ n Q=>fs ρ n fun ws m=>on1 ws fun x=>onI x fun j=>(0<=j/\j<=1000)/\Q (.d (.tup (zgx j.toNat))) m
theorem zqV {ws:List W}{P:Nat->Prop}:(∃j:Nat,ws=[.d (.int (j:Int))]/\j<=1000/\P j)=on1 ws fun x=>onI x fun j=>(0<=j/\j<=1000)/\P j.toNat:=by simp only[zab,xt];exact propext ⟨by rintro⟨j,e,h1,h⟩;exact⟨_,e,_,rfl,⟨by lia,by lia⟩,by simpa using h⟩,by rintro⟨x,e,j,e2,⟨h1,h2⟩,h⟩;exact⟨j.toNat,by subst e2;rw[e];simp;lia,by lia,h⟩⟩
theorem ut:zdA fs=zf6 fs:=by funext ρ n Q;simp only[zdA,zf6];congr 1;funext ws m;exact zqV (P:=fun j=>Q (.d (.lst (zgx j))) m)
@[reducible] def dTru (f:Ev->Mo W):Ev->Mo Bool:=fun ρ n Q=>f ρ n fun w m=>onO (truD w) fun b=>Q b m
theorem ziH:zsX f=dTru f:=by funext ρ n Q;simp only[zsX,dTru,zbf]
@[reducible] def dChain (F G:W->W->Mo W) (fa fb fc:Ev->Mo W):Ev->Mo W:=fun ρ n Q=>fa ρ n fun x n1=>fb ρ n1 fun y n2=>F x y n2 fun z n3=>onB z fun k=>onC k (fc ρ n3 fun u n4=>G y u n4 Q) (Q (.d (.bl false)) n3)
theorem zf3 {α:Type}{l:List W}{ρ0:Ev}{n:Nat}{mg:W->Ev->(Ev->Prop)->Prop}{ft:Ev->Mo Bool}{fe:Ev->Mo W}{Q:W->Nat->Prop}(xs:List α)(toW:α->W)(hl:l=xs.map toW)(hlim:xs.length<=lim)(I:Nat->Ev->Nat->List Dt->Prop)(h0:I 0 ρ0 n [])
  (h:∀i a ρ' n' acc,xs[i]?=some a->I i ρ' n' acc->∀C:Ev->Nat->List Dt->Prop,(∀ {ρ m l},I (i+1) ρ m l->C ρ m l)->mg (toW a) ρ' fun ρ1=>ft ρ1 n' fun b n2=>onC b (fe ρ1 n2 fun x n3=>onD x fun d=>C ρ1 n3 (acc++[d])) (C ρ1 n2 acc))
  (fin:∀ ρ' n' acc,I xs.length ρ' n' acc->Q (.d (.lst acc)) n'):zee mg ft fe ρ0 Q l n:=by
 refine zj5 xs toW hl hlim I h0 (fun i a ρ' n' acc ha hI C hC=>?_) fin;have:=h i a ρ' n' acc ha hI C hC;simp only[zaH,xR] at this;exact this
theorem zae {α:Type}{l:List W}{ρ0:Ev}{n:Nat}{mg:W->Ev->(Ev->Prop)->Prop}{ft:Ev->Mo Bool}{fe:Ev->Mo W}{Q:W->Nat->Prop}(xs:List α)(toW:α->W)(hl:l=xs.map toW)(J:Ev->Prop)(P:α->Bool)(E:α->Dt)(hlim:xs.length<=lim)(j0:J ρ0)
  (h:∀a∈xs,∀ ρ',J ρ'->∀C:Ev->Nat->Option Dt->Prop,(∀ {ρ1},P a=true->J ρ1->C ρ1 n (some (E a)))->(∀ {ρ1},P a=false->J ρ1->C ρ1 n none)->mg (toW a) ρ' fun ρ1=>ft ρ1 n fun b n2=>onC b (fe ρ1 n2 fun x n3=>onD x fun d=>C ρ1 n3 (some d)) (C ρ1 n2 none))
  (fin:Q (.d (.lst ((xs.filter P).map E))) n):zee mg ft fe ρ0 Q l n:=by
 refine zht xs toW hl J P E hlim j0 (fun a ha ρ' hj C hC=>?_) fin;have:=h a ha ρ' hj C (fun {ρ1} e z=>by have:=hC ρ1 z;rwa[if_pos e] at this) fun {ρ1} e z=>by have:=hC ρ1 z;rwa[if_neg (by rw[e];decide)] at this
 simp only[zaH,xR] at this;exact this
theorem uC {α:Type}{l:List W}{ρ0:Ev}{n:Nat}{mg:W->Ev->(Ev->Prop)->Prop}{fe:Ev->Mo W}{Q:W->Nat->Prop}(xs:List α)(toW:α->W)(hl:l=xs.map toW)(J:Ev->Prop)(E:α->Dt)(hlim:xs.length<=lim)(j0:J ρ0)
  (h:∀a∈xs,∀ ρ',J ρ'->∀C:Ev->Nat->Dt->Prop,(∀ {ρ1},J ρ1->C ρ1 n (E a))->mg (toW a) ρ' fun ρ1=>fe ρ1 n fun x n3=>onD x fun d=>C ρ1 n3 d)
  (fin:Q (.d (.lst (xs.map E))) n):zee mg zrQ fe ρ0 Q l n:=by
 refine zj6 xs toW hl J E hlim j0 (fun a ha ρ' hj C hC=>?_) fin;have:=h a ha ρ' hj C fun {ρ1} z=>hC ρ1 z;simp only[xR] at this;exact this
theorem zjO {t:Ev->Mo Bool}{fb:Ms}{ρ:Ev}{n:Nat}{k:Kt}(I:Nat->Ev->Nat->Prop)(m0:Nat)(h0:I m0 ρ n)
  (h:∀m ρ' n',I m ρ' n'->∀ (C B:Ev->Nat->Prop) (E:W->Nat->Prop),(∀ {ρ n} (m':Nat),m'<m->I m' ρ n->C ρ n)->(∀ {ρ n},k.nx ρ n->B ρ n)->(∀ {w n},k.rt w n->E w n)->t ρ' n' fun b n2=>onC b (blk fb ρ' n2 { rt:=E,nx:=C,ct:=C,bk:=B }) (B ρ' n2)):ziJ t fb ρ n k:=by
 refine zjP I m0 h0 fun m ρ' n' hI=>?_;have:=h m ρ' n' hI (fun ρ2 n3=>∃m',m'<m/\I m' ρ2 n3) k.nx k.rt (fun m' a b=>⟨m',a,b⟩) (fun z=>z) fun z=>z;simp only[zaH,zoT] at this;exact this
end
open PySem PySem.Spec L2
@[reducible] def rep:Nat->(Ev->Prop)->Prop
 | 0,Q=>Q []
 | k+1,Q=>rep k fun ρ=>Q (none::ρ)
@[reducible] def beg:List W->Nat->(Ev->Prop)->Prop
 | [],r,Q=>rep r Q
 | w::ws,r,Q=>beg ws r fun ρ=>Q (some w::ρ)
theorem zjr:∀ {r:Nat} {Q:Ev->Prop},rep r Q=Q (List.replicate r none)
 | 0,Q=>rfl
 | r+1,Q=>by rw[rep,zjr];rfl
theorem zhk:∀ {ws:List W} {r:Nat} {Q:Ev->Prop},beg ws r Q=Q (ws.map some++List.replicate r none)
 | [],r,Q=>by rw[beg,zjr];rfl
 | w::ws,r,Q=>by rw[beg,zhk];rfl
theorem zpO {P:Program}{w:World}{K:PySem.W.Frag}{mg:Str->Option Value}{base:Heap}{qual:Str}{st:Stmt}{f:Addr}{fd:FuncData}{N ps:List Str}{k m:Nat}{fr:Bool}{F:Option zq->List W->Mo W}(M:List Nat)(r:Nat)(okq:(∀vs H Q E,spV m fr F vs H Q E->vs.length=ps.length)->(∀ (cdv:Value) (A:Around) (outer:List Env) (s:Shared) (H:Hp) (vs:List V) (Q:VK) (E:XK),Room k (A.deeper (PyProof.Rows.envOfC qual (zf st) s.heap.objs.size f cdv))->spV m fr F vs H Q E->
   ∃t,QSs (zdl CX0 P w K mg base N qual (zf st) f cdv A outer s H E).nox (yj st) t/\t { nx:=fun _ H'=>Q .non H',rt:=Q } (L2.xf N vs) H)->FnOk P w K mg base CX0 (k+1) f fd ps (spV m fr F)) (hm:m=ps.length) (hM:∀i∈M,m<=i) (hN:N.length=m+r)
  (hbody:∀ (cdv:Value) (A:Around) (outer:List Env) (s:Shared) (H:Hp) (E:XK) (Pn:Option zq),Room k (A.deeper (PyProof.Rows.envOfC qual (zf st) s.heap.objs.size f cdv))->
   ∃fs,JSs (zdl CX0 P w K mg base N qual (zf st) f cdv A outer s H E).nox Pn [] M fr (yj st) fs/\∀ws n R,F Pn ws n R->beg ws r fun ρ=>fs ρ n { nx:=fun _ n'=>onC fr False (R (.d .non) n'),rt:=R }):FnOk P w K mg base CX0 (k+1) f fd ps (spV m fr F):=by
 refine zpN M okq hm hM fun cdv A outer s H E Pn hr=>?_;obtain⟨fs,h1,h2⟩:=hbody cdv A outer s H E Pn hr;refine⟨fs,h1,fun ws n R hl hF=>?_⟩;have:=h2 ws n R hF;rw[zhk] at this;have e:xn N ws=ws.map some++List.replicate r none:=by unfold xn;rw[hN,hl,Nat.add_sub_cancel_left]
 rw[e]
 have e2:(fun (_:Ev) (n':Nat)=>onC fr False (R (.d .non) n'))=fun _ n'=>fr=false/\R (.d .non) n':=by funext _ n';cases fr <;> simp
 rw[<- e2];exact this
theorem Fun.okW {P:Program}{w:World}{K:PySem.W.Frag}{mg:Str->Option Value}{base:Heap}{x qual:Str}{st:Stmt}{f:Addr}{fd:FuncData}{N ps:List Str}{k m:Nat}{fr:Bool}{F:Option zq->List W->Mo W}(M:List Nat)(r:Nat)(Fu:Fun K x qual st f fd)(S:FnScope N ps (zf st))(hm:m=ps.length)(hM:∀i∈M,m<=i)(hN:N.length=m+r)
  (hbody:∀ (cdv:Value) (A:Around) (outer:List Env) (s:Shared) (H:Hp) (E:XK) (Pn:Option zq),Room k (A.deeper (PyProof.Rows.envOfC qual (zf st) s.heap.objs.size f cdv))->
   ∃fs,JSs (zdl CX0 P w K mg base N qual (zf st) f cdv A outer s H E).nox Pn [] M fr (yj st) fs/\∀ws n R,F Pn ws n R->beg ws r fun ρ=>fs ρ n { nx:=fun _ n'=>onC fr False (R (.d .non) n'),rt:=R }):FnOk P w K mg base CX0 (k+1) f fd ps (spV m fr F):=zpO M r (fun l b=>Fun.okQ Fu S l b) hm hM hN hbody
@[reducible] def dItS (i:Nat):Ev->Mo (List W):=fun ρ n Q=>onV ρ i fun x=>onS x fun l=>Q (l.map W.d) n
theorem zqS {fs:Ms}{a b:Option W}{r n:Nat}{k:Kt}(h:rep r fun ρ=>fs (a::b::ρ) n k):fs (a::b::List.replicate r none) n k:=by rw[zjr] at h;exact h
theorem zsZ {G:Prop}(P:W->Prop)(h:(∀a,P a)->G)(r:∀a,P a):G:=h r
theorem len1 {st:List Int}{x:Dt}(h:st.length<=1000):(st.map Dt.int).length+[x].length<=lim:=by rw[aa];exact ax (by simp;lia:_<=1001) (by decide)
theorem cat1 {st:List Int}{x:Int}:st.map Dt.int++[Dt.int x]=(st++[x]).map Dt.int:=by rw[aB];rfl
theorem onX {rows:List (List Int)}{i:Int}{P:Dt->Prop}(h0:0<=i)(h1:i<rows.length)(h:P (stD (rows.getD i.toNat []))):onO (atI (rows.map stD) i) P:=by obtain⟨j,rfl⟩:∃j:Nat,i=j:=⟨i.toNat,by lia⟩;exact zaI (zoR (by lia)) h
theorem zbO {st:List Int}{b x:Int}(b0:0<=b)(hz:st.length<=1000):xV (st.map Dt.int) none (some b)++[Dt.int x]++xV (st.map Dt.int) (some (b+1)) none=(chg st b x).map Dt.int:=by have key:∀z:W,zfi (.d (.tup (xV (st.map Dt.int) none (some b)))) (.d (.tup [.int x])) 0 (fun w m=>zfi w (.d (.tup (xV (st.map Dt.int) (some (b+1)) none))) m fun w' _=>w' = .d (stD (chg st b x))):=fun z=>zmd b0 hz rfl;obtain⟨l,m,e1,e2,_,l2,m2,e3,e4,_,h⟩:=key (.d .non);cases e1;cases e2;cases e3;cases e4;simpa using h
theorem zam {st:List Int}{b:Int}{x:Dt}(hz:st.length<=1000):(xV (st.map Dt.int) none (some b)).length+[x].length<=lim:=by have:=zbR (st.map Dt.int) none (some b);rw[aa] at this;exact ax (by simp;lia:_<=1001) (by decide)
theorem zan {st:List Int}{b c:Int}{x:Dt}(hz:st.length<=1000):(xV (st.map Dt.int) none (some b)++[x]).length+(xV (st.map Dt.int) (some c) none).length<=lim:=by have h1:=zbR (st.map Dt.int) none (some b);have h2:=zbR (st.map Dt.int) (some c) none;rw[aa] at h1 h2;rw[af];exact ax (by simp;lia:_<=2001) (by decide)
def scR (mg:W->Ev->(Ev->Prop)->Prop)(ft:Ev->Mo Bool)(fe:Ev->Mo W)(ρ0:Ev)(Q:List (List Int)->Nat->Prop):List W->Nat->Prop:=fun l n1=>∃I:Nat->Ev->Nat->List (List Int)->Prop,I 0 ρ0 n1 []/\
 (∀i w ρ' n' acc,l[i]?=some w->I i ρ' n' acc->mg w ρ' fun ρ1=>ft ρ1 n' fun b n2=>if b=true then fe ρ1 n2 fun x n3=>∃st,x = .d (stD st)/\I (i+1) ρ1 n3 (acc++[st]) else I (i+1) ρ1 n2 acc)/\
 (∀i ρ' n' acc ks,I i ρ' n' acc->List.Nodup ks->(∀z∈ks,z∈acc)->ks.length<300)/\
 ∀ ρ' n' acc ks,I l.length ρ' n' acc->List.Nodup ks->(∀z,z∈ks↔z∈acc)->Q ks n'
@[reducible] def ziG (fi:Ev->Mo (List W)) (mg:W->Ev->(Ev->Prop)->Prop) (ft:Ev->Mo Bool) (fe:Ev->Mo W) (cix:List (Option Nat)):Ev->Mo W:=fun ρ n Q=>fi ρ n (scR mg ft fe (zcA ρ cix) fun ks n'=>∃m,ks.length<64/\1<=m/\(∀st∈ks,st.length=m)/\∀l':List (List Int),l'.Perm ks->(l'.Pairwise fun a b=>HT.lexLt a b=true)->Q (.d (zbp l')) n')
theorem ziV {P:Program}{w:World}{a:Addr}{xs:List (List Key×Addr)}:NP (zgz P w a xs):=fun _ e=>by cases e
theorem zob {P:Program}{w:World}{H:Hp}{acc:Addr}{o:HO}{ks:List (List Int)}(S:zha P w (upd H acc o) acc ks):NP o/\∀xs,o≠.tup xs:=by obtain⟨xs,h1,_⟩:=S;rw[zj] at h1;cases h1;exact⟨ziV,fun _ e=>by cases e⟩
section
variable {X:Cx}{Pn:Option zq}{M S:List Nat}{fr fr':Bool}{pos p:Pos}
theorem zjq {P:Program}{w:World}{wi:TI}{g:TG}{ti:TT}{te:TE}{cix:List (Option Nat)}{fi:Ev->Mo (List W)}{mg:W->Ev->(Ev->Prop)->Prop}{ft:Ev->Mo Bool}{fe:Ev->Mo W}{ow:Bool}(hn:(cix.filterMap id).Nodup)
  (hi:RI Pn M ow wi fi) (hg:RG (yO M cix) (yO M cix) g mg) (ht:RT Pn (yO M cix) ti ft) (he:RE Pn (yO M cix) fr' te fe):RE Pn M true (tCB (zlV P w) (zct (zol P w wi g ti te cix) zl3)) (ziG fi mg ft fe cix):=⟨fun A σ H ρ n Q R E Pp hf k=>by
 refine hi.run A σ H ρ n _ _ E Pp hf fun l m J H1 ⟨I,i0,it,ib,ie⟩ iv g1=>fun acc hacc S0=>?_;have E1:=E.stay g1.st;have E2:=(E1.cap hn).more (zx.upd (o:=zgz P w acc []) hacc) (Fr.of hacc) zj ziV (by intro xs z;cases z);have P2:xq Pn (fun b=>A b\/b=acc) m (L2.upd H1 acc (zgz P w acc [])):=g1.pn.grow (g1.pn.same (x4.upd hacc)) (Fr.of hacc) zj ziV
 have nacc:∀k w,k∈yO M cix->(zcA ρ cix)[k]?=some (some w)->(uT σ cix)[k]?≠some (some (.ref acc)):=fun k w hk hw z=>by obtain⟨v,s1,_,s3⟩:=(E1.cap hn).val k w hw;obtain⟨a,e,hA,_⟩:=s3 hk;rw[z] at s1;cases s1;cases e;exact E1.new hacc hA
 have key:∀ σ' ρ' H',EnvR (fun b=>A b\/b=acc) (yO M cix) σ' H' ρ'->(∀k∈yO M cix,σ'[k]?=(uT σ cix)[k]?/\ρ'[k]?=(zcA ρ cix)[k]?)->∀k w,k∈yO M cix->ρ'[k]?=some (some w)->σ'[k]?≠some (some (.ref acc)):=fun σ' ρ' H' E' hfx k w hk hw z=>by obtain⟨f1,f2⟩:=hfx k hk;rw[f1] at z;rw[f2] at hw;exact nacc k w hk hw z
 refine⟨fun i mm σ' H'=>mm=l.length - i/\i<=l.length/\∃ ρ' n' accD ks,EnvR (fun b=>A b\/b=acc) (yO M cix) σ' H' ρ'/\xq Pn (fun b=>A b\/b=acc) n' H'/\I i ρ' n' accD/\zha P w H' acc ks/\(∀z,z∈ks↔z∈accD)/\zx (yd A H1) (yd (fun b=>A b\/b=acc) H')/\zx H1 H'/\(∀k∈yO M cix,σ'[k]?=(uT σ cix)[k]?/\ρ'[k]?=(zcA ρ cix)[k]?),
  ⟨l.length,by simp,a8 _,_,m,[],[],E2,P2,i0,S0,fun _=>Iff.rfl,yP (zx.upd hacc) (Fr.of hacc),zx.upd hacc,fun k hk=>⟨rfl,rfl⟩⟩,?_⟩
 rintro i mm σ' H' ⟨rfl,hil,ρ',n',accD,ks,E',P',hI,hS,hm,st,s1,hfx⟩;have hnd:ks.Nodup:=hS.choose_spec.2.2.2;by_cases hlt:i<l.length
 ·right;have hget:l[i]?=some l[i]:=aj hlt;obtain⟨go,yl⟩:=iv.one i l[i] _ H' hget st (fun _=>s1) fun p hp=>E'.new hp
  refine⟨go,fun σ2 H2=>∃ ρ' n' accD ks,EnvR (fun b=>A b\/b=acc) (yO M cix) σ2 H2 ρ'/\xq Pn (fun b=>A b\/b=acc) n' H2/\I (i+1) ρ' n' accD/\zha P w H2 acc ks/\(∀z,z∈ks↔z∈accD)/\zx (yd A H1) (yd (fun b=>A b\/b=acc) H2)/\zx H1 H2/\(∀k∈yO M cix,σ2[k]?=(uT σ cix)[k]?/\ρ'[k]?=(zcA ρ cix)[k]?),
   fun σ2 H2 h=>⟨l.length - (i+1),by lia,rfl,hlt,h⟩,fun x H2 hy=>?_⟩
  obtain⟨S2,V2⟩:=yl x H2 hy;refine hg.run _ σ' H2 ρ' x l[i] _ _ (E'.stay (zx.same S2)) V2 (it i l[i] ρ' n' accD hget hI) fun σ3 ρ3 r3 E3 f3=>?_;have hfx3:∀k∈yO M cix,σ3[k]?=(uT σ cix)[k]?/\ρ3[k]?=(zcA ρ cix)[k]?:=fun k hk=>⟨(f3 k hk).1.trans (hfx k hk).1,(f3 k hk).2.trans (hfx k hk).2⟩;refine ht.run _ σ3 H2 ρ3 n' _ _ E3 (P'.same S2) r3 fun b m3 H4 r4 g4=>?_;have s24:=(zx.same S2).trans g4.st
  cases b with
  | false=>
   rw[if_neg (by decide)] at r4 ⊢;exact⟨ρ3,m3,accD,ks,E3.stay g4.st,g4.pn,r4,hS.stay s24,hm,st.trans (zN s24),s1.trans s24,hfx3⟩
  | true=>
   rw[if_pos rfl] at r4 ⊢;refine he.run _ σ3 H4 ρ3 m3 _ _ (E3.stay g4.st) g4.pn r4  ?_;rintro w5 m5 v5 H5 ⟨d,e5,r5⟩ V5 g5 _;subst e5;have s25:=s24.trans g5.st;have E5:=(E3.stay g4.st).stay g5.st;obtain⟨b,rfl,hb⟩:=zrC V5;refine⟨b,d,ks,rfl,hb,hS.stay s25,ib i ρ' n' accD ks hI hnd fun z hz=>(hm z).mp hz,fun o ks' S' hm' hl'=>?_⟩;obtain⟨np,nt⟩:=zob S';refine⟨ρ3,m5,accD++[d],ks',E5.upd (.inr rfl) (key σ3 ρ3 H5 E5 hfx3) np nt,g5.pn.upd (.inr rfl),r5,S',fun z=>?_,?_,?_,hfx3⟩
   ·rw[hm' z,bg,aK,hm z,or_comm]
   ·rw[yk (.inr rfl)];exact st.trans (zN s25)
   ·exact fun b o e nn=>by rw[zh (zc e hacc)];exact s1.trans s25 b o e nn
 ·left;have hie:i=l.length:=by lia
  subst hie;refine⟨iv.stop _ H' st (fun _=>s1),?_⟩;obtain⟨ml,h64,h1,hml,hq⟩:=ie ρ' n' accD ks hI hnd hm;refine⟨acc,ks,ml,rfl,hS,h64,h1,hml,fun ys sts' hys hp hu=>fun p H3 np3 gp S3=>?_⟩;have s13:=s1.trans (zx.same S3);have al1:Al A H':=E1.al.stay s1;have hpn:xq Pn A n' H3:=(P'.same S3).less fun a z=>.inl z;have al3:=al1.stay (zx.same S3);have hl3:=hys.stay (zx.same S3);refine k _ n' _ H3 (hq sts' hp hu) (Val.of ⟨p,ys,rfl,ye (al1.new np3) gp,zb1 al3.noT (zbE sts') hl3⟩) (g1.trans ⟨s13,hpn⟩) fun _=>⟨p,rfl,((Fr.of np3).back s1).back g1.st,p,ys,rfl,gp,zb1 (fun b xs z e=>?_) (zbE sts') hl3⟩;rcases z with z | z
  ·exact al3.noT b xs z e
  ·subst z;rw[gp] at e;cases e⟩
theorem zks {elt tg iter:Expr}{ifs:List Expr}{scope:Scope}{N:List Str}{cix:List (Option Nat)}{fi:Ev->Mo (List W)}{mg:W->Ev->(Ev->Prop)->Prop}{ft:Ev->Mo Bool}{fe:Ev->Mo W}{ow:Bool}{sp:Pos}(hm0:X.mg "sorted" = none)(hu:X.A.units+1<cLine)(hc:X.calm=true)(cc:CompOk X scope N cix)
  (hi:JI X Pn M ow tg iter fi) (hg:∀C s H ex,JG (zt X scope N C s H ex) (yO M cix) (yO M cix) tg mg) (ht:∀C s H ex,JTs (zt X scope N C s H ex) Pn (yO M cix) ifs ft) (he:∀C s H ex,JE (zt X scope N C s H ex) Pn (yO M cix) fr' elt fe)
  (hn:(cix.filterMap id).Nodup:=by decide) (hs:∀x,foldedSetIterable iter X.env x=pure x:=by intro _;rfl) (hg0:Gl X "sorted" := by rfl) (hs1:starEach [.SetComp elt [⟨tg,iter,ifs,0⟩] scope sp] X.env=[(false,eval (.SetComp elt [⟨tg,iter,ifs,0⟩] scope sp) X.env)]:=by rfl) (hpl:(backTo pos (starEach [] X.env)).any (·.1)=false:=by rfl) :
  JE X Pn M true (.Call (.Name "sorted" p) [.SetComp elt [⟨tg,iter,ifs,0⟩] scope sp] [] pos) (ziG fi mg ft fe cix):=by
 obtain⟨ti,qi,ri⟩:=hi.ex;obtain⟨g,qg,rg⟩:=zlj hg;obtain⟨tt,qt,rt⟩:=zlk ht;obtain⟨te,qe,re⟩:=zli he;exact⟨_,y1 (zka hc) hg0 hm0 dq (zI (zg2 hu hc cc qi qg qt qe hs) yB hs1) (by decide) (by decide) hs1 hpl,zjq hn ri rg rt re⟩
end
theorem zof {α:Type}{l:List W}{ρ0:Ev}{n:Nat}{mg:W->Ev->(Ev->Prop)->Prop}{ft:Ev->Mo Bool}{fe:Ev->Mo W}{Q:List (List Int)->Nat->Prop}(xs:List α)(toW:α->W)(hl:l=xs.map toW)(J:Ev->Prop)(P:α->Bool)(E:α->List Int)(j0:J ρ0)
  (h:∀a∈xs,∀ ρ',J ρ'->∀C:Ev->Nat->Option (List Int)->Prop,(∀ {ρ1},P a=true->J ρ1->C ρ1 n (some (E a)))->(∀ {ρ1},P a=false->J ρ1->C ρ1 n none)->mg (toW a) ρ' fun ρ1=>ft ρ1 n fun b n2=>onC b (fe ρ1 n2 fun x n3=>∃st,x = .d (stD st)/\C ρ1 n3 (some st)) (C ρ1 n2 none))
  (few:∀ks,List.Nodup ks->(∀z∈ks,z∈(xs.filter P).map E)->ks.length<300)
  (fin:∀ks,List.Nodup ks->(∀z,z∈ks↔z∈(xs.filter P).map E)->Q ks n):scR mg ft fe ρ0 Q l n:=by
 subst hl;refine⟨fun i ρ' n' acc=>J ρ'/\n'=n/\acc=((xs.take i).filter P).map E,⟨j0,rfl,by simp⟩,?_,?_,?_⟩
 ·rintro i w ρ' n' acc hw ⟨hj,rfl,rfl⟩;rw[aC] at hw;obtain⟨a,ha,rfl⟩:=aH.mp hw
  have:=h a (aI ha) ρ' hj (fun ρ1 n3 o=>match o with
   | some d=>J ρ1/\n3=n'/\((xs.take i).filter P).map E++[d]=((xs.take (i+1)).filter P).map E
   | none=>J ρ1/\n3=n'/\((xs.take i).filter P).map E=((xs.take (i+1)).filter P).map E) (fun {ρ1} hp hj1=>by
    rw[zr ha,ce,aB]
    exact⟨hj1,rfl,by simp[hp]⟩) (fun {ρ1} hp hj1=>by
    rw[zr ha,ce,aB];exact⟨hj1,rfl,by simp[hp]⟩)
  simp only[zaH] at this;exact this
 ·rintro i ρ' n' acc ks ⟨_,rfl,rfl⟩ hn hk;refine few ks hn fun z hz=>?_;obtain⟨a,ha,e⟩:=aF.mp (hk z hz);obtain⟨h1,h2⟩:=aV.mp ha;exact aF.mpr ⟨a,aV.mpr ⟨bJ h1,h2⟩,e⟩
 ·rintro ρ' n' acc ks ⟨_,rfl,rfl⟩ hn hk;rw[aa,bn] at hk;exact fin ks hn hk
open PySem PySem.Spec L2
@[reducible] def dGetI (fd fk fz:Ev->Mo W):Ev->Mo W:=fun ρ n Q=>fd ρ n fun x n1=>onK x fun kvs=>fk ρ n1 fun y n2=>fz ρ n2 fun z n3=>onO (zpv y) fun k=>onI z fun i=>Q (.d ((xN kvs k).getD (.int i))) n3
section
variable {X:Cx}{Pn:Option zq}{M:List Nat}{a b c:Expr}{fa fb fc:Ev->Mo W}{apos cpos:Pos}
end
end L3
namespace L2
open PySem PySem.Spec PyProof.Rows
section
variable {X:Cx}{e lo st:Expr}{te tl tk:TE}{pos p2:Pos}
end
end L2
namespace L3
open PySem PySem.Spec L2
@[reducible] def dFromL (fa fl fk:Ev->Mo W):Ev->Mo W:=fun ρ n Q=>fa ρ n fun x n1=>onL x fun l=>fl ρ n1 fun y n2=>onI y fun c=>fk ρ n2 fun z n3=>onI z fun k=>(0<=c/\1<=k)/\∀ys:List Dt,ys.Sublist (l.drop c.toNat)->Q (.d (.lst ys)) n3
section
variable {X:Cx}{Pn:Option zq}{M:List Nat}{e lo st:Expr}{f fl fk:Ev->Mo W}{pos p2:Pos}
end
open PySem PySem.Spec L2
def zfy (A:Addr->Prop)(a:Addr):Addr->Prop:=fun b=>A b/\b≠a
def zmF:HO:=.dK [(Sum.inr "at",.non)]
theorem zh2:¬ NP zmF:=fun h=>by have:=h _ rfl;rw[xg (p:=((Sum.inr "at" : Key),V.non)) rfl] at this;cases this
abbrev zhZ (H:Hp)(a:Addr):Hp:=L2.upd H a zmF
theorem zh0 {H:Hp}{a:Addr}:zhZ H a a=some zmF:=zj
theorem zbX {H:Hp}{a b:Addr}(h:b≠a):zhZ H a b=H b:=zh h
theorem zh1 {H:Hp}{a:Addr}:Fr (zhZ H a) a:=fun o e=>by rw[zh0] at e;cases e;exact zh2
theorem zau {A:Addr->Prop}{H:Hp}{a:Addr}(hA:A a):zx (yd A H) (yd (zfy A a) (zhZ H a)):=fun b o e np=>by
 obtain⟨h1,h2⟩:=yQ.mp e;by_cases hb:b=a
 ·subst hb;exact absurd hA h1
 ·exact ye (fun z=>h1 z.1) (by rw[zbX hb];exact h2)
theorem zhh {A:Addr->Prop}{H:Hp}{a:Addr}(al:Al A H):Al (zfy A a) (zhZ H a):=fun b z=>by obtain⟨o,h1,h2⟩:=al b z.1;exact⟨o,by rw[zbX z.2];exact h1,h2⟩
theorem WAt.top {T T' G:Hp}{u:W}{c:Addr}(h:WAt T G u (.ref c))(e:T' c=T c)(hm:u.mut=true):WAt T' G u (.ref c):=by
 cases u with
 | d x=>
  cases x with
  | lst l=>obtain⟨a2,xs,e2,g1,g2⟩:=h;cases e2;exact⟨c,xs,rfl,by rw[e];exact g1,g2⟩
  | dct=>obtain⟨a2,xs,e2,g1,g2⟩:=h;cases e2;exact⟨c,xs,rfl,by rw[e];exact g1,g2⟩
  | _=>cases hm
 | pen p=>cases hm
 | dk kvs=>obtain⟨a2,xs,e2,g1,g2,g3⟩:=h;cases e2;exact⟨c,xs,rfl,by rw[e];exact g1,g2,g3⟩
 | dt kvs=>obtain⟨a2,xs,e2,g1,g2⟩:=h;cases e2;exact⟨c,xs,rfl,by rw[e];exact g1,g2⟩
 | ss P w kvs=>obtain⟨a2,xs,e2,g1,g2⟩:=h;cases e2;exact⟨c,xs,rfl,by rw[e];exact g1,g2⟩
section
variable {X:Cx}{Pn:Option zq}{M S:List Nat}{fr fr':Bool}{pos p:Pos}
theorem At3.put {B:Bs}{A:Addr->Prop}{σ:St}{H H':Hp}{ρ:Ev}{n m i:Nat}{w:W}{ad:Addr}(a:At3 Pn B S M A σ H ρ n)(hi:i∈M)(hs:i∉S)(g':Go Pn A H m H')(hF:Fr H ad)(hb:WAt H' (yd (fun b=>A b\/b=ad) H') w (.ref ad))(hm:w.mut=true) :
  At3 Pn B S M (fun b=>A b\/b=ad) (σ.set i (some (.ref ad))) H' (ρ.set i (some w)) m:=by
 obtain⟨a2,o,e2,ho,np,nt⟩:=ziP hb hm;cases e2;have E1:=a.env.more g'.st hF ho np nt;have hnA:¬ A ad:=a.env.newF hF;refine⟨⟨?_,?_,?_,E1.al⟩,⟨fun b z=>.inl (a.frm.sub b z),fun b z=>?_,fun b o e n c=>g'.st b o (a.frm.st b o e n c) n,a.frm.al,a.frm.cn,fun b z=>let ⟨o,e,n⟩:=a.frm.cs b z;⟨o,g'.st b o e n,n⟩⟩,a.pn.grow' g'.pn hF ho np,a.prot.trans (yP g'.st hF),fun j hj=>?_,fun j u b hj e s=>?_⟩
 ·rw[aX,aX];exact a.env.len
 ·intro j u e;by_cases hj:j=i
  ·subst hj
   have hl:j<ρ.length:=by have:=(ae.mp e).1;rwa[aX] at this
   rw[aM hl] at e;cases e;exact⟨.ref ad,aM (by rw[a.env.len];exact hl),fun z=>absurd hi z,fun _=>⟨ad,rfl,.inr rfl,hb,hm⟩⟩
  ·rw[ar (Ne.symm hj)] at e ⊢;exact E1.val j u e
 ·intro j l u u' b hj hl hne e1 e2 s1 s2
  have own:∀q u,q∈M->q≠i->ρ[q]?=some (some u)->σ[q]?≠some (some (.ref ad)):=fun q u hq hqi eq sq=>by obtain⟨v,s,_,s3⟩:=a.env.val q u eq;obtain⟨c,ec,hc,_⟩:=s3 hq;rw[sq] at s;cases s;cases ec;exact hnA hc
  have len:∀q (u:W),(ρ.set i (some w))[q]?=some (some u)->q<σ.length:=fun q u e=>by have:=(ae.mp e).1;rw[aX] at this;rw[a.env.len];exact this
  by_cases hji:j=i
  ·subst hji;rw[aM (len _ _ e1)] at s1;cases s1;rw[ar hne] at e2 s2;exact own l u' hl (Ne.symm hne) e2 s2
  ·rw[ar (Ne.symm hji)] at e1 s1;by_cases hli:l=i
   ·subst hli;rw[aM (len _ _ e2)] at s2;cases s2;exact own j u hj hji e1 s1
   ·rw[ar (Ne.symm hli)] at e2 s2;exact a.env.dis j l u u' b hj hl hne e1 e2 s1 s2
 ·rcases z with z | z
  ·exact a.frm.new b z
  ·subst z;exact .inr (.inl (a.frm.back hF hnA))
 ·rw[ar fun (z:i=j)=>hs (by rw[z];exact hj)];exact a.fix j hj
 ·by_cases hji:j=i
  ·subst hji
   have hl:j<σ.length:=by have:=(ae.mp s).1;rwa[aX] at this
   rw[aM hl] at s;cases s;exact .inl (a.frm.back hF hnA)
  ·rw[ar (Ne.symm hji)] at e s;exact a.mine j u b hj e s
theorem At3.let' {B:Bs}{A:Addr->Prop}{σ:St}{H:Hp}{ρ:Ev}{n i:Nat}{w:W}{ad:Addr}(a:At3 Pn B S M A σ H ρ n)(nca:∀b,¬ B.ca b)(hi:i∈M)(e:ρ[i]?=some (some w))(s:σ[i]?=some (some (.ref ad)))(hA:A ad) :
  At3 Pn B S M (zfy A ad) σ (zhZ H ad) (ρ.set i none) n:=by
 have hF:Fr B.H0 ad:=(a.mine i w ad hi e s).resolve_right (nca ad)
 have ne:∀ {j:Nat} {u:W},(ρ.set i none)[j]?=some (some u)->j≠i/\ρ[j]?=some (some u):=fun {j u} h=>by
  by_cases hj:j=i
  ·subst hj;rw[aM (ae.mp e).1] at h;cases h
  ·rw[ar (Ne.symm hj)] at h;exact⟨hj,h⟩
 refine⟨⟨?_,?_,?_,zhh a.env.al⟩,⟨fun b z=>?_,fun b z=>a.frm.new b z.1,fun b o e' np nc=>?_,a.frm.al,a.frm.cn,fun b z=>absurd z (nca b)⟩,(a.pn.upd hA).less fun _ z=>z.1,a.prot.trans (zau hA),a.fix,?_⟩
 ·rw[aX];exact a.env.len
 ·intro j u h;obtain⟨hj,h⟩:=ne h;obtain⟨v,s1,s2,s3⟩:=a.env.val j u h;refine⟨v,s1,fun z=>WAt.up (zau hA) (zau hA) (s2 z),fun z=>?_⟩;obtain⟨c,rfl,hc,hb,hm⟩:=s3 z
  have hca:c≠ad:=fun q=>by subst q;exact a.env.dis i j w u c hi z (Ne.symm hj) e h s s1
  refine⟨c,rfl,⟨hc,hca⟩,?_,hm⟩;exact WAt.top (WAt.up (zx.refl _) (zau hA) hb) (zbX hca) hm
 ·intro j l u u' b hj hl hne e1 e2;exact a.env.dis j l u u' b hj hl hne (ne e1).2 (ne e2).2
 ·refine⟨a.frm.sub b z,fun q=>?_⟩;subst q;obtain⟨o,o1,o2,_⟩:=a.frm.al b z;exact hF o o1 o2
 ·rw[zbX fun q=>by subst q;exact hF o e' np];exact a.frm.st b o e' np nc
 ·intro j u b hj h s1;exact a.mine j u b hj (ne h).2 s1
def spG (k:Nat)(fr:Bool)(F:Option zq->List W->Mo W):Sp:=fun vs H Q _=>∃Pn A us zs w a n R,vs=us++[.ref a]/\Al A H/\A a/\zcP A H zs us/\Bor A H w (.ref a)/\w.mut=true/\zs.length+1=k/\xq Pn A n H/\F Pn (zs++[w]) n R/\
 ∀w' m v H',R w' m->Val (zfy A a) H' w' v->zx (zhZ H a) H'->xq Pn (zfy A a) m H'->(fr=true->FrV (zfy A a) (zhZ H a) H' w' v)->Q v H'
@[reducible] def dGiv (i:Nat) (F:List W->Mo W) (f1 f2:Ev->Mo W):Ms:=fun ρ n k=>f1 ρ n fun w1 m1=>f2 ρ m1 fun w2 m2=>onV ρ i fun w=>F [w1,w2,w] m2 fun w' m'=>onC (W.mut w') (onP ρ i w' fun ρ'=>k.nx ρ' m') False
theorem zqZ {t1 t2:TE}{f1 f2:Ev->Mo W}{b1 b2:Bool}{i:Nat}{F:Option zq->List W->Mo W}(h1:RE Pn M b1 t1 f1)(h2:RE Pn M b2 t2 f2)(hi:i∈M)(hs:i∉S) :
  RS Pn S M fr (zgD (zfS (spG 3 true F) [] E0 (zct t1 (zct t2 (zct (zlg i) zl3)))) (zag i)) (dGiv i (F Pn) f1 f2):=⟨fun B A σ H ρ n k D a kk hf=>by
 refine h1.run A σ H ρ n _ _ a.env a.pn hf fun w1 m1 v1 H1 r1 V1 g1 _=>?_;refine h2.run A σ H1 ρ m1 _ _ (a.env.stay g1.st) g1.pn r1 fun w2 m2 v2 H2 r2 V2 g2 _=>?_;rw[zbg] at r2;obtain⟨w,ew,r2⟩:=r2;have a2:=(a.step g1).step g2;obtain⟨v,s1,_,s3⟩:=a2.env.val i w ew;obtain⟨ad,rfl,hA,hb,hm⟩:=s3 hi;refine⟨.ref ad,s1,?_⟩;show spG 3 true F ([v1,v2,.ref ad]++[]) H2 (fun x H1=>zag i x σ H1 D.nx) E0;rw[cI];refine⟨Pn,A,[v1,v2],[w1,w2],w,ad,m2,_,rfl,a2.env.al,hA,⟨v1,_,rfl,V1.stay g2.st,v2,_,rfl,V2,rfl⟩,hb,hm,rfl,g2.pn,r2,fun w' m' v' H' r' hv st pn hfr=>?_⟩;rw[zaH] at r'
 cases hm':W.mut w' with
 | false=>rw[hm'] at r';exact r'.elim
 | true=>
  rw[hm',if_pos rfl,uJ] at r';obtain⟨a',rfl,hF,hb'⟩:=hfr rfl;have av:=a2.let' kk.fc hi ew s1 hA;have:=av.put hi hs ⟨st,pn⟩ hF hb' hm';rw[List.set_set] at this;exact kk.nx _ _ H' _ m' this r'⟩
theorem zps {i kk:Nat}{x y:Str}{st:Stmt}{ps:List Str}{fA:Addr}{fd:FuncData}{F:Option zq->List W->Mo W}{j:Nat}{e1 e2:Expr}{f1 f2:Ev->Mo W}{b1 b2:Bool}{p3 px spos:Pos}(D:Dfn X.K X.mg y st ps fA fd)(G:FnOk X.prog X.w X.K X.mg X.base CX0 j fA fd ps (spG 3 true F))(hr:Room kk X.A)
  (h1:JE X Pn M b1 e1 f1) (h2:JE X Pn M b2 e2 f2) (hN:X.N.Nodup) (hi:X.N[i]?=some x) (hx:Loc X.env.scope x) (hiM:i∈M:=by decide) (hiS:i∉S:=by decide) (hjk:j<=kk:=by decide) (hg:Gl X y:=by rfl) (hdb:(y==("__debug__" : Str))=false:=by decide)
  (hv:Vis X.env.scope x:=by first | exact Or.inl rfl | exact Or.inr (Or.inl rfl) | exact Or.inr (Or.inr rfl)) (hd:(x==("__debug__" : Str))=false:=by decide) (hcd:(x==("__classdict__" : Str))=false:=by decide)
  (q1:starEach [e1,e2,.Name x p3] X.env=(false,eval e1 X.env)::starEach [e2,.Name x p3] X.env:=by rfl) (q2:starEach [e2,.Name x p3] X.env=(false,eval e2 X.env)::starEach [.Name x p3] X.env:=by rfl) (q3:starEach [.Name x p3] X.env=(false,eval (.Name x p3) X.env)::starEach [] X.env:=by rfl)
  (hpl:(backTo pos (starEach [e2,.Name x p3] X.env)).any (·.1)=false:=by rfl)
  (hs:swapsWith (.Call (.Name y p) [e1,e2,.Name x p3] [] pos) (some (.Name x px)) spos.line X.env=pure false:=by rfl) (hf:X.fn x=true\/X.env.scope.names.lookup x=some .local:=by first | exact .inl rfl | exact .inr rfl | assumption) :
  JS X Pn S M fr (.Assign [.Name x px] (.Call (.Name y p) [e1,e2,.Name x p3] [] pos) spos) (dGiv i (F Pn) f1 f2):=by
 obtain⟨t1,p1,r1⟩:=h1.ex;obtain⟨t2,p2,r2⟩:=h2.ex;exact⟨_,ug hN hi hx (zkW D G hr (zI p1 (zI p2 (zI (qv i hi hv hd hcd) yB q3) q2) q1) hjk hg hdb q1 hpl) hs hf,zqZ r1 r2 hiM hiS⟩
theorem zgN {A:Addr->Prop}{H:Hp}{N:List Str}{zs:List W}{us:List V}{w:W}{a:Addr}(al:Al A H)(hA:A a)(h:zcP A H zs us)(hb:Bor A H w (.ref a))(hm:w.mut=true)(hg:zs.length∈M)(hM:∀i∈M,zs.length<=i) :
  EnvR A M (L2.xf N (us++[.ref a])) H (xn N (zs++[w]))/\∀i u,i∈M->(xn N (zs++[w]))[i]?=some (some u)->(L2.xf N (us++[.ref a]))[i]?=some (some (.ref a)):=by
 have hl:=h.len
 have few:∀i u,(xn N (zs++[w]))[i]?=some (some u)->i<zs.length+1/\(zs++[w])[i]?=some u:=fun i u e=>by
  unfold xn at e
  have hi:i<(zs++[w]).length:=by apply bD;intro z;rw[ba (by rw[aa];lia)] at e;obtain⟨_,q⟩:=ae.mp e;rw[cw] at q;cases q
  rw[a6 (by rw[aa];exact hi),aC] at e;obtain⟨w',e1,e2⟩:=aH.mp e;cases e2;rw[af] at hi;exact⟨hi,e1⟩
 have at':∀i v,(us++[V.ref a])[i]?=some v->(L2.xf N (us++[.ref a]))[i]?=some (some v):=fun i v e=>by unfold L2.xf;rw[a6 (by rw[aa];exact (ae.mp e).1),aC,e];rfl
 have last:(us++[V.ref a])[zs.length]?=some (.ref a):=by rw[<- hl];simp
 refine⟨⟨?_,fun i u e=>?_,fun i j u u' b hi hj hne e1 e2=>?_,al⟩,fun i u hi e=>?_⟩
 ·unfold L2.xf xn;simp[hl]
 ·obtain⟨h1,h2⟩:=few i u e;by_cases hi:i<zs.length
  ·rw[a6 hi] at h2;obtain⟨v,v1,v2⟩:=h.get h2;exact⟨v,at' i v (by rw[a6 (by lia)];exact v1),fun _=>v2,fun z=>absurd (hM i z) (by lia)⟩
  ·have hie:i=zs.length:=by lia
   subst hie;have:u=w:=by simpa using h2.symm
   subst this;exact⟨.ref a,at' _ _ last,fun z=>absurd hg z,fun _=>⟨a,rfl,hA,hb,hm⟩⟩
 ·have h1:=(few i u e1).1;have h2:=(few j u' e2).1;have h3:=hM i hi;have h4:=hM j hj;exact absurd (show i=j by lia) hne
 ·have h1:=(few i u e).1;have h3:=hM i hi;have:i=zs.length:=by lia
  subst this;exact at' _ _ last
theorem zpM {P:Program}{w:World}{K:PySem.W.Frag}{mg:Str->Option Value}{base:Heap}{qual:Str}{st:Stmt}{f:Addr}{fd:FuncData}{N ps:List Str}{k m:Nat}{F:Option zq->List W->Mo W}(M:List Nat)(r:Nat)(okq:(∀vs H Q E,spG m fr F vs H Q E->vs.length=ps.length)->(∀ (cdv:Value) (A:Around) (outer:List Env) (s:Shared) (H:Hp) (vs:List V) (Q:VK) (E:XK),Room k (A.deeper (PyProof.Rows.envOfC qual (zf st) s.heap.objs.size f cdv))->spG m fr F vs H Q E->
   ∃t,QSs (zdl CX0 P w K mg base N qual (zf st) f cdv A outer s H E).nox (yj st) t/\t { nx:=fun _ H'=>Q .non H',rt:=Q } (L2.xf N vs) H)->FnOk P w K mg base CX0 (k+1) f fd ps (spG m fr F)) (hm:m=ps.length) (hg:m - 1∈M) (hM:∀i∈M,m - 1<=i) (hN:N.length=m+r)
  (hbody:∀ (cdv:Value) (A:Around) (outer:List Env) (s:Shared) (H:Hp) (E:XK) (Pn:Option zq),Room k (A.deeper (PyProof.Rows.envOfC qual (zf st) s.heap.objs.size f cdv))->
   ∃fs,JSs (zdl CX0 P w K mg base N qual (zf st) f cdv A outer s H E).nox Pn [] M fr (yj st) fs/\∀ws n R,F Pn ws n R->beg ws r fun ρ=>fs ρ n { nx:=fun _ n'=>False,rt:=R }):FnOk P w K mg base CX0 (k+1) f fd ps (spG m fr F):=by
 refine okq (fun vs H Q E h=>?_) (fun cdv A outer s H vs Q E hr h=>?_)
 ·obtain⟨Pn,A,us,zs,w,a,n,R,rfl,_,_,hv,_,_,hl,_⟩:=h;rw[af,hv.len,<- hm,<- hl];rfl
 ·obtain⟨Pn,A3,us,zs,w,a,n,R,rfl,al,hA,hv,hb,hmu,hl,hp,hF,q⟩:=h;obtain⟨fs,⟨t,qs,rs⟩,hfs⟩:=hbody cdv A outer s H E Pn hr;obtain⟨ev,mi⟩:=zgN (N:=N) (M:=M) al hA hv hb hmu (by rw[show zs.length=m - 1 by lia];exact hg) (fun i hi=>by have:=hM i hi;lia);have hfs':=hfs (zs++[w]) n R hF;rw[zhk] at hfs'
  have e:xn N (zs++[w])=(zs++[w]).map some++List.replicate r none:=by unfold xn;rw[hN,show (zs++[w]).length=m by rw[af];simp;lia,Nat.add_sub_cancel_left]
  rw[<- e] at hfs';refine⟨t,qs,rs.run { A0:=zfy A3 a,H0:=zhZ H a,G0:=yd A3 H,σ0:=L2.xf N (us++[.ref a]) } A3 (L2.xf N (us++[.ref a])) H (xn N (zs++[w])) n _ _ ⟨ev,⟨fun _ z=>z.1,fun b z=>?_,fun b o e np _=>?_,zhh al,fun _ z=>z.elim,fun _ z=>z.elim⟩,hp,zx.refl _,fun i hi=>rfl,fun i u b hi e1 s1=>?_⟩ ⟨?_,?_,?_,fun _ z=>z,?_⟩ hfs'⟩
  ·by_cases hb:b=a
   ·subst hb;exact .inr (.inl zh1)
   ·exact .inl ⟨z,hb⟩
  ·by_cases hb:b=a
   ·subst hb;have e:zhZ H b b=some o:=e;rw[zh0] at e;cases e;exact absurd np zh2
   ·have e:zhZ H a b=some o:=e;rwa[zbX hb] at e
  ·have:=mi i u hi e1;rw[s1] at this;cases this;exact .inl zh1
  ·intro _ _ _ _ _ _ z;exact z.elim
  ·intro _ _ _ _ _ _ z;exact z.elim
  ·intro _ _ _ _ _ _ z;exact z.elim
  ·intro w n' v H' hv' st pn hfr r;exact q w n' v H' r hv' st.stay pn hfr
theorem Fun.okG {P:Program}{w:World}{K:PySem.W.Frag}{mg:Str->Option Value}{base:Heap}{x qual:Str}{st:Stmt}{f:Addr}{fd:FuncData}{N ps:List Str}{k m:Nat}{F:Option zq->List W->Mo W}(M:List Nat)(r:Nat)(Fu:Fun K x qual st f fd)(S:FnScope N ps (zf st))(hm:m=ps.length)(hg:m - 1∈M)(hM:∀i∈M,m - 1<=i)(hN:N.length=m+r)
  (hbody:∀ (cdv:Value) (A:Around) (outer:List Env) (s:Shared) (H:Hp) (E:XK) (Pn:Option zq),Room k (A.deeper (PyProof.Rows.envOfC qual (zf st) s.heap.objs.size f cdv))->
   ∃fs,JSs (zdl CX0 P w K mg base N qual (zf st) f cdv A outer s H E).nox Pn [] M fr (yj st) fs/\∀ws n R,F Pn ws n R->beg ws r fun ρ=>fs ρ n { nx:=fun _ n'=>False,rt:=R }):FnOk P w K mg base CX0 (k+1) f fd ps (spG m fr F):=zpM M r (fun l b=>Fun.okQ Fu S l b) hm hg hM hN hbody
end
end L3
namespace L2
open PySem PySem.Spec PyProof.Rows PySem.W PySem.SeqAt
section
variable {X:Cx}
def zqJ:V->List V->Hp->VK->Prop:=fun x vs H Q=>∃ (l:Addr) (ns:List Int) (k:Int),x = .ref l/\vs=[.int k]/\H l=some (.lst (ns.map V.int))/\k∈ns/\Q (.int (ns.idxOf k:Nat)) H
theorem zkF:MtM X "list.index" zqJ:=by
 intro pins s σ H x vs v us Q I rx rv h;obtain⟨l,ns,k,rfl,rfl,hH,hk,q⟩:=h;cases rx;obtain⟨u,rfl,ru⟩:=rv.one;obtain⟨t,rfl⟩:=ru;obtain⟨z,its,n,r,hl,e⟩:=I.lstM hH;have hi:=zbA r;have hlen:=hi.length;have hj:ns.idxOf k<ns.length:=List.idxOf_lt_length_iff.mpr hk;rw[aa,bI] at z
 refine dX F.slot_list_index ⟨_,e,rfl⟩ F.entry_list_index (F.args_list_index_2 _ _)
  (list_indexAt l its.toArray n none #[] (.int k t) (isInt k) (ns.idxOf k) (by simpa [hlen] using hj) (by lia) ?_ ?_) ⟨e,fun y hy=>(eq_isInt k t hi y (by simpa using hy)).at _ _,?_⟩
 ·show isInt k its[ns.idxOf k]=true;rw[isInt_at k hi _ (by lia) hj];simpa using List.getElem_idxOf hj
 ·intro j hjs hlt;show isInt k its[j]=false;rw[isInt_at k hi j (by simpa using hjs) (by lia)];exact ne_of_lt_idxOf hlt _
 ·exact⟨.int (ns.idxOf k:Nat),H,I.tok _,⟨_,rfl⟩,q⟩
theorem zmp {pins:List (Addr×Obj)}{σ:St}{H:Hp}{s:Shared}(I:Inv X pins σ H s){a:Addr}{kvs:List (Key×V)}{ns:List Int}(h:H a=some (.dK kvs))(hk:kvs.map (·.1)=ns.map Sum.inl) :
  (a==sysModules)=false/\∃ (es:Array DictEntry) (ep:Nat),zaV s.heap a es ep/\z4 (ns.map V.int) (es.toList.map (·.key))/\kvs.length<=sizeLine:=by
 obtain⟨z,lo,vs,r,o,es,ep,h1,h2,h3,_,h4,_⟩:=zke I.hok h
 have gen:∀ {kvs:List (Key×V)} {vs:List (Key×Value)} {es:List DictEntry} {ns:List Int},KV kvs vs->Pairs (zM X.prog X.w) es vs->kvs.map (·.1)=ns.map Sum.inl->z4 (ns.map V.int) (es.map (·.key)):=by
  intro kvs
  induction kvs with
  | nil=>
   intro vs es ns r p e;cases r;cases p
   cases ns with
   | nil=>exact .nil
   | cons _ _=>cases e
  | cons q kvs ih=>
   intro vs es ns r p e
   cases r with
   | cons r1 r2=>
    cases p with
    | cons p1 p2 p3=>
     cases ns with
     | nil=>cases e
     | cons i ns=>
      rw[ao,ao] at e;obtain⟨e1,e2⟩:=eW e;rw[ao,ao];refine .cons ?_ (ih r2 p3 e2);rw[<- r1.1,e1] at p1;rw[zgU] at p1;obtain⟨t,et⟩:=Value.isInt_shape (k:=i) p1;exact⟨t,et⟩
 exact⟨lo,es,ep,⟨o,h1,h2,h3⟩,gen r h4 hk,z⟩
def zlT:List V->Hp->VK->Prop:=fun xs H Q=>∃ (a:Addr) (kvs:List (Key×V)) (ns:List Int),xs=[.ref a]/\H a=some (.dK kvs)/\kvs.map (·.1)=ns.map Sum.inl/\New H (.lst (ns.map V.int)) Q
theorem zf5 (hc:X.calm=true):CallQ X (.type "list") zlT:=⟨by
 intro pins s σ H xs us Q I r h;obtain⟨a,kvs,ns,rfl,ha,hk,q⟩:=h;obtain⟨u,rfl,ru⟩:=u6 r;cases ru;obtain⟨lo,es,ep,E,hv,hz⟩:=zmp I ha hk
 have hl:es.size=ns.length:=by have:=hv.length;rw[aa,aa,aD] at this;exact this.symm
 have hyl:ns.length=kvs.length:=by have:=congrArg List.length hk;rw[aa,aa] at this;exact this.symm
 refine kdl_call (zkd (es:=es) a ep lo) (I.ok.hd hc) E (by rw[hl,hyl];exact hz) fun h' tk acc c kp hg hit=>?_
 have hacc:acc.toList=es.toList.map (·.key):=by refine de (by rw[aD,hit.1,aa,aD]) fun j h1 h2=>?_;obtain⟨e,he,hv⟩:=hit.2 j acc.toList[j] (by rw[zaX,aj h1]);rw[hv,cR];rw[zaX] at he;rw[aa] at h2;rw[aj h2] at he;rw[bc he]
 refine⟨.ref s.heap.objs.size,_,I.laid (t':=tk) (o:=.lst (ns.map V.int)) kp (ag _) ⟨by rw[aa,hyl];exact hz,es.toList.map (·.key),c,hv,?_⟩,rfl,q.at (I.hok.fresh (ag _))⟩;rw[<- hacc,Array.toArray_toList];exact hg⟩
theorem zbU {ns:List Int}(h:ns.Nodup):∀i,i<=ns.length->firstMet (fun i=>ns.getD i 0) i=ns.take i
 | 0,_=>rfl
 | i+1,hi=>by
  have hlt:i<ns.length:=hi;rw[firstMet_succ,zbU h i (ck hlt)];have e:ns.getD i 0=ns[i]:=by simp[hlt]
  have hn:ns[i]∉ns.take i:=fun z=>by obtain⟨j,hj,e2⟩:=bq.mp z;rw[aJ] at hj;rw[dB] at e2;have:=(bV h).mp e2;lia
  unfold step_dedup
  rw[e,if_neg (by intro z;obtain⟨x,hx,ex⟩:=df.mp z;exact hn (by rw[<- beq_iff_eq.mp ex];exact hx)),List.take_succ_eq_append_getElem hlt]
def ztn:List V->Hp->VK->Prop:=fun xs H Q=>∃ (l:Addr) (ns:List Int),xs=[.ref l]/\H l=some (.lst (ns.map V.int))/\ns.Nodup/\ns.length<=1000/\∀S,New H (.set S ns.length) Q
theorem zmi (hc:X.calm=true):CallQ X (.type "set") ztn:=⟨by
 intro pins s σ H xs us Q I r h;obtain⟨l,ns,rfl,hl,hnd,hz,q⟩:=h;obtain⟨u,rfl,ru⟩:=u6 r;cases ru;obtain⟨its,rv,pl,_⟩:=I.list (.of hl);have hi:=zbA rv;have hlen:=hi.length;refine call_set_list (I.ok.hd hc) pl.isList (by simpa using hi) (by rw[aq,hlen];exact be (by lia:_<=1001) (by decide)) fun h' tk hS kp=>?_;have hsz:its.toArray.size=ns.length:=by rw[aq,hlen]
 rw[hsz,zbU hnd _ (ag _),bn] at hS;refine⟨.ref s.heap.objs.size,_,I.laid (t':=tk) (o:=.set _ ns.length) (fun b o e=>kp b o (aw e) e) (ag _) hS,rfl,(q _).at (I.hok.fresh (ag _))⟩⟩
def ztm:List V->Hp->VK->Prop:=fun xs H Q=>∃ (a:Addr) (S:Int->Bool) (n:Nat),xs=[.ref a]/\H a=some (.set S n)/\n<=1000/\Q (.int (n:Int)) H
theorem zj7:CallQ X (.builtin "len") (fun xs H Q=>∃a kvs,xs=[V.ref a]/\H a=some (.dK kvs)/\Q (.int kvs.length) H):=⟨zho⟩
theorem zmh:CallQ X (.builtin "len") ztm:=⟨by
 intro pins s σ H xs us Q I r h;obtain⟨a,S,n,rfl,ha,hz,q⟩:=h;obtain⟨u,rfl,ru⟩:=u6 r;cases ru;obtain⟨o,es,ep,t,h1,h2,h3,_,_,_,h4,h5⟩:=(show yy X.prog X.w H s.heap a (.set S n) from I.hok a _ ha);refine call_len_set h1 h2 h3 h4 (by lia) ⟨.int (n:Int),H,I.tok _,⟨_,by rw[h5]⟩,q⟩⟩
end
end L2
namespace L3
open PySem PySem.Spec L2
section
variable {X:Cx}{Pn:Option zq}{M S:List Nat}{fr fr':Bool}{e o:Expr}{f fo:Ev->Mo W}{pos p:Pos}
@[reducible] def zo3:List W->Mo W:=fun ws n Q=>on1 ws fun x=>onK x fun kvs=>Q (.d (.int (kvs.length:Nat))) n
theorem zrp:FL Pn false (fun xs H Q=>∃a kvs,xs=[V.ref a]/\H a=some (.dK kvs)/\Q (.int kvs.length) H) zo3:=⟨fun A H xs ws n Q R al b P h k=>by simp only[zo3,zab,zi0] at h;obtain⟨x,rfl,kvs,rfl,h⟩:=h;obtain⟨v,rfl,bb⟩:=zcz b;obtain⟨a,ks,rfl,ha,hk,_⟩:=zhm bb;exact⟨a,ks,rfl,ha,by rw[hk.len];exact k _ n _ H h (Val.of rfl) (Go.refl P) fun z=>by cases z⟩⟩
@[reducible] def zlv:List W->Mo W:=fun ws n Q=>on1 ws fun x=>onK x fun kvs=>∃ns:List Int,kvs.map (·.1)=ns.map Sum.inl/\Q (.d (.lst (ns.map .int))) n
theorem zjL:FL Pn true zlT zlv:=⟨fun A H xs ws n Q R al b P h k=>by simp only[zlv,zab,zi0] at h;obtain⟨x,rfl,kvs,rfl,ns,hn,h⟩:=h;obtain⟨v,rfl,bb⟩:=zcz b;obtain⟨a,ks,rfl,ha,hk,_⟩:=zhm bb;exact⟨a,ks,ns,rfl,ha,hk.keys.trans hn,fun p H' np g S=>k _ n _ H' h (x3 (H:=H) IsL.ints (zx.same S) (al.new np) g) (Go.same P S) fun z=>uo (H:=H) IsL.ints S np g⟩⟩
@[reducible] def zo0 (fo f:Ev->Mo W):Ev->Mo W:=fun ρ n Q=>fo ρ n fun x n1=>onL x fun l=>f ρ n1 fun y n2=>onI y fun k=>∃ns:List Int,l=ns.map .int/\k∈ns/\Q (.d (.int (ns.idxOf k:Nat))) n2
theorem zmR (K:PySem.W.Frag)(hK:X.K=K){apos cpos:Pos}(ho:JB X Pn M o fo)(he:JB X Pn M e f)
  (hbase:attributeBase o "index" X.env (eval o X.env)=eval o X.env:=by rfl)
  (hfew:((backTo cpos (starEach [e] X.env)).all (fun x=>!x.1)&&(backToKw cpos (keywordEach [] X.env)).all (fun x=>x.1.isSome)
   && decide (([e]:List Expr).length+([]:List Keyword).length+(if ([]:List Keyword).isEmpty then 0 else 1)<30))=true:=by rfl)
  (hline:(apos.endLine==cpos.line)=true:=by rfl) (hs:starEach [e] X.env=(false,eval e X.env)::starEach [] X.env:=by rfl) (hplain:(backTo cpos (starEach [] X.env)).any (·.1)=false:=by rfl) :
  JE X Pn M false (.Call (.Attribute o "index" apos) [e] [] cpos) (zo0 fo f):=by
 subst hK;obtain⟨to,qo,ro⟩:=ho.ex;obtain⟨te,qe,re⟩:=he.ex;refine⟨_,zeN bS PySem.F.slot_list_index PySem.F.type_list_index zkF qo (zI qe yB hs) hbase hfew hline hs hplain,⟨fun A σ H ρ n Q R E P hf k=>?_⟩⟩;refine ro.run A σ H ρ n _ _ E P hf fun w m v H1 r1 b1 g1=>?_;rw[xu] at r1;obtain⟨l,rfl,r1⟩:=r1;obtain⟨ad,xs,rfl,ha,hl⟩:=yJ b1;refine⟨.inl ⟨rfl,_,SqL.of ha⟩,?_⟩;refine re.run A σ H1 ρ m _ _ (E.stay g1.st) g1.pn r1 fun w2 m2 v2 H2 r2 b2 g2=>?_;rw[xt] at r2;obtain⟨i,rfl,ns,rfl,hi,r2⟩:=r2;have ev:v2 = .int i:=yI b2;subst ev;obtain rfl:=hl.of_ints;exact⟨ad,ns,i,rfl,rfl,g2.st.lst ha,hi,k _ m2 _ H2 r2 (Val.of rfl) (g1.trans g2) fun z=>by cases z⟩
@[reducible] def zmn (f:Ev->Mo W):Ev->Mo W:=fun ρ n Q=>f ρ n fun x n1=>onL x fun l=>∃ns:List Int,l=ns.map .int/\ns.Nodup/\ns.length<=1000/\Q (.d (.int (ns.length:Nat))) n1
theorem zkr {p2 pos2:Pos}(hc:X.calm=true)(hm1:X.mg "len" = none)(hm2:X.mg "set" = none)(he:JB X Pn M e f)(hg1:Gl X "len" := by rfl)(hg2:Gl X "set" := by rfl)
  (h1:starEach [e] X.env=(false,eval e X.env)::starEach [] X.env:=by rfl) (h2:(backTo pos2 (starEach [] X.env)).any (·.1)=false:=by rfl)
  (h3:starEach [.Call (.Name "set" p2) [e] [] pos2] X.env=(false,eval (.Call (.Name "set" p2) [e] [] pos2) X.env)::starEach [] X.env:=by rfl) (h4:(backTo pos (starEach [] X.env)).any (·.1)=false:=by rfl) :
  JE X Pn M false (.Call (.Name "len" p) [.Call (.Name "set" p2) [e] [] pos2] [] pos) (zmn f):=by
 obtain⟨te,qe,re⟩:=he.ex;refine⟨_,y1 zmh hg1 hm1 aZ (zI (uL (zmi hc) hg2 hm2 PyProof.Rows.boot_set (zI qe yB h1) (by decide) (by decide) h1 h2) yB h3) (by decide) (by decide) h3 h4,⟨fun A σ H ρ n Q R E P hf k=>?_⟩⟩;refine re.run A σ H ρ n _ _ E P hf fun w m v H1 r1 b1 g1=>?_;rw[xu] at r1;obtain⟨l,rfl,ns,rfl,hnd,hz,r1⟩:=r1;obtain⟨ad,xs,rfl,ha,hl⟩:=yJ b1;obtain rfl:=hl.of_ints;refine⟨ad,ns,rfl,ha,hnd,hz,fun S q H' nq gq Sm=>?_⟩;exact⟨q,S,ns.length,rfl,gq,hz,k _ m _ H' r1 (Val.of rfl) (g1.trans (Go.same g1.pn Sm)) fun z=>by cases z⟩
end
end L3
namespace L2
theorem us_1 {α:Type}{us:List α}(h:us.length=1):∃a,us=[a]:=match us,h with | [a],_=>⟨a,rfl⟩
theorem us_2 {α:Type}{us:List α}(h:us.length=2):∃a b,us=[a,b]:=match us,h with | [a,b],_=>⟨a,b,rfl⟩
theorem us_3 {α:Type}{us:List α}(h:us.length=3):∃a b c,us=[a,b,c]:=match us,h with | [a,b,c],_=>⟨a,b,c,rfl⟩
theorem us_4 {α:Type}{us:List α}(h:us.length=4):∃a b c d,us=[a,b,c,d]:=match us,h with | [a,b,c,d],_=>⟨a,b,c,d,rfl⟩
open PySem PySem.Spec PyProof.Rows PySem.W PySem.Calls
theorem zeK {X:Cx}{ke ve tg iter:Expr}{ifs:List Expr}{scope:Scope}{pos:Pos}{wi:TI}{g:TG}{ti:TT}{tk tv:TE}{N:List Str}{z:Str}{cix:List (Option Nat)}{o0:HO}(ho0:o0 = .dK []\/o0 = .dT [])(hu:X.A.units+1<cLine)(hc:X.calm=true)(c:CompOkC X scope N z cix)
  (hi:PI X tg iter wi) (hg:∀C D s H ex,PG (zT X scope N z C D s H ex) tg g) (ht:∀C D s H ex,PTs (zT X scope N z C D s H ex) ifs ti) (hk:∀C D s H ex,PE (zT X scope N z C D s H ex) ke tk) (hv:∀C D s H ex,PE (zT X scope N z C D s H ex) ve tv)
  (hs:∀x,foldedSetIterable iter X.env x=pure x:=by intro _;rfl):PE X (.DictComp ke ve [⟨tg,iter,ifs,0⟩] scope pos) (zeX o0 wi g ti tk tv cix):=by
 intro pins s σ H Q I h;rw[u8];refine b9 (use:=none) rfl hs (x9 (c.cells I.ok)) c.kind c.names (thn (hi pins s σ H _ I h) fun xv s1 h1=>thn h1 fun itv s2 h2=>?_);obtain⟨it,fp,tn,J,H2,e,I2,T,st2,f2,q2⟩:=h2;subst e;generalize hob:({ cls:=.type "dict",data:=.dict #[] }:Obj)=ob;refine zc4 ?_;rw[hob];refine zfG c.parts.2 ?_;dsimp only;obtain⟨h4,hh4⟩:∃h4,h4=((s2.heap.push ob).push { cls:=.type "dict",data:=.dict #[] }).push { cls:=.type "cell",data:=.cell none }:=⟨_,rfl⟩;rw[<- hh4];obtain⟨D4,hD4⟩:∃D4,D4=((s2.heap.push ob).push { cls:=.type "dict",data:=.dict #[] }).objs.size:=⟨_,rfl⟩;rw[<- hD4];have hCD:(s2.heap.push ob).objs.size<=D4:=by rw[hD4,c8 (h:=s2.heap.push ob)];exact ef _
 have hcd4:h4.IsCell D4 none:=by rw[hh4,hD4];exact⟨_,aP _ rfl,rfl⟩
 have hns4:h4.Ns (s2.heap.push ob).objs.size (fun x=>([]:List (Str×Value)).reverse.lookup x):=by rw[hh4];exact (Heap.Ns.new ..).at' fun o e=>ai _ e
 have hnone:=I2.hok.fresh (ag s2.heap.objs.size)
 have hnew:∀H',yy X.prog X.w H' (s2.heap.push ob) s2.heap.objs.size o0:=fun H'=>by
  rw[<- hob];rcases ho0 with rfl | rfl
  ·exact zdm s2.heap I2.big
  ·exact zdn s2.heap I2.big
 have I3:Inv X pins σ (upd H2 s2.heap.objs.size o0) { s2 with heap:=s2.heap.push ob,toks:=s2.toks }:=I2.laid (t':=s2.toks) (fun b u e=>ai _ e) (ag _) (hnew _);obtain⟨W,⟨m0,w0⟩,turn⟩:=q2 s2.heap.objs.size hnone
 have ltF:∀b∈fp,b<s2.heap.objs.size:=fun b hb=>by obtain⟨o,ho,_⟩:=T.obj _ _ st2 b hb;exact aw ho
 have f3:∀b∈fp,zcO X pins (upd H2 s2.heap.objs.size o0) b:=fun b hb=>⟨by rw[zh (aO (ltF b hb))];exact (f2 b hb).1,(f2 b hb).2⟩
 have kp:∀b o,(s2.heap.push ob).get? b=some o->h4.get? b=some o:=fun b o e=>by rw[hh4];exact ai _ (ai _ e)
 have sz3:s2.heap.objs.size<(s2.heap.push ob).objs.size:=by rw[c8];exact cz _
 have I4:=zh7 (tk:=s2.toks) I3 c f3 (fun b hb=>bW (ltF b hb) sz3) hns4 hCD hcd4 kp;have st4:tn 0 h4:=T.keep _ _ _ st2 fun b hb o e=>kp b o (ai _ e);generalize hX:zT X scope N z (s2.heap.push ob).objs.size D4 { s2 with heap:=s2.heap.push ob,toks:=s2.toks } (upd H2 s2.heap.objs.size o0) fp=X' at I4;have pX:X'.prog=X.prog:=by rw[<- hX];rfl
 have wX:X'.w=X.w:=by rw[<- hX];rfl
 have KX:X'.K=X.K:=by rw[<- hX];rfl
 have AX:X'.A=X.A:=by rw[<- hX];rfl
 have cX:X'.calm=true:=by rw[<- hX];exact hc
 have xX:X'.xe=fun _ _=>False:=by rw[<- hX];rfl
 have eX:X'.env={ compEnvC scope (zba X.env scope.names []) (s2.heap.push ob).objs.size X.env with cells:=(z,D4)::zba X.env scope.names [] }:=by rw[<- hX];rfl
 have hg':PG X' tg g:=by rw[<- hX];exact hg _ _ _ _ _
 have ht':PTs X' ifs ti:=by rw[<- hX];exact ht _ _ _ _ _
 have hk':PE X' ke tk:=by rw[<- hX];exact hk _ _ _ _ _
 have hv':PE X' ve tv:=by rw[<- hX];exact hv _ _ _ _ _
 have f4:∀ {H':Hp},(∀b∈fp,H' b=none)->∀b∈fp,zcO X' [] H' b:=fun {H'} hn b hb=>by
  refine⟨hn b hb,?_,?_,.inl ?_,?_,?_⟩
  ·rw[eX];exact aO (bW (ltF b hb) sz3)
  ·have e1:X'.fs=frs X.stack:=by rw[<- hX];rfl
   rw[e1];intro z;rcases aG.mp (I2.stkSub b z) with e | e
   ·exact (f2 b hb).2.1 e
   ·exact (f2 b hb).2.2.1 e
  ·rw[<- hX];exact hb
  ·rw[eX];intro x a e;have e':((z,D4)::zba X.env scope.names []).lookup x=some a:=e;rw[a9] at e'
   cases q:x==z with
   | true=>
    rw[q] at e';have e2:some D4=some a:=e';cases e2;exact dE (aU (bW (ltF b hb) sz3) hCD)
   | false=>
    rw[q] at e';rcases xh (c.cells I.ok) e' with z | z
    ·exact (f2 b hb).2.2.2.2.1 x a z
    ·simp at z
  ·intro p hp;have e1:X'.pn++([]:List (Addr×Obj))=[]:=by rw[<- hX];rfl
   rw[e1] at hp;simp at hp
 have loop:∀s4:Shared,s4={ s2 with heap:=h4,toks:=s2.toks }->
   codeAny (model X.prog X.w) X.A (.compLoop (.DictComp ke ve [⟨tg,iter,ifs,0⟩] scope pos) 0 (.ref it) (.ref s2.heap.objs.size) X'.env)
    (compPost (model X.prog X.w) X.A X.xe none (EP X pins σ Q) (.ref s2.heap.objs.size) (s2.heap.push ob).objs.size) s4:=by
  rintro s4 rfl;refine ua (fun n s'=>∃i σ' H',Inv X' [] σ' H' s'/\tn i s'.heap/\(∀b∈fp,H' b=none)/\W i n σ' H') ?_ m0 ⟨0,uT σ cix,_,I4,st4,fun b hb=>(f3 b hb).1,w0⟩;rintro n s5 ⟨i,σ5,H5,I5,st5,fr5,w5⟩;rcases turn i n σ5 H5 w5 with ⟨stop,qn⟩ | ⟨go,Nx,hN,step⟩
  ·have:=T.done X' pX wX KX cX i [] s5 σ5 H5 (fun _ _=>False) I5 (f4 fr5) st5 stop;rw[AX] at this;refine thn this  ?_;rintro r s6 ⟨hr,I6⟩;subst hr;obtain⟨m6,hn6,_⟩:=I6.loc;rw[eX] at hn6;refine⟨m6,hn6,fun h7 hs7=>?_⟩;have I6':=I6;rw[<- hX] at I6';exact⟨.ref s2.heap.objs.size,H5,zfq I3 f3 I6' hs7,rfl,qn⟩
  ·have:=T.item X' pX wX KX cX i [] s5 σ5 H5 (fun _ _=>False) I5 (f4 fr5) st5 go;rw[AX] at this;refine thn this  ?_;rintro r s6 ⟨u,hr,h6⟩;subst hr;refine thn h6  ?_;rintro _ s7 ⟨x,H7,I7,r7,y7,st7,fr7⟩;have I7':=I7.pinned (f4 fr7) (T.obj _ _ st7);have a7:=hg' _ s7 σ5 H7 x u _ I7' r7 (step x H7 y7);rw[pX,wX,AX,xX] at a7;refine thn a7  ?_;rintro _ s8 ⟨σ8,H8,I8,q8⟩;have t8:=ht' _ s8 σ8 H8 _ I8 q8;rw[pX,wX,AX,xX] at t8;refine thn t8  ?_;rintro ok s9 ⟨H9,I9,q9⟩
   have again:∀ {s':Shared} {σ':St} {H':Hp},Inv X' ([]++zaM fp s7.heap) σ' H' s'->Nx σ' H'->∃m,m<n/\∃i σ' H',Inv X' [] σ' H' s'/\tn i s'.heap/\(∀b∈fp,H' b=none)/\W i m σ' H':=fun {s' σ' H'} J' n'=>by obtain⟨m',hm,w'⟩:=hN σ' H' n';refine⟨m',hm,i+1,σ',H',J'.unpinned,T.keep _ _ _ st7 fun b hb o e=>(J'.pin (b,o) (au _ (au _ (z5 hb e)))).1,fun b hb=>?_,w'⟩;obtain⟨o,e,d⟩:=T.obj _ _ st7 b hb;exact (J'.pin (b,o) (au _ (au _ (z5 hb e)))).2.1
   cases ok with
   | false=>exact again I9 q9
   | true=>
    have e9:=hk' _ s9 σ8 H9 _ I9 q9;rw[pX,wX,AX,xX] at e9;refine thn e9  ?_;rintro u2 s10 ⟨y,H10,I10,r10,q10⟩;have e10:=hv' _ s10 σ8 H10 _ I10 q10;rw[pX,wX,AX,xX] at e10;refine thn e10  ?_;rintro u3 s11 ⟨v,H11,I11,r11,H12,dp,nx⟩;have m10:=zeg (X:=X') (A:=X.A) (E:=fun _ _=>False) (Q:=fun _ s'=>∃m,m<n/\∃i σ' H',Inv X' [] σ' H' s'/\tn i s'.heap/\(∀b∈fp,H' b=none)/\W i m σ' H') hu I11 dp r10 r11 fun s' I'=>again I' nx;rw[pX,wX] at m10;exact m10
 have l0:=loop _ rfl;rw[eX] at l0;exact y8 l0 (T.self X.A 0 _ _ _ st4 l0)
theorem zeO {X:Cx}{pos:Pos}{tk tv:TE}{ke ve tg iter:Expr}{ifs:List Expr}{scope:Scope}{wi:TI}{g:TG}{ti:TT}{N:List Str}{z:Str}{cix:List (Option Nat)}{o0:HO}(ho0:o0 = .dK []\/o0 = .dT [])(hu:X.A.units+1<cLine)(hc:X.calm=true)(c:CompOkC X scope N z cix)
  (hi:QI X tg iter wi) (hg:∀C D s H ex,QG (zT X scope N z C D s H ex) tg g) (ht:∀C D s H ex,QTs (zT X scope N z C D s H ex) ifs ti) (hk:∀C D s H ex,QE (zT X scope N z C D s H ex) ke tk) (hv:∀C D s H ex,QE (zT X scope N z C D s H ex) ve tv)
  (hs:∀x,foldedSetIterable iter X.env x=pure x:=by intro _;rfl):QE X (.DictComp ke ve [⟨tg,iter,ifs,0⟩] scope pos) (zeX o0 wi g ti tk tv cix):=
 ⟨zeK ho0 hu hc c hi.run (fun C D s H ex=>(hg C D s H ex).run) (fun C D s H ex=>(ht C D s H ex).run) (fun C D s H ex=>(hk C D s H ex).run) (fun C D s H ex=>(hv C D s H ex).run) hs⟩
end L2
namespace L3
open PySem PySem.Spec L2
section
variable {X:Cx}{Pn:Option zq}{M S:List Nat}{fr fr':Bool}{e a b c:Expr}{es:List Expr}{f fa fb fc:Ev->Mo W}{pos p:Pos}
theorem zrs {scope:Scope}{N:List Str}{z:Str}{fr:Bool}(h:∀C D s H ex,JE (zT X scope N z C D s H ex) Pn M fr e f):∃te,(∀C D s H ex,QE (zT X scope N z C D s H ex) e te)/\RE Pn M fr te f:=
 ⟨fun σ H Q=>∀C D s H0 ex,(h C D s H0 ex).ex.choose σ H Q,fun C D s H0 ex=>⟨fun pins s' σ H Q I zz=>(h C D s H0 ex).ex.choose_spec.1.run pins s' σ H Q I (zz C D s H0 ex)⟩,
  ⟨fun A σ H ρ n Q R E P hf k C D s H0 ex=>(h C D s H0 ex).ex.choose_spec.2.run A σ H ρ n Q R E P hf k⟩⟩
theorem zru {scope:Scope}{N:List Str}{z:Str}{ft:Ev->Mo Bool}(h:∀C D s H ex,JTs (zT X scope N z C D s H ex) Pn M es ft):∃te,(∀C D s H ex,QTs (zT X scope N z C D s H ex) es te)/\RT Pn M te ft:=
 ⟨fun σ H Q=>∀C D s H0 ex,(h C D s H0 ex).ex.choose σ H Q,fun C D s H0 ex=>⟨fun pins s' σ H Q I zz=>(h C D s H0 ex).ex.choose_spec.1.run pins s' σ H Q I (zz C D s H0 ex)⟩,
  ⟨fun A σ H ρ n Q R E P hf k C D s H0 ex=>(h C D s H0 ex).ex.choose_spec.2.run A σ H ρ n Q R E P hf k⟩⟩
theorem zrt {scope:Scope}{N:List Str}{z:Str}{mg:W->Ev->(Ev->Prop)->Prop}(h:∀C D s H ex,JG (zT X scope N z C D s H ex) S M e mg):∃g,(∀C D s H ex,QG (zT X scope N z C D s H ex) e g)/\RG S M g mg:=
 ⟨fun v σ H Q=>∀C D s H0 ex,(h C D s H0 ex).ex.choose v σ H Q,fun C D s H0 ex=>⟨fun pins s' σ H v u Q I rv zz=>(h C D s H0 ex).ex.choose_spec.1.run pins s' σ H v u Q I rv (zz C D s H0 ex)⟩,
  ⟨fun A σ H ρ v w Q R E hv hf k C D s H0 ex=>(h C D s H0 ex).ex.choose_spec.2.run A σ H ρ v w Q R E hv hf k⟩⟩
theorem zrr {scope:Scope}{N:List Str}{z:Str}(h:∀C D s H ex,JB (zT X scope N z C D s H ex) Pn M e f):∃te,(∀C D s H ex,QE (zT X scope N z C D s H ex) e te)/\RB Pn M te f:=
 ⟨fun σ H Q=>∀C D s H0 ex,(h C D s H0 ex).ex.choose σ H Q,fun C D s H0 ex=>⟨fun pins s' σ H Q I zz=>(h C D s H0 ex).ex.choose_spec.1.run pins s' σ H Q I (zz C D s H0 ex)⟩,
  ⟨fun A σ H ρ n Q R E P hf k C D s H0 ex=>(h C D s H0 ex).ex.choose_spec.2.run A σ H ρ n Q R E P hf k⟩⟩
theorem zii {ke ve tg iter:Expr}{ifs:List Expr}{scope:Scope}{N:List Str}{z:Str}{cix:List (Option Nat)}{fi:Ev->Mo (List W)}{mg:W->Ev->(Ev->Prop)->Prop}{ft:Ev->Mo Bool}{fk fv:Ev->Mo W}{ow:Bool}(hu:X.A.units+1<cLine)(hc:X.calm=true)(cc:CompOkC X scope N z cix)
  (hi:JI X Pn M ow tg iter fi) (hg:∀C D s H ex,JG (zT X scope N z C D s H ex) (yO M cix) (yO M cix) tg mg) (ht:∀C D s H ex,JTs (zT X scope N z C D s H ex) Pn (yO M cix) ifs ft) (hk:∀C D s H ex,JB (zT X scope N z C D s H ex) Pn (yO M cix) ke fk) (he:∀C D s H ex,JE (zT X scope N z C D s H ex) Pn (yO M cix) fr' ve fv)
  (hn:(cix.filterMap id).Nodup:=by decide) (hs:∀x,foldedSetIterable iter X.env x=pure x:=by intro _;rfl):JE X Pn M true (.DictComp ke ve [⟨tg,iter,ifs,0⟩] scope pos) (zfA fi mg ft fk fv cix):=by
 obtain⟨ti,qi,ri⟩:=hi.ex;obtain⟨g,qg,rg⟩:=zrt hg;obtain⟨tt,qt,rt⟩:=zru ht;obtain⟨tk,qk,rk⟩:=zrr hk;obtain⟨te,qe,re⟩:=zrs he;exact⟨_,zeO (o0:=.dK []) (by simp) hu hc cc qi qg qt qk qe hs,zeP hn ri rg rt rk re⟩
end
open PySem PySem.Spec L2
theorem zic {G:Hp}:∀ {bs:List Bool} {xs:List V},IsL G (bs.map .bl) xs->xs=bs.map V.bl
 | [],_,h=>h
 | b::bs,xs,h=>by obtain⟨x,r,rfl,h1,h2⟩:=h;have e:x = .bl b:=h1;rw[e,zic h2];rfl
theorem zh4 {b:Bool}:∀bs:List Bool,inV (.bl b) (bs.map V.bl)=bs.contains b
 | []=>rfl
 | c::bs=>by have:=zh4 (b:=b) bs;unfold inV at this ⊢;rw[ao,ci,this,List.contains_cons];cases b <;> cases c <;> rfl
theorem zf9:∀bs:List Bool,(bs.map V.bl).all zcD=true
 | []=>rfl
 | _::bs=>by rw[ao,cC,zf9 bs];rfl
section
variable {Pn:Option zq}{K:PySem.W.Frag}
@[reducible] def dInB:W->W->Mo W:=fun x y n Q=>onB x fun b=>onL y fun l=>∃bs:List Bool,l=bs.map .bl/\Q (.d (.bl (bs.contains b))) n
theorem zrn:F2 Pn false (rIn K false) dInB:=⟨fun A H x y wx wy n Q R al bx byy P h k=>by simp only[dInB,ziZ,xu] at h;obtain⟨b,rfl,l,rfl,bs,rfl,h⟩:=h;obtain⟨a,xs,rfl,ha,hl⟩:=yJ byy;obtain rfl:=zic hl;have e:x = .bl b:=bx;subst e;exact⟨a,_,rfl,.inl (.of ha),rfl,zf9 bs,k _ n _ H h (Val.of (by rw[zh4];rfl)) (Go.refl P) fun z=>by cases z⟩⟩
end
end L3
namespace L2
open PySem PySem.Spec PyProof.Rows PySem.W PySem.Calls
section
variable {prog:Program}{w:World}{A:Around}{E:Value->Shared->Prop}{s:Shared}
end
section
variable {X:Cx}
end
end L2
namespace L3
open PySem PySem.Spec L2
section
variable {X:Cx}{Pn:Option zq}{M S:List Nat}{fr fr':Bool}{pos p:Pos}{e:Expr}{f:Ev->Mo W}
@[reducible] def dSAdd (P:Program) (w:World) (i:Nat) (f:Ev->Mo W):Ms:=fun ρ n k=>onV ρ i fun v=>∃ks,v = .ss P w ks/\f ρ n fun x m=>∃st:List Int,x = .d (stD st)/\ks.length<300/\
 ∀ks':List (List Int),(∀y,y∈ks'↔y=st\/y∈ks)->ks'.length<=ks.length+1->ks'.Nodup->onP ρ i (.ss P w ks') fun ρ'=>k.nx ρ' m
@[reducible] def dSortS (P:Program) (w:World):List W->Mo W:=fun ws n Q=>on1 ws fun x=>∃ (ks:List (List Int)) (m:Nat),x = .ss P w ks/\ks.length<64/\1<=m/\(∀st∈ks,st.length=m)/\∀sts':List (List Int),sts'.Perm ks->(sts'.Pairwise fun a b=>HT.lexLt a b=true)->Q (.d (zbp sts')) n
end
open PySem PySem.Spec L2
theorem zla {α:Type}{p:List α->Prop}(h0:p [])(hs:∀l x,p l->p (l++[x]))(l:List α):p l:=by
 have h:∀l:List α,p l.reverse:=fun l=>by
  induction l with
  | nil=>exact h0
  | cons x l ih=>rw[c4];exact hs _ _ ih
 have:=h l.reverse;rwa[List.reverse_reverse] at this
theorem zby {α:Type}(a b:List α)(i:Nat)(d:α)(h:i<a.length):(a++b).getD i d=a.getD i d:=by rw[aE,aE,a6 h]
theorem zkD:∀ {cs:List (List Int)} {st:List Int},st∈uY cs↔st.length=cs.length/\∀i,i<cs.length->st.getD i 0∈cs.getD i []:=by
 intro cs;refine zla (p:=fun cs=>∀ {st:List Int},st∈uY cs↔st.length=cs.length/\∀i,i<cs.length->st.getD i 0∈cs.getD i []) ?_ ?_ cs
 ·intro st;simp[uY,List.length_eq_zero_iff]
 ·intro cs c ih st;rw[x5];unfold uy;rw[eZ];constructor
  ·rintro⟨r,hr,h⟩;obtain⟨w,hw,rfl⟩:=aF.mp h;obtain⟨h1,h2⟩:=ih.mp hr;refine⟨by simp[h1],fun i hi=>?_⟩;simp at hi;by_cases e:i=cs.length
   ·subst e;have:(r++[w]).getD cs.length 0=w:=by simp[<- h1]
    rw[this];simpa using hw
   ·have hlt:i<cs.length:=by omega
    have e1:(r++[w]).getD i 0=r.getD i 0:=by rw[zby _ _ _ _ (by omega)]
    have e2:(cs++[c]).getD i []=cs.getD i []:=by rw[zby _ _ _ _ hlt]
    rw[e1,e2];exact h2 i hlt
  ·rintro⟨h1,h2⟩;simp at h1;have hne:st≠[]:=fun z=>by rw[z] at h1;simp at h1
   have hd:=bu hne;have hdl:st.dropLast.length=cs.length:=by simp[h1]
   refine⟨st.dropLast,ih.mpr ⟨hdl,fun i hi=>?_⟩,aF.mpr ⟨st.getLast hne,?_,hd⟩⟩
   ·have:=h2 i (by simp;omega);rw[zby _ _ _ _ hi] at this;rw[<- hd,zby _ _ _ _ (by omega)] at this;exact this
   ·have:=h2 cs.length (by simp);rw[<- hd] at this;have e:(st.dropLast++[st.getLast hne]).getD cs.length 0=st.getLast hne:=by simp[<- hdl]
    rw[e] at this;simpa using this
theorem zlM {P:Bool->Prop}{a:Dt}(h:a.eqOk)(q:P true):a.eqOk/\a.eqOk/\∀r:Bool,(r=true↔a=a)->P r:=⟨h,h,fun r hr=>by rw[hr.mpr rfl];exact q⟩
def IsP (Pn:Option zq)(p:Addr):Prop:=∃c ns,Pn=some (p,c,ns)
theorem dc {Pn:Option zq}{p:Addr}{ya:Int}{n:Nat}{Q:W->Nat->Prop}(hP:IsP Pn p)(h:∀r,0<=r->r<ya->Q (.d (.int r)) (n+1))(hn:n<=1000000:=by lia)(h1:1<=ya:=by lia)(h2:ya<1073741824:=by lia):zhc Pn [.pen p,.d (.int ya)] n Q:=let ⟨c,ns,e⟩:=hP;⟨p,c,ns,ya,e,rfl,hn,h1,h2,h⟩
theorem tc {Pn:Option zq}{p:Addr}{l:List Dt}{n:Nat}{Q:W->Nat->Prop}(hP:IsP Pn p)(h:∀l':List Dt,l'.Perm l->Q (.d (.lst l')) (n+l.length))(hn:n+l.length<=1000000:=by lia)(h1:l.length<=100000:=by lia):zhd Pn [.pen p,.d (.lst l)] n Q:=let ⟨c,ns,e⟩:=hP;⟨p,c,ns,l,e,rfl,hn,h1,h⟩
theorem zjs {rs:List Int}{a L most:Int}(hb:∀r∈rs,2<=r/\r<=4)(ha:2<=a/\a<=4)(hL:yw rs * L<=most)(h:a<=L):yw (rs++[a]) * (L / a)<=most/\1<=L / a/\L / a<=L:=by
 have h1:1<=L / a:=(Int.le_ediv_iff_mul_le (by lia)).mpr (by lia);have h2:a * (L / a)<=L:=Int.mul_ediv_self_le (by lia);have h3:0<=yw rs:=by have:=zaN (ns:=rs) (fun r hr=>by have:=hb r hr;lia);lia
 refine⟨?_,h1,?_⟩
 ·rw[uf,Int.mul_assoc];exact Int.le_trans (cT h2 h3) hL
 ·exact Int.ediv_le_self _ (by lia)
theorem zmr {α:Type}(f:α->Dt)(d:α)(l:List α):enW 0 (l.map f)=(List.range l.length).map fun i:Nat=>W.d (.tup [.int (i:Int),f (l.getD i d)]):=by
 apply dz;intro i;rw[zdo,aC,aC];by_cases h:i<l.length
 ·rw[aj h,dh h];simp[h]
 ·rw[bw (by lia),bw (by rw[am];lia)];rfl
theorem zhM (sts:List (List Int)):enW 0 (sts.map stD)=(List.range sts.length).map fun k:Nat=>W.d (.tup [.int (k:Int),stD (sts.getD k [])]):=zmr stD [] sts
theorem xz {k:Nat}:(zgx k).length=k:=by unfold zgx;rw[aa,am]
theorem zn7 {k:Nat}:zgx k=(zp (k:Int)).map Dt.int:=by unfold zgx zp;rw[az,aL];rfl
theorem zdM {α:Type}{f:α->Dt}{l:List Dt}{xs:List α}(h:l.Perm (xs.map f)):∃ys:List α,l=ys.map f/\ys.Perm xs:=by
 generalize hz:xs.map f=zs at h
 induction h generalizing xs with
 | nil=>exact⟨[],rfl,by rw[List.map_eq_nil_iff.mp hz]⟩
 | @cons x l1 l2 _ ih=>
  match xs,hz with
  | y::r,hz=>
   rw[ao] at hz;obtain⟨h1,h2⟩:=eW hz;obtain⟨ys,e,q⟩:=ih h2;exact⟨y::ys,by rw[ao,h1,e],q.cons y⟩
 | swap x y l=>
  match xs,hz with
  | a::b::r,hz=>
   rw[ao,ao] at hz;obtain⟨h1,h2⟩:=eW hz;obtain⟨h3,h4⟩:=eW h2;exact⟨b::a::r,by rw[ao,ao,h1,h3,h4],.swap ..⟩
 | trans _ _ ih1 ih2=>
  obtain⟨ys,e,q⟩:=ih2 hz;obtain⟨zs,e2,q2⟩:=ih1 e.symm;exact⟨zs,e2,q2.trans q⟩
theorem zdN {l:List Dt}{k:Nat}(h:l.Perm (zgx k)):∃bs:List Int,l=bs.map Dt.int/\bs.Perm (zp (k:Int)):=by rw[zn7] at h;exact zdM h
theorem xD {m b:Int}:b∈zp m↔0<=b/\b<m:=by
 unfold zp;rw[aF];constructor
 ·rintro⟨k,hk,rfl⟩;have:=aQ.mp hk;lia
 ·rintro⟨h0,h1⟩;exact⟨b.toNat,aQ.mpr (by lia),by lia⟩
theorem uh (m:Int):(zp m).Nodup:=by unfold zp List.Nodup;rw[cM];exact List.pairwise_lt_range.imp fun h=>by lia
theorem zgT {α β:Type}{G:Prop}(C:α->β->Prop)(P:α->β->Prop)(h:(∀a b,C a b->P a b)->G)(r:∀a b,C a b->P a b):G:=h r
theorem zon {bs:List Int}(h:bs.Nodup){i:Nat}(hi:i<bs.length):bs.getD i 0∉bs.take i:=fun z=>by
 obtain⟨j,hj,e⟩:=bq.mp z;rw[aJ] at hj;rw[dB] at e;have:bs.getD i 0=bs[i]:=by simp[hi]
 rw[this] at e;have:=(bV h).mp e;lia
theorem zat {bs:List Int}{i:Nat}(hi:i<bs.length):bs.getD i 0∈bs:=by
 have:bs.getD i 0=bs[i]:=by simp[hi]
 rw[this];exact bh hi
theorem zhB {α:Type}(l:List α)(lo hi:Option Int):(xV l lo hi).Sublist l:=(c3 _ _).trans (List.drop_sublist _ _)
theorem zbQ {α:Type}(l:List α):xV l (some 1) none=l.drop 1:=by
 unfold xV
 have h1:HT.sIx l.length 0 (some 1)=min 1 l.length:=by unfold HT.sIx;simp;try lia
 have h2:HT.sIx l.length l.length none=l.length:=rfl;rw[h1,h2,bK (by rw[bf];lia)]
 cases l with
 | nil=>rfl
 | cons a l=>simp
theorem zjQ:∀ (l k:List Dt) (i:Nat),(ziW l k)[i]?=(l[i]?).bind fun x=>(k[i]?).map fun y=>W.d (.tup [x,y])
 | [],k,i=>by simp[ziW]
 | x::r,[],i=>by simp only[ziW,List.getElem?_nil,Option.map_none];cases (x::r)[i]? <;> rfl
 | x::r,y::s,0=>rfl
 | x::r,y::s,i+1=>by rw[ziW,bH,bH,bH];exact zjQ r s i
theorem zlo (ss:List (List Int)):ziW (ss.map stD) (xV (ss.map stD) (some 1) none)=(List.range (ss.length - 1)).map fun i:Nat=>W.d (.tup [stD (ss.getD i []),stD (ss.getD (i+1) [])]):=by
 rw[zbQ];apply dz;intro i;rw[zjQ,dv,aC,aC,aC];by_cases h:i<ss.length - 1
 ·rw[dh h,aj (show i<ss.length by lia),aj (show 1+i<ss.length by lia)];have e1:ss.getD i []=ss[i]:=by simp[show i<ss.length by lia]
  have e2:ss.getD (i+1) []=ss[1+i]:=by simp[show i+1<ss.length by lia,eF]
  rw[eA,eA,eA,e1,e2];rfl
 ·rw[show (List.range (ss.length - 1))[i]?=none from bw (by rw[am];lia),show ss[1+i]?=none from bw (by lia)];cases ss[i]? <;> rfl
theorem zgk {κ:Type}[DecidableEq κ](kvs:List (κ×Dt))(k z:κ)(d:Dt):xN (zgu kvs k d) z=if z=k then some d else xN kvs z:=by
 unfold zgu;by_cases ha:(kvs.any fun kv=>decide (kv.1=k))=true
 ·rw[if_pos ha];unfold xN
  induction kvs with
  | nil=>simp at ha
  | cons q r ih=>
   rw[ao,bA,bA];by_cases e:q.1=k
   ·rw[if_pos e];by_cases ez:z=k
    ·subst ez;simp[e]
    ·have h1:¬ q.1=z:=fun w=>ez (w.symm.trans e);rw[if_neg ez];simp only[h1,decide_false];by_cases hr:(r.any fun kv=>decide (kv.1=k))=true
     ·have:=ih hr;rw[if_neg ez] at this;exact this
     ·congr 2;refine (cv fun p hp=>?_).trans (List.map_id _);have:¬ p.1=k:=fun w=>hr (df.mpr ⟨p,hp,aR w⟩);rw[if_neg this];rfl
   ·rw[if_neg e]
    have hr:(r.any fun kv=>decide (kv.1=k))=true:=by rw[ci,aN e] at ha;exact ha
    have ih:=ih hr;by_cases h1:q.1=z
    ·have:¬ z=k:=fun w=>e (h1.trans w);rw[if_neg this];simp[h1]
    ·simp only[h1,decide_false];exact ih
 ·rw[if_neg ha];unfold xN;rw[List.find?_append];by_cases ez:z=k
  ·subst ez;have:kvs.find? (fun q=>decide (q.1=z))=none:=List.find?_eq_none.mpr fun p hp w=>ha (df.mpr ⟨p,hp,w⟩);rw[this];simp
  ·have:¬ k=z:=fun w=>ez w.symm;rw[if_neg ez];simp[this]
theorem zoh {rm st:List Int}(h:StOk rm st):st∈uY (rm.map zp):=by
 rw[zkD];have hl:=h.len;refine⟨by rw[aa];exact hl,fun i hi=>?_⟩;rw[aa] at hi;have e:(rm.map zp).getD i []=zp (rm.getD i 0):=by simp[hi]
 rw[e,xD];have:=h.box (i:Int) (by lia) (by lia);rw[yc,yc] at this;exact this
theorem zfD {l:List (List Int)}{st:List Int}:(Dt.tup (st.map Dt.int)∈l.map stD)↔st∈l:=by
 constructor
 ·intro z;obtain⟨s,hs,e⟩:=aF.mp z;have:s=st:=List.map_inj_right (fun a b h=>Dt.int.inj h) |>.mp (Dt.tup.inj e);rw[<- this];exact hs
 ·exact fun z=>aF.mpr ⟨_,z,rfl⟩
theorem zld {rm st:List Int}{b x:Int}(h:StOk rm st)(b0:0<=b)(b1:b<rm.length)(x0:0<=x)(x1:x<ya rm b):StOk rm (chg st b x):=by
 have hl:=h.len;refine⟨by rw[xU b0 (by lia)];exact hl,fun c c0 c1=>?_⟩;rw[yo b0 (by lia) c0];split
 ·rename_i e;subst e;exact⟨x0,x1⟩
 ·exact h.box c c0 c1
theorem zoS {rm:List Int}{bk:List Wi}(h:y6 rm bk):(Dt.lst (bk.map yg)).eqOk:=(zfh (rm:=rm) fun d hd=>by obtain⟨x,hx,rfl⟩:=aF.mp hd;exact⟨x,rfl,h x hx⟩).2
theorem zoo {rm:List Int}{x:Wi}(h:WishOk rm x):WishOk rm (zrj x):=⟨h.giv,h.b0,h.b1,h.apart,h.w0,h.w1,h.r0,h.r1,Ne.symm h.ne⟩
theorem zmk {rm:List Int}{x:Wi}(h:WishOk rm x){lo hi:Option Int}:WishOk rm { x with g:=xV x.g lo hi }:=by have s:=zhB x.g lo hi;exact⟨⟨fun q hq=>h.giv.ok q (s.subset hq),h.giv.up.sublist s⟩,h.b0,h.b1,fun q hq=>h.apart q (s.subset hq),h.r0,h.r1,h.w0,h.w1,h.ne⟩
end L3
namespace L3
theorem zbT {α β:Type}(f:α->β):∀ (l:List α) (i:Nat),(l.eraseIdx i).map f=(l.map f).eraseIdx i
 | [],_=>rfl
 | _::_,0=>rfl
 | x::l,i+1=>by simp[zbT f l i]
open PySem PySem.Spec L2
def lpE (bk:List Wi)(box:Int)(st:List Int):List (Int×Int):=(lpF bk box st).map fun r=>(r.getD 0 0,r.getD 1 0)
theorem zpC {bk:List Wi}{box:Int}{st:List Int}:(lpF bk box st).map stD=(lpE bk box st).map yb:=by
 unfold lpE;rw[az];refine cv fun r hr=>?_;have:=zpG r hr
 match r,this with
 | [a,b],_=>rfl
theorem zlH {rm:List Int}{bk:List Wi}{box:Int}{st:List Int}(hB:y6 rm bk):∀q∈lpE bk box st,0<=q.1/\q.1<ya rm box/\0<=q.2/\q.2<ya rm box/\q.1≠q.2:=fun q hq=>by obtain⟨r,hr,rfl⟩:=aF.mp hq;obtain⟨x,hx,h2,h3,rfl⟩:=yW.mp (y4.mp hr);have o:=hB x hx;subst h2;exact⟨o.w0,o.w1,o.r0,o.r1,Ne.symm o.ne⟩
theorem zfz {rm:List Int}{bk:List Wi}{box:Int}{st:List Int}(hR:RoomOk rm)(hB:y6 rm bk):(lpE bk box st).length<=16:=by unfold lpE;rw[aa];exact zpE hB hR.box
theorem zmW {rm:List Int}{bk:List Wi}{box w:Int}{st:List Int}(hB:y6 rm bk)(hl:st.length=rm.length):lpE bk box (chg st box w)=lpE bk box st:=by unfold lpE;rw[zlI hB hl]
def ze4 (E:List (Int×Int))(h:Int):List Int:=(E.filter fun q=>decide (q.1=h)).map (·.2)
theorem zkE {E:List (Int×Int)}{h b:Int}:b∈ze4 E h↔(h,b)∈E:=by
 unfold ze4;rw[aF];constructor
 ·rintro⟨q,hq,rfl⟩;obtain⟨h1,h2⟩:=aV.mp hq;have:=bC h2;subst this;exact h1
 ·intro h1;exact⟨(h,b),aV.mpr ⟨h1,aR rfl⟩,rfl⟩
theorem zle (E:List (Int×Int))(h:Int):(ze4 E h).length<=E.length:=by unfold ze4;rw[aa];exact cE _ _
def PF (E:List (Int×Int))(D:Int->Prop):Prop:=∀a,D a->∃b,D b/\(a,b)∈E
def Cyc (E:List (Int×Int)):Prop:=∃D a,PF E D/\D a
structure IsRd (E:List (Int×Int))(row:List Int):Prop where
 ne:row≠[]
 nd:row.Nodup
 next:∀i,i+1<row.length->(row.getD i 0,row.getD (i+1) 0)∈E
 back:(row.getD (row.length - 1) 0,row.getD 0 0)∈E
def inF (E:List (Int×Int))(lf:List Int)(h:Int):List Int:=(ze4 E h).filter fun b=>lf.contains b
def onF (E:List (Int×Int))(lf:List Int):List Int:=lf.filter fun h=>!(inF E lf h).isEmpty
theorem zdC {E:List (Int×Int)}{lf:List Int}{h b:Int}:b∈inF E lf h↔(h,b)∈E/\b∈lf:=by unfold inF;rw[aV,zkE,bz]
theorem ziK {E:List (Int×Int)}{lf:List Int}{h:Int}:h∈onF E lf↔h∈lf/\∃b,b∈lf/\(h,b)∈E:=by
 unfold onF;rw[aV];constructor
 ·rintro⟨h1,h2⟩;refine⟨h1,?_⟩
  cases e:inF E lf h with
  | nil=>rw[e] at h2;cases h2
  | cons b r=>
   have:=zdC.mp (show b∈inF E lf h by rw[e];exact ah);exact⟨b,this.2,this.1⟩
 ·rintro⟨h1,b,h2,h3⟩;refine⟨h1,?_⟩;have:=zdC.mpr ⟨h3,h2⟩
  cases e:inF E lf h with
  | nil=>rw[e] at this;cases this
  | cons b r=>rfl
theorem zpU {E:List (Int×Int)}{lf:List Int}{D:Int->Prop}(h:PF E D)(hs:∀a,D a->a∈lf):∀a,D a->a∈onF E lf:=fun a ha=>by obtain⟨b,h1,h2⟩:=h a ha;exact ziK.mpr ⟨hs a ha,b,hs b h1,h2⟩
theorem znd {E:List (Int×Int)}{lf:List Int}(h:lf.length<=(onF E lf).length):∀a∈lf,∃b,b∈lf/\(a,b)∈E:=fun a ha=>by have:onF E lf=lf:=cY cQ h;rw[<- this] at ha;exact (ziK.mp ha).2
def ldK (l:List Int)(f:Int->List Int):List (Key×Dt):=l.map fun h=>((Sum.inl h:Key),lsD (f h))
theorem zgj {l:List Int}{f:Int->List Int}:(ldK l f).map (·.1)=l.map Sum.inl:=by unfold ldK;rw[az];rfl
theorem zaA {f:Int->List Int}{h:Int}:∀ {l:List Int},h∈l->xN (ldK l f) (Sum.inl h)=some (lsD (f h))
 | x::l,hh=>by
  unfold ldK xN;rw[ao,bA];by_cases e:x=h
  ·subst e;simp
  ·have:decide (((Sum.inl x:Key),lsD (f x)).1=(Sum.inl h:Key))=false:=aN fun z=>e (Sum.inl.inj z);rw[this];have:=zaA (f:=f) (h:=h) (l:=l) ((aG.mp hh).resolve_left fun z=>e z.symm);unfold ldK xN at this;exact this
theorem zmT {l:List Int}{f:Int->List Int}:(ldK l f).length=l.length:=by unfold ldK;rw[aa]
theorem zff {l:List W}{ρ0:Ev}{n:Nat}{mg:W->Ev->(Ev->Prop)->Prop}{ft:Ev->Mo Bool}{fk fv:Ev->Mo W}{Q:W->Nat->Prop}(xs:List Int)(hl:l=xs.map fun i=>W.d (.int i))(J:Ev->Prop)(P:Int->Bool)(E:Int->Dt)(hN:xs.Nodup)(hlim:xs.length<=lim)(j0:J ρ0)
  (h:∀a∈xs,∀ ρ',J ρ'->∀C:Ev->Nat->Option (Int×Dt)->Prop,(∀ {ρ1},P a=true->J ρ1->C ρ1 n (some (a,E a)))->(∀ {ρ1},P a=false->J ρ1->C ρ1 n none)->mg (.d (.int a)) ρ' fun ρ1=>ft ρ1 n fun b n2=>onC b (fk ρ1 n2 fun y n3=>fv ρ1 n3 fun x n4=>onI y fun j=>onD x fun d=>C ρ1 n4 (some (j,d))) (C ρ1 n2 none))
  (fin:Q (.dk ((xs.filter P).map fun a=>((Sum.inl a:Key),E a))) n):zlx mg ft fk fv ρ0 Q l n:=by
 subst hl;refine⟨by rw[aa];exact hlim,fun i ρ' n' acc=>J ρ'/\n'=n/\acc=((xs.take i).filter P).map fun a=>((Sum.inl a:Key),E a),⟨j0,rfl,rfl⟩,?_,?_⟩
 ·rintro i w ρ' n' acc hw ⟨hj,rfl,rfl⟩;rw[aC] at hw;obtain⟨a,ha,rfl⟩:=aH.mp hw
  have:=h a (aI ha) ρ' hj (fun ρ1 n4 o=>match o with
   | some q=>J ρ1/\n4=n'/\zgu (((xs.take i).filter P).map fun a=>((Sum.inl a:Key),E a)) (Sum.inl q.1) q.2=((xs.take (i+1)).filter P).map fun a=>((Sum.inl a:Key),E a)
   | none=>J ρ1/\n4=n'/\(((xs.take i).filter P).map fun a=>((Sum.inl a:Key),E a))=((xs.take (i+1)).filter P).map fun a=>((Sum.inl a:Key),E a)) (fun {ρ1} hp hj1=>by
    refine⟨hj1,rfl,?_⟩;have hi:=(ae.mp ha).1
    have hn:((((xs.take i).filter P).map fun a=>((Sum.inl a:Key),E a)).any fun kv=>decide (kv.1=(Sum.inl a:Key)))=false:=by rw[List.any_eq_false];intro kv hkv z;obtain⟨b,hb,rfl⟩:=aF.mp hkv;have e:b=a:=Sum.inl.inj (bC z);subst e;obtain⟨j,hj,e2⟩:=bq.mp (aV.mp hb).1;rw[aJ] at hj;rw[dB] at e2;have e3:=(ae.mp ha).2;rw[<- e3] at e2;have:=(bV hN).mp e2;lia
    unfold zgu;rw[hn,if_neg (by decide),zr ha,ce,aB]
    simp[hp]) (fun {ρ1} hp hj1=>by
    refine⟨hj1,rfl,?_⟩;rw[zr ha,ce,aB];simp[hp])
  simp only[zaH,xt,xR] at this;refine (congrArg (mg (W.d (.int a)) ρ') ?_).mp this;funext ρ1;congr 1;funext b n2
  cases b with
  | false=>rfl
  | true=>
   simp only[if_true];congr 1;funext y n3;congr 1;funext x n4;exact propext ⟨by rintro⟨j,e1,d,e2,h⟩;exact⟨j,d,e1,e2,h⟩,by rintro⟨j,d,e1,e2,h⟩;exact⟨j,e1,d,e2,h⟩⟩
 ·rintro ρ' n' acc ⟨_,rfl,rfl⟩;rw[aa,bn];exact fin
theorem zhz {α:Type}(l:List α)(k:Nat):xV l (some (k:Int)) none=l.drop k:=by
 unfold xV
 have h1:HT.sIx l.length 0 (some (k:Int))=min k l.length:=by unfold HT.sIx;simp;try lia
 have h2:HT.sIx l.length l.length none=l.length:=rfl;rw[h1,h2,bK (by rw[bf];lia)];by_cases h:k<=l.length
 ·rw[ei h]
 ·rw[dM (by lia),cU (ag _),cU (by lia)]
theorem uV {l:List Int}{j i:Nat}:(l.drop j).getD i 0=l.getD (j+i) 0:=by rw[aE,aE,dv]
theorem ub {l:List Int}{h:Int}{i:Nat}(hi:i<l.length):(l++[h]).getD i 0=l.getD i 0:=by rw[aE,aE,a6 hi]
theorem zbV {l:List Int}{h:Int}:(l++[h]).getD l.length 0=h:=by simp
theorem zk4 {E:List (Int×Int)}{rs:List Int}{h:Int}(hN:rs.Nodup)(hh:h∈rs)(hc:∀i,i<rs.length->((rs++[h]).getD i 0,(rs++[h]).getD (i+1) 0)∈E):IsRd E (rs.drop (rs.idxOf h)):=by
 have hj:rs.idxOf h<rs.length:=List.idxOf_lt_length_iff.mpr hh
 have hjh:rs.getD (rs.idxOf h) 0=h:=by have:=List.getElem_idxOf hj;simpa [hj] using this
 have hl:(rs.drop (rs.idxOf h)).length=rs.length - rs.idxOf h:=bf;generalize rs.idxOf h=j at hj hjh hl;refine⟨fun z=>by rw[z] at hl;simp at hl;lia,hN.sublist (List.drop_sublist _ _),fun i hi=>?_,?_⟩
 ·rw[hl] at hi;have:=hc (j+i) (by lia);rw[ub (by lia),ub (by lia)] at this;rw[uV,uV];exact this
 ·have:=hc (rs.length - 1) (by lia);rw[ub (by lia),show rs.length - 1+1=rs.length by lia,zbV] at this;rw[hl,uV,uV,Nat.add_zero,hjh,show j+(rs.length - j - 1)=rs.length - 1 by lia];exact this
theorem zhq {st:List Int}{b x y:Int}(b0:0<=b)(b1:b<st.length):chg (chg st b x) b y=chg st b y:=by
 have l1:=xU (w:=x) b0 b1;refine zf8 (by rw[xU b0 (by lia),l1,xU b0 b1]) fun c c0 c1=>?_;rw[yo b0 (by lia) c0,yo (w:=y) b0 b1 c0];split
 ·rfl
 ·rename_i h;rw[yo b0 b1 c0,if_neg h]
theorem zi8 {rm:List Int}{bk:List Wi}{box:Int}{st:List Int}{w b:Nat}(hB:y6 rm bk)(hl:st.length=rm.length)(b0:0<=box)(b1:box<rm.length):chg st box (b:Int)∈zlr bk (chg st box (w:Int)) []↔zce bk box st w b=true:=by
 have hc:(chg st box (w:Int)).length=rm.length:=by rw[xU b0 (by lia)];exact hl
 have:=zpD (one:=chg st box (w:Int)) (wo:=(b:Int)) hB hc b0 b1;rw[zhq b0 (by lia),yo b0 (by lia) b0,if_pos rfl,zlI hB hl] at this;rw[<- this,zcf hB hl b0 b1];unfold lpF;rw[y4,yW];constructor
 ·rintro⟨x,h1,h2,h3,e⟩;injection e with e1 e2;injection e2 with e2 _;exact⟨x,h1,h2,h3,e1.symm,e2.symm⟩
 ·rintro⟨x,h1,h2,h3,e1,e2⟩;exact⟨x,h1,h2,h3,by rw[e1,e2]⟩
theorem zcv (C:Nat->Nat->Bool)(m:Nat):∀i,(zbx C m i).length<=i * m
 | 0=>by simp[zbx]
 | i+1=>by
  have h1:=zcv C m i
  have h2:(zZ C i m).length<=m:=by unfold zZ;rw[aa];have:=cE (C i) (List.range m);rwa[am] at this
  rw[zbx,af,eE];lia
theorem zeY (C:Nat->Nat->Bool)(w j:Nat):(zZ C w j).length<=j:=by unfold zZ;rw[aa];have:=cE (C w) (List.range j);rwa[am] at this
def rot (ss:List Int):List Int:=ss.drop 1++ss.take 1
theorem zjt {ss:List Int}{q:Int×Int}(h:q∈ss.zip (rot ss)):∃i,i<ss.length/\q.1=ss.getD i 0/\q.2=if i+1<ss.length then ss.getD (i+1) 0 else ss.getD 0 0:=by
 obtain⟨i,hi,e⟩:=bq.mp h
 have hl:i<ss.length/\i<(rot ss).length:=by rw[List.length_zip] at hi;lia
 refine⟨i,hl.1,?_,?_⟩
 ·rw[<- e,List.getElem_zip];simp[hl.1]
 ·have e2:q.2=(rot ss)[i]:=by rw[<- e,List.getElem_zip]
  rw[e2];unfold rot;split
  ·rename_i h1;rw[List.getElem_append_left (by rw[bf];lia)];simp[h1,eF]
  ·rename_i h1;have hie:i+1=ss.length:=by lia
   rw[List.getElem_append_right (by rw[bf];lia)];have h0:0<ss.length:=by lia
   simp[h0,show i - (ss.length - 1)=0 by lia]
theorem zqW {ss:List Int}(hN:ss.Nodup)(h2:2<=ss.length){q:Int×Int}(h:q∈ss.zip (rot ss)):q.1∈ss/\q.2∈ss/\q.1≠q.2:=by
 obtain⟨i,hi,e1,e2⟩:=zjt h;have hin:∀j,j<ss.length->ss.getD j 0∈ss:=fun j hj=>zat hj
 have hne:∀j,j<ss.length->i≠j->ss.getD i 0≠ss.getD j 0:=fun j hj hij z=>by
  have a1:ss.getD i 0=ss[i]:=by simp[hi]
  have a2:ss.getD j 0=ss[j]:=by simp[hj]
  rw[a1,a2] at z;exact hij ((bV hN).mp z)
 rw[e1,e2];split
 ·rename_i h1;exact⟨hin i hi,hin _ h1,hne _ h1 (by lia)⟩
 ·rename_i h1;exact⟨hin i hi,hin 0 (by lia),hne 0 (by lia) (by lia)⟩
theorem zqO {E:List (Int×Int)}{row:List Int}(h:IsRd E row){q:Int×Int}(hq:q∈row.zip (rot row)):q∈E:=by
 obtain⟨i,hi,e1,e2⟩:=zjt hq;have:q=(q.1,q.2):=rfl;rw[this,e1,e2];split
 ·rename_i h1;exact h.next i h1
 ·rename_i h1;rw[show i=row.length - 1 by lia];exact h.back
theorem zqN {E:List (Int×Int)}{row:List Int}(h:IsRd E row)(hne:∀q∈E,q.1≠q.2):2<=row.length:=by
 have h0:=eB.mpr h.ne;apply bD;intro z;have h1:row.length=1:=by lia
 have:=h.back;rw[h1] at this;exact hne _ this rfl
theorem zhA {α:Type}(l:List α):xV l none (some 1)=l.take 1:=by have:=L3.uU l 1;exact this
def prn (F:List (Int×Int)):List (Int×Int):=F.filter fun q=>(F.map (·.1)).contains q.2
theorem zqn {F:List (Int×Int)}{D:Int->Prop}(h:PF F D):PF (prn F) D:=fun a ha=>by obtain⟨b,hb,hE⟩:=h a ha;obtain⟨c,_,hE2⟩:=h b hb;exact⟨b,hb,aV.mpr ⟨hE,bz.mpr (aF.mpr ⟨(b,c),hE2,rfl⟩)⟩⟩
theorem znz {F:List (Int×Int)}(h:F.length<=(prn F).length):∀q∈prn F,q.2∈(prn F).map (·.1):=fun q hq=>by have:prn F=F:=cY cQ h;have:=bz.mp (aV.mp hq).2;rw[‹prn F=F›];exact this
theorem zml {E F:List (Int×Int)}(hs:∀q∈F,q∈E)(hpf:∀D,PF E D->PF F D)(hc:∀q∈F,q.2∈F.map (·.1)):F≠[]↔Cyc E:=by
 constructor
 ·intro hne
  cases F with
  | nil=>exact absurd rfl hne
  | cons q r=>
   refine⟨fun a=>a∈(q::r).map (·.1),q.1,fun a ha=>?_,aF.mpr ⟨q,ah,rfl⟩⟩;obtain⟨x,hx,rfl⟩:=aF.mp ha;exact⟨x.2,hc x hx,hs x hx⟩
 ·rintro⟨D,a,hD,ha⟩ z;obtain⟨b,_,hE⟩:=hpf D hD a ha;rw[z] at hE;simp at hE
theorem zhO {q:Int×Int}:(yb q).eqOk:=zaq (ns:=[q.1,q.2])
theorem ziT {α:Type}{l:List α}:(l.map fun _=>false).contains true=false:=by rw[eM];intro h;obtain⟨_,_,e⟩:=aF.mp (bz.mp h);cases e
theorem ziL {E:List (Int×Int)}{q:Int×Int}:yb q∈E.map yb↔q∈E:=by
 constructor
 ·intro h;obtain⟨p,hp,e⟩:=aF.mp h;have e1:=Dt.tup.inj e;injection e1 with a1 a2;injection a2 with a2 _;have:p=q:=Prod.ext (Dt.int.inj a1) (Dt.int.inj a2);rw[<- this];exact hp
 ·exact fun h=>aF.mpr ⟨q,h,rfl⟩
end L3
local macro_rules | `(tactic| walk_at "st")=>`(tactic| ((try (with_reducible conv=>whnf));repeat (with_reducible refine L3.zoU ?_;try (with_reducible conv=>whnf)));try dsimp only)
local macro_rules | `(tactic| walk_at "ct")=>`(tactic| (with_reducible refine L3.zpT ?_ ?_;(first | decide | assumption | rfl));walk_at "st")
local macro_rules | `(tactic| walk_at "cf")=>`(tactic| (with_reducible refine L3.zs1 ?_ ?_;(first | decide | assumption | rfl));walk_at "st")
namespace Law
open PySem L2 L3
def top (i:Nat):Stmt:=PySem.Challenge.pw_allelse_k30_local_rounds_and_tops.main.body.getD i (.Pass ⟨0,0,0,0⟩)
abbrev zc8:Stmt:=top 13
abbrev zcm:Stmt:=top 14
abbrev zcp:Stmt:=top 15
abbrev zco:Stmt:=top 16
abbrev uA:Stmt:=top 17
abbrev zc9:Stmt:=top 19
abbrev zcq:Stmt:=top 20
abbrev uN:Stmt:=top 21
abbrev uM:Stmt:=top 22
abbrev zcn:Stmt:=top 23
abbrev zbm:Stmt:=top 24
abbrev zbj:Stmt:=top 25
abbrev zaP:Stmt:=top 26
abbrev zac:Stmt:=top 27
abbrev zcl:Stmt:=top 28
abbrev zjv:Stmt:=top 4
abbrev zaQ:Stmt:=top 6
abbrev zad:Stmt:=top 2
abbrev zdb:Stmt:=top 1
abbrev zda:Stmt:=top 8
abbrev zeQ:Stmt:=top 9
abbrev zaR:Stmt:=top 10
abbrev zl0:Stmt:=top 11
abbrev zbn:Stmt:=top 18
abbrev zbk:Stmt:=top 29
abbrev xK:Stmt:=top 30
abbrev ui:Stmt:=top 31
abbrev zbl:Stmt:=top 32
abbrev zq6:Stmt:=top 33
theorem zfP:FnScope ["_law_script"] ["_law_script"] (zf zc8):=⟨rfl,rfl,rfl,by decide +kernel,rfl,by decide +kernel,by decide +kernel⟩
theorem yh:FnScope ["_law_pen_here","_law_many","_law_found","_law_at","_law_cell","_law_mixed"] ["_law_pen_here","_law_many"] (zf zcm):=⟨rfl,rfl,rfl,by decide +kernel,rfl,by decide +kernel,by decide +kernel⟩
theorem zbo:FnScope ["_law_pen_here","_law_some","_law_left"] ["_law_pen_here","_law_some"] (zf zcp):=⟨rfl,rfl,rfl,by decide +kernel,rfl,by decide +kernel,by decide +kernel⟩
theorem yi:FnScope ["_law_pen_here","_law_most","_law_way","_law_wanted","_law_room_here","_law_left","_law_many"] ["_law_pen_here","_law_most"] (zf zco):=⟨rfl,rfl,rfl,by decide +kernel,rfl,by decide +kernel,by decide +kernel⟩
theorem zR:FnScope ["_law_room_here","_law_found","_law_many","_law_longer","_law_one"] ["_law_room_here"] (zf uA):=⟨rfl,rfl,rfl,by decide +kernel,rfl,by decide +kernel,by decide +kernel⟩
theorem zcr:FnScope ["_law_pen_here","_law_many","_law_one"] ["_law_pen_here","_law_many"] (zf zc9):=⟨rfl,rfl,rfl,by decide +kernel,rfl,by decide +kernel,by decide +kernel⟩
theorem yC:FnScope ["_law_pen_here","_law_room_here","_law_box","_law_share","_law_given","_law_at","_law_better","_law_worse"] ["_law_pen_here","_law_room_here"] (zf zcq):=⟨rfl,rfl,rfl,by decide +kernel,rfl,by decide +kernel,by decide +kernel⟩
theorem z7:FnScope ["_law_room_here","_law_boxes","_law_found","_law_box","_law_longer","_law_given"] ["_law_room_here","_law_boxes"] (zf uN):=⟨rfl,rfl,rfl,by decide +kernel,rfl,by decide +kernel,by decide +kernel⟩
theorem zC:FnScope ["_law_pen_here","_law_room_here","_law_boxes","_law_found","_law_place","_law_box","_law_looks","_law_given","_law_ranks","_law_k"] ["_law_pen_here","_law_room_here"] (zf uM):=⟨rfl,rfl,rfl,by decide +kernel,rfl,by decide +kernel,by decide +kernel⟩
theorem uO:FnScope ["_law_one","_law_other","_law_box","_law_given"] ["_law_one","_law_other"] (zf zcn):=⟨rfl,rfl,rfl,by decide +kernel,rfl,by decide +kernel,by decide +kernel⟩
theorem zP:FnScope ["_law_room_here","_law_found","_law_many","_law_longer","_law_k","_law_one","_law_worths"] ["_law_room_here"] (zf zbm):=⟨rfl,rfl,rfl,by decide +kernel,rfl,by decide +kernel,by decide +kernel⟩
theorem uw:FnScope ["_law_pen_here","_law_room_here","_law_way"] ["_law_pen_here","_law_room_here"] (zf zbj):=⟨rfl,rfl,rfl,by decide +kernel,rfl,by decide +kernel,by decide +kernel⟩
theorem zF:FnScope ["_law_pen_here","_law_room_here","_law_every","_law_rank","_law_k","_law_one","_law_found","_law_box","_law_worth","_law_other"] ["_law_pen_here","_law_room_here"] (zf zaP):=⟨rfl,rfl,rfl,by decide +kernel,rfl,by decide +kernel,by decide +kernel⟩
theorem zX:FnScope ["_law_pen_here","_law_room_here","_law_book_here","_law_way","_law_at","_law_given","_law_box","_law_better","_law_worse"] ["_law_pen_here","_law_room_here","_law_book_here"] (zf zac):=⟨rfl,rfl,rfl,by decide +kernel,rfl,by decide +kernel,by decide +kernel⟩
theorem z8:FnScope ["_law_pen_here","_law_room_here","_law_kind","_law_spoil","_law_many","_law_book_here"] ["_law_pen_here","_law_room_here"] (zf zcl):=⟨rfl,rfl,rfl,by decide +kernel,rfl,by decide +kernel,by decide +kernel⟩
theorem zdU:FnScope ["standing","given","box","worth"] ["standing","given"] (zf zjv):=⟨rfl,rfl,rfl,by decide +kernel,rfl,by decide +kernel,by decide +kernel⟩
theorem zcJ:FnScope ["room","book","box","standing"] ["room","book","box","standing"] (zf zaQ):=⟨rfl,rfl,rfl,by decide +kernel,rfl,by decide +kernel,by decide +kernel⟩
theorem uP:FnScope ["leads","left","told"] ["leads","left"] (zf zad):=⟨rfl,rfl,rfl,by decide +kernel,rfl,by decide +kernel,by decide +kernel⟩
theorem yD:FnScope ["leads","left","within","row","here"] ["leads"] (zf zdb):=⟨rfl,rfl,rfl,by decide +kernel,rfl,by decide +kernel,by decide +kernel⟩
theorem zfQ:FnScope ["worths","pairs"] ["worths","pairs"] (zf zda):=⟨rfl,rfl,rfl,by decide +kernel,rfl,by decide +kernel,by decide +kernel⟩
theorem zdc:FnScope ["worths","pairs","bettered"] ["worths","pairs"] (zf zeQ):=⟨rfl,rfl,rfl,by decide +kernel,rfl,by decide +kernel,by decide +kernel⟩
theorem zcK:FnScope ["room","book","box","standing"] ["room","book","box","standing"] (zf zaR):=⟨rfl,rfl,rfl,by decide +kernel,rfl,by decide +kernel,by decide +kernel⟩
theorem zn9:FnScope ["room","book","box","standing"] ["room","book","box","standing"] (zf zl0):=⟨rfl,rfl,rfl,by decide +kernel,rfl,by decide +kernel,by decide +kernel⟩
theorem yn:FnScope ["_law_book_here","_law_standing","_law_found","_law_given","_law_box","_law_better","_law_worse","_law_there"] ["_law_book_here","_law_standing"] (zf zbn):=⟨rfl,rfl,rfl,by decide +kernel,rfl,by decide +kernel,by decide +kernel⟩
theorem yF:FnScope ["_law_book_here","_law_box","_law_many","_law_standing","_law_found","_law_worse","_law_better","_law_here","_law_there"] ["_law_book_here","_law_box","_law_many","_law_standing"] (zf zbk):=⟨rfl,rfl,rfl,by decide +kernel,rfl,by decide +kernel,by decide +kernel⟩
theorem zA:FnScope ["_law_pen_here","_law_room_here","_law_given","_law_box","_law_better","_law_worse","_law_some","_law_found"] ["_law_pen_here","_law_room_here"] (zf xK):=⟨rfl,rfl,rfl,by decide +kernel,rfl,by decide +kernel,by decide +kernel⟩
theorem z9:FnScope ["_law_pairs","_law_many","_law_worse"] ["_law_pairs"] (zf ui):=⟨rfl,rfl,rfl,by decide +kernel,rfl,by decide +kernel,by decide +kernel⟩
theorem y3:FnScope ["_law_room_here","_law_book_here","_law_box","_law_standing","_law_pairs","_law_due","_law_found","_law_said"] ["_law_room_here","_law_book_here","_law_box","_law_standing"] (zf zbl):=⟨rfl,rfl,rfl,by decide +kernel,rfl,by decide +kernel,by decide +kernel⟩
theorem xT:FnScope ["_law_script","_law_pen_here","_law_turn_here","_law_rounds","_law_most","_law_room_here","_law_book_here","_law_every","_law_k","_law_standing","_law_box","_law_other"] ["_law_script"] (zf zq6):=⟨rfl,rfl,rfl,by decide +kernel,rfl,by decide +kernel,by decide +kernel⟩
set_option genInjectivity false in
structure Ad where
 f0:Addr
 d0:FuncData
 f1:Addr
 d1:FuncData
 f2:Addr
 d2:FuncData
 f3:Addr
 d3:FuncData
 f4:Addr
 d4:FuncData
 f5:Addr
 d5:FuncData
 f6:Addr
 d6:FuncData
 f7:Addr
 d7:FuncData
 f8:Addr
 d8:FuncData
 f9:Addr
 d9:FuncData
 f10:Addr
 d10:FuncData
 f11:Addr
 d11:FuncData
 f12:Addr
 d12:FuncData
 f13:Addr
 d13:FuncData
 f14:Addr
 d14:FuncData
 f15:Addr
 d15:FuncData
 f16:Addr
 d16:FuncData
 f17:Addr
 d17:FuncData
 f18:Addr
 d18:FuncData
 f19:Addr
 d19:FuncData
 f20:Addr
 d20:FuncData
 f21:Addr
 d21:FuncData
 f22:Addr
 d22:FuncData
 f23:Addr
 d23:FuncData
 f24:Addr
 d24:FuncData
 f25:Addr
 d25:FuncData
 f26:Addr
 d26:FuncData
 f27:Addr
 d27:FuncData
 f28:Addr
 d28:FuncData
structure Txt (K:PySem.W.Frag)(mg:Str->Option Value)(t:Ad):Prop where
 q0:Dfn K mg "_law_pen" zc8 ["_law_script"] t.f0 t.d0
 q1:Dfn K mg "_law_draw" zcm ["_law_pen_here","_law_many"] t.f1 t.d1
 q2:Dfn K mg "_law_turn" zcp ["_law_pen_here","_law_some"] t.f2 t.d2
 q3:Dfn K mg "_law_room" zco ["_law_pen_here","_law_most"] t.f3 t.d3
 q4:Dfn K mg "_law_standings" uA ["_law_room_here"] t.f4 t.d4
 q5:Dfn K mg "_law_two" zc9 ["_law_pen_here","_law_many"] t.f5 t.d5
 q6:Dfn K mg "_law_wish" zcq ["_law_pen_here","_law_room_here"] t.f6 t.d6
 q7:Dfn K mg "_law_contexts" uN ["_law_room_here","_law_boxes"] t.f7 t.d7
 q8:Dfn K mg "_law_by_order" uM ["_law_pen_here","_law_room_here"] t.f8 t.d8
 q9:Dfn K mg "_law_full" zcn ["_law_one","_law_other"] t.f9 t.d9
 q10:Dfn K mg "_law_snake" zbm ["_law_room_here"] t.f10 t.d10
 q11:Dfn K mg "_law_along" zbj ["_law_pen_here","_law_room_here"] t.f11 t.d11
 q12:Dfn K mg "_law_rising" zaP ["_law_pen_here","_law_room_here"] t.f12 t.d12
 q13:Dfn K mg "_law_spoiled" zac ["_law_pen_here","_law_room_here","_law_book_here"] t.f13 t.d13
 q14:Dfn K mg "_law_book" zcl ["_law_pen_here","_law_room_here"] t.f14 t.d14
 q15:Dfn K mg "keeps" zjv ["standing","given"] t.f15 t.d15
 q16:Dfn K mg "local_pairs" zaQ ["room","book","box","standing"] t.f16 t.d16
 q17:Dfn K mg "leads_within" zad ["leads","left"] t.f17 t.d17
 q18:Dfn K mg "round_of" zdb ["leads"] t.f18 t.d18
 q19:Dfn K mg "round_by" zda ["worths","pairs"] t.f19 t.d19
 q20:Dfn K mg "tops_by" zeQ ["worths","pairs"] t.f20 t.d20
 q21:Dfn K mg "local_round" zaR ["room","book","box","standing"] t.f21 t.d21
 q22:Dfn K mg "tops" zl0 ["room","book","box","standing"] t.f22 t.d22
 q23:Dfn K mg "_law_steps" zbn ["_law_book_here","_law_standing"] t.f23 t.d23
 q24:Dfn K mg "_law_local" zbk ["_law_book_here","_law_box","_law_many","_law_standing"] t.f24 t.d24
 q25:Dfn K mg "_law_round_wishes" xK ["_law_pen_here","_law_room_here"] t.f25 t.d25
 q26:Dfn K mg "_law_goes_round" ui ["_law_pairs"] t.f26 t.d26
 q27:Dfn K mg "_law_right" zbl ["_law_room_here","_law_book_here","_law_box","_law_standing"] t.f27 t.d27
 q28:Dfn K mg "law" zq6 ["_law_script"] t.f28 t.d28
 b_list:mg "list" = none
 b_sorted:mg "sorted" = none
 b_tuple:mg "tuple" = none
 b_range:mg "range" = none
 b_enumerate:mg "enumerate" = none
 b_len:mg "len" = none
 b_all:mg "all" = none
 b_abs:mg "abs" = none
 b_zip:mg "zip" = none
 b_isinstance:mg "isinstance" = none
 b_bool:mg "bool" = none
 b_set:mg "set" = none
section
variable {P:Program}{w:World}{K:PySem.W.Frag}{mg:Str->Option Value}{base:Heap}{t:Ad}
theorem zfH (T:Txt K mg t):FnOk P w K mg base CX0 1 t.f0 t.d0 ["_law_script"] (zlb K):=by
 refine T.q0.F.okQ zfP (fun vs H Q E h=>?_) (fun cdv A outer s H vs Q E hr h=>?_)
 ·obtain⟨a,ns,rfl,_⟩:=h;rfl
 ·obtain⟨a,ns,rfl,hS,hl,k⟩:=h;refine⟨_,(zaj (zch (znM (zdP xS (zdO zjE (qv 0) zji (zjj yv)) (zdP xS yv (zdP xS yv znW))) rfl rfl (by simp) (by decide)))),?_⟩;intro p hp;refine⟨_,rfl,_,rfl,a,_,rfl,(x4.upd hp).seq hS,fun c hc=>?_⟩;have npc:p≠c:=fun e=>by subst e;rw[zj] at hc;cases hc
  have hc0:H c=none:=by rw[zh (Ne.symm npc)] at hc;exact hc
  refine⟨by rw[zh npc,zj],zaU c 0 0,rfl,(by show 3<=15;decide),?_⟩;rw[zqg]
  have ecut:zcB (ns.map V.int) none (some 63)=ns.map V.int:=by
   unfold zcB;rw[HT.sIx_none]
   have e63:HT.sIx (ns.map V.int).length (ns.map V.int).length (some 63)=(ns.map V.int).length:=by have:=HT.sIx_nat (ns.map V.int).length (ns.map V.int).length 63;rw[aa] at this ⊢;rw[dM hl] at this;exact this
   rw[e63,dC,eG,bn]
  refine k p c _ ⟨⟨0,0,zj,by lia,by lia,by lia⟩,?_,hl⟩ ?_
  ·rw[zh (Ne.symm npc),zj];exact congrArg (fun z=>some (HO.lst z)) ecut
  ·intro b o e;rw[zh (zc e hp),zh (zc e hc0),zh (zc e hp)];exact e
theorem zbe (T:Txt K mg t):FnOk P w K mg base CX0 1 t.f1 t.d1 ["_law_pen_here","_law_many"] zjC:=by
 refine T.q1.F.okQ yh (fun vs H Q E h=>?_) (fun cdv A outer s H vs Q E hr h=>?_)
 ·obtain⟨p,c,ns,n,ya,rfl,_⟩:=h;rfl
 ·obtain⟨p,c,ns,n,ya,rfl,hP,hn,h1,h2,k⟩:=h;have hu:=zbt hr;obtain⟨⟨a,l,hp,ha0,han,hl0⟩,hc,hlen⟩:=id hP;have npc:c≠p:=zgV hc hp (by intro z;cases z)
  refine⟨_,(ym (zk0 (zci znh (xZ hu (qv 0) xS (fun _ _=>rfl)) yv (zD _)) (ym (ug (i:=2) yh.nd rfl (Or.inl rfl) (y2 zaK (xZ hu (qv 0) xS (fun _ _=>rfl)) (qv 1)))
   (ym (zdQ hu (qv 0) xS (y2 zdK (xZ hu (qv 0) xS (fun _ _=>rfl)) (qv 1)) rfl)
   (zaj (zch (qv 2))))) zdS)
   (ym (ug (i:=3) yh.nd rfl (Or.inl rfl) (xZ hu (qv 0) xS (fun _ _=>rfl)))
   (ym (zdQ hu (qv 0) xS (y2 yS (qv 3) yv) rfl)
   (ym (ug (i:=4) yh.nd rfl (Or.inl rfl) (y2 yS (y2 zcc yv (qv 3)) yv))
   (ym (zk0 (zci znh (y1 yz (by rfl) T.b_len aZ (zI (xZ hu (qv 0) xS (fun _ _=>rfl)) yB)) yv (zD _)) (zaj (ug (i:=4) yh.nd rfl (Or.inl rfl) (zqz xM (xZ hu (qv 0) xS (fun _ _=>rfl)) (y2 zaK (qv 3) (y1 yz (by rfl) T.b_len aZ (zI (xZ hu (qv 0) xS (fun _ _=>rfl)) yB))) (fun _ _=>rfl)))) zdS)
   (ym (zk0 (QW.pt (zlS (zci zi3 (qv 3) (y1 yz (by rfl) T.b_len aZ (zI (xZ hu (qv 0) xS (fun _ _=>rfl)) yB)) (zD _)) (zjl (zci zs8 (y1 zhv (by rfl) T.b_abs dL (zI (qv 4) yB)) (y2 zi6 yv yv) (zD _))))) (ym (zdQ hu (qv 0) xS (y2 zdK (y1 zhv (by rfl) T.b_abs dL (zI (qv 4) yB)) (qv 1)) rfl)
   (zaj (zch (y2 zaK (y1 zhv (by rfl) T.b_abs dL (zI (qv 4) yB)) (qv 1))))) zdS)
   (ym (ug (i:=5) yh.nd rfl (Or.inl rfl) (y2 yS (y2 yS (y2 zcc (y2 yS (y2 zaK (qv 4) yv) yv) (y2 yS (y2 zcc yv (qv 3)) yv)) (y2 zcc (y2 zcc yv (qv 3)) (qv 3))) (y2 zcc yv (qv 3))))
   (ym (ug (i:=5) yh.nd rfl (Or.inl rfl) (y2 zaK (y2 zi6 (qv 5) yv) yv))
   (ym (ug (i:=5) yh.nd rfl (Or.inl rfl) (y2 zaK (y2 zi6 (y2 yS (y2 yS (qv 5) (y2 zcc yv (qv 3))) yv) yv) yv))
   (zaj (zch (y2 zaK (y2 zdK (qv 5) yv) (qv 1))))))))))))),?_⟩
  refine⟨_,rfl,p,_,rfl,zja hp,_,_,rfl,rfl,_,rfl,zrM (fun hl=>?_) (fun hl=>?_)⟩
  ·have hl':0<l:=bC hl;refine⟨_,rfl,p,_,rfl,zja hp,_,rfl,_,_,rfl,rfl,(by show (0:Int)<ya;lia),?_⟩;refine⟨_,rfl,p,_,rfl,zja hp,_,rfl,_,_,rfl,rfl,⟨by show (0:Int)<ya;lia,h2⟩,_,rfl,p,_,rfl,zlQ hp _,?_⟩;refine⟨_,rfl,k _ _ (cu _ (by lia)) (bR _ (by lia)) ⟨⟨a,_,zj,ha0,by lia,Int.ediv_nonneg hl0 (by lia)⟩,by rw[zh npc];exact hc,hlen⟩ (zdY hp)⟩
  ·refine⟨_,rfl,p,_,rfl,zqf hp,?_⟩;refine⟨_,rfl,_,_,rfl,rfl,_,rfl,p,_,rfl,zqj hp _,?_⟩;have hp1:upd H p (.dK (zaU c (a+1) l)) p=some (.dK (zaU c (a+1) l)):=zj;have hc1:upd H p (.dK (zaU c (a+1) l)) c=some (.lst (ns.map V.int)):=by rw[zh npc];exact hc
   generalize hH1:upd H p (.dK (zaU c (a+1) l))=H1 at hp1 hc1 ⊢;have st1:zx H H1:=hH1 ▸ zdY hp;refine⟨_,rfl,_,_,rfl,rfl,.inl ⟨by lia,by lia⟩,_,_,rfl,rfl,?_⟩;refine' meet (α:=Int) _ (fun zY=>?_) ?_;rotate_left
   ·
    refine⟨_,rfl,p,_,rfl,zgs hp1,_,_,rfl,.inl ⟨_,.of hc1,rfl⟩,_,_,rfl,rfl,_,rfl,zrM (fun hz=>?_) (fun hz=>?_)⟩;have hz':0<((ns.map V.int).length:Int):=bC hz;obtain⟨cell,hget⟩:=zoQ ns a hz';refine⟨_,rfl,p,_,rfl,zgs hp1,_,rfl,_,rfl,p,_,rfl,zgs hp1,_,_,rfl,.inl ⟨_,.of hc1,rfl⟩,_,_,rfl,rfl,hz',c,_,_,_,rfl,rfl,.of hc1,hget,?_⟩;exact zY cell;exact zY (31 * a+7)
   ·intro cell;have nqp:∀ {q:Addr},H1 q=none->p≠q:=fun hq=>zc hp1 hq;refine' zsY _ (fun zY=>?_) ?_;rotate_left
    ·refine⟨_,rfl,_,rfl,p,_,rfl,zgs hp1,_,_,rfl,.inl ⟨_,.of hc1,rfl⟩,_,_,rfl,rfl,_,rfl,zrM (fun h3=>?_) (fun h3=>?_)⟩;rotate_left
     ·refine iteF ?_;exact zY
     refine⟨_,rfl,_,rfl,_,_,rfl,rfl,⟨by decide,by decide,by decide⟩,_,_,rfl,rfl,_,rfl,zrM (fun h4=>?_) (fun h4=>?_)⟩;rotate_left
     ·exact zY
     have ha:0<=(if cell<0 then -cell else cell):=by split <;> lia
     refine⟨_,rfl,_,rfl,_,rfl,_,_,rfl,rfl,⟨by show (0:Int)<ya;lia,h2⟩,_,rfl,p,_,rfl,zlQ hp1 _,?_⟩;refine⟨_,rfl,_,rfl,_,rfl,_,_,rfl,rfl,(by show (0:Int)<ya;lia),k _ _ (cu _ (by lia)) (bR _ (by lia)) ⟨⟨a+1,_,zj,by lia,by lia,Int.ediv_nonneg ha (by lia)⟩,by rw[zh npc];exact hc1,hlen⟩ (st1.trans (zdY hp1))⟩
    ·obtain⟨sq0,sq1⟩:=zlc ha0 han hn;have mm0:=cu cell (show (2147483549:Int)≠0 by decide);have mm1:=bR cell (show (0:Int)<2147483549 by decide);obtain⟨mx0,mx1⟩:=ziM ha0 han hn mm0 mm1;refine⟨_,rfl,_,_,rfl,rfl,(by show (0:Int)<2147483549;decide),_,_,rfl,rfl,_,rfl,_,_,rfl,rfl,.inl ⟨by decide,by decide⟩,_,_,rfl,rfl,_,_,rfl,rfl,.inr ⟨by lia,by lia⟩,_,rfl,_,_,rfl,rfl,.inl ⟨by decide,by decide⟩,_,rfl,_,_,rfl,rfl,.inr ⟨by lia,by lia⟩,_,_,rfl,rfl,_,rfl,_,_,rfl,rfl,.inl ⟨by decide,by decide⟩,_,_,rfl,rfl,_,rfl,_,_,rfl,rfl,⟨by decide,by decide,?_⟩,_,_,rfl,rfl,(by show (0:Int)<2147483647;decide),?_⟩
     ·show ((cell % 2147483549+70009) * (2 * a+1)+6133 * a * a+577 * a).natAbs<2 ^ 64;lia
     ·generalize hw1:(((cell % 2147483549+70009) * (2 * a+1)+6133 * a * a+577 * a) ^ (5:Int).toNat:Int)=w1;have w0:=cu w1 (show (2147483647:Int)≠0 by decide);have w2:=bR w1 (show (0:Int)<2147483647 by decide);refine⟨_,rfl,_,rfl,_,_,rfl,rfl,.inl ⟨by decide,by decide⟩,_,_,rfl,rfl,_,_,rfl,rfl,_,_,rfl,rfl,⟨by decide,by decide,?_⟩,_,_,rfl,rfl,(by show (0:Int)<2147483587;decide),?_⟩
      ·show (w1 % 2147483647+5 * a+1).natAbs<2 ^ 64;lia
      ·refine⟨_,rfl,_,_,rfl,rfl,⟨by decide,by decide⟩,_,rfl,_,_,rfl,rfl,(by show (0:Int)<ya;lia),?_⟩;exact k _ _ (cu _ (by lia)) (bR _ (by lia)) ⟨⟨a+1,l,hp1,by lia,by lia,hl0⟩,hc1,hlen⟩ st1
theorem zK (T:Txt K mg t):FnOk P w K mg base CX0 1 t.f1 t.d1 ["_law_pen_here","_law_many"] (spV 2 false zhc):=FnOk.lift (FnOk.mono (zbe T) (by decide)) ziw
theorem zeC (T:Txt K mg t):FnOk P w K mg base CX0 2 t.f2 t.d2 ["_law_pen_here","_law_some"] zl2:=by
 have G1:FnOk P w K mg base CX0 1 t.f1 t.d1 ["_law_pen_here","_law_many"] zjC:=zbe T;refine T.q2.F.okQ zbo (fun vs H Q E h=>?_) (fun cdv A outer s H vs Q E hr h=>?_)
 ·obtain⟨p,c,a,ns,n,xs,rfl,_⟩:=h;rfl
 ·obtain⟨p,c,a,ns,n,xs,rfl,hP,hn,hx,ha,k⟩:=h
  refine⟨_,(ym (ug (i:=2) zbo.nd rfl (Or.inr rfl) (uL zfa (by rfl) T.b_list cx (zI (qv 1) yB)))
   (zaj (zch (zgv (N:=["_law_one","_law_left","_law_pen_here"]) (cix:=[none,some 2,some 0]) rfl ⟨rfl,by decide +kernel,rfl⟩ (zjg (qv 1)) (fun _ _ _ _=>(zjf (i:=0) (show (["_law_one","_law_left","_law_pen_here"]:List Str).Nodup by decide +kernel) rfl (Or.inl rfl))) (fun _ _ _ _=>zjk) (fun _ _ _ _=>(znO K rfl (qv 1) (zI (zkW T.q1 G1 hr (zI (qv 2) (zI (y1 (zmg K rfl) (by rfl) T.b_len aZ (zI (qv 1) yB)) yB))) yB))))))),?_⟩
  refine⟨_,rfl,a,xs,rfl,.inl (.of ha),fun b H1 hb0 hb1 S1=>?_⟩;refine⟨_,rfl,a,rfl,⟨_,.of (S1 _ _ ha)⟩,fun acc hacc=>?_⟩;have P1:=hP.same S1;have hca:c≠acc:=zc P1.ls hacc;have hba:b≠acc:=zc hb1 hacc;have hcb:c≠b:=zc hP.ls hb0
  refine zhs (xs:=xs) hacc (fun i σ' H'=>(∃v,σ'=[v,some (.ref b),some (.ref p)])/\∃ys zs:List V,H' acc=some (.lst ys)/\H' b=some (.lst zs)/\(ys++zs).Perm xs/\ys.length=i/\Pen H' p c ns (n+i)/\zx H H')
   (fun H' z1 z2=>⟨⟨_,rfl⟩,[],xs,z1,z2 _ _ hb1,.refl _,rfl,P1.same z2,zx.same (S1.trans z2)⟩) (fun _ _ _ _ ⟨_,_,_,_,_,_,_,_,S⟩=>.of (S.lst ha)) ?_ ?_
  ·rintro i y σ' H' hx' ⟨⟨v,rfl⟩,ys,zs,hac,hb,hp,hi,P',S'⟩;have hi':=(ae.mp hx').1;have hz:=hp.length_eq;rw[af,hi] at hz;refine zoX ⟨_,rfl,.inl ⟨rfl,_,SqL.of hb⟩,_,rfl,_,rfl,_,_,rfl,.inl ⟨_,.of hb,rfl⟩,p,c,ns,n+i,(zs.length:Int),rfl,P',by lia,by lia,by lia,fun r H2 r0 r1 P2 S2=>?_⟩;have hk:r.toNat<zs.length:=by lia
   have hb2:=S2.lst hb;have hac2:=S2.lst hac;refine⟨b,zs,r,r.toNat,zs[r.toNat],rfl,rfl,hb2,by lia,by lia,L3.zl1 r0 r1,aj hk,ys,by rw[zh (Ne.symm hba)];exact hac2,be (by lia:ys.length<=100000) (by decide),⟨_,rfl⟩,ys++[zs[r.toNat]],zs.eraseIdx r.toNat,zj,by rw[zh hba];exact zj,L3.zgO hk hp,by rw[af,hi];rfl,(P2.app hb2 hcb).app (by rw[zh (Ne.symm hba)];exact hac2) hca,?_⟩;have Sa:zx H (upd H2 b (.lst (zs.eraseIdx r.toNat))):=zgB hb0 (S'.trans S2);exact zgB (S1.free hacc) Sa
  ·rintro σ' H' ⟨⟨v,rfl⟩,ys,zs,hac,hb,hp,hi,P',S'⟩;have hz:=hp.length_eq;rw[af,hi] at hz;have:zs=[]:=bt (by lia);subst this;rw[cI] at hp;exact k acc ys H' (S1.free hacc) hac hp P' S'
theorem xx (T:Txt K mg t):FnOk P w K mg base CX0 2 t.f2 t.d2 ["_law_pen_here","_law_some"] (spV 2 true zhd):=FnOk.lift (FnOk.mono (zeC T) (by decide)) zix
def zjW  : FV:=fun Pn ws n R=>∃ (p:Addr) (most:Int),ws=[.pen p,.d (.int most)]/\(IsP Pn p)/\(n+30<=1000000)/\(4<=most)/\(most<=256)/\(∀rm m,RoomOk rm->yw rm<=most->m<=n+20->R (.d (stD rm)) m)
theorem zjW.i  {Pn:Option zq} {n:Nat} {R:W->Nat->Prop} {p:Addr} {most:Int} (hP:IsP Pn p) (m1:4<=most) (m2:most<=256) (h:∀rm m,RoomOk rm->yw rm<=most->m<=n+20->R (.d (stD rm)) m) (hn:n+30<=1000000:=by lia):zjW Pn [.pen p,.d (.int most)] n R:=⟨p,most,rfl,hP,hn,m1,m2,h⟩
theorem zdF (T:Txt K mg t):FnOk P w K mg base CX0 2 t.f3 t.d3 ["_law_pen_here","_law_most"] (spV 2 false zjW):=by
 have G1:=zK (P:=P) (w:=w) (base:=base) T
 refine Fun.okW (k:=1) (fr:=false) [4] 5 T.q3.F yi rfl (by decide) rfl fun cdv A outer s H E Pn hr=>⟨_,(zb (wS zk <| zu (i:=2) yi.nd rfl (Or.inl rfl) (wE zo <| yG T.q1 G1 hr (za (kv 0) (za zw zd))))
   (zb (wS zk <| zfx (i:=3) (zaz (ix:=3) yi.nd rfl rfl (N:=["_law_k","_law_pen_here"]) (cix:=[none,some 0]) rfl ⟨rfl,by decide +kernel,rfl⟩ (wI yt <| zJ rfl T.b_range (zi (JE.bo (uz yS za8 (JE.bo zw) (JE.bo (wE zo <| yG T.q1 G1 hr (za (kv 0) (za zw zd)))))) zm)) (fun _ _ _ _=>(wG zv <| zg (i:=0) (show (["_law_k","_law_pen_here"]:List Str).Nodup by decide +kernel) rfl (Or.inl rfl))) (fun _ _ _ _=>yL) (fun _ _ _ _=>(uz yS za8 (JE.bo zw) (JE.bo (wE zo <| yG T.q1 G1 hr (za (kv 1) (za zw zd))))))))
   (zb (wS zG <| yZ (wT zn <| zy xY zcL (kb 2) (JE.bo zw) (zD _)) (ze (wS zk <| zu (i:=3) yi.nd rfl (Or.inl rfl) (zak xM zcM (JE.bo (uc (za (uc (za zw zd)) (za (uz zlO zl5 (JE.bo (uc (za zw zd))) (JE.bo zw)) (za (uz zlO zl5 (JE.bo (uc (za zw zd))) (JE.bo zw)) zd))))) (JE.bo (wE zo <| yG T.q1 G1 hr (za (kv 0) (za zw zd)))) (fun _ _=>rfl)))) zL)
   (zb (wS yM <| xP (i:=4) yi.nd rfl (Or.inl rfl) (uc zd))
   (zb (wS zk <| zu (i:=5) yi.nd rfl (Or.inl rfl) (kv 1))
   (zb (yH aW rfl (wI yr <| yq K rfl (kv 3)) (wG zv <| zg (i:=6) yi.nd rfl (Or.inl rfl)) (ze (wS zG <| yZ (wT zn <| zy zp6 u_le (kb 6) (kb 5) (zD _)) (zb (wS uG <| zbb 4 (kv 6))
   (ze (wS zk <| zu (i:=5) yi.nd rfl (Or.inl rfl) (uz zdK zrm (kb 5) (kb 6))))) zL)))
   (ze (z3 (uq xi zcx (by rfl) T.b_tuple cj (zi (kb 4) zm)))))))))),fun ws n R hF=>?_⟩
 obtain⟨p,most,rfl,hP,hn,m1,m2,r⟩:=hF;walk_at "st";refine dc hP fun way w0 w1=>?_;walk_at "st";refine dc hP fun t t0 t1=>?_;walk_at "st";refine⟨⟨by lia,by lia⟩,?_⟩;rw[xA];refine zf3 (List.range (1+t).toNat) (fun k:Nat=>W.d (.int (k:Int))) rfl (by rw[am];exact ax (by lia:_<=100) (by decide)) (fun i ρ' n' acc=>n'=n+2+i/\i<=6/\∃ (v:Option W) (ws:List Int),ρ'=[v,some (.pen p)]/\acc=ws.map Dt.int/\(∀r∈ws,2<=r/\r<=4)/\ws.length=i) ⟨by lia,by lia,none,[],rfl,rfl,by simp,rfl⟩ ?_ ?_
 ·rintro i k ρ' n' acc hk ⟨rfl,hi,v,ws,rfl,rfl,hb,hl⟩ C hC;have hk1:=(ae.mp hk).1;rw[am] at hk1;walk_at "st";refine dc hP fun x x0 x1=>?_
  exact hC ⟨by lia,by lia,_,ws++[2+x],rfl,by rw[aB];rfl,fun r hr=>by
   rcases bg.mp hr with z | z
   ·exact hb r z
   ·rw[aK.mp z];lia,by rw[af,hl];rfl⟩
 rintro ρ' n' acc ⟨rfl,hi,v,ws,rfl,rfl,hb,hl⟩;rw[am] at hi hl;rw[am];walk_at "st";refine' zgT (fun (zs:List Int) (n1:Nat)=>(∀r∈zs,2<=r/\r<=4)/\zs≠[]/\n1<=n+12) _ (fun zY=>?_) ?_;rotate_left
 ·refine xy (fun _=>?_) (fun _=>?_)
  ·walk_at "st";refine⟨⟨by decide,by decide,by decide⟩,?_⟩;walk_at "st";refine⟨⟨by decide,by decide,by decide⟩,?_⟩;walk_at "st";refine dc hP fun x x0 x1=>?_;walk_at "st";refine zpR x0 x1 fun y hy=>?_
   obtain⟨zs,rfl,hz,hzn⟩:∃zs:List Int,y=lsD zs/\(∀r∈zs,2<=r/\r<=4)/\zs≠[]:=by
    simp only[aG,cA,or_false] at hy;rcases hy with rfl | rfl | rfl
    ·exact⟨[4],rfl,by decide,by decide⟩
    ·exact⟨[2,2,2,2,2,2,2,2],rfl,by decide,by decide⟩
    ·exact⟨[4,4,4,4],rfl,by decide,by decide⟩
   walk_at "st";generalize hk:n+2+(1+t).toNat+1=n1;exact zY zs n1 ⟨hz,hzn,by lia⟩
  ·walk_at "st";generalize hk:n+2+(1+t).toNat=n1;exact zY ws n1 ⟨hb,fun z=>by rw[z] at hl;simp at hl;lia,by lia⟩
 rintro ws n1 ⟨hb,hne,hn1⟩;refine yE ws (fun i=>.d (.int i)) (by rw[az];rfl) (fun i ρ m=>m=n1/\∃ (rs:List Int) (L:Int) (v6:Option W),ρ=[some (.pen p),some (.d (.int most)),some (.d (.int way)),some (.d (lsD ws)),some (.d (lsD rs)),some (.d (.int L)),v6]/\(∀r∈rs,2<=r/\r<=4)/\yw rs * L<=most/\1<=L/\L<=most/\(i=0->L=most)/\(1<=i->rs≠[])) ⟨rfl,[],most,_,rfl,by simp,by show 1 * most<=most;lia,by lia,by lia,fun _=>rfl,by lia⟩ ?_ ?_
 ·rintro i a ρ m ha ⟨rfl,rs,L,v6,rfl,hrs,hp,hL1,hL2,hi0,hi1⟩ C B E hC _ _;have hab:=hb a (aI ha);have hpp:=zaN (ns:=rs) fun r hr=>by have:=hrs r hr;lia
  have h8:rs.length<=8:=zbi hrs (by have:yw rs * 1<=yw rs * L:=cT hL1 (by lia);lia)
  walk_at "st";refine xy (fun h=>?_) (fun h=>?_)
  ·obtain⟨q1,q2,q3⟩:=zjs hrs hab hp h;walk_at "st";refine⟨by rw[aa];exact be h8 (by decide),?_⟩;walk_at "st";refine⟨⟨by lia,by lia⟩,hC ⟨rfl,rs++[a],L / a,some (.d (.int a)),?_,?_,q1,q2,by lia,by lia,fun _=>by simp⟩⟩
   ·rw[show lsD (rs++[a])=Dt.lst (rs.map Dt.int++[Dt.int a]) by unfold lsD;rw[aB];rfl]
   ·intro r hr;rcases bg.mp hr with z | z
    ·exact hrs r z
    ·rw[aK.mp z];exact hab
  ·walk_at "st"
   exact hC ⟨rfl,rs,L,_,rfl,hrs,hp,hL1,hL2,fun z=>by lia,fun _=>by
    by_cases h0:i=0
    ·have:=hi0 h0;lia
    ·exact hi1 (by lia)⟩
 ·rintro ρ m ⟨rfl,rs,L,v6,rfl,hrs,hp,hL1,hL2,hi0,hi1⟩;have hpp:=zaN (ns:=rs) fun r hr=>by have:=hrs r hr;lia
  have hpm:yw rs<=most:=by have:yw rs * 1<=yw rs * L:=cT hL1 (by lia);lia
  have hpos:0<ws.length:=eB.mpr hne;walk_at "st";exact r rs _ ⟨hi1 (by lia),zbi hrs (by lia),hrs⟩ hpm (by lia)
def zcN  : FV:=fun Pn ws n R=>∃ (rm:List Int),ws=[.d (stD rm)]/\(RoomOk rm)/\(R (.d (zbp (uY (rm.map zp)))) n)
theorem zcN.i  {Pn:Option zq} {n:Nat} {R:W->Nat->Prop} {rm:List Int} (hR:RoomOk rm) (h:R (.d (zbp (uY (rm.map zp)))) n)  : zcN Pn [.d (stD rm)] n R:=⟨rm,rfl,hR,h⟩
theorem y0 (T:Txt K mg t):FnOk P w K mg base CX0 1 t.f4 t.d4 ["_law_room_here"] (spV 1 false zcN):=by
 refine Fun.okW (k:=0) (fr:=false) [3] 4 T.q4.F zR rfl (by decide) rfl fun cdv A outer s H E Pn hr=>⟨_,(zb (wS zk <| zu (i:=1) zR.nd rfl (Or.inl rfl) (uc (za (xo zd) zd)))
   (zb (yH aW rfl (wI za3 <| zcV K rfl (kv 0)) (wG zv <| zg (i:=2) zR.nd rfl (Or.inl rfl)) (zb (wS yM <| xP (i:=3) zR.nd rfl (Or.inl rfl) (uc zd))
   (zb (yH aW rfl (wI yr <| yq K rfl (kv 1)) (wG zv <| zg (i:=4) zR.nd rfl (Or.inr rfl)) (ze (wS zfB <| zil 3 (xk (N:=["_law_worth","_law_one"]) (cix:=[none,some 4]) rfl ⟨rfl,by decide +kernel,rfl⟩ (wI yt <| zJ rfl T.b_range (zi (kb 2) zm)) (fun _ _ _ _=>(wG zv <| zg (i:=0) (show (["_law_worth","_law_one"]:List Str).Nodup by decide +kernel) rfl (Or.inl rfl))) (fun _ _ _ _=>yL) (fun _ _ _ _=>(uz yV xL (kb 1) (JE.bo (xo (za (kv 0) zd)))))))))
   (ze (wS zdB <| zfw (i:=1) 3 zR.nd rfl (Or.inl rfl))))))
   (ze (z3 (kv 1))))),fun ws n R hF=>?_⟩
 obtain⟨rm,rfl,hR,r⟩:=hF;walk_at "st";have h8:=hR.few;refine yE rm (fun i=>.d (.int i)) (by rw[az];rfl) (fun i ρ m=>m=n/\∃ (v2 v3 v4:Option W),ρ=[some (.d (stD rm)),some (.d (zbp (uY ((rm.take i).map zp)))),v2,v3,v4]) ⟨rfl,_,_,_,rfl⟩ ?_ ?_
 ·rintro i a ρ m ha ⟨rfl,v2,v3,v4,rfl⟩ C B E hC _ _;have hm:=hR.box a (aI ha);have hfew:=zf0 h8 hR.box i;have hrow:∀st∈uY ((rm.take i).map zp),st.length<=8:=fun st hst=>by rw[zjZ _ _ hst,aa,aJ];lia
  have hnext:uy (uY ((rm.take i).map zp)) (zp a)=uY ((rm.take (i+1)).map zp):=by rw[zr ha,aB,ao,dG,x5]
  generalize uY ((rm.take i).map zp)=rows at hfew hrow hnext;walk_at "st";refine yE rows (fun st=>.d (stD st)) (by rw[az];rfl) (fun j ρ m'=>m'=m/\∃v4,ρ=[some (.d (stD rm)),some (.d (zbp rows)),some (.d (.int a)),some (.d (zbp (uy (rows.take j) (zp a)))),v4]) ⟨rfl,_,rfl⟩ ?_ ?_
  ·rintro j row ρ m' hj ⟨rfl,v4,rfl⟩ C' B' E' hC' _ _;have hr8:=hrow row (aI hj);have hjl:=(ae.mp hj).1;walk_at "st";refine⟨⟨by lia,by lia⟩,?_⟩;rw[xA];refine uC (List.range a.toNat) (fun k:Nat=>W.d (.int (k:Int))) rfl (fun ρ=>∃v,ρ=[v,some (.d (stD row))]) (fun k:Nat=>stD (row++[(k:Int)])) (by rw[am];exact ax (by lia:_<=4) (by decide)) ⟨_,rfl⟩ ?_ ?_
   ·rintro k hk ρ' ⟨v,rfl⟩ D hD;walk_at "st";refine⟨len1 (by lia),?_⟩;rw[cat1];exact hD ⟨_,rfl⟩
   ·have e:(List.range a.toNat).map (fun k:Nat=>stD (row++[(k:Int)]))=((zp a).map fun w=>row++[w]).map stD:=by unfold zp;rw[az,az];rfl
    rw[e];have hl:(uy (rows.take j) (zp a)).length=(rows.take j).length * a.toNat:=by rw[zaZ,z6]
    have hlt:(rows.take j).length * a.toNat<=65536 * 4:=Nat.mul_le_mul (by rw[aJ];lia) (by lia);refine⟨?_,?_⟩
    ·rw[aa,aa,aa,z6,hl];exact ax (by lia:_<=300000) (by decide)
    rw[<- aB,<- zfd,<- zr hj];exact hC' ⟨rfl,_,rfl⟩
  ·rintro ρ m' ⟨rfl,v4,rfl⟩;rw[bn,hnext];walk_at "st";exact hC ⟨rfl,_,_,_,rfl⟩
 ·rintro ρ m ⟨rfl,v2,v3,v4,rfl⟩;rw[bn];walk_at "st";exact r
def zjX  : FV:=fun Pn ws n R=>∃ (p:Addr) (mm:Int),ws=[.pen p,.d (.int mm)]/\(IsP Pn p)/\(n+10<=1000000)/\(2<=mm)/\(mm<=4)/\(∀a b,0<=a->a<mm->0<=b->b<mm->a≠b->R (.d (.tup [.int a,.int b])) (n+2))
theorem zjX.i  {Pn:Option zq} {n:Nat} {R:W->Nat->Prop} {p:Addr} {mm:Int} (hP:IsP Pn p) (h2:2<=mm) (h4:mm<=4) (h:∀a b,0<=a->a<mm->0<=b->b<mm->a≠b->R (.d (.tup [.int a,.int b])) (n+2)) (hn:n+10<=1000000:=by lia):zjX Pn [.pen p,.d (.int mm)] n R:=⟨p,mm,rfl,hP,hn,h2,h4,h⟩
theorem zeD (T:Txt K mg t):FnOk P w K mg base CX0 2 t.f5 t.d5 ["_law_pen_here","_law_many"] (spV 2 false zjX):=by
 have G1:=zK (P:=P) (w:=w) (base:=base) T
 refine Fun.okW (k:=1) (fr:=false) [] 1 T.q5.F zcr rfl (by decide) rfl fun cdv A outer s H E Pn hr=>⟨_,(zb (wS zk <| zu (i:=2) zcr.nd rfl (Or.inl rfl) (wE zo <| yG T.q1 G1 hr (za (kv 0) (za (kv 1) zd))))
   (ze (z3 (xo (za (kv 2) (za (uz zaK zrq (JE.bo (uz yS za8 (JE.bo (uz yS za8 (kb 2) (JE.bo zw))) (JE.bo (wE zo <| yG T.q1 G1 hr (za (kv 0) (za (uz zi7 zot (kb 1) (JE.bo zw)) zd)))))) (kb 1)) zd)))))),fun ws n R hF=>?_⟩
 obtain⟨p,mm,rfl,hP,hn,h2,h4,r⟩:=hF;walk_at "st";refine dc hP fun wo w0 w1=>?_;walk_at "st";refine dc hP fun t t0 t1=>?_;walk_at "st";refine⟨by lia,?_⟩;have c0:=cu (wo+1+t) (show mm≠0 by lia);have c1:=bR (wo+1+t) (show 0<mm by lia)
 have cne:(wo+1+t) % mm≠wo:=by
  have h3:mm=2\/mm=3\/mm=4:=by lia
  rcases h3 with rfl | rfl | rfl <;> lia
 exact r _ _ w0 w1 c0 c1 (Ne.symm cne)
def zgJ  : FV:=fun Pn ws n R=>∃ (p:Addr) (rm:List Int),ws=[.pen p,.d (stD rm)]/\(IsP Pn p)/\(n+60<=1000000)/\(RoomOk rm)/\(∀x m,WishOk rm x->m<=n+30->R (.d (yg x)) m)
theorem zgJ.i  {Pn:Option zq} {n:Nat} {R:W->Nat->Prop} {p:Addr} {rm:List Int} (hP:IsP Pn p) (hR:RoomOk rm) (h:∀x m,WishOk rm x->m<=n+30->R (.d (yg x)) m) (hn:n+60<=1000000:=by lia):zgJ Pn [.pen p,.d (stD rm)] n R:=⟨p,rm,rfl,hP,hn,hR,h⟩
theorem uu (T:Txt K mg t):FnOk P w K mg base CX0 3 t.f6 t.d6 ["_law_pen_here","_law_room_here"] (spV 2 false zgJ):=by
 have G1:=zK (P:=P) (w:=w) (base:=base) T;have G5:=zeD (P:=P) (w:=w) (base:=base) T
 refine Fun.okW (k:=2) (fr:=false) [4] 6 T.q6.F yC rfl (by decide) rfl fun cdv A outer s H E Pn hr=>⟨_,(zb (wS zk <| zu (i:=2) yC.nd rfl (Or.inl rfl) (wE zo <| yG T.q1 G1 hr (za (kv 0) (za (zO yz ux (by rfl) T.b_len aZ (zi (kb 1) zm)) zd))))
   (zb (wS zk <| zu (i:=3) yC.nd rfl (Or.inl rfl) (uz yS za8 (JE.bo zw) (JE.bo (wE zo <| yG T.q1 G1 hr (za (kv 0) (za zw zd))))))
   (zb (wS yM <| xP (i:=4) yC.nd rfl (Or.inl rfl) (uc zd))
   (zb (yH aW rfl (wI yt <| zJ rfl T.b_range (zi (JE.bo (zO yz ux (by rfl) T.b_len aZ (zi (kb 1) zm))) zm)) (wG zv <| zg (i:=5) yC.nd rfl (Or.inl rfl)) (ze (wS zG <| yZ (JW.t (wW za2 <| zcX (wT zn <| zy zgZ zoE (kb 5) (kb 2) (zD _)) (u9 (.inl rfl) (wT zn <| zy xY zcL (JE.bo (wE zo <| yG T.q1 G1 hr (za (kv 0) (za (kv 3) zd)))) (JE.bo zw) (zD _))))) (ze (wS uG <| zbb 4 (xo (za (kv 5) (za (wE zo <| yG T.q1 G1 hr (za (kv 0) (za (zak yX uk (kb 1) (kb 5) (fun _ _=>rfl)) zd))) zd))))) zL)))
   (zb (zik (wE zo <| yG T.q5 G5 hr (za (kv 0) (za (zak yX uk (kb 1) (kb 2) (fun _ _=>rfl)) zd))) (wG xa <| xb (n:=2) K rfl rfl (wH zB <| zl (wG zv <| zg (i:=6) yC.nd rfl (Or.inl rfl)) (wH zB <| zl (wG zv <| zg (i:=7) yC.nd rfl (Or.inl rfl)) (wH y9 yp)))))
   (ze (z3 (xo (za (uq xi zcx (by rfl) T.b_tuple cj (zi (kb 4) zm)) (za (kv 2) (za (kv 6) (za (kv 7) zd)))))))))))),fun ws n R hF=>?_⟩
 obtain⟨p,rm,rfl,hP,hn,hR,r⟩:=hF;walk_at "st";have h8:=hR.few;have hpos:=hR.pos;rw[aa];refine dc hP fun box b0 b1=>?_;have hm:=yf hR.box b0 b1;walk_at "st";refine dc hP fun sh s0 s1=>?_;walk_at "st";rw[aa];refine⟨⟨by lia,by lia⟩,zar (fun i ρ m=>m<=n+2+2 * i/\i<=rm.length/\∃g v5,ρ=[some (.pen p),some (.d (stD rm)),some (.d (.int box)),some (.d (.int (2+sh))),some (.d (.lst (g.map yb))),v5,none,none]/\Giv rm g/\(∀q∈g,q.1≠box)/\(∀q∈g,q.1<(i:Int))/\g.length<=i) ⟨by lia,a8 _,[],_,rfl,⟨by simp,.nil⟩,by simp,by simp,a8 _⟩ ?_ ?_⟩
 ·rintro i ρ m hi ⟨hm',hil,g,v5,rfl,hG,hap,hlt,hgl⟩ C B E hC _ _;have hmb:=yf hR.box (b:=(i:Int)) (by lia) (by lia);have els:∀m',m'<=m+1->∀v5,C [some (.pen p),some (.d (stD rm)),some (.d (.int box)),some (.d (.int (2+sh))),some (.d (.lst (g.map yb))),v5,none,none] m':=fun m' hm2 v5=>hC ⟨by lia,by lia,g,_,rfl,hG,hap,fun q hq=>by have:=hlt q hq;lia,by lia⟩;walk_at "st";refine zgY (fun hb=>?_) (fun _=>⟨els _ (by lia) _⟩);walk_at "st";refine dc hP fun t t0 t1=>?_;walk_at "st";refine xy (fun _=>?_) (fun _=>⟨els _ (by lia) _⟩);walk_at "st";refine onA (by lia) (by lia) ?_;walk_at "st";refine dc hP fun u u0 u1=>?_;walk_at "st";refine⟨by rw[aa];exact be (by lia:_<=8) (by decide),hC ⟨by lia,by lia,g++[((i:Int),u)],_,by rw[aB];rfl,hG.snoc hlt (by lia) (by lia) u0 u1,fun q hq=>?_,fun q hq=>?_,by rw[af];simp;lia⟩⟩
  ·rcases bg.mp hq with z | z
   ·exact hap q z
   ·rw[aK.mp z];exact hb
  ·rcases bg.mp hq with z | z
   ·have:=hlt q z;lia
   ·rw[aK.mp z];show (i:Int)<((i+1:Nat):Int);lia
 ·rintro ρ m ⟨hm',hil,g,v5,rfl,hG,hap,hlt,hgl⟩;walk_at "st";refine onA b0 b1 ?_;walk_at "st";refine zjX.i hP hm.1 hm.2 fun a b a0 a1 c0 c1 ne=>?_;walk_at "st";exact r ⟨g,box,a,b⟩ _ ⟨hG,b0,b1,hap,a0,a1,c0,c1,ne⟩ (by lia)
def zjT  : FV:=fun Pn ws n R=>∃ (rm bs:List Int),ws=[.d (stD rm),.d (lsD bs)]/\(RoomOk rm)/\(bs.Nodup)/\(∀b∈bs,0<=b/\b<rm.length)/\(bs.length<=2)/\(∀gs:List (List (Int×Int)),(∀g∈gs,Giv rm g/\∀q∈g,q.1∈bs)->gs.length<=16->R (.d (.lst (gs.map zdp))) n)
theorem zjT.i  {Pn:Option zq} {n:Nat} {R:W->Nat->Prop} {rm bs:List Int} (hR:RoomOk rm) (hN:bs.Nodup) (hb:∀b∈bs,0<=b/\b<rm.length) (h2:bs.length<=2) (h:∀gs:List (List (Int×Int)),(∀g∈gs,Giv rm g/\∀q∈g,q.1∈bs)->gs.length<=16->R (.d (.lst (gs.map zdp))) n)  : zjT Pn [.d (stD rm),.d (lsD bs)] n R:=⟨rm,bs,rfl,hR,hN,hb,h2,h⟩
theorem za5 (T:Txt K mg t):FnOk P w K mg base CX0 1 t.f7 t.d7 ["_law_room_here","_law_boxes"] (spV 2 false zjT):=by
 refine Fun.okW (k:=0) (fr:=false) [4] 4 T.q7.F z7 rfl (by decide) rfl fun cdv A outer s H E Pn hr=>⟨_,(zb (wS zk <| zu (i:=2) z7.nd rfl (Or.inl rfl) (uc (za (xo zd) zd)))
   (zb (yH aW rfl (wI yr <| yq K rfl (zO zj9 zor (by rfl) T.b_sorted dq (zi (kb 1) zm))) (wG zv <| zg (i:=3) z7.nd rfl (Or.inr rfl)) (zb (wS yM <| xP (i:=4) z7.nd rfl (Or.inl rfl) (uc zd))
   (zb (yH aW rfl (wI yr <| yq K rfl (kv 2)) (wG zv <| zg (i:=5) z7.nd rfl (Or.inr rfl)) (ze (wS zfB <| zil 4 (xk (N:=["_law_worth","_law_given","_law_box"]) (cix:=[none,some 5,some 3]) rfl ⟨rfl,by decide +kernel,rfl⟩ (wI yt <| zJ rfl T.b_range (zi (JE.bo (zak yX uk (kb 0) (kb 3) (fun _ _=>rfl))) zm)) (fun _ _ _ _=>(wG zv <| zg (i:=0) (show (["_law_worth","_law_given","_law_box"]:List Str).Nodup by decide +kernel) rfl (Or.inl rfl))) (fun _ _ _ _=>yL) (fun _ _ _ _=>(uz yV xL (kb 1) (JE.bo (xo (za (xo (za (kv 2) (za (kv 0) zd))) zd)))))))))
   (ze (wS zdB <| zfw (i:=2) 4 z7.nd rfl (Or.inl rfl))))))
   (ze (z3 (kv 2))))),fun ws n R hF=>?_⟩
 obtain⟨rm,bs,rfl,hR,hN,hb,h2,r⟩:=hF;walk_at "st";have h8:=hR.few;refine⟨bs,rfl,by lia,fun cs hp hs=>?_⟩;have hcN:cs.Nodup:=hp.nodup_iff.mpr hN;have hlt:cs.Pairwise (· < ·):=(hs.and hcN).imp fun {a b} ⟨h1,h2⟩=>by lia
 have hcb:∀c∈cs,c∈bs:=fun c hc=>hp.mem_iff.mp hc;have hcl:=hp.length_eq;walk_at "st";refine yE cs (fun i=>.d (.int i)) (by rw[az];rfl) (fun i ρ m=>m=n/\∃ (gs:List (List (Int×Int))) (v3 v4 v5:Option W),ρ=[some (.d (stD rm)),some (.d (lsD bs)),some (.d (.lst (gs.map zdp))),v3,v4,v5]/\(∀g∈gs,Giv rm g/\∀q∈g,q.1∈cs.take i)/\gs.length<=4 ^ i) ⟨rfl,[[]],_,_,_,rfl,fun g hg=>?_,by decide⟩ ?_ ?_
 ·rw[aK.mp hg];exact⟨⟨by simp,.nil⟩,by simp⟩
 ·rintro i c ρ m hc ⟨rfl,gs,v3,v4,v5,rfl,hgs,hgl⟩ C B E hC _ _;have hcr:=hb c (hcb c (aI hc));have hmm:=yf hR.box hcr.1 hcr.2;have hi:=(ae.mp hc).1;have h16:4 ^ i<=4:=cF (by decide) (by lia:i<=1)
  have hlow:∀x∈cs.take i,x<c:=fun x hx=>by obtain⟨j,hj,rfl⟩:=bq.mp hx;rw[aJ] at hj;have:=b7.mp hlt j i (by lia) hi (by lia);rw[(ae.mp hc).2] at this;rw[dB];exact this
  walk_at "st";refine yE gs (fun g=>.d (zdp g)) (by rw[az];rfl) (fun j ρ m'=>m'=m/\∃ (lg:List (List (Int×Int))) (v5:Option W),ρ=[some (.d (stD rm)),some (.d (lsD bs)),some (.d (.lst (gs.map zdp))),some (.d (.int c)),some (.d (.lst (lg.map zdp))),v5]/\(∀g∈lg,Giv rm g/\∀q∈g,q.1∈cs.take (i+1))/\lg.length<=j * 4) ⟨rfl,[],_,rfl,by simp,by simp⟩ ?_ ?_
  ·rintro j g ρ m' hg ⟨rfl,lg,v5,rfl,hlg,hll⟩ C' B' E' hC' _ _;have hgg:=hgs g (aI hg);have hg8:=zhW hgg.1 h8;have hj:=(ae.mp hg).1;walk_at "st";refine onA hcr.1 hcr.2 ?_;walk_at "st";refine⟨⟨by lia,by lia⟩,?_⟩;rw[xA];refine uC (List.range (ya rm c).toNat) (fun k:Nat=>W.d (.int (k:Int))) rfl (fun ρ=>∃v,ρ=[v,some (.d (zdp g)),some (.d (.int c))]) (fun k:Nat=>zdp (g++[(c,(k:Int))])) (by rw[am];exact ax (by lia:_<=4) (by decide)) ⟨_,rfl⟩ ?_ ?_
   ·rintro k hk ρ' ⟨v,rfl⟩ D hD;walk_at "st";refine⟨by rw[aa];exact ax (by simp;lia:_<=101) (by decide),?_⟩;rw[show g.map yb++[Dt.tup [Dt.int c,Dt.int (k:Int)]]=(g++[(c,(k:Int))]).map yb by rw[aB];rfl];exact hD ⟨_,rfl⟩
   ·have e:(List.range (ya rm c).toNat).map (fun k:Nat=>zdp (g++[(c,(k:Int))]))=((List.range (ya rm c).toNat).map fun k:Nat=>g++[(c,(k:Int))]).map zdp:=by rw[az];rfl
    rw[e];refine⟨by rw[aa,aa,aa,am];exact ax (by lia:_<=100) (by decide),?_⟩;rw[<- aB];refine hC' ⟨rfl,_,_,rfl,fun z hz=>?_,by rw[af,aa,am];lia⟩;rcases bg.mp hz with hz | hz
    ·exact hlg z hz
    ·obtain⟨k,hk,rfl⟩:=aF.mp hz;have hk:=aQ.mp hk;refine⟨hgg.1.snoc (fun q hq=>hlow _ (hgg.2 q hq)) hcr.1 hcr.2 (by lia) (by lia),fun q hq=>?_⟩;rw[zr hc];rcases bg.mp hq with hq | hq
     ·exact bU _ (hgg.2 q hq)
     ·rw[aK.mp hq];exact au _ (by simp)
  ·rintro ρ m' ⟨rfl,lg,v5,rfl,hlg,hll⟩;walk_at "st";exact hC ⟨rfl,lg,_,_,_,rfl,hlg,by rw[Nat.pow_succ];lia⟩
 ·rintro ρ m ⟨rfl,gs,v3,v4,v5,rfl,hgs,hgl⟩;rw[bn] at hgs;have h16:4 ^ cs.length<=16:=cF (by decide) (by lia:cs.length<=2);walk_at "st";exact r gs (fun g hg=>⟨(hgs g hg).1,fun q hq=>hcb _ ((hgs g hg).2 q hq)⟩) (by lia)
def zhb  : FV:=fun Pn ws n R=>∃ (p:Addr) (rm:List Int),ws=[.pen p,.d (stD rm)]/\(IsP Pn p)/\(n+2000<=1000000)/\(RoomOk rm)/\(∀bk m,y6 rm bk->bk.length<=400->m<=n+1000->R (.d (.lst (bk.map yg))) m)
theorem zhb.i  {Pn:Option zq} {n:Nat} {R:W->Nat->Prop} {p:Addr} {rm:List Int} (hP:IsP Pn p) (hR:RoomOk rm) (h:∀bk m,y6 rm bk->bk.length<=400->m<=n+1000->R (.d (.lst (bk.map yg))) m) (hn:n+2000<=1000000:=by lia):zhb Pn [.pen p,.d (stD rm)] n R:=⟨p,rm,rfl,hP,hn,hR,h⟩
theorem za4 (T:Txt K mg t):FnOk P w K mg base CX0 3 t.f8 t.d8 ["_law_pen_here","_law_room_here"] (spV 2 true zhb):=by
 have G1:=zK (P:=P) (w:=w) (base:=base) T;have G2:=xx (P:=P) (w:=w) (base:=base) T;have G7:=za5 (P:=P) (w:=w) (base:=base) T
 refine Fun.okW (k:=2) (fr:=true) [3] 8 T.q8.F zC rfl (by decide) rfl fun cdv A outer s H E Pn hr=>⟨_,(zb (wS zk <| zu (i:=2) zC.nd rfl (Or.inl rfl) (wE zo <| yG T.q2 G2 hr (za (kv 0) (za (wE ut <| zay T.b_list T.b_range (zi (JE.bo (zO yz ux (by rfl) T.b_len aZ (zi (kb 1) zm))) zm)) zd))))
   (zb (wS yM <| xP (i:=3) zC.nd rfl (Or.inl rfl) (uc zd))
   (zb (yH aW rfl (wI zdy <| zdu rfl T.b_enumerate (za (kv 2) zd)) (wG xa <| xb (n:=2) K rfl rfl (wH zB <| zl (wG zv <| zg (i:=4) zC.nd rfl (Or.inl rfl)) (wH zB <| zl (wG zv <| zg (i:=5) zC.nd rfl (Or.inl rfl)) (wH y9 yp)))) (zb (wS zk <| zu (i:=6) zC.nd rfl (Or.inl rfl) (wE xI <| zb3 (JE.bo (xk (N:=["_law_one","_law_pen_here"]) (cix:=[none,some 0]) rfl ⟨rfl,by decide +kernel,rfl⟩ (wI yr <| yq K rfl (wE xI <| zb3 (kb 2) zU (wO zH <| zV (kb 4)))) (fun _ _ _ _=>(wG zv <| zg (i:=0) (show (["_law_one","_law_pen_here"]:List Str).Nodup by decide +kernel) rfl (Or.inl rfl))) (fun _ _ _ _=>(xW (wT zn <| zy xY zcL (JE.bo (wE zo <| yG T.q1 G1 hr (za (kv 1) (za zw zd)))) (JE.bo zw) (zD _)))) (fun _ _ _ _=>(kv 0)))) zU (wO zH <| zV (JE.bo zw))))
   (ze (yH aW rfl (wI yr <| yq K rfl (wE zo <| yG T.q7 G7 hr (za (kv 1) (za (kv 6) zd)))) (wG zv <| zg (i:=7) zC.nd rfl (Or.inl rfl)) (zb (wS zk <| zu (i:=8) zC.nd rfl (Or.inl rfl) (wE zo <| yG T.q2 G2 hr (za (kv 0) (za (wE ut <| zay T.b_list T.b_range (zi (JE.bo (zak yX uk (kb 1) (kb 5) (fun _ _=>rfl))) zm)) zd))))
   (ze (yH aW rfl (wI yt <| zJ rfl T.b_range (zi (JE.bo (uz zi7 zot (JE.bo (zO yz ux (by rfl) T.b_len aZ (zi (kb 8) zm))) (JE.bo zw))) zm)) (wG zv <| zg (i:=9) zC.nd rfl (Or.inl rfl)) (ze (wS uG <| zbb 3 (xo (za (kv 7) (za (kv 5) (za (zak xM zcM (kb 8) (kb 9) (fun _ _=>rfl)) (za (zak xM zcM (kb 8) (JE.bo (uz yS za8 (kb 9) (JE.bo zw))) (fun _ _=>rfl)) zd))))))))))))))
   (ze (wS zaD <| zb4 3))))),fun ws n R hF=>?_⟩
 obtain⟨p,rm,rfl,hP,hn,hR,r⟩:=hF;walk_at "st";have h8:=hR.few;rw[aa];refine⟨⟨by lia,by lia⟩,?_⟩;walk_at "st";refine tc hP (fun l hl=>?_) (by rw[xz];lia) (by rw[xz];lia);rw[xz];obtain⟨bs,rfl,hbp⟩:=zdN hl;have hbN:bs.Nodup:=hbp.nodup_iff.mpr (uh _)
 have hbm:∀b∈bs,0<=b/\b<rm.length:=fun b hb=>by have:=xD.mp (hbp.mem_iff.mp hb);lia
 have hbl:=hbp.length_eq;rw[z6] at hbl;walk_at "st";have hbl8:bs.length<=8:=by lia
 generalize hn1:n+(rm.length:Int).toNat=n1;refine yE (List.range bs.length) (fun i=>W.d (.tup [.int (i:Int),.int (bs.getD i 0)])) (zms bs) (fun i ρ m=>m<=n1+100 * i/\∃ (bk:List Wi) (v4 v5 v6 v7 v8 v9:Option W),ρ=[some (.pen p),some (.d (stD rm)),some (.d (.lst (bs.map Dt.int))),some (.d (.lst (bk.map yg))),v4,v5,v6,v7,v8,v9]/\y6 rm bk/\bk.length<=48 * i) ⟨by lia,[],_,_,_,_,_,_,rfl,by intro x hx;simp at hx,by simp⟩ ?_ ?_
 ·rintro i k ρ m hik ⟨hm,bk,v4,v5,v6,v7,v8,v9,rfl,hB,hl'⟩ C B E hC _ _;obtain⟨hk1,hk2⟩:=ae.mp hik;rw[am] at hk1;rw[bT] at hk2;subst hk2;have hbox:=hbm _ (zat hk1);have hnot:=zon hbN hk1;generalize bs.getD i 0=box at hbox hnot;have hmm:=yf hR.box hbox.1 hbox.2;walk_at "st";rw[yK,L3.uU];have htl:(bs.take i).length<=8:=by rw[aJ];lia
  refine zf3 (bs.take i) (fun x=>W.d (.int x)) (by rw[az];rfl) (ax (by lia:_<=100) (by decide)) (fun j ρ' n' acc=>n'=m+j/\∃ (v:Option W) (ls:List Int),ρ'=[v,some (.pen p)]/\acc=ls.map Dt.int/\ls.Sublist ((bs.take i).take j)) ⟨by lia,none,[],rfl,rfl,List.nil_sublist _⟩ ?_ ?_
  ·rintro j x ρ' n' acc hx ⟨rfl,v,ls,rfl,rfl,hs⟩ D hD;have hjl:=(ae.mp hx).1;walk_at "st";refine dc hP (fun t t0 t1=>?_) (by lia);walk_at "st";refine xy (fun _=>?_) (fun _=>?_)
   ·refine hD ⟨by lia,_,ls++[x],rfl,by rw[aB];rfl,?_⟩;rw[zr hx];exact hs.append (List.Sublist.refl _)
   ·refine hD ⟨by lia,_,ls,rfl,rfl,?_⟩;rw[zr hx];exact hs.trans (List.sublist_append_left _ _)
  rintro ρ' n' acc ⟨rfl,v,ls,rfl,rfl,hs⟩;rw[bn] at hs;walk_at "st";rw[yK,show (2:Int)=((2:Nat):Int) from rfl,L3.uU];have hs2:=(c3 2 ls).trans hs;have hs3:∀x∈ls.take 2,x∈bs/\x≠box:=fun x hx=>⟨bJ (hs2.subset hx),fun e=>hnot (by rw[<- e];exact hs2.subset hx)⟩;have hsN:(ls.take 2).Nodup:=(hbN.sublist (c3 _ _)).sublist hs2;have hs4:(ls.take 2).length<=2:=by rw[aJ];lia
  generalize ls.take 2=lk at hs3 hsN hs4;generalize hn2:m+(bs.take i).length=n2;walk_at "st";refine zjT.i hR hsN (fun b hb=>hbm b (hs3 b hb).1) hs4 fun gs hgs hgl=>?_;walk_at "st";refine yE gs (fun g=>.d (zdp g)) (by rw[az];rfl) (fun j ρ m'=>m'<=n2+4 * j/\∃ (bk:List Wi) (v7 v8 v9:Option W),ρ=[some (.pen p),some (.d (stD rm)),some (.d (.lst (bs.map Dt.int))),some (.d (.lst (bk.map yg))),some (.d (.int (i:Int))),some (.d (.int box)),some (.d (.lst (lk.map Dt.int))),v7,v8,v9]/\y6 rm bk/\bk.length<=48 * i+3 * j) ⟨by lia,bk,_,_,_,rfl,hB,by lia⟩ ?_ ?_
  ·rintro j g ρ m' hg ⟨hm',bk,v7,v8,v9,rfl,hB,hl'⟩ C' B' E' hC' _ _;have hgg:=hgs g (aI hg);have hj:=(ae.mp hg).1;walk_at "st";refine onA hbox.1 hbox.2 ?_;walk_at "st";refine⟨⟨by lia,by lia⟩,?_⟩;walk_at "st";refine tc hP (fun l hl=>?_) (by rw[xz];lia) (by rw[xz];lia);rw[xz];obtain⟨rs,rfl,hrp⟩:=zdN hl;have hrN:rs.Nodup:=hrp.nodup_iff.mpr (uh _);have hrl:=hrp.length_eq;rw[z6] at hrl
   have hrm:∀x∈rs,0<=x/\x<ya rm box:=fun x hx=>by have:=xD.mp (hrp.mem_iff.mp hx);lia
   walk_at "st";rw[aa];refine⟨⟨by lia,by lia⟩,zar (fun k ρ m2=>m2=m'+(ya rm box).toNat/\∃ (bk:List Wi) (v9:Option W),ρ=[some (.pen p),some (.d (stD rm)),some (.d (.lst (bs.map Dt.int))),some (.d (.lst (bk.map yg))),some (.d (.int (i:Int))),some (.d (.int box)),some (.d (.lst (lk.map Dt.int))),some (.d (zdp g)),some (.d (.lst (rs.map Dt.int))),v9]/\y6 rm bk/\bk.length<=48 * i+3 * j+k) ⟨rfl,bk,_,rfl,hB,by lia⟩ ?_ ?_⟩
   ·rintro k ρ m2 hk ⟨rfl,bk,v9,rfl,hB,hl'⟩ C2 B2 E2 hC2 _ _;have hk1:k+1<rs.length:=by lia
    walk_at "st";refine onA (bp k) (by lia) ?_;walk_at "st";refine onA (by lia) (by lia) ?_;rw[show ((k:Int)+1)=((k+1:Nat):Int) from rfl,yc,yc];have q1:=hrm _ (zat (i:=k) (by lia));have q2:=hrm _ (zat hk1)
    have q3:rs.getD k 0≠rs.getD (k+1) 0:=fun e=>by
     have e1:rs.getD k 0=rs[k]:=by simp[show k<rs.length by lia]
     have e2:rs.getD (k+1) 0=rs[k+1]:=by simp[hk1]
     rw[e1,e2] at e;have:=(bV hrN).mp e;lia
    walk_at "st";refine⟨by rw[aa];exact be (by lia:_<=1000) (by decide),?_⟩;refine hC2 ⟨rfl,bk++[⟨g,box,rs.getD k 0,rs.getD (k+1) 0⟩],_,by rw[aB];rfl,hB.app fun y hy=>?_,by rw[af];simp;lia⟩;rw[aK.mp hy];exact⟨hgg.1,hbox.1,hbox.2,fun q hq=>(hs3 _ (hgg.2 q hq)).2,q1.1,q1.2,q2.1,q2.2,q3⟩
   ·rintro ρ m2 ⟨rfl,bk,v9,rfl,hB,hl'⟩;walk_at "st";exact hC' ⟨by lia,bk,_,_,_,rfl,hB,by lia⟩
  ·rintro ρ m' ⟨hm',bk,v7,v8,v9,rfl,hB,hl'⟩;walk_at "st";exact hC ⟨by lia,bk,_,_,_,_,_,_,rfl,hB,by lia⟩
 ·rintro ρ m ⟨hm,bk,v4,v5,v6,v7,v8,v9,rfl,hB,hl'⟩;rw[am] at hm hl';walk_at "st";exact r bk m hB (by lia) (by lia)
def zd7  : FV:=fun Pn ws n R=>∃ (rm a b:List Int),ws=[.d (stD a),.d (stD b)]/\(RoomOk rm)/\(StOk rm a)/\(StOk rm b)/\(a≠b)/\(∀x,WishOk rm x->R (.d (yg x)) n)
theorem zd7.i  {Pn:Option zq} {n:Nat} {R:W->Nat->Prop} {rm a b:List Int} (hR:RoomOk rm) (ha:StOk rm a) (hb:StOk rm b) (hne:a≠b) (h:∀x,WishOk rm x->R (.d (yg x)) n)  : zd7 Pn [.d (stD a),.d (stD b)] n R:=⟨rm,a,b,rfl,hR,ha,hb,hne,h⟩
theorem zaG (T:Txt K mg t):FnOk P w K mg base CX0 1 t.f9 t.d9 ["_law_one","_law_other"] (spV 2 false zd7):=by
 refine Fun.okW (k:=0) (fr:=false) [] 2 T.q9.F uO rfl (by decide) rfl fun cdv A outer s H E Pn hr=>⟨_,(zb (wS zk <| zu (i:=2) uO.nd rfl (Or.inr rfl) (zak xM zcM (JE.bo (xk (N:=["_law_k","_law_one","_law_other"]) (cix:=[none,some 0,some 1]) rfl ⟨rfl,by decide +kernel,rfl⟩ (wI yt <| zJ rfl T.b_range (zi (JE.bo (zO yz ux (by rfl) T.b_len aZ (zi (kb 0) zm))) zm)) (fun _ _ _ _=>(wG zv <| zg (i:=0) (show (["_law_k","_law_one","_law_other"]:List Str).Nodup by decide +kernel) rfl (Or.inl rfl))) (fun _ _ _ _=>(xW (wT zn <| zy zgZ zoE (JE.bo (zak yX uk (kb 1) (kb 0) (fun _ _=>rfl))) (JE.bo (zak yX uk (kb 2) (kb 0) (fun _ _=>rfl))) (zD _)))) (fun _ _ _ _=>(kv 0)))) (JE.bo zw) (fun _ _=>rfl)))
   (zb (wS zk <| zu (i:=3) uO.nd rfl (Or.inl rfl) (uq xi zcx (by rfl) T.b_tuple cj (zi (JE.bo (xk (N:=["_law_k","_law_one","_law_box"]) (cix:=[none,some 0,some 2]) rfl ⟨rfl,by decide +kernel,rfl⟩ (wI yt <| zJ rfl T.b_range (zi (JE.bo (zO yz ux (by rfl) T.b_len aZ (zi (kb 0) zm))) zm)) (fun _ _ _ _=>(wG zv <| zg (i:=0) (show (["_law_k","_law_one","_law_box"]:List Str).Nodup by decide +kernel) rfl (Or.inl rfl))) (fun _ _ _ _=>(xW (wT zn <| zy zgZ zoE (kb 0) (kb 2) (zD _)))) (fun _ _ _ _=>(xo (za (kv 0) (za (zak yX uk (kb 1) (kb 0) (fun _ _=>rfl)) zd)))))) zm)))
   (ze (z3 (xo (za (kv 3) (za (kv 2) (za (zak yX uk (kb 1) (kb 2) (fun _ _=>rfl)) (za (zak yX uk (kb 0) (kb 2) (fun _ _=>rfl)) zd))))))))),fun ws n R hF=>?_⟩
 obtain⟨rm,a,b,rfl,hR,ha,hb,hne,r⟩:=hF;walk_at "st";have hla:=ha.len;have hlb:=hb.len;have h8:=hR.few;rw[aa];refine⟨⟨by lia,by lia⟩,?_⟩;rw[aL,xA];refine zae (List.range a.length) (fun k:Nat=>W.d (.int (k:Int))) rfl (fun ρ=>∃v,ρ=[v,some (.d (stD a)),some (.d (stD b))]) (fun k=>!decide (a.getD k 0=b.getD k 0)) (fun k=>.int (k:Int)) (by rw[am];exact ax (by lia:a.length<=8) (by decide)) ⟨_,rfl⟩ ?_ ?_
 ·rintro k hk ρ' ⟨v,rfl⟩ C hY hN;have hk':=aQ.mp hk;walk_at "st";refine onA (by lia) (by lia) ?_;walk_at "st";refine onA (by lia) (by lia) ?_;walk_at "st";rw[yc,yc];refine zgY (fun h=>?_) (fun h=>?_)
  ·exact hY (by rw[aN h];rfl) ⟨_,rfl⟩
  ·exact hN (by rw[aR h];rfl) ⟨_,rfl⟩
 ·obtain⟨k,zY,hk,hkl,hkn⟩:=zhJ (hla.trans hlb.symm) hne;rw[hk];walk_at "st";refine zaI (zbL (i:=0) rfl) ?_;walk_at "st";rw[aa];refine⟨⟨by lia,by lia⟩,?_⟩;rw[aL,xA];refine zae (List.range a.length) (fun k:Nat=>W.d (.int (k:Int))) rfl (fun ρ=>∃v,ρ=[v,some (.d (stD a)),some (.d (.int (k:Int)))]) (fun i=>!decide (i=k)) (fun i=>yb ((i:Int),a.getD i 0)) (by rw[am];exact ax (by lia:a.length<=8) (by decide)) ⟨_,rfl⟩ ?_ ?_
  ·rintro i hi ρ' ⟨v,rfl⟩ C hY hN;have hi':=aQ.mp hi;walk_at "st";refine zgY (fun h=>?_) (fun h=>?_)
   ·walk_at "st";refine onA (by lia) (by lia) ?_;walk_at "st";rw[yc];exact hY (by rw[aN (by lia)];rfl) ⟨_,rfl⟩
   ·exact hN (by rw[aR (by lia)];rfl) ⟨_,rfl⟩
  ·walk_at "st";refine onA (by lia) (by lia) ?_;walk_at "st";refine onA (by lia) (by lia) ?_;walk_at "st";have:=r _ (zkj ha hb hkl hkn);unfold zpj yg at this;rw[az] at this;rw[yc,yc];exact this
def zfW  : FV:=fun Pn ws n R=>∃ (rm:List Int),ws=[.d (stD rm)]/\(RoomOk rm)/\(∀sts:List (List Int),sts.Nodup->(∀st∈sts,StOk rm st)->(sts.length:Int)=yw rm->R (.d (zbp sts)) n)
theorem zfW.i  {Pn:Option zq} {n:Nat} {R:W->Nat->Prop} {rm:List Int} (hR:RoomOk rm) (h:∀sts:List (List Int),sts.Nodup->(∀st∈sts,StOk rm st)->(sts.length:Int)=yw rm->R (.d (zbp sts)) n)  : zfW Pn [.d (stD rm)] n R:=⟨rm,rfl,hR,h⟩
theorem zcH (T:Txt K mg t):FnOk P w K mg base CX0 1 t.f10 t.d10 ["_law_room_here"] (spV 1 false zfW):=by
 refine Fun.okW (k:=0) (fr:=false) [3] 6 T.q10.F zP rfl (by decide) rfl fun cdv A outer s H E Pn hr=>⟨_,(zb (wS zk <| zu (i:=1) zP.nd rfl (Or.inl rfl) (uc (za (xo zd) zd)))
   (zb (yH aW rfl (wI za3 <| zcV K rfl (kv 0)) (wG zv <| zg (i:=2) zP.nd rfl (Or.inl rfl)) (zb (wS yM <| xP (i:=3) zP.nd rfl (Or.inl rfl) (uc zd))
   (zb (yH aW rfl (wI zdy <| zdu rfl T.b_enumerate (za (kv 1) zd)) (wG xa <| xb (n:=2) K rfl rfl (wH zB <| zl (wG zv <| zg (i:=4) zP.nd rfl (Or.inl rfl)) (wH zB <| zl (wG zv <| zg (i:=5) zP.nd rfl (Or.inr rfl)) (wH y9 yp)))) (zb (wS zk <| zu (i:=6) zP.nd rfl (Or.inl rfl) (wE ut <| zay T.b_list T.b_range (zi (kb 2) zm)))
   (zb (wS zG <| yZ (wT zn <| zy xY zcL (JE.bo (uz zaK zrq (kb 4) (JE.bo zw))) (JE.bo zw) (zD _)) (ze (wS zk <| zu (i:=6) zP.nd rfl (Or.inl rfl) (wE zkC <| zpr (kb 6)))) zL)
   (ze (wS zfB <| zil 3 (xk (N:=["_law_worth","_law_one"]) (cix:=[none,some 5]) rfl ⟨rfl,by decide +kernel,rfl⟩ (wI yr <| yq K rfl (kv 6)) (fun _ _ _ _=>(wG zv <| zg (i:=0) (show (["_law_worth","_law_one"]:List Str).Nodup by decide +kernel) rfl (Or.inl rfl))) (fun _ _ _ _=>yL) (fun _ _ _ _=>(uz yV xL (kb 1) (JE.bo (xo (za (kv 0) zd)))))))))))
   (ze (wS zdB <| zfw (i:=1) 3 zP.nd rfl (Or.inl rfl))))))
   (ze (z3 (kv 1))))),fun ws n R hF=>?_⟩
 obtain⟨rm,rfl,hR,r⟩:=hF;walk_at "st";have h8:=hR.few
 have hfew:∀i,yw (rm.take i)<=65536:=fun i=>by rw[<- xF _ fun n hn=>by have:=hR.box n (bJ hn);lia];have:=zf0 h8 hR.box i;lia
 refine yE rm (fun i=>.d (.int i)) (by rw[az];rfl) (fun i ρ m=>m=n/\∃ (sts:List (List Int)) (v2 v3 v4 v5 v6:Option W),ρ=[some (.d (stD rm)),some (.d (zbp sts)),v2,v3,v4,v5,v6]/\sts.Nodup/\(∀st∈sts,StOk (rm.take i) st)/\(sts.length:Int)=yw (rm.take i)) ⟨rfl,[[]],_,_,_,_,_,rfl,by decide,fun st hst=>?_,rfl⟩ ?_ ?_
 ·rw[aK.mp hst];exact⟨rfl,fun b b0 b1=>absurd b1 (by simp;lia)⟩
 ·rintro i a ρ m ha ⟨rfl,sts,v2,v3,v4,v5,v6,rfl,hN,hok,hlen⟩ C B E hC _ _;have hm:=hR.box a (aI ha);have hf:=hfew i;have hf1:=hfew (i+1);have hsn:yw (rm.take (i+1))=yw (rm.take i) * a:=by rw[zr ha,uf]
  obtain⟨w,rfl⟩:∃w:Nat,a=(w:Int):=⟨a.toNat,by lia⟩
  have hsl:sts.length * w<=65536:=by
   have:((sts.length * w:Nat):Int)=yw (rm.take (i+1)):=by rw[hsn,<- hlen,Int.natCast_mul]
   lia
  walk_at "st";refine yE (List.range sts.length) (fun k:Nat=>W.d (.tup [.int (k:Int),stD (sts.getD k [])])) (zhM sts) (fun k ρ m'=>m'=m/\∃ (lg:List (List Int)) (v4 v5 v6:Option W),ρ=[some (.d (stD rm)),some (.d (zbp sts)),some (.d (.int (w:Int))),some (.d (.lst (lg.map stD))),v4,v5,v6]/\lg.Nodup/\(∀x∈lg,∃b∈sts.take k,∃v:Int,0<=v/\v<w/\x=b++[v])/\lg.length=k * w) ⟨rfl,[],_,_,_,rfl,.nil,by simp,by simp⟩ ?_ ?_
  ·rintro j k ρ m' hjk ⟨rfl,lg,v4,v5,v6,rfl,hlN,hle,hll⟩ C' B' E' hC' _ _;obtain⟨hk1,hk2⟩:=ae.mp hjk;rw[am] at hk1;rw[bT] at hk2;subst hk2;have hk:=hk1;have hrl:=(hok _ (zas hk)).len;rw[aJ] at hrl;have hkw:(j+1) * w<=sts.length * w:=Nat.mul_le_mul_right _ hk;walk_at "st";refine⟨⟨by lia,by lia⟩,?_⟩;rw[aL];have erng:zgx w=(zp (w:Int)).map Dt.int:=by unfold zgx zp;rw[az,aL];rfl
   rw[erng]
   have fin:∀ws:List Int,ws.Perm (zp (w:Int))->∀v4 v5,zee (eN 0) zrQ (zoB zkc (zpa 1) (zpI (zmZ (zpa 0) zsS))) [none,some (.d (stD (sts.getD j [])))] (fun x n2=>onL x fun l2=>(lg.map stD).length+l2.length<=lim/\C' [some (.d (stD rm)),some (.d (zbp sts)),some (.d (.int (w:Int))),some (.d (.lst (lg.map stD++l2))),v4,v5,some (.d (lsD ws))] n2) ((ws.map Dt.int).map W.d) m':=fun ws hp v4 v5=>by
    refine uC ws (fun v=>W.d (.int v)) (by rw[az];rfl) (fun ρ=>∃v,ρ=[v,some (.d (stD (sts.getD j [])))]) (fun v=>stD (sts.getD j []++[v])) (by rw[hp.length_eq,z6];exact ax (by lia:_<=4) (by decide)) ⟨_,rfl⟩ ?_ ?_
    ·rintro v hv ρ' ⟨u,rfl⟩ D hD;walk_at "st";refine⟨len1 (by lia),?_⟩;rw[cat1];exact hD ⟨_,rfl⟩
    ·have hB:(ws.map fun v=>sts.getD j []++[v]).Perm ((List.range w).map fun v:Nat=>sts.getD j []++[(v:Int)]):=by
      have:=hp.map fun v=>sts.getD j []++[v];unfold zp at this;rw[az,aL] at this;exact this
     obtain⟨q1,q2,q3⟩:=zg6 hk hN hlN hle hll hB;rw[show ws.map (fun v=>stD (sts.getD j []++[v]))=(ws.map fun v=>sts.getD j []++[v]).map stD by rw[az];rfl];refine⟨?_,hC' ⟨rfl,lg++ws.map (fun v=>sts.getD j []++[v]),_,_,_,by rw[aB],q1,q2,q3⟩⟩;rw[aa,aa,<- af,q3];exact ax (by lia:_<=65536) (by decide)
   refine⟨by lia,?_⟩;walk_at "st";refine xy (fun _=>?_) (fun _=>?_)
   ·walk_at "st";rw[<- List.map_reverse];exact fin _ (List.reverse_perm _) _ _
   ·walk_at "st";exact fin _ (.refl _) _ _
  ·rintro ρ m' ⟨rfl,lg,v4,v5,v6,rfl,hlN,hle,hll⟩;rw[am] at hle hll;walk_at "st";refine hC ⟨rfl,lg,_,_,_,_,_,rfl,hlN,fun st hst=>?_,?_⟩
   ·obtain⟨b,hb,v,v0,v1,rfl⟩:=hle st hst;rw[bn] at hb;rw[zr ha];exact (hok b hb).snoc v0 v1
   ·rw[hll,hsn,<- hlen,Int.natCast_mul]
 ·rintro ρ m ⟨rfl,sts,v2,v3,v4,v5,v6,rfl,hN,hok,hlen⟩;rw[bn] at hlen hok;walk_at "st";exact r sts hN hok hlen
def zde  : FV:=fun Pn ws n R=>∃ (p:Addr) (rm:List Int),ws=[.pen p,.d (stD rm)]/\(IsP Pn p)/\(n+10<=1000000)/\(RoomOk rm)/\(yw rm<=256)/\(∀bk m,y6 rm bk->bk.length<=400->m<=n+5->R (.d (.lst (bk.map yg))) m)
theorem zde.i  {Pn:Option zq} {n:Nat} {R:W->Nat->Prop} {p:Addr} {rm:List Int} (hP:IsP Pn p) (hR:RoomOk rm) (hp:yw rm<=256) (h:∀bk m,y6 rm bk->bk.length<=400->m<=n+5->R (.d (.lst (bk.map yg))) m) (hn:n+10<=1000000:=by lia):zde Pn [.pen p,.d (stD rm)] n R:=⟨p,rm,rfl,hP,hn,hR,hp,h⟩
theorem zcE (T:Txt K mg t):FnOk P w K mg base CX0 2 t.f11 t.d11 ["_law_pen_here","_law_room_here"] (spV 2 true zde):=by
 have G1:=zK (P:=P) (w:=w) (base:=base) T;have G9:=zaG (P:=P) (w:=w) (base:=base) T;have G10:=zcH (P:=P) (w:=w) (base:=base) T
 refine Fun.okW (k:=1) (fr:=true) [] 1 T.q11.F uw rfl (by decide) rfl fun cdv A outer s H E Pn hr=>⟨_,(zb (wS zk <| zu (i:=2) uw.nd rfl (Or.inl rfl) (wE zo <| yG T.q10 G10 hr (za (kv 1) zd)))
   (zb (wS zG <| yZ (wT zn <| zy xY zcL (JE.bo (wE zo <| yG T.q1 G1 hr (za (kv 0) (za zw zd)))) (JE.bo zw) (zD _)) (ze (wS zk <| zu (i:=2) uw.nd rfl (Or.inl rfl) (wE xI <| zb3 (kb 2) (wO zH <| zV (JE.bo (wE zo <| yG T.q1 G1 hr (za (kv 0) (za (zO yz ux (by rfl) T.b_len aZ (zi (kb 2) zm)) zd))))) zU))) zL)
   (ze (z3 (xk (N:=["_law_one","_law_other"]) (cix:=[none,none]) rfl ⟨rfl,by decide +kernel,rfl⟩ (wI zdz <| zfv rfl T.b_zip (za (kv 2) (za (wE xI <| zb3 (kb 2) (wO zH <| zV (JE.bo zw)) zU) zd))) (fun _ _ _ _=>(wG xa <| xb (n:=2) K rfl rfl (wH zB <| zl (wG zv <| zg (i:=0) (show (["_law_one","_law_other"]:List Str).Nodup by decide +kernel) rfl (Or.inl rfl)) (wH zB <| zl (wG zv <| zg (i:=1) (show (["_law_one","_law_other"]:List Str).Nodup by decide +kernel) rfl (Or.inl rfl)) (wH y9 yp))))) (fun _ _ _ _=>yL) (fun _ _ _ _=>(wE zo <| yG T.q9 G9 hr (za (kv 0) (za (kv 1) zd))))))))),fun ws n R hF=>?_⟩
 obtain⟨p,rm,rfl,hP,hn,hR,hp,r⟩:=hF;walk_at "st";refine zfW.i hR fun sts hN hok hlen=>?_;have h2:=zeM hR.ne fun n hn=>(hR.box n hn).1;walk_at "st";refine dc hP fun a a0 a1=>?_;walk_at "st";refine' zgT (fun (ss:List (List Int)) (n1:Nat)=>ss.Nodup/\(∀st∈ss,StOk rm st)/\ss.length<=256/\n1<=n+2) _ (fun zY=>?_) ?_;rotate_left
 ·refine xy (fun _=>?_) (fun _=>?_)
  ·walk_at "st";rw[aa];refine dc hP fun b b0 b1=>?_;walk_at "st";rw[yK];have q:=zhB sts (some b) none;generalize xV sts (some b) none=ss at q;generalize hk:n+1+1=n1;exact zY ss n1 ⟨hN.sublist q,fun st hst=>hok st (q.subset hst),by have:=q.length_le;lia,by lia⟩
  ·walk_at "st";generalize hk:n+1=n1;exact zY sts n1 ⟨hN,hok,by lia,by lia⟩
 rintro ss n1 ⟨hN,hok,hl,hn1⟩;rw[zlo];refine zf3 (List.range (ss.length - 1)) (fun i:Nat=>W.d (.tup [stD (ss.getD i []),stD (ss.getD (i+1) [])])) rfl (by rw[am];exact ax (by lia:_<=256) (by decide)) (fun i ρ' n' acc=>n'=n1/\i<=ss.length - 1/\∃ (v0 v1:Option W) (bk:List Wi),ρ'=[v0,v1]/\acc=bk.map yg/\y6 rm bk/\bk.length=i) ⟨rfl,a8 _,none,none,[],rfl,rfl,by intro x hx;simp at hx,rfl⟩ ?_ ?_
 ·rintro i k ρ' n' acc hk ⟨rfl,hi,v0,v1,bk,rfl,rfl,hB,hbl⟩ C hC;obtain⟨hk1,hk2⟩:=ae.mp hk;rw[am] at hk1;rw[bT] at hk2;subst hk2;walk_at "st";refine zd7.i hR (hok _ (zas (by lia))) (hok _ (zas (by lia))) (zgX hN (by lia)) fun x hx=>?_;exact hC ⟨rfl,hk1,_,_,bk++[x],rfl,by rw[aB];rfl,hB.app (fun y hy=>by rw[aK.mp hy];exact hx),by rw[af,hbl];rfl⟩
 ·rintro ρ' n' acc ⟨rfl,hi,v0,v1,bk,rfl,rfl,hB,hbl⟩;rw[am] at hbl;exact r bk _ hB (by lia) (by lia)
def zfV  : FV:=fun Pn ws n R=>∃ (p:Addr) (rm:List Int),ws=[.pen p,.d (stD rm)]/\(IsP Pn p)/\(n+3000<=1000000)/\(RoomOk rm)/\(yw rm<=16)/\(∀bk m,y6 rm bk->bk.length<=1000->m<=n+1000->R (.d (.lst (bk.map yg))) m)
theorem zfV.i  {Pn:Option zq} {n:Nat} {R:W->Nat->Prop} {p:Addr} {rm:List Int} (hP:IsP Pn p) (hR:RoomOk rm) (hp:yw rm<=16) (h:∀bk m,y6 rm bk->bk.length<=1000->m<=n+1000->R (.d (.lst (bk.map yg))) m) (hn:n+3000<=1000000:=by lia):zfV Pn [.pen p,.d (stD rm)] n R:=⟨p,rm,rfl,hP,hn,hR,hp,h⟩
theorem zca (T:Txt K mg t):FnOk P w K mg base CX0 3 t.f12 t.d12 ["_law_pen_here","_law_room_here"] (spV 2 true zfV):=by
 have G1:=zK (P:=P) (w:=w) (base:=base) T;have G2:=xx (P:=P) (w:=w) (base:=base) T;have G4:=y0 (P:=P) (w:=w) (base:=base) T;have G9:=zaG (P:=P) (w:=w) (base:=base) T
 refine Fun.okW (k:=2) (fr:=true) [3,6] 8 T.q12.F zF rfl (by decide) rfl fun cdv A outer s H E Pn hr=>⟨_,(zb (wS zk <| zu (i:=2) zF.nd rfl (Or.inl rfl) (wE zo <| yG T.q4 G4 hr (za (kv 1) zd)))
   (zb (wS yM <| xP (i:=3) zF.nd rfl (Or.inl rfl) zmQ)
   (zb (yH aW rfl (wI zdy <| zdu rfl T.b_enumerate (za (wE zo <| yG T.q2 G2 hr (za (kv 0) (za (kv 2) zd))) zd)) (wG xa <| xb (n:=2) K rfl rfl (wH zB <| zl (wG zv <| zg (i:=4) zF.nd rfl (Or.inl rfl)) (wH zB <| zl (wG zv <| zg (i:=5) zF.nd rfl (Or.inl rfl)) (wH y9 yp)))) (ze (wS ziE <| zkt 3 (zbt hr) (kb 5) (kv 4))))
   (zb (wS yM <| xP (i:=6) zF.nd rfl (Or.inl rfl) (uc zd))
   (zb (yH aW rfl (wI yr <| yq K rfl (kv 2)) (wG zv <| zg (i:=5) zF.nd rfl (Or.inl rfl)) (ze (yH aW rfl (wI yt <| zJ rfl T.b_range (zi (JE.bo (zO yz ux (by rfl) T.b_len aZ (zi (kb 1) zm))) zm)) (wG zv <| zg (i:=7) zF.nd rfl (Or.inl rfl)) (ze (yH aW rfl (wI yt <| zJ rfl T.b_range (zi (JE.bo (zak yX uk (kb 1) (kb 7) (fun _ _=>rfl))) zm)) (wG zv <| zg (i:=8) zF.nd rfl (Or.inl rfl)) (zb (wS zk <| zu (i:=9) zF.nd rfl (Or.inl rfl) (uz yV xL (JE.bo (uz yV xL (JE.bo (wE xp <| zbu (kb 5) zU (wO zH <| zV (kb 7)))) (JE.bo (xo (za (kv 8) zd))))) (JE.bo (wE xp <| zbu (kb 5) (wO zH <| zV (JE.bo (uz yS za8 (kb 7) (JE.bo zw)))) zU))))
   (ze (wS zG <| yZ (JW.t (wW za2 <| zcX (wT zn <| zy zi3 zr0 (JE.bo (wE zeA <| zij (zbt hr) (kb 3) (kb 5) (fun _ _=>rfl))) (JE.bo (wE zeA <| zij (zbt hr) (kb 3) (kb 9) (fun _ _=>rfl))) (zD _)) (u9 (.inl rfl) (wT zn <| zy znh u_gt (JE.bo (wE zo <| yG T.q1 G1 hr (za (kv 0) (za zw zd)))) (JE.bo zw) (zD _))))) (ze (wS uG <| zbb 6 (wE zo <| yG T.q9 G9 hr (za (kv 5) (za (kv 9) zd))))) zL))))))))
   (ze (wS zaD <| zb4 6))))))),fun ws n R hF=>?_⟩
 obtain⟨p,rm,rfl,hP,hn,hR,hp,r⟩:=hF;walk_at "st";have h8:=hR.few
 have hsz:(uY (rm.map zp)).length<=16:=by
  have:=xF rm fun n hn=>by have:=hR.box n hn;lia
  lia
 have hok:∀st∈uY (rm.map zp),StOk rm st:=fun st hst=>zhi rm st hst;have hin:∀st,StOk rm st->st∈uY (rm.map zp):=fun st hst=>zoh hst;refine zcN.i hR ?_;walk_at "st";generalize uY (rm.map zp)=ev at hsz hok hin;refine tc hP (fun l hl=>?_) (by rw[aa];lia) (by rw[aa];lia);rw[aa];obtain⟨ys,rfl,hyp⟩:=zdM hl;have hyl:=hyp.length_eq;walk_at "st";generalize hn1:n+ev.length=n1;refine yE (List.range ys.length) (fun k:Nat=>W.d (.tup [.int (k:Int),stD (ys.getD k [])])) (zhM ys) (fun i ρ m=>m=n1/\i<=ys.length/\∃ (kvs:List (List Int×Dt)) (v4 v5:Option W),ρ=[some (.pen p),some (.d (stD rm)),some (.d (zbp ev)),some (.dt kvs),v4,v5,none,none,none,none]/\(∀j,j<i->∃r:Int,xN kvs (ys.getD j [])=some (.int r))/\kvs.length<=i) ⟨rfl,a8 _,[],_,_,rfl,fun j hj=>by lia,ag _⟩ ?_ ?_
 ·rintro i k ρ m hik ⟨rfl,hil,kvs,v4,v5,rfl,hlk,hkl⟩ C B E hC _ _;obtain⟨hk1,hk2⟩:=ae.mp hik;rw[am] at hk1;rw[bT] at hk2;subst hk2;walk_at "st";refine⟨ys.getD i [],rfl,be (by lia:_<=100) (by decide),hC ⟨rfl,hk1,_,_,_,rfl,fun j hj=>?_,by have:=zje kvs (ys.getD i []) (.int (i:Int));lia⟩⟩;by_cases e:ys.getD j []=ys.getD i []
  ·exact⟨i,by rw[zgk,if_pos e]⟩
  ·obtain⟨r',hr'⟩:=hlk j (by
    rcases Nat.lt_succ_iff_lt_or_eq.mp hj with h | h
    ·exact h
    ·subst h;exact absurd rfl e)
   exact⟨r',by rw[zgk,if_neg e];exact hr'⟩
 rintro ρ n2 ⟨rfl,hil,kvs,v4,v5,rfl,hlk,hkl⟩;rw[am] at hlk
 have hlook:∀st,StOk rm st->∃r:Int,xN kvs st=some (.int r):=fun st hst=>by have:=hyp.mem_iff.mpr (hin st hst);obtain⟨j,hj,rfl⟩:=bq.mp this;have:=hlk j hj;rwa[show ys.getD j []=ys[j] by simp[hj]] at this
 walk_at "st";refine yE ev (fun st=>.d (stD st)) (by rw[az];rfl) (fun i ρ m=>m<=n2+32 * i/\∃ (bk:List Wi) (v5 v7 v8 v9:Option W),ρ=[some (.pen p),some (.d (stD rm)),some (.d (zbp ev)),some (.dt kvs),v4,v5,some (.d (.lst (bk.map yg))),v7,v8,v9]/\y6 rm bk/\bk.length<=32 * i) ⟨by lia,[],_,_,_,_,rfl,by intro x hx;simp at hx,by simp⟩ ?_ ?_
 ·rintro i one ρ m ho ⟨hm,bk,v5,v7,v8,v9,rfl,hB,hl'⟩ C B E hC _ _;have hil:=(ae.mp ho).1;have hO:=hok one (aI ho);have hol:=hO.len;obtain⟨ra,hra⟩:=hlook one hO;walk_at "st";rw[aa];refine⟨⟨by lia,by lia⟩,zar (fun j ρ m'=>m'<=m+4 * j/\∃ (bk:List Wi) (v7 v8 v9:Option W),ρ=[some (.pen p),some (.d (stD rm)),some (.d (zbp ev)),some (.dt kvs),v4,some (.d (stD one)),some (.d (.lst (bk.map yg))),v7,v8,v9]/\y6 rm bk/\bk.length<=32 * i+4 * j) ⟨by lia,bk,_,_,_,rfl,hB,by lia⟩ ?_ ?_⟩
  ·rintro j ρ m' hj ⟨hm',bk,v7,v8,v9,rfl,hB,hl'⟩ C' B' E' hC' _ _;have hj:j<rm.length:=by lia
   have hmm:=yf hR.box (bp j) (by lia);walk_at "st";refine onA (bp j) (by lia) ?_;walk_at "st";refine⟨⟨by lia,by lia⟩,zar (fun k ρ m2=>m2<=m'+k/\k<=4/\∃ (bk:List Wi) (v8 v9:Option W),ρ=[some (.pen p),some (.d (stD rm)),some (.d (zbp ev)),some (.dt kvs),v4,some (.d (stD one)),some (.d (.lst (bk.map yg))),some (.d (.int (j:Int))),v8,v9]/\y6 rm bk/\bk.length<=32 * i+4 * j+k) ⟨by lia,by lia,bk,_,_,rfl,hB,by lia⟩ ?_ ?_⟩
   ·rintro k ρ m2 hk ⟨hm2,hk4,bk,v8,v9,rfl,hB,hl'⟩ C2 B2 E2 hC2 _ _;walk_at "st";refine⟨zam (by lia),?_⟩;walk_at "st";refine⟨zan (by lia),?_⟩;rw[zbO (bp j) (by lia)];have hT:StOk rm (chg one (j:Int) (k:Int)):=zld hO (bp j) (by lia) (by lia) (by lia);obtain⟨rb,hrb⟩:=hlook _ hT;walk_at "st";refine⟨one,rfl,zaI hra ?_⟩;walk_at "st";refine⟨chg one (j:Int) (k:Int),rfl,zaI hrb ?_⟩;walk_at "st";refine xy (fun hlt=>?_) (fun _=>⟨hC2 ⟨by lia,by lia,bk,_,_,rfl,hB,by lia⟩⟩)
    have hne:one≠chg one (j:Int) (k:Int):=fun e=>by rw[<- e,hra] at hrb;cases hrb;lia
    walk_at "st";refine dc hP (fun d d0 d1=>?_) (by lia);walk_at "st";refine xy (fun _=>?_) (fun _=>⟨hC2 ⟨by lia,by lia,bk,_,_,rfl,hB,by lia⟩⟩);walk_at "st";refine zd7.i hR hO hT hne fun x hx=>?_;walk_at "st";refine⟨by rw[aa];exact be (by lia:_<=1000) (by decide),hC2 ⟨by lia,by lia,bk++[x],_,_,by rw[aB];rfl,hB.app (fun y hy=>by rw[aK.mp hy];exact hx),by rw[af];simp;lia⟩⟩
   ·rintro ρ m2 ⟨hm2,hk4,bk,v8,v9,rfl,hB,hl'⟩;walk_at "st";exact hC' ⟨by lia,bk,_,_,_,rfl,hB,by lia⟩
  ·rintro ρ m' ⟨hm',bk,v7,v8,v9,rfl,hB,hl'⟩;walk_at "st";exact hC ⟨by lia,bk,_,_,_,_,rfl,hB,by lia⟩
 ·rintro ρ m ⟨hm,bk,v5,v7,v8,v9,rfl,hB,hl'⟩;walk_at "st";exact r bk m hB (by lia) (by lia)
def zdf  : FV:=fun Pn ws n R=>∃ (p:Addr) (rm:List Int) (bk:List Wi),ws=[.pen p,.d (stD rm),.d (.lst (bk.map yg))]/\(IsP Pn p)/\(n+100<=1000000)/\(RoomOk rm)/\(y6 rm bk)/\(bk.length<=2000)/\(∀bk' m,y6 rm bk'->bk'.length<=2001->m<=n+50->R (.d (.lst (bk'.map yg))) m)
theorem zdf.i  {Pn:Option zq} {n:Nat} {R:W->Nat->Prop} {p:Addr} {rm:List Int} {bk:List Wi} (hP:IsP Pn p) (hR:RoomOk rm) (hB:y6 rm bk) (hl:bk.length<=2000) (h:∀bk' m,y6 rm bk'->bk'.length<=2001->m<=n+50->R (.d (.lst (bk'.map yg))) m) (hn:n+100<=1000000:=by lia):zdf Pn [.pen p,.d (stD rm),.d (.lst (bk.map yg))] n R:=⟨p,rm,bk,rfl,hP,hn,hR,hB,hl,h⟩
theorem zbv (T:Txt K mg t):FnOk P w K mg base CX0 4 t.f13 t.d13 ["_law_pen_here","_law_room_here","_law_book_here"] (spG 3 true zdf):=by
 have G1:=zK (P:=P) (w:=w) (base:=base) T;have G6:=uu (P:=P) (w:=w) (base:=base) T
 refine Fun.okG (k:=3) (fr:=true) [2] 6 T.q13.F zX rfl (by decide) (by decide) rfl fun cdv A outer s H E Pn hr=>⟨_,(zb (wS zk <| zu (i:=3) zX.nd rfl (Or.inl rfl) (wE zo <| yG T.q1 G1 hr (za (kv 0) (za zw zd))))
   (zb (wS zG <| yZ (JW.t (wW zc3 <| zgR (wT zn <| zy xY zcL (kb 3) (JE.bo zw) (zD _)) (u9 (.inr rfl) (wT zn <| zy (zp5 hr.units) ztC (kb 2) (JE.bo (uc zd)) (zD _))))) (zb (wS zm1 <| zpt 2 (wE zo <| yG T.q1 G1 hr (za (kv 0) (za (uz yS za8 (JE.bo (zO yz ux (by rfl) T.b_len aZ (zi (kb 2) zm))) (JE.bo zw)) zd))) (wE zo <| yG T.q6 G6 hr (za (kv 0) (za (kv 1) zd))))
   (ze (wS zaD <| zb4 2))) zL)
   (zb (wS zk <| zu (i:=4) zX.nd rfl (Or.inl rfl) (wE zo <| yG T.q1 G1 hr (za (kv 0) (za (zO yz ux (by rfl) T.b_len aZ (zi (kb 2) zm)) zd))))
   (zb (zik (zak xM zcM (kb 2) (kb 4) (fun _ _=>rfl)) (wG xa <| xb (n:=4) K rfl rfl (wH zB <| zl (wG zv <| zg (i:=5) zX.nd rfl (Or.inl rfl)) (wH zB <| zl (wG zv <| zg (i:=6) zX.nd rfl (Or.inl rfl)) (wH zB <| zl (wG zv <| zg (i:=7) zX.nd rfl (Or.inl rfl)) (wH zB <| zl (wG zv <| zg (i:=8) zX.nd rfl (Or.inl rfl)) (wH y9 yp)))))))
   (zb (wS zG <| yZ (wT zn <| zy xY zcL (kb 3) (JE.bo zw) (zD _)) (ze (wS ziF <| zlF 2 (kb 4) (xo (za (kv 5) (za (kv 6) (za (kv 8) (za (kv 7) zd))))))) zL)
   (zb (wS zG <| yZ (wT zn <| zy xY zcL (kb 3) (JE.bo zw) (zD _)) (ze (wS zgl <| zin 2 (kb 4))) zL)
   (zb (wS zG <| yZ (wT zn <| zy xY zcL (kb 3) (JE.bo zw) (zD _)) (ze (wS uG <| zbb 2 (zak xM zcM (kb 2) (kb 4) (fun _ _=>rfl)))) zL)
   (zb (wS zG <| yZ (wT zn <| zy xY zcL (kb 3) (JE.bo zw) (zD _)) (ze (wS ziF <| zlF 2 (kb 4) (xo (za (wE xp <| zbu (kb 5) (wO zH <| zV (JE.bo zw)) zU) (za (kv 6) (za (kv 7) (za (kv 8) zd))))))) zL)
   (ze (wS zaD <| zb4 2)))))))))),fun ws n R hF=>?_⟩
 obtain⟨p,rm,bk,rfl,hP,hn,hR,hB,hl,r⟩:=hF;walk_at "st";have h8:=hR.few;refine dc hP fun way w0 w1=>?_;walk_at "st";refine' zsZ _ (fun key=>?_) ?_;rotate_left
 ·refine xy (fun h4=>?_) (fun h4=>?_)
  ·walk_at "st";rw[aa];generalize W.d (Dt.int way)=x;exact key x
  ·walk_at "st";refine⟨zoS hB,zoS (rm:=rm) (bk:=[]) (by intro x hx;simp at hx),fun b hb=>?_⟩;walk_at "st";refine zdG (fun hb'=>?_) (fun hb'=>?_)
   ·walk_at "st";rw[aa];exact key (.d (.int way))
   ·walk_at "st"
    have hne:bk≠[]:=fun z=>by have:=hb.mpr (by rw[z];rfl);rw[this] at hb';cases hb'
    have hpos:0<bk.length:=eB.mpr hne;rw[aa];refine dc hP fun at' a0 a1=>?_;obtain⟨j,rfl⟩:∃j:Nat,at'=(j:Int):=⟨at'.toNat,by lia⟩;have hj:j<bk.length:=by lia
    have hx:=hB _ (bh hj);have hat:atI (bk.map yg) (j:Int)=some (yg bk[j]):=zbL (by rw[aC,aj hj];rfl);generalize bk[j]=x at hx hat;walk_at "st";refine zaI hat ?_;walk_at "st";have hway:way=0\/way=1\/way=2\/way=3:=by lia
    rcases hway with rfl | rfl | rfl | rfl
    ·walk_at "ct";refine⟨⟨by lia,by rw[aa];lia⟩,?_⟩;rw[aL,show (bk.map yg).set j (Dt.tup [Dt.tup (x.g.map yb),.int x.b,.int x.w,.int x.r])=(bk.set j (zrj x)).map yg by rw[List.map_set];rfl];walk_at "st";walk_at "cf";walk_at "cf";walk_at "cf";exact r _ _ (hB.set (zoo hx) j) (by rw[aX];lia) (by lia)
    ·walk_at "cf";walk_at "ct";refine⟨⟨by lia,by rw[aa];lia,by rw[aa];exact ax hl (by decide)⟩,?_⟩;rw[aL,<- zbT];walk_at "st";walk_at "cf";walk_at "cf";exact r _ _ (fun y hy=>hB y (List.mem_of_mem_eraseIdx hy)) (by have:=List.length_eraseIdx_le bk j;lia) (by lia)
    ·walk_at "cf";walk_at "cf";walk_at "ct";refine zaI hat ?_;walk_at "st";refine⟨by rw[aa];exact be hl (by decide),?_⟩;rw[show bk.map yg++[yg x]=(bk++[x]).map yg by rw[aB];rfl];walk_at "st";walk_at "cf";exact r _ _ (hB.app fun y hy=>by rw[aK.mp hy];exact hx) (by rw[af];simp;lia) (by lia)
    ·walk_at "cf";walk_at "cf";walk_at "cf";walk_at "ct";refine⟨⟨by lia,by rw[aa];lia⟩,?_⟩;rw[aL,yK,show (bk.map yg).set j (Dt.tup [Dt.tup ((xV x.g (some 1) none).map yb),.int x.b,.int x.r,.int x.w])=(bk.set j { x with g:=xV x.g (some 1) none }).map yg by rw[List.map_set] <;> rfl];walk_at "st";exact r _ _ (hB.set (zmk hx) j) (by rw[aX];lia) (by lia)
 intro x;refine dc hP fun k k0 k1=>?_;obtain⟨j,rfl⟩:∃j:Nat,k=(j:Int):=⟨k.toNat,by lia⟩;walk_at "st";refine zgJ.i hP hR fun y m hy hm=>?_;walk_at "st";refine⟨⟨by lia,by lia,be hl (by decide)⟩,?_⟩;rw[aL,zmL];walk_at "st";exact r _ _ (hB.ins hy j) (by rw[zmK];lia) (by lia)
def zfU  : FV:=fun Pn ws n R=>∃ (p:Addr) (rm:List Int),ws=[.pen p,.d (stD rm)]/\(IsP Pn p)/\(n+4000<=1000000)/\(RoomOk rm)/\(yw rm<=256)/\(∀bk m,y6 rm bk->bk.length<=80->m<=n+2000->R (.d (xw bk)) m)
theorem zfU.i  {Pn:Option zq} {n:Nat} {R:W->Nat->Prop} {p:Addr} {rm:List Int} (hP:IsP Pn p) (hR:RoomOk rm) (hp:yw rm<=256) (h:∀bk m,y6 rm bk->bk.length<=80->m<=n+2000->R (.d (xw bk)) m) (hn:n+4000<=1000000:=by lia):zfU Pn [.pen p,.d (stD rm)] n R:=⟨p,rm,rfl,hP,hn,hR,hp,h⟩
theorem zdE (T:Txt K mg t):FnOk P w K mg base CX0 5 t.f14 t.d14 ["_law_pen_here","_law_room_here"] (spV 2 false zfU):=by
 have G1:=zK (P:=P) (w:=w) (base:=base) T;have G2:=xx (P:=P) (w:=w) (base:=base) T;have G4:=y0 (P:=P) (w:=w) (base:=base) T;have G6:=uu (P:=P) (w:=w) (base:=base) T;have G8:=za4 (P:=P) (w:=w) (base:=base) T;have G11:=zcE (P:=P) (w:=w) (base:=base) T;have G12:=zca (P:=P) (w:=w) (base:=base) T;have G13:=zbv (P:=P) (w:=w) (base:=base) T
 refine Fun.okW (k:=4) (fr:=false) [5] 4 T.q14.F z8 rfl (by decide) rfl fun cdv A outer s H E Pn hr=>⟨_,(zb (wS zk <| zu (i:=2) z8.nd rfl (Or.inl rfl) (wE zo <| yG T.q1 G1 hr (za (kv 0) (za zw zd))))
   (zb (wS zk <| zu (i:=3) z8.nd rfl (Or.inl rfl) (wE zo <| yG T.q1 G1 hr (za (kv 0) (za zw zd))))
   (zb (wS zk <| zu (i:=4) z8.nd rfl (Or.inl rfl) (zO yz ux (by rfl) T.b_len aZ (zi (JE.bo (wE zo <| yG T.q4 G4 hr (za (kv 1) zd))) zm)))
   (zb (wS zG <| yZ (wT zn <| zy xY zcL (kb 2) (JE.bo zw) (zD _)) (ze (wS yM <| xP (i:=5) z8.nd rfl (Or.inl rfl) (wE zo <| yG T.q11 G11 hr (za (kv 0) (za (kv 1) zd))))) (ze (wS zG <| yZ (JW.t (wW za2 <| zcX (wT zn <| zy xY zcL (kb 2) (JE.bo zw) (zD _)) (u9 (.inl rfl) (wT zn <| zy zp6 u_le (kb 4) (JE.bo zw) (zD _))))) (ze (wS yM <| xP (i:=5) z8.nd rfl (Or.inl rfl) (wE zo <| yG T.q12 G12 hr (za (kv 0) (za (kv 1) zd))))) (ze (wS zG <| yZ (wT zn <| zy zi3 zr0 (kb 2) (JE.bo zw) (zD _)) (ze (wS yM <| xP (i:=5) z8.nd rfl (Or.inl rfl) (wE zo <| yG T.q8 G8 hr (za (kv 0) (za (kv 1) zd))))) (ze (wS yM <| zim (i:=5) (zaz (ix:=5) z8.nd rfl rfl (N:=["_law_k","_law_pen_here","_law_room_here"]) (cix:=[none,some 0,some 1]) rfl ⟨rfl,by decide +kernel,rfl⟩ (wI yt <| zJ rfl T.b_range (zi (JE.bo (wE zo <| yG T.q1 G1 hr (za (kv 0) (za zw zd)))) zm)) (fun _ _ _ _=>(wG zv <| zg (i:=0) (show (["_law_k","_law_pen_here","_law_room_here"]:List Str).Nodup by decide +kernel) rfl (Or.inl rfl))) (fun _ _ _ _=>yL) (fun _ _ _ _=>(wE zo <| yG T.q6 G6 hr (za (kv 1) (za (kv 2) zd))))))))))))
   (zb (wS zG <| yZ (wT zn <| zy xY zcL (kb 3) (JE.bo zw) (zD _)) (ze (zps (i:=5) T.q13 G13 hr (kv 0) (kv 1) z8.nd rfl (Or.inl rfl))) zL)
   (ze (z3 (uq xi zcx (by rfl) T.b_tuple cj (zi (JE.bo (wE zo <| yG T.q2 G2 hr (za (kv 0) (za (wE xI <| zb3 (kb 5) zU (wO zH <| zV (JE.bo zw))) zd)))) zm))))))))),fun ws n R hF=>?_⟩
 obtain⟨p,rm,rfl,hP,hn,hR,hp,r⟩:=hF;walk_at "st";refine dc hP fun kind k0 k1=>?_;walk_at "st";refine dc hP fun sp s0 s1=>?_;walk_at "st";refine zcN.i hR ?_;walk_at "st";have hsz:=xF rm fun n hn=>by have:=hR.box n hn;lia
 rw[aa,hsz];refine' zgT (fun (bk:List Wi) (n1:Nat)=>y6 rm bk/\bk.length<=1000/\n1<=n+1100) _ (fun zY=>?_) ?_;rotate_left
 ·refine xy (fun h0=>?_) (fun h0=>?_)
  ·walk_at "st";refine zde.i hP hR hp fun bk m hB hl hm=>?_;walk_at "st";exact zY bk m ⟨hB,by lia,by lia⟩
  walk_at "st";refine xy (fun h1=>?_) (fun h1=>?_)
  ·walk_at "st";refine xy (fun h16=>?_) (fun h16=>?_)
   ·walk_at "st";refine zfV.i hP hR h16 fun bk m hB hl hm=>?_;walk_at "st";exact zY bk m ⟨hB,by lia,by lia⟩
   ·walk_at "st";refine xy (fun h4=>?_) (fun h4=>absurd (by lia) h4);walk_at "st";refine zhb.i hP hR fun bk m hB hl hm=>?_;walk_at "st";exact zY bk m ⟨hB,by lia,by lia⟩
  walk_at "st";refine xy (fun h4=>?_) (fun h4=>?_)
  ·walk_at "st";refine zhb.i hP hR fun bk m hB hl hm=>?_;walk_at "st";exact zY bk m ⟨hB,by lia,by lia⟩
  ·walk_at "st";refine dc hP fun t t0 t1=>?_;walk_at "st";refine⟨⟨by lia,by lia⟩,?_⟩;rw[xA];refine zf3 (List.range t.toNat) (fun k:Nat=>W.d (.int (k:Int))) rfl (by rw[am];exact ax (by lia:_<=14) (by decide)) (fun i ρ' n' acc=>n'<=n+3+30 * i/\i<=t.toNat/\∃ (v:Option W) (bk:List Wi),ρ'=[v,some (.pen p),some (.d (stD rm))]/\acc=bk.map yg/\y6 rm bk/\bk.length=i) ⟨by lia,a8 _,none,[],rfl,rfl,by intro x hx;simp at hx,rfl⟩ ?_ ?_
   ·rintro i k ρ' n' acc hk ⟨hn',hi,v,bk,rfl,rfl,hB,hbl⟩ C hC;have hk1:=(ae.mp hk).1;rw[am] at hk1;walk_at "st";refine zgJ.i hP hR fun x m hx hm=>?_;exact hC ⟨by lia,hk1,_,bk++[x],rfl,by rw[aB];rfl,hB.app (fun y hy=>by rw[aK.mp hy];exact hx),by rw[af,hbl];rfl⟩
   ·rintro ρ' n' acc ⟨hn',hi,v,bk,rfl,rfl,hB,hbl⟩;rw[am] at hbl hn';walk_at "st";exact zY bk n' ⟨hB,by lia,by lia⟩
 rintro bk n1 ⟨hB,hl,hn1⟩;refine' zgT (fun (bk:List Wi) (n1:Nat)=>y6 rm bk/\bk.length<=2001/\n1<=n+1150) _ (fun zY=>?_) ?_;rotate_left
 ·walk_at "st";refine xy (fun h0=>?_) (fun h0=>?_)
  ·walk_at "st";refine zdf.i hP hR hB (by lia) fun bk' m hB' hl' hm=>?_;walk_at "st";exact zY bk' m ⟨hB',hl',by lia⟩
  ·walk_at "st";exact zY bk n1 ⟨hB,by lia,by lia⟩
 rintro bk n1 ⟨hB,hl,hn1⟩;walk_at "st";rw[yK,show (80:Int)=((80:Nat):Int) from rfl,L3.uU];have hB2:y6 rm (bk.take 80):=fun x hx=>hB x (bJ hx);have hl2:(bk.take 80).length<=80:=by rw[aJ];lia
 generalize bk.take 80=b2 at hB2 hl2;walk_at "st";refine tc hP (fun l hl3=>?_) (by rw[aa];lia) (by rw[aa];lia);rw[aa];obtain⟨b3,rfl,hp3⟩:=zdM hl3;have hl4:=hp3.length_eq;walk_at "st";exact r b3 _ (fun x hx=>hB2 x (hp3.mem_iff.mp hx)) (by lia) (by lia)
def zjU  : FV:=fun Pn ws n R=>∃ (st:List Int) (g:List (Int×Int)),ws=[.d (stD st),.d (zdp g)]/\(∀q∈g,0<=q.1/\q.1<st.length)/\(R (.d (.bl (xl st g))) n)
theorem zjU.i  {Pn:Option zq} {n:Nat} {R:W->Nat->Prop} {st:List Int} {g:List (Int×Int)} (hg:∀q∈g,0<=q.1/\q.1<st.length) (h:R (.d (.bl (xl st g))) n)  : zjU Pn [.d (stD st),.d (zdp g)] n R:=⟨st,g,rfl,hg,h⟩
theorem ziY (T:Txt K mg t):FnOk P w K mg base CX0 1 t.f15 t.d15 ["standing","given"] (spV 2 false zjU):=by
 refine Fun.okW (k:=0) (fr:=false) [] 2 T.q15.F zdU rfl (by decide) rfl fun cdv A outer s H E Pn hr=>⟨_,(zb (yH aW rfl (wI za3 <| zcV K rfl (kv 1)) (wG xa <| xb (n:=2) K rfl rfl (wH zB <| zl (wG zv <| zg (i:=2) zdU.nd rfl (Or.inl rfl)) (wH zB <| zl (wG zv <| zg (i:=3) zdU.nd rfl (Or.inl rfl)) (wH y9 yp)))) (ze (wS zG <| yZ (wT zn <| zy zgZ zoE (JE.bo (zak yX uk (kb 0) (kb 2) (fun _ _=>rfl))) (kb 3) (zD _)) (ze (z3 zjR)) zL)))
   (ze (z3 zjR))),fun ws n R hF=>?_⟩
 obtain⟨st,g,rfl,hg,r⟩:=hF;walk_at "st";refine yE g (fun q=>.d (yb q)) (by rw[az];rfl) (fun i ρ m=>m=n/\(∃v2 v3,ρ=[some (.d (stD st)),some (.d (zdp g)),v2,v3])/\xl st (g.take i)=true) ⟨rfl,⟨_,_,rfl⟩,rfl⟩ ?_ ?_
 ·rintro i q ρ m hq ⟨rfl,⟨v2,v3,rfl⟩,hk⟩ C B E hC _ hE;have hb:=hg q (aI hq);walk_at "st";refine onA hb.1 hb.2 ?_;walk_at "st";refine zgY (fun h=>?_) (fun h=>?_)
  ·walk_at "st";refine hE ?_
   have e:xl st g=false:=by unfold xl;exact List.all_eq_false.mpr ⟨q,aI hq,fun z=>h (bC z)⟩
   rw[e] at r;exact r
  ·walk_at "st";refine hC ⟨rfl,⟨_,_,rfl⟩,?_⟩;unfold xl at hk ⊢;rw[zr hq,List.all_append,hk];simp[h]
 ·rintro ρ m ⟨rfl,⟨v2,v3,rfl⟩,hk⟩;rw[bn] at hk;rw[hk] at r;walk_at "st";exact r
def zoG  : FV:=fun Pn ws n R=>∃ (rm:List Int) (bk:List Wi) (box:Int) (st:List Int),ws=[.d (stD rm),.d (xw bk),.d (.int box),.d (stD st)]/\(RoomOk rm)/\(y6 rm bk)/\(st.length=rm.length)/\(R (.d (.lst ((lpE bk box st).map yb))) n)
theorem zoG.i  {Pn:Option zq} {n:Nat} {R:W->Nat->Prop} {rm:List Int} {bk:List Wi} {box:Int} {st:List Int} (hR:RoomOk rm) (hB:y6 rm bk) (hst:st.length=rm.length) (h:R (.d (.lst ((lpE bk box st).map yb))) n)  : zoG Pn [.d (stD rm),.d (xw bk),.d (.int box),.d (stD st)] n R:=⟨rm,bk,box,st,rfl,hR,hB,hst,h⟩
theorem uI (T:Txt K mg t):FnOk P w K mg base CX0 2 t.f16 t.d16 ["room","book","box","standing"] (spV 4 true zoG):=by
 have G15:=ziY (P:=P) (w:=w) (base:=base) T;refine Fun.okW (k:=1) (fr:=true) [] 0 T.q16.F zcJ rfl (by decide) rfl fun cdv A outer s H E Pn hr=>⟨_,(ze (z3 (zks T.b_sorted (zbt hr) (N:=["given","at","better","worse","box","standing"]) (cix:=[none,none,none,none,some 2,some 3]) rfl ⟨rfl,by decide +kernel,rfl⟩ (wI za3 <| zcV K rfl (kv 1)) (fun _ _ _ _=>(wG xa <| xb (n:=4) K rfl rfl (wH zB <| zl (wG zv <| zg (i:=0) (show (["given","at","better","worse","box","standing"]:List Str).Nodup by decide +kernel) rfl (Or.inl rfl)) (wH zB <| zl (wG zv <| zg (i:=1) (show (["given","at","better","worse","box","standing"]:List Str).Nodup by decide +kernel) rfl (Or.inl rfl)) (wH zB <| zl (wG zv <| zg (i:=2) (show (["given","at","better","worse","box","standing"]:List Str).Nodup by decide +kernel) rfl (Or.inl rfl)) (wH zB <| zl (wG zv <| zg (i:=3) (show (["given","at","better","worse","box","standing"]:List Str).Nodup by decide +kernel) rfl (Or.inl rfl)) (wH y9 yp))))))) (fun _ _ _ _=>(xW (JW.t (wW za2 <| zcX (wT zn <| zy xY zcL (kb 1) (kb 4) (zD _)) (u9 (.inl rfl) (wT zn <| zcW (JE.bo (wE zo <| yG T.q15 G15 hr (za (kv 5) (za (kv 0) zd)))))))))) (fun _ _ _ _=>(xo (za (kv 3) (za (kv 2) zd))))))),fun ws n R hF=>?_⟩;obtain⟨rm,bk,box,st,rfl,hR,hB,hst,r⟩:=hF;walk_at "st";refine zof bk (fun x=>W.d (yg x)) (by rw[az];rfl) (fun ρ=>∃a b c d,ρ=[a,b,c,d,some (.d (.int box)),some (.d (stD st))]) (fun x=>decide (x.b=box)&&xl st x.g) (fun x=>[x.w,x.r]) ⟨_,_,_,_,rfl⟩ ?_ (fun ks h1 h2=>by have:=za7 hB hR.box h1 h2;lia) ?_
 ·rintro x hx ρ' ⟨a,b,c,d,rfl⟩ C hY hN;have hW:=hB x hx;walk_at "st";refine xy (fun hb=>?_) (fun hb=>hN (by rw[aN hb];rfl) ⟨_,_,_,_,rfl⟩);walk_at "st";refine zjU.i (fun q hq=>?_) ?_
  ·have:=hW.giv.ok q hq;rw[hst];exact⟨this.1,this.2.1⟩
  walk_at "st";refine zdG (fun hk=>?_) (fun hk=>hN (by rw[hk,eK]) ⟨_,_,_,_,rfl⟩);exact⟨[x.w,x.r],rfl,hY (by rw[aR hb,hk];rfl) ⟨_,_,_,_,rfl⟩⟩
 ·intro ks h1 h2;refine⟨2,by have:=za7 hB hR.box h1 fun z hz=>(h2 z).mp hz;lia,by decide,fun z hz=>xE z ((h2 z).mp hz),fun l' hp hu=>?_⟩;rw[show l'=lpF bk box st from zbG xE hu fun z=>(hp.mem_iff).trans (h2 z)];have:=r;rw[<- zpC] at this;exact this
def zoH  : FV:=fun Pn ws n R=>∃ (E:List (Int×Int)) (ks lf:List Int),ws=[.dk (ldK ks (ze4 E)),.d (lsD lf)]/\(lf.Nodup)/\(∀h∈lf,h∈ks)/\(lf.length<=100)/\(E.length<=1000)/\(R (.dk (ldK (onF E lf) (inF E lf))) n)
theorem zoH.i  {Pn:Option zq} {n:Nat} {R:W->Nat->Prop} {E:List (Int×Int)} {ks lf:List Int} (hN:lf.Nodup) (hs:∀h∈lf,h∈ks) (hl:lf.length<=100) (hE:E.length<=1000) (h:R (.dk (ldK (onF E lf) (inF E lf))) n)  : zoH Pn [.dk (ldK ks (ze4 E)),.d (lsD lf)] n R:=⟨E,ks,lf,rfl,hN,hs,hl,hE,h⟩
theorem zbw (T:Txt K mg t):FnOk P w K mg base CX0 1 t.f17 t.d17 ["leads","left"] (spV 2 true zoH):=by
 refine Fun.okW (k:=0) (fr:=true) [] 1 T.q17.F uP rfl (by decide) rfl fun cdv A outer s H E Pn hr=>⟨_,(zb (wS zk <| zu (i:=2) uP.nd rfl (Or.inr rfl) (zge (zbt hr) (N:=["here","leads","left"]) (cix:=[none,some 0,some 1]) rfl ⟨rfl,by decide +kernel,rfl⟩ (wI yr <| yq K rfl (kv 1)) (fun _ _ _ _=>(wG zv <| zg (i:=0) (show (["here","leads","left"]:List Str).Nodup by decide +kernel) rfl (Or.inl rfl))) (fun _ _ _ _=>yL) (fun _ _ _ _=>(kb 0)) (fun _ _ _ _=>(xk (N:=["there","left"]) (cix:=[none,some 2]) rfl ⟨rfl,by decide +kernel,rfl⟩ (wI yr <| yq K rfl (wE zbC <| zgf (zbt hr) (kb 1) (kb 0) (fun _ _=>rfl))) (fun _ _ _ _=>(wG zv <| zg (i:=0) (show (["there","left"]:List Str).Nodup by decide +kernel) rfl (Or.inl rfl))) (fun _ _ _ _=>(xW (wT zn <| zy zaJ zro (kb 0) (kb 1) (by with_unfolding_all rfl)))) (fun _ _ _ _=>(kv 0))))))
   (ze (z3 (zge (zbt hr) (N:=["here","told"]) (cix:=[none,some 2]) rfl ⟨rfl,by decide +kernel,rfl⟩ (wI yr <| yq K rfl (kv 1)) (fun _ _ _ _=>(wG zv <| zg (i:=0) (show (["here","told"]:List Str).Nodup by decide +kernel) rfl (Or.inl rfl))) (fun _ _ _ _=>(xW (wT ziH <| zgg (JE.bo (wE zbC <| zgf (zbt hr) (kb 1) (kb 0) (fun _ _=>rfl)))))) (fun _ _ _ _=>(kb 0)) (fun _ _ _ _=>(wE zbC <| zgf (zbt hr) (kb 1) (kb 0) (fun _ _=>rfl))))))),fun ws n R hF=>?_⟩
 obtain⟨E,ks,lf,rfl,hN,hs,hl,hE,r⟩:=hF;walk_at "st";refine zff lf (by rw[az];rfl) (fun ρ=>∃a,ρ=[a,some (.dk (ldK ks (ze4 E))),some (.d (lsD lf))]) (fun _=>true) (fun h=>lsD (inF E lf h)) hN (ax hl (by decide)) ⟨_,rfl⟩ ?_ ?_
 ·rintro h hh ρ' ⟨a,rfl⟩ C hY hN';walk_at "st";refine zaI (zaA (hs h hh)) ?_;walk_at "st";have hsf:=zle E h;refine zae (ze4 E h) (fun b=>W.d (.int b)) (by rw[az];rfl) (fun ρ=>∃v,ρ=[v,some (.d (lsD lf))]) (fun b=>lf.contains b) (fun b=>.int b) (ax (by lia:_<=1000) (by decide)) ⟨_,rfl⟩ ?_ ?_
  ·rintro b hb ρ2 ⟨v,rfl⟩ D dY dN;walk_at "st";refine⟨lf,rfl,?_⟩;walk_at "st";exact zdG (fun z=>dY z ⟨_,rfl⟩) (fun z=>dN z ⟨_,rfl⟩)
  ·exact hY rfl ⟨_,rfl⟩
 ·rw[List.filter_eq_self.mpr fun _ _=>rfl];walk_at "st";refine zff lf (by rw[az];rfl) (fun ρ=>∃a,ρ=[a,some (.dk (ldK lf (inF E lf)))]) (fun h=>!(inF E lf h).isEmpty) (fun h=>lsD (inF E lf h)) hN (ax hl (by decide)) ⟨_,rfl⟩ ?_ ?_
  ·rintro h hh ρ' ⟨a,rfl⟩ C hY hN';walk_at "st";refine zaI (zaA hh) ?_;walk_at "st";have e1:(!((inF E lf h).map Dt.int).isEmpty) = !(inF E lf h).isEmpty:=by rw[List.isEmpty_map]
   rw[e1];refine zdG (fun z=>?_) (fun z=>hN' z ⟨_,rfl⟩);walk_at "st";refine zaI (zaA hh) ?_;walk_at "st";exact hY z ⟨_,rfl⟩
  ·exact r
def zrJ  : FV:=fun Pn ws n R=>∃ (E:List (Int×Int)) (m:Nat),ws=[.dk (ldK (zp (m:Int)) (ze4 E))]/\(∀q∈E,0<=q.1/\q.1<m/\0<=q.2/\q.2<m)/\(m<=100)/\(E.length<=1000)/\((¬ Cyc E->R (.d .non) n)/\∀row,IsRd E row->Cyc E->R (.d (lsD row)) n)
theorem zrJ.i  {Pn:Option zq} {n:Nat} {R:W->Nat->Prop} {E:List (Int×Int)} {m:Nat} (hE:∀q∈E,0<=q.1/\q.1<m/\0<=q.2/\q.2<m) (hm:m<=100) (hEl:E.length<=1000) (h:(¬ Cyc E->R (.d .non) n)/\∀row,IsRd E row->Cyc E->R (.d (lsD row)) n)  : zrJ Pn [.dk (ldK (zp (m:Int)) (ze4 E))] n R:=⟨E,m,rfl,hE,hm,hEl,h⟩
theorem zeF (T:Txt K mg t):FnOk P w K mg base CX0 2 t.f18 t.d18 ["leads"] (spV 1 false zrJ):=by
 have G17:=zbw (P:=P) (w:=w) (base:=base) T
 refine Fun.okW (k:=1) (fr:=false) [3] 4 T.q18.F yD rfl (by decide) rfl fun cdv A outer s H E Pn hr=>⟨_,(zb (wS zk <| zu (i:=1) yD.nd rfl (Or.inl rfl) (uq (zf5 rfl) zjL (by rfl) T.b_list cx (zi (kb 0) zm)))
   (zb (wS zk <| zu (i:=2) yD.nd rfl (Or.inl rfl) (wE zo <| yG T.q17 G17 hr (za (kv 0) (za (kv 1) zd))))
   (zb (zdv aW (wT zn <| zy zi3 zr0 (JE.bo (zO zj7 zrp (by rfl) T.b_len aZ (zi (kb 2) zm))) (JE.bo (zO yz ux (by rfl) T.b_len aZ (zi (kb 1) zm))) (zD _)) (zb (wS zk <| zu (i:=1) yD.nd rfl (Or.inl rfl) (uq (zf5 rfl) zjL (by rfl) T.b_list cx (zi (kb 2) zm)))
   (ze (wS zk <| zu (i:=2) yD.nd rfl (Or.inl rfl) (wE zo <| yG T.q17 G17 hr (za (kv 0) (za (kv 1) zd)))))))
   (zb (wS zG <| yZ (wT zb7 <| zes (wT ziH <| zgg (kb 1))) (ze (z3 zsD)) zL)
   (zb (wS yM <| xP (i:=3) yD.nd rfl (Or.inl rfl) (uc zd))
   (zb (wS zk <| zu (i:=4) yD.nd rfl (Or.inl rfl) (zak xM zcM (kb 1) (JE.bo zw) (fun _ _=>rfl)))
   (zb (zdv aW (wT zn <| zy uK zd2 (kb 4) (kb 3) (by with_unfolding_all rfl)) (zb (wS uG <| zbb 3 (kv 4))
   (ze (wS zk <| zu (i:=4) yD.nd rfl (Or.inl rfl) (zak xM zcM (JE.bo (wE zbC <| zgf (zbt hr) (kb 2) (kb 4) (fun _ _=>rfl))) (JE.bo zw) (fun _ _=>rfl))))))
   (ze (z3 (zpq (wE xI <| zb3 (kb 3) (wO zH <| zV (JE.bo (zmR K rfl (kb 3) (kb 4)))) zU))))))))))),fun ws n R hF=>?_⟩
 obtain⟨E,m,rfl,hE,hm,hEl,r⟩:=hF;walk_at "st";obtain⟨rN,rS⟩:=r;refine⟨zp (m:Int),zgj,?_⟩;walk_at "st";have hml:(zp (m:Int)).length=m:=by rw[z6];lia
 refine zoH.i (uh _) (fun h hh=>hh) (by lia) hEl ?_;walk_at "st"
 have hfix:∀ (D:Int->Prop),PF E D->∀a,D a->a∈zp (m:Int):=fun D hD a ha=>by obtain⟨b,_,h⟩:=hD a ha;have:=hE _ h;exact xD.mpr ⟨this.1,this.2.1⟩
 refine zjO (fun k ρ n'=>n'=n/\∃lf:List Int,k=lf.length/\ρ=[some (.dk (ldK (zp (m:Int)) (ze4 E))),some (.d (lsD lf)),some (.dk (ldK (onF E lf) (inF E lf))),none,none]/\lf.Nodup/\(∀h∈lf,h∈zp (m:Int))/\lf.length<=m/\∀D,PF E D->∀a,D a->a∈lf) m ⟨rfl,zp (m:Int),hml.symm,rfl,uh _,fun h hh=>hh,by lia,hfix⟩ ?_;rintro k ρ n' ⟨rfl,lf,rfl,rfl,hN,hs,hl,hfx⟩ C B X hC hB hX;walk_at "st";rw[zmT,aa];refine xy (fun hlt=>?_) (fun hge=>?_)
 ·have hlt:(onF E lf).length<lf.length:=by lia
  have hsub:(onF E lf).Sublist lf:=cQ;walk_at "st";refine⟨onF E lf,zgj,?_⟩;walk_at "st";refine zoH.i (hN.sublist hsub) (fun h hh=>hs h (hsub.subset hh)) (by lia) hEl ?_;walk_at "st";exact hC _ hlt ⟨rfl,onF E lf,rfl,rfl,hN.sublist hsub,fun h hh=>hs h (hsub.subset hh),by lia,fun D hD a ha=>zpU hD (hfx D hD) a ha⟩
 ·have hall:=znd (E:=E) (lf:=lf) (by lia);have hself:onF E lf=lf:=cY cQ (by lia);refine hB ?_;walk_at "st";rw[hself]
  cases lf with
  | nil=>
   walk_at "cf";exact rN fun⟨D,a,hD,ha⟩=>by have:=hfx D hD a ha;simp at this
  | cons x r0=>
   have hcy:Cyc E:=⟨fun a=>a∈x::r0,x,fun a ha=>hall a ha,ah⟩;have hx:x∈x::r0:=ah;have h0:atI ((x::r0).map Dt.int) 0=some (.int x):=zbL (i:=0) rfl;with_reducible refine zpT ?_ ?_
   ·rfl
   generalize x::r0=lf at hN hs hl hfx hall hcy hx h0;walk_at "st";refine zaI h0 ?_;walk_at "st";refine zjO (fun k ρ n2=>n2=n'/\∃ (rs:List Int) (h:Int),k=lf.length - rs.length/\ρ=[some (.dk (ldK (zp (m:Int)) (ze4 E))),some (.d (lsD lf)),some (.dk (ldK lf (inF E lf))),some (.d (lsD rs)),some (.d (.int h))]/\rs.Nodup/\(∀a∈rs,a∈lf)/\h∈lf/\∀i,i<rs.length->((rs++[h]).getD i 0,(rs++[h]).getD (i+1) 0)∈E) lf.length ⟨rfl,[],x,rfl,rfl,.nil,by simp,hx,fun i hi=>by simp at hi⟩ ?_;rintro k ρ n2 ⟨rfl,rs,h,rfl,rfl,hrN,hrs,hh,hch⟩ C' B' X' hC' hB' hX';have hrl:=ud hrN hrs;walk_at "st";refine⟨rs,rfl,?_⟩;walk_at "st";refine zpS (fun hn=>?_) (fun hi=>?_)
   ·have hnot:h∉rs:=fun z=>by rw[bz.mpr z] at hn;cases hn
    have hN2:(rs++[h]).Nodup:=by rw[dA];exact⟨hrN,by simp,fun a ha c hc e=>hnot (by rw[<- aK.mp hc,<- e];exact ha)⟩
    have hsub2:∀a∈rs++[h],a∈lf:=fun a ha=>(bg.mp ha).elim (hrs a) fun z=>by rw[aK.mp z];exact hh
    have hrl2:=ud hN2 hsub2;rw[af] at hrl2;simp at hrl2;obtain⟨b,hb,hE2⟩:=hall h hh;have hin:=zdC.mpr ⟨hE2,hb⟩;walk_at "st";refine⟨by rw[aa];exact be (by lia:_<=100) (by decide),?_⟩;walk_at "st";refine zaI (zaA hh) ?_;walk_at "st"
    cases e:inF E lf h with
    | nil=>rw[e] at hin;simp at hin
    | cons c cs=>
     have hc:=zdC.mp (show c∈inF E lf h by rw[e];exact ah);refine zaI (zbL (i:=0) rfl) ?_;walk_at "st";refine hC' (lf.length - (rs++[h]).length) (by rw[af];simp;lia) ⟨rfl,rs++[h],c,rfl,?_,hN2,hsub2,hc.2,fun i hi=>?_⟩
     ·rw[show lsD (rs++[h])=Dt.lst (rs.map Dt.int++[Dt.int h]) by unfold lsD;rw[aB];rfl]
     ·rw[af] at hi;simp at hi;by_cases hi2:i<rs.length
      ·have:=hch i hi2;have q1:(rs++[h]++[c]).getD i 0=(rs++[h]).getD i 0:=ub (by rw[af];simp;lia);have q2:(rs++[h]++[c]).getD (i+1) 0=(rs++[h]).getD (i+1) 0:=ub (by rw[af];simp;lia);rw[q1,q2];exact this
      ·have hie:i=rs.length:=by lia
       subst hie;have q1:(rs++[h]++[c]).getD rs.length 0=(rs++[h]).getD rs.length 0:=ub (by rw[af];simp);have q2:(rs++[h]++[c]).getD (rs++[h]).length 0=c:=zbV;rw[af] at q2;rw[q1,zbV,show rs.length+1=rs.length+[h].length from rfl,q2];exact hc.1
   ·refine hB' ?_;walk_at "st";have hmem:=bz.mp hi;refine⟨rs,rfl,hmem,?_⟩;walk_at "st";rw[yK,zhz];exact rS _ (zk4 hrN hmem hch) hcy
def zrI  : FV:=fun Pn ws n R=>∃ (E:List (Int×Int)) (m:Nat),ws=[.d (.int (m:Int)),.d (.lst (E.map yb))]/\(∀q∈E,0<=q.1/\q.1<m/\0<=q.2/\q.2<m)/\(m<=100)/\(E.length<=1000)/\((¬ Cyc E->R (.d .non) n)/\∀row,IsRd E row->Cyc E->R (.d (lsD row)) n)
theorem zrI.i  {Pn:Option zq} {n:Nat} {R:W->Nat->Prop} {E:List (Int×Int)} {m:Nat} (hE:∀q∈E,0<=q.1/\q.1<m/\0<=q.2/\q.2<m) (hm:m<=100) (hEl:E.length<=1000) (h:(¬ Cyc E->R (.d .non) n)/\∀row,IsRd E row->Cyc E->R (.d (lsD row)) n)  : zrI Pn [.d (.int (m:Int)),.d (.lst (E.map yb))] n R:=⟨E,m,rfl,hE,hm,hEl,h⟩
theorem zeE (T:Txt K mg t):FnOk P w K mg base CX0 3 t.f19 t.d19 ["worths","pairs"] (spV 2 false zrI):=by
 have G18:=zeF (P:=P) (w:=w) (base:=base) T;refine Fun.okW (k:=2) (fr:=false) [] 0 T.q19.F zfQ rfl (by decide) rfl fun cdv A outer s H E Pn hr=>⟨_,(ze (z3 (wE zo <| yG T.q18 G18 hr (za (zii (zbt hr) (z := "here") (N:=["here","pairs"]) (cix:=[none,some 1]) rfl ⟨rfl,by decide +kernel,rfl⟩ (wI yt <| zJ rfl T.b_range (zi (kb 0) zm)) (fun _ _ _ _ _=>(wG zv <| zg (i:=0) (show (["here","pairs"]:List Str).Nodup by decide +kernel) rfl (Or.inr rfl))) (fun _ _ _ _ _=>yL) (fun _ _ _ _ _=>(kb 0)) (fun _ _ _ _ _=>(xk (N:=["worse","better","here"]) (cix:=[none,none,some 0]) rfl ⟨rfl,by decide +kernel,rfl⟩ (wI yr <| yq K rfl (kv 1)) (fun _ _ _ _=>(wG xa <| xb (n:=2) K rfl rfl (wH zB <| zl (wG zv <| zg (i:=0) (show (["worse","better","here"]:List Str).Nodup by decide +kernel) rfl (Or.inl rfl)) (wH zB <| zl (wG zv <| zg (i:=1) (show (["worse","better","here"]:List Str).Nodup by decide +kernel) rfl (Or.inl rfl)) (wH y9 yp))))) (fun _ _ _ _=>(xW (wT zn <| zy xY zcL (kb 0) (kb 2) (zD _)))) (fun _ _ _ _=>(kv 1))))) zd)))),fun ws n R hF=>?_⟩;obtain⟨E,m,rfl,hE,hm,hEl,r⟩:=hF;walk_at "st";refine⟨⟨by lia,by lia⟩,?_⟩;rw[xA,aL];have e0:((List.range m).map fun k:Nat=>W.d (.int (k:Int)))=(zp (m:Int)).map fun i=>W.d (.int i):=by unfold zp;rw[az,aL];rfl
 rw[e0];have hml:(zp (m:Int)).length=m:=by rw[z6];lia
 refine zff (zp (m:Int)) rfl (fun ρ=>∃a,ρ=[a,some (.d (.lst (E.map yb)))]) (fun _=>true) (fun h=>lsD (ze4 E h)) (uh _) (ax (by lia:_<=100) (by decide)) ⟨_,rfl⟩ ?_ ?_
 ·rintro h hh ρ' ⟨a,rfl⟩ C hY hN';walk_at "st";refine zae E (fun q=>W.d (yb q)) (by rw[az];rfl) (fun ρ=>∃u v,ρ=[u,v,some (.d (.int h))]) (fun q=>decide (q.1=h)) (fun q=>.int q.2) (ax hEl (by decide)) ⟨_,_,rfl⟩ ?_ ?_
  ·rintro q hq ρ2 ⟨u,v,rfl⟩ D dY dN;walk_at "st";exact xy (fun z=>dY (aR z) ⟨_,_,rfl⟩) (fun z=>dN (aN z) ⟨_,_,rfl⟩)
  ·rw[show (E.filter fun q=>decide (q.1=h)).map (fun q=>Dt.int q.2)=(ze4 E h).map Dt.int by unfold ze4;rw[az];rfl];exact hY rfl ⟨_,rfl⟩
 ·rw[List.filter_eq_self.mpr fun _ _=>rfl];walk_at "st";exact zrJ.i hE hm hEl r
def zd1 (E:List (Int×Int))(m:Nat):List Int:=(zp (m:Int)).filter fun w=>!(E.map (·.1)).contains w
def zrK  : FV:=fun Pn ws n R=>∃ (E:List (Int×Int)) (m:Nat),ws=[.d (.int (m:Int)),.d (.lst (E.map yb))]/\(m<=100)/\(E.length<=1000)/\(R (.d (lsD (zd1 E m))) n)
theorem zrK.i  {Pn:Option zq} {n:Nat} {R:W->Nat->Prop} {E:List (Int×Int)} {m:Nat} (hm:m<=100) (hEl:E.length<=1000) (h:R (.d (lsD (zd1 E m))) n)  : zrK Pn [.d (.int (m:Int)),.d (.lst (E.map yb))] n R:=⟨E,m,rfl,hm,hEl,h⟩
theorem zfI (T:Txt K mg t):FnOk P w K mg base CX0 1 t.f20 t.d20 ["worths","pairs"] (spV 2 true zrK):=by
 refine Fun.okW (k:=0) (fr:=true) [] 1 T.q20.F zdc rfl (by decide) rfl fun cdv A outer s H E Pn hr=>⟨_,(zb (wS zk <| zu (i:=2) zdc.nd rfl (Or.inr rfl) (xk (N:=["worse","better"]) (cix:=[none,none]) rfl ⟨rfl,by decide +kernel,rfl⟩ (wI yr <| yq K rfl (kv 1)) (fun _ _ _ _=>(wG xa <| xb (n:=2) K rfl rfl (wH zB <| zl (wG zv <| zg (i:=0) (show (["worse","better"]:List Str).Nodup by decide +kernel) rfl (Or.inl rfl)) (wH zB <| zl (wG zv <| zg (i:=1) (show (["worse","better"]:List Str).Nodup by decide +kernel) rfl (Or.inl rfl)) (wH y9 yp))))) (fun _ _ _ _=>yL) (fun _ _ _ _=>(kv 0))))
   (ze (z3 (xk (N:=["worth","bettered"]) (cix:=[none,some 2]) rfl ⟨rfl,by decide +kernel,rfl⟩ (wI yt <| zJ rfl T.b_range (zi (kb 0) zm)) (fun _ _ _ _=>(wG zv <| zg (i:=0) (show (["worth","bettered"]:List Str).Nodup by decide +kernel) rfl (Or.inl rfl))) (fun _ _ _ _=>(xW (wT zn <| zy uK zd2 (kb 0) (kb 1) (by with_unfolding_all rfl)))) (fun _ _ _ _=>(kv 0)))))),fun ws n R hF=>?_⟩
 obtain⟨E,m,rfl,hm,hEl,r⟩:=hF;walk_at "st";refine uC E (fun q=>W.d (yb q)) (by rw[az];rfl) (fun ρ=>∃u v,ρ=[u,v]) (fun q=>.int q.1) (ax hEl (by decide)) ⟨_,_,rfl⟩ ?_ ?_
 ·rintro q hq ρ2 ⟨u,v,rfl⟩ D dY;walk_at "st";exact dY ⟨_,_,rfl⟩
 have e1:(E.map fun q=>Dt.int q.1)=(E.map (·.1)).map Dt.int:=by rw[az];rfl
 rw[e1];walk_at "st";refine⟨⟨by lia,by lia⟩,?_⟩;rw[xA,aL];have e0:((List.range m).map fun k:Nat=>W.d (.int (k:Int)))=(zp (m:Int)).map fun i=>W.d (.int i):=by unfold zp;rw[az,aL];rfl
 rw[e0];have hml:(zp (m:Int)).length=m:=by rw[z6];lia
 refine zae (zp (m:Int)) (fun i=>W.d (.int i)) rfl (fun ρ=>∃u,ρ=[u,some (.d (.lst ((E.map (·.1)).map Dt.int)))]) (fun w=>!(E.map (·.1)).contains w) (fun w=>.int w) (ax (by lia:_<=100) (by decide)) ⟨_,rfl⟩ ?_ ?_
 ·rintro w hw ρ2 ⟨u,rfl⟩ D dY dN;walk_at "st";refine⟨_,rfl,?_⟩;walk_at "st";exact zdG (fun z=>dY z ⟨_,rfl⟩) (fun z=>dN z ⟨_,rfl⟩)
 ·exact r
def zrG  : FV:=fun Pn ws n R=>∃ (rm:List Int) (bk:List Wi) (box:Int) (st:List Int),ws=[.d (stD rm),.d (xw bk),.d (.int box),.d (stD st)]/\(RoomOk rm)/\(y6 rm bk)/\(st.length=rm.length)/\(0<=box)/\(box<rm.length)/\((¬ Cyc (lpE bk box st)->R (.d .non) n)/\∀row,IsRd (lpE bk box st) row->Cyc (lpE bk box st)->R (.d (lsD row)) n)
theorem zrG.i  {Pn:Option zq} {n:Nat} {R:W->Nat->Prop} {rm:List Int} {bk:List Wi} {box:Int} {st:List Int} (hR:RoomOk rm) (hB:y6 rm bk) (hst:st.length=rm.length) (b0:0<=box) (b1:box<rm.length) (h:(¬ Cyc (lpE bk box st)->R (.d .non) n)/\∀row,IsRd (lpE bk box st) row->Cyc (lpE bk box st)->R (.d (lsD row)) n)  : zrG Pn [.d (stD rm),.d (xw bk),.d (.int box),.d (stD st)] n R:=⟨rm,bk,box,st,rfl,hR,hB,hst,b0,b1,h⟩
theorem zcb (T:Txt K mg t):FnOk P w K mg base CX0 4 t.f21 t.d21 ["room","book","box","standing"] (spV 4 false zrG):=by have G16:=uI (P:=P) (w:=w) (base:=base) T;have G19:=zeE (P:=P) (w:=w) (base:=base) T;refine Fun.okW (k:=3) (fr:=false) [] 0 T.q21.F zcK rfl (by decide) rfl fun cdv A outer s H E Pn hr=>⟨_,(ze (z3 (wE zo <| yG T.q19 G19 hr (za (zak yX uk (kb 0) (kb 2) (fun _ _=>rfl)) (za (wE zo <| yG T.q16 G16 hr (za (kv 0) (za (kv 1) (za (kv 2) (za (kv 3) zd))))) zd))))),fun ws n R hF=>?_⟩;obtain⟨rm,bk,box,st,rfl,hR,hB,hst,b0,b1,r⟩:=hF;walk_at "st";have hm:=yf hR.box b0 b1;refine onA b0 b1 ?_;walk_at "st";refine zoG.i hR hB hst ?_;walk_at "st";have hfew:=zfz (box:=box) (st:=st) hR hB;obtain⟨m,em⟩:∃m:Nat,ya rm box=(m:Int):=⟨(ya rm box).toNat,by lia⟩;rw[em];refine zrI.i (fun q hq=>?_) (by lia) (by lia) r;have:=zlH hB q hq;rw[em] at this;exact⟨this.1,this.2.1,this.2.2.1,this.2.2.2.1⟩
def zoA  : FV:=fun Pn ws n R=>∃ (rm:List Int) (bk:List Wi) (box:Int) (st:List Int),ws=[.d (stD rm),.d (xw bk),.d (.int box),.d (stD st)]/\(RoomOk rm)/\(y6 rm bk)/\(st.length=rm.length)/\(0<=box)/\(box<rm.length)/\(R (.d (lsD (zd1 (lpE bk box st) (ya rm box).toNat))) n)
theorem zoA.i  {Pn:Option zq} {n:Nat} {R:W->Nat->Prop} {rm:List Int} {bk:List Wi} {box:Int} {st:List Int} (hR:RoomOk rm) (hB:y6 rm bk) (hst:st.length=rm.length) (b0:0<=box) (b1:box<rm.length) (h:R (.d (lsD (zd1 (lpE bk box st) (ya rm box).toNat))) n)  : zoA Pn [.d (stD rm),.d (xw bk),.d (.int box),.d (stD st)] n R:=⟨rm,bk,box,st,rfl,hR,hB,hst,b0,b1,h⟩
theorem zgq (T:Txt K mg t):FnOk P w K mg base CX0 3 t.f22 t.d22 ["room","book","box","standing"] (spV 4 true zoA):=by have G16:=uI (P:=P) (w:=w) (base:=base) T;have G20:=zfI (P:=P) (w:=w) (base:=base) T;refine Fun.okW (k:=2) (fr:=true) [] 0 T.q22.F zn9 rfl (by decide) rfl fun cdv A outer s H E Pn hr=>⟨_,(ze (z3 (wE zo <| yG T.q20 G20 hr (za (zak yX uk (kb 0) (kb 2) (fun _ _=>rfl)) (za (wE zo <| yG T.q16 G16 hr (za (kv 0) (za (kv 1) (za (kv 2) (za (kv 3) zd))))) zd))))),fun ws n R hF=>?_⟩;obtain⟨rm,bk,box,st,rfl,hR,hB,hst,b0,b1,r⟩:=hF;walk_at "st";have hm:=yf hR.box b0 b1;refine onA b0 b1 ?_;walk_at "st";refine zoG.i hR hB hst ?_;walk_at "st";have hfew:=zfz (box:=box) (st:=st) hR hB;obtain⟨m,em⟩:∃m:Nat,ya rm box=(m:Int):=⟨(ya rm box).toNat,by lia⟩;rw[em] at r ⊢;rw[aL] at r;exact zrK.i (by lia) (by lia) r
def zfX  : FV:=fun Pn ws n R=>∃ (rm:List Int) (bk:List Wi) (st:List Int),ws=[.d (xw bk),.d (stD st)]/\(RoomOk rm)/\(y6 rm bk)/\(st.length=rm.length)/\(R (.d (zbp (zlr bk st []))) n)
theorem zfX.i  {Pn:Option zq} {n:Nat} {R:W->Nat->Prop} {rm:List Int} {bk:List Wi} {st:List Int} (hR:RoomOk rm) (hB:y6 rm bk) (hst:st.length=rm.length) (h:R (.d (zbp (zlr bk st []))) n)  : zfX Pn [.d (xw bk),.d (stD st)] n R:=⟨rm,bk,st,rfl,hR,hB,hst,h⟩
theorem zcI (T:Txt K mg t):FnOk P w K mg base CX0 1 t.f23 t.d23 ["_law_book_here","_law_standing"] (spV 2 true zfX):=by
 refine Fun.okW (k:=0) (fr:=true) [2] 6 T.q23.F yn rfl (by decide) rfl fun cdv A outer s H E Pn hr=>⟨_,(zb (wS yM <| xP (i:=2) yn.nd rfl (Or.inl rfl) (uc zd))
   (zb (yH aW rfl (wI za3 <| zcV K rfl (kv 0)) (wG xa <| xb (n:=4) K rfl rfl (wH zB <| zl (wG zv <| zg (i:=3) yn.nd rfl (Or.inl rfl)) (wH zB <| zl (wG zv <| zg (i:=4) yn.nd rfl (Or.inl rfl)) (wH zB <| zl (wG zv <| zg (i:=5) yn.nd rfl (Or.inl rfl)) (wH zB <| zl (wG zv <| zg (i:=6) yn.nd rfl (Or.inl rfl)) (wH y9 yp)))))) (ze (wS zG <| yZ (JW.t (wW za2 <| zcX (wT zn <| zy xY zcL (JE.bo (zak yX uk (kb 1) (kb 4) (fun _ _=>rfl))) (kb 6) (zD _)) (u9 (.inl rfl) (wT zn <| zcW (JE.bo (zO (zls rfl) zrl (by rfl) T.b_all PyProof.Rows.boot_all (zi (JE.bo (xk (N:=["_law_at","_law_worth","_law_standing"]) (cix:=[none,none,some 1]) rfl ⟨rfl,by decide +kernel,rfl⟩ (wI za3 <| zcV K rfl (kv 3)) (fun _ _ _ _=>(wG xa <| xb (n:=2) K rfl rfl (wH zB <| zl (wG zv <| zg (i:=0) (show (["_law_at","_law_worth","_law_standing"]:List Str).Nodup by decide +kernel) rfl (Or.inl rfl)) (wH zB <| zl (wG zv <| zg (i:=1) (show (["_law_at","_law_worth","_law_standing"]:List Str).Nodup by decide +kernel) rfl (Or.inl rfl)) (wH y9 yp))))) (fun _ _ _ _=>yL) (fun _ _ _ _=>(zmP xY zcL (JE.bo (zak yX uk (kb 2) (kb 0) (fun _ _=>rfl))) (kb 1) (zD _))))) zm))))))) (zb (wS zk <| zu (i:=7) yn.nd rfl (Or.inl rfl) (uz yV xL (JE.bo (uz yV xL (JE.bo (wE xp <| zbu (kb 1) zU (wO zH <| zV (kb 4)))) (JE.bo (xo (za (kv 5) zd))))) (JE.bo (wE xp <| zbu (kb 1) (wO zH <| zV (JE.bo (uz yS za8 (kb 4) (JE.bo zw)))) zU))))
   (ze (wS zG <| yZ (wT zn <| zy (zi5 hr.units) zop (kb 7) (kb 2) (by with_unfolding_all rfl)) (ze (wS uG <| zbb 2 (kv 7))) zL))) zL)))
   (ze (z3 (zO zmj zos (by rfl) T.b_sorted dq (zi (kb 2) zm)))))),fun ws n R hF=>?_⟩
 obtain⟨rm,bk,st,rfl,hR,hB,hst,r⟩:=hF;walk_at "st";have h8:=hR.few;refine yE bk (fun x=>W.d (yg x)) (by rw[az];rfl) (fun i ρ m=>m=n/\∃ (l:List (List Int)) (v3 v4 v5 v6 v7:Option W),ρ=[some (.d (xw bk)),some (.d (stD st)),some (.d (.lst (l.map stD))),v3,v4,v5,v6,v7]/\l.Nodup/\(∀z,z∈l↔z∈za1 (bk.take i) st [])) ⟨rfl,[],_,_,_,_,_,rfl,.nil,by simp[za1]⟩ ?_ ?_
 ·rintro i x ρ m hx ⟨rfl,l,v3,v4,v5,v6,v7,rfl,hN,hm⟩ C B E hC _ _;have hW:=hB x (aI hx);have b0:=hW.b0;have b1:=hW.b1
  have hgi:∀q∈x.g,0<=q.1/\q.1<st.length:=fun q hq=>by have:=hW.giv.ok q hq;rw[hst];exact⟨this.1,this.2.1⟩
  have els:uZ st x=false->∀v3 v4 v5 v6 v7,C [some (.d (xw bk)),some (.d (stD st)),some (.d (.lst (l.map stD))),v3,v4,v5,v6,v7] m:=fun hg v3 v4 v5 v6 v7=>by refine hC ⟨rfl,l,_,_,_,_,_,rfl,hN,fun z=>?_⟩;rw[hm z,zr hx,zcT,hg];simp
  walk_at "st";refine onA b0 (by lia) ?_;walk_at "st";refine xy (fun hw=>?_) (fun hw=>⟨els (by unfold uZ;rw[aN hw];rfl) _ _ _ _ _⟩);walk_at "st";refine uC x.g (fun q=>.d (yb q)) (by rw[az];rfl) (fun ρ=>∃a b,ρ=[a,b,some (.d (stD st))]) (fun q=>.bl (decide (ya st q.1=q.2))) (ax (zhW hW.giv h8) (by decide)) ⟨_,_,rfl⟩ ?_ ?_
  ·rintro q hq ρ' ⟨a,b,rfl⟩ D hD;have hb:=hgi q hq;walk_at "st";refine onA hb.1 hb.2 ?_;walk_at "st";exact hD ⟨_,_,rfl⟩
  walk_at "st";refine⟨x.g.map fun q=>decide (ya st q.1=q.2),by rw[az];rfl,?_⟩;rw[show (x.g.map fun q=>decide (ya st q.1=q.2)).all id=xl st x.g by unfold xl;rw[List.all_map];rfl];walk_at "st";refine zdG (fun hk=>?_) (fun hk=>⟨els (by unfold uZ;rw[hk,eK]) _ _ _ _ _⟩);have hg:uZ st x=true:=by unfold uZ;rw[aR hw,hk];rfl
  walk_at "st";refine⟨zam (by lia),?_⟩;walk_at "st";refine⟨zan (by lia),?_⟩;rw[zbO b0 (by lia)];walk_at "st";refine⟨zaq,zit l,fun b hb=>?_⟩;walk_at "st"
  have hgs:∀z,z∈za1 (bk.take (i+1)) st []↔z∈za1 (bk.take i) st []\/z=chg st x.b x.r:=fun z=>by rw[zr hx,zcT,hg];simp
  have hfew:l.length<=32:=zen (fun y hy=>hB y (bJ hy)) h8 hR.box hN fun z hz=>(hm z).mp hz
  cases b with
  | true=>
   have hin:=zfD.mp (hb.mp rfl);walk_at "cf";refine hC ⟨rfl,l,_,_,_,_,_,rfl,hN,fun z=>?_⟩;rw[hgs z,hm z];constructor
   ·exact .inl
   ·rintro (z1 | rfl)
    ·exact z1
    ·exact (hm _).mp hin
  | false=>
   have hnin:chg st x.b x.r∉l:=fun z=>by have:=hb.mpr (zfD.mpr z);cases this
   walk_at "ct";refine⟨by rw[aa];exact be hfew (by decide),hC ⟨rfl,l++[chg st x.b x.r],_,_,_,_,_,by rw[aB];rfl,?_,fun z=>?_⟩⟩
   ·rw[dA];exact⟨hN,by simp,fun a ha c hc e=>hnin (by rw[<- aK.mp hc,<- e];exact ha)⟩
   ·rw[bg,aK,hgs z,hm z]
 ·rintro ρ m ⟨rfl,l,v3,v4,v5,v6,v7,rfl,hN,hm⟩;rw[bn] at hm;walk_at "st";refine⟨l,rm.length,rfl,?_,hR.pos,fun z hz=>zeo hB hst z ((hm z).mp hz),hN,fun l' hp hu=>?_⟩
  ·have:=zen hB h8 hR.box hN fun z hz=>(hm z).mp hz;lia
  ·rw[show l'=zlr bk st [] from zbG (zeo hB hst) hu fun z=>hp.mem_iff.trans (hm z)];exact r
def zjV  : FV:=fun Pn ws n R=>∃ (rm:List Int) (bk:List Wi) (box:Int) (st:List Int) (m:Nat),ws=[.d (xw bk),.d (.int box),.d (.int (m:Int)),.d (stD st)]/\(RoomOk rm)/\(y6 rm bk)/\(st.length=rm.length)/\(0<=box)/\(box<rm.length)/\((m:Int)=ya rm box)/\(R (.d (.lst ((lpE bk box st).map yb))) n)
theorem zjV.i  {Pn:Option zq} {n:Nat} {R:W->Nat->Prop} {rm:List Int} {bk:List Wi} {box:Int} {st:List Int} {m:Nat} (hR:RoomOk rm) (hB:y6 rm bk) (hst:st.length=rm.length) (b0:0<=box) (b1:box<rm.length) (hm:(m:Int)=ya rm box) (h:R (.d (.lst ((lpE bk box st).map yb))) n)  : zjV Pn [.d (xw bk),.d (.int box),.d (.int (m:Int)),.d (stD st)] n R:=⟨rm,bk,box,st,m,rfl,hR,hB,hst,b0,b1,hm,h⟩
theorem zcF (T:Txt K mg t):FnOk P w K mg base CX0 2 t.f24 t.d24 ["_law_book_here","_law_box","_law_many","_law_standing"] (spV 4 true zjV):=by
 have G23:=zcI (P:=P) (w:=w) (base:=base) T
 refine Fun.okW (k:=1) (fr:=true) [4] 5 T.q24.F yF rfl (by decide) rfl fun cdv A outer s H E Pn hr=>⟨_,(zb (wS yM <| xP (i:=4) yF.nd rfl (Or.inl rfl) (uc zd))
   (zb (yH aW rfl (wI yt <| zJ rfl T.b_range (zi (kb 2) zm)) (wG zv <| zg (i:=5) yF.nd rfl (Or.inl rfl)) (ze (yH aW rfl (wI yt <| zJ rfl T.b_range (zi (kb 2) zm)) (wG zv <| zg (i:=6) yF.nd rfl (Or.inl rfl)) (zb (wS zk <| zu (i:=7) yF.nd rfl (Or.inl rfl) (uz yV xL (JE.bo (uz yV xL (JE.bo (wE xp <| zbu (kb 3) zU (wO zH <| zV (kb 1)))) (JE.bo (xo (za (kv 5) zd))))) (JE.bo (wE xp <| zbu (kb 3) (wO zH <| zV (JE.bo (uz yS za8 (kb 1) (JE.bo zw)))) zU))))
   (zb (wS zk <| zu (i:=8) yF.nd rfl (Or.inl rfl) (uz yV xL (JE.bo (uz yV xL (JE.bo (wE xp <| zbu (kb 3) zU (wO zH <| zV (kb 1)))) (JE.bo (xo (za (kv 6) zd))))) (JE.bo (wE xp <| zbu (kb 3) (wO zH <| zV (JE.bo (uz yS za8 (kb 1) (JE.bo zw)))) zU))))
   (ze (wS zG <| yZ (wT zn <| zy (zlN hr.units) zop (kb 8) (JE.bo (wE zo <| yG T.q23 G23 hr (za (kv 0) (za (kv 7) zd)))) (by with_unfolding_all rfl)) (ze (wS uG <| zbb 4 (xo (za (kv 5) (za (kv 6) zd))))) zL)))))))
   (ze (wS zaD <| zb4 4)))),fun ws n R hF=>?_⟩
 obtain⟨rm,bk,box,st,m,rfl,hR,hB,hst,b0,b1,hm,r⟩:=hF;walk_at "st";have h8:=hR.few;have hmm:=yf hR.box b0 b1;have hlp:=zlh (n:=m) hB hst b0 b1 hm;have hcl:∀w:Int,(chg st box w).length=rm.length:=fun w=>by rw[xU b0 (by lia)];exact hst
 refine⟨⟨by lia,by lia⟩,zar (fun i ρ m'=>m'=n/\∃v5 v6 v7 v8,ρ=[some (.d (xw bk)),some (.d (.int box)),some (.d (.int (m:Int))),some (.d (stD st)),some (.d (.lst ((zbx (zce bk box st) m i).map stD))),v5,v6,v7,v8]) ⟨rfl,_,_,_,_,rfl⟩ ?_ ?_⟩
 ·rintro i ρ m' hi ⟨rfl,v5,v6,v7,v8,rfl⟩ C B X hC _ _;walk_at "st";refine⟨⟨by lia,by lia⟩,zar (fun j ρ m2=>m2=m'/\j<=m/\∃v6 v7 v8,ρ=[some (.d (xw bk)),some (.d (.int box)),some (.d (.int (m:Int))),some (.d (stD st)),some (.d (.lst ((zbx (zce bk box st) m i++zZ (zce bk box st) i j).map stD))),some (.d (.int (i:Int))),v6,v7,v8]) ⟨rfl,a8 _,v6,v7,v8,by simp[zZ]⟩ ?_ ?_⟩
  ·rintro j ρ m2 hj ⟨rfl,hjm,v6,v7,v8,rfl⟩ C' B' X' hC' _ _;have hj:j<m:=by lia
   walk_at "st";refine⟨zam (by lia),?_⟩;walk_at "st";refine⟨zan (by lia),?_⟩;rw[zbO b0 (by lia)];walk_at "st";refine⟨zam (by lia),?_⟩;walk_at "st";refine⟨zan (by lia),?_⟩;rw[zbO b0 (by lia)];walk_at "st";refine zfX.i hR hB (hcl _) ?_;walk_at "st";refine⟨zaq,zit _,fun b hb=>?_⟩
   have eb:b=zce bk box st i j:=by rw[cr,hb,zfD];exact zi8 hB hst b0 b1
   rw[show xr false b=zce bk box st i j from eb];walk_at "st";refine zdG (fun hp=>?_) (fun hp=>?_)
   ·walk_at "st";refine⟨?_,hC' ⟨rfl,hj,some (.d (.int (j:Int))),some (.d (stD (chg st box (i:Int)))),some (.d (stD (chg st box (j:Int)))),?_⟩⟩
    ·have q1:=zcv (zce bk box st) m i;have q2:=zeY (zce bk box st) i j;have q3:i * m<=4 * 4:=Nat.mul_le_mul (by lia) (by lia);rw[aa,af];exact be (by lia:_<=100) (by decide)
    ·rw[zaT,if_pos hp,<- bO,aB (l₂:=[[(i:Int),(j:Int)]])];rfl
   ·walk_at "st";refine hC' ⟨rfl,hj,some (.d (.int (j:Int))),some (.d (stD (chg st box (i:Int)))),some (.d (stD (chg st box (j:Int)))),?_⟩;rw[zaT,if_neg (by rw[hp];decide)]
  ·rintro ρ m2 ⟨rfl,hjm,v6,v7,v8,rfl⟩;walk_at "st";exact hC ⟨rfl,_,_,_,_,rfl⟩
 ·rintro ρ m' ⟨rfl,v5,v6,v7,v8,rfl⟩;walk_at "st";have:=r;rw[<- zpC,<- hlp] at this;exact this
def zoK  : FV:=fun Pn ws n R=>∃ (p:Addr) (rm:List Int),ws=[.pen p,.d (stD rm)]/\(IsP Pn p)/\(n+200<=1000000)/\(RoomOk rm)/\(∀bk m,y6 rm bk->bk.length<=10->m<=n+100->R (.d (xw bk)) m)
theorem zoK.i  {Pn:Option zq} {n:Nat} {R:W->Nat->Prop} {p:Addr} {rm:List Int} (hP:IsP Pn p) (hR:RoomOk rm) (h:∀bk m,y6 rm bk->bk.length<=10->m<=n+100->R (.d (xw bk)) m) (hn:n+200<=1000000:=by lia):zoK Pn [.pen p,.d (stD rm)] n R:=⟨p,rm,rfl,hP,hn,hR,h⟩
theorem uH (T:Txt K mg t):FnOk P w K mg base CX0 4 t.f25 t.d25 ["_law_pen_here","_law_room_here"] (spV 2 false zoK):=by
 have G1:=zK (P:=P) (w:=w) (base:=base) T;have G2:=xx (P:=P) (w:=w) (base:=base) T;have G6:=uu (P:=P) (w:=w) (base:=base) T
 refine Fun.okW (k:=3) (fr:=false) [7] 6 T.q25.F zA rfl (by decide) rfl fun cdv A outer s H E Pn hr=>⟨_,(zb (zik (wE zo <| yG T.q6 G6 hr (za (kv 0) (za (kv 1) zd))) (wG xa <| xb (n:=4) K rfl rfl (wH zB <| zl (wG zv <| zg (i:=2) zA.nd rfl (Or.inr rfl)) (wH zB <| zl (wG zv <| zg (i:=3) zA.nd rfl (Or.inr rfl)) (wH zB <| zl (wG zv <| zg (i:=4) zA.nd rfl (Or.inl rfl)) (wH zB <| zl (wG zv <| zg (i:=5) zA.nd rfl (Or.inl rfl)) (wH y9 yp)))))))
   (zb (wS zk <| zu (i:=6) zA.nd rfl (Or.inl rfl) (wE xI <| zb3 (JE.bo (wE zo <| yG T.q2 G2 hr (za (kv 0) (za (wE ut <| zay T.b_list T.b_range (zi (JE.bo (zak yX uk (kb 1) (kb 3) (fun _ _=>rfl))) zm)) zd)))) zU (wO zH <| zV (JE.bo (uz yS za8 (JE.bo zw) (JE.bo (wE zo <| yG T.q1 G1 hr (za (kv 0) (za (uz zi7 zot (JE.bo (zak yX uk (kb 1) (kb 3) (fun _ _=>rfl))) (JE.bo zw)) zd)))))))))
   (zb (wS yM <| zim (i:=7) (zaz (ix:=7) zA.nd rfl rfl (N:=["_law_one","_law_other","_law_given","_law_box"]) (cix:=[none,none,some 2,some 3]) rfl ⟨rfl,by decide +kernel,rfl⟩ (wI zdz <| zfv rfl T.b_zip (za (kv 6) (za (uz zi2 zl4 (JE.bo (wE xI <| zb3 (kb 6) (wO zH <| zV (JE.bo zw)) zU)) (JE.bo (wE xI <| zb3 (kb 6) zU (wO zH <| zV (JE.bo zw))))) zd))) (fun _ _ _ _=>(wG xa <| xb (n:=2) K rfl rfl (wH zB <| zl (wG zv <| zg (i:=0) (show (["_law_one","_law_other","_law_given","_law_box"]:List Str).Nodup by decide +kernel) rfl (Or.inl rfl)) (wH zB <| zl (wG zv <| zg (i:=1) (show (["_law_one","_law_other","_law_given","_law_box"]:List Str).Nodup by decide +kernel) rfl (Or.inl rfl)) (wH y9 yp))))) (fun _ _ _ _=>yL) (fun _ _ _ _=>(xo (za (kv 2) (za (kv 3) (za (kv 1) (za (kv 0) zd))))))))
   (zb (wS zG <| yZ (wT zn <| zy xY zcL (JE.bo (wE zo <| yG T.q1 G1 hr (za (kv 0) (za zw zd)))) (JE.bo zw) (zD _)) (ze (wS zgl <| zin 7 (JE.bo (wE zo <| yG T.q1 G1 hr (za (kv 0) (za (zO yz ux (by rfl) T.b_len aZ (zi (kb 7) zm)) zd)))))) zL)
   (ze (z3 (uq xi zcx (by rfl) T.b_tuple cj (zi (kb 7) zm)))))))),fun ws n R hF=>?_⟩
 obtain⟨p,rm,rfl,hP,hn,hR,r⟩:=hF;walk_at "st";refine zgJ.i hP hR fun x m hx hm=>?_;have hmm:=yf hR.box hx.b0 hx.b1;walk_at "st";refine onA hx.b0 hx.b1 ?_;walk_at "st";refine⟨⟨by lia,by lia⟩,?_⟩;walk_at "st";refine tc hP (fun l hl=>?_) (by rw[xz];lia) (by rw[xz];lia);rw[xz];obtain⟨rs,rfl,hrp⟩:=zdN hl;have hrN:rs.Nodup:=hrp.nodup_iff.mpr (uh _)
 have hrm:∀y∈rs,0<=y/\y<ya rm x.b:=fun y hy=>by have:=xD.mp (hrp.mem_iff.mp hy);lia
 have hrl:=hrp.length_eq;rw[z6] at hrl;walk_at "st";refine onA hx.b0 hx.b1 ?_;walk_at "st";refine dc hP fun t t0 t1=>?_;walk_at "st";rw[yK];obtain⟨tt,rfl⟩:∃tt:Nat,t=(tt:Int):=⟨t.toNat,by lia⟩;rw[show (2+(tt:Int))=((2+tt:Nat):Int) by lia,L3.uU];have hsub:(rs.take (2+tt)).Sublist rs:=c3 _ _;have hsN:=hrN.sublist hsub;have hsl:(rs.take (2+tt)).length=2+tt:=by rw[aJ];lia
 have hsm:∀y∈rs.take (2+tt),0<=y/\y<ya rm x.b:=fun y hy=>hrm y (hsub.subset hy);generalize rs.take (2+tt)=ss at hsN hsl hsm;rw[yK,yK,zbQ,zhA,<- aB];have hrot:ss.drop 1++ss.take 1=rot ss:=rfl;rw[hrot];have hrl2:(rot ss).length=ss.length:=by rw[<- hrot,af,bf,aJ];lia
 refine⟨by rw[aa,aa,bf,aJ];exact ax (by lia:_<=100) (by decide),?_⟩;walk_at "st";rw[zd4];have hzl:(ss.zip (rot ss)).length=2+tt:=by rw[List.length_zip];lia
 have hzo:∀q∈ss.zip (rot ss),WishOk rm ⟨x.g,x.b,q.2,q.1⟩:=fun q hq=>by obtain⟨h1,h2,h3⟩:=zqW hsN (by lia) hq;exact⟨hx.giv,hx.b0,hx.b1,hx.apart,(hsm _ h2).1,(hsm _ h2).2,(hsm _ h1).1,(hsm _ h1).2,Ne.symm h3⟩
 generalize ss.zip (rot ss)=zs at hzl hzo;refine uC zs (fun q=>W.d (yb q)) rfl (fun ρ=>∃u v,ρ=[u,v,some (.d (zdp x.g)),some (.d (.int x.b))]) (fun q=>yg ⟨x.g,x.b,q.2,q.1⟩) (ax (by lia:_<=100) (by decide)) ⟨_,_,rfl⟩ ?_ ?_
 ·rintro q hq ρ2 ⟨u,v,rfl⟩ D dY;walk_at "st";exact dY ⟨_,_,rfl⟩
 have e2:(zs.map fun q=>yg ⟨x.g,x.b,q.2,q.1⟩)=(zs.map fun q=>(⟨x.g,x.b,q.2,q.1⟩:Wi)).map yg:=by rw[az];rfl
 rw[e2]
 have hB:y6 rm (zs.map fun q=>(⟨x.g,x.b,q.2,q.1⟩:Wi)):=fun y hy=>by obtain⟨q,hq,rfl⟩:=aF.mp hy;exact hzo q hq
 have hBl:(zs.map fun q=>(⟨x.g,x.b,q.2,q.1⟩:Wi)).length=2+tt:=by rw[aa];exact hzl
 generalize (zs.map fun q=>(⟨x.g,x.b,q.2,q.1⟩:Wi))=bk at hB hBl;walk_at "st";refine dc hP fun a a0 a1=>?_;walk_at "st";refine xy (fun _=>?_) (fun _=>?_)
 ·walk_at "st";rw[aa];refine dc hP fun b b0 b1=>?_;walk_at "st";refine⟨⟨by lia,by lia,ax (by lia:_<=100) (by decide)⟩,?_⟩;rw[<- zbT];walk_at "st";exact r _ _ (fun y hy=>hB y (List.mem_of_mem_eraseIdx hy)) (by have:=List.length_eraseIdx_le bk b.toNat;lia) (by lia)
 ·walk_at "st";exact r bk _ hB (by lia) (by lia)
def zrF  : FV:=fun Pn ws n R=>∃ (E:List (Int×Int)),ws=[.d (.lst (E.map yb))]/\(E.length<=100)/\(∀b:Bool,(b=true↔Cyc E)->R (.d (.bl b)) n)
theorem zrF.i  {Pn:Option zq} {n:Nat} {R:W->Nat->Prop} {E:List (Int×Int)} (hE:E.length<=100) (h:∀b:Bool,(b=true↔Cyc E)->R (.d (.bl b)) n)  : zrF Pn [.d (.lst (E.map yb))] n R:=⟨E,rfl,hE,h⟩
theorem zai (T:Txt K mg t):FnOk P w K mg base CX0 1 t.f26 t.d26 ["_law_pairs"] (spV 1 false zrF):=by
 refine Fun.okW (k:=0) (fr:=false) [] 2 T.q26.F z9 rfl (by decide) rfl fun cdv A outer s H E Pn hr=>⟨_,(zb (wS zk <| zu (i:=1) z9.nd rfl (Or.inl rfl) (j_un zrw ztD (JE.bo zw)))
   (zb (zdv aW (wT zn <| zy zgZ zoE (JE.bo (zO yz ux (by rfl) T.b_len aZ (zi (kb 0) zm))) (kb 1) (zD _)) (zb (wS zk <| zu (i:=1) z9.nd rfl (Or.inl rfl) (zO yz ux (by rfl) T.b_len aZ (zi (kb 0) zm)))
   (zb (wS zk <| zu (i:=2) z9.nd rfl (Or.inr rfl) (xk (N:=["_law_one","_law_other"]) (cix:=[none,none]) rfl ⟨rfl,by decide +kernel,rfl⟩ (wI yr <| yq K rfl (kv 0)) (fun _ _ _ _=>(wG xa <| xb (n:=2) K rfl rfl (wH zB <| zl (wG zv <| zg (i:=0) (show (["_law_one","_law_other"]:List Str).Nodup by decide +kernel) rfl (Or.inl rfl)) (wH zB <| zl (wG zv <| zg (i:=1) (show (["_law_one","_law_other"]:List Str).Nodup by decide +kernel) rfl (Or.inl rfl)) (wH y9 yp))))) (fun _ _ _ _=>yL) (fun _ _ _ _=>(kv 0))))
   (ze (wS zk <| zfx (i:=0) (zaz (ix:=0) z9.nd rfl rfl (N:=["_law_one","_law_other","_law_worse"]) (cix:=[none,none,some 2]) rfl ⟨rfl,by decide +kernel,rfl⟩ (wI yr <| yq K rfl (kv 0)) (fun _ _ _ _=>(wG xa <| xb (n:=2) K rfl rfl (wH zB <| zl (wG zv <| zg (i:=0) (show (["_law_one","_law_other","_law_worse"]:List Str).Nodup by decide +kernel) rfl (Or.inl rfl)) (wH zB <| zl (wG zv <| zg (i:=1) (show (["_law_one","_law_other","_law_worse"]:List Str).Nodup by decide +kernel) rfl (Or.inl rfl)) (wH y9 yp))))) (fun _ _ _ _=>(xW (wT zn <| zy zaJ zro (kb 1) (kb 2) (by with_unfolding_all rfl)))) (fun _ _ _ _=>(xo (za (kv 0) (za (kv 1) zd))))))))))
   (ze (z3 (zmP (zi4 hr.units) zoq (kb 0) (JE.bo (uc zd)) (zD _)))))),fun ws n R hF=>?_⟩
 obtain⟨E,rfl,hE,r⟩:=hF;walk_at "st";refine zjO (fun k ρ n'=>n'=n/\∃ (F:List (Int×Int)) (c:Int) (v2:Option W),k=F.length+(if c=F.length then 0 else 1)/\ρ=[some (.d (.lst (F.map yb))),some (.d (.int c)),v2]/\(∀q∈F,q∈E)/\F.length<=E.length/\(∀D,PF E D->PF F D)/\(c=F.length->∀q∈F,q.2∈F.map (·.1))) (E.length+1) ⟨rfl,E,-1,none,by rw[if_neg (by lia)],rfl,fun q hq=>hq,ag _,fun D hD=>hD,fun z=>by lia⟩ ?_;rintro k ρ n' ⟨rfl,F,c,v2,rfl,rfl,hs,hl,hpf,hc⟩ C B X hC hB hX;walk_at "st";rw[aa];refine zgY (fun hne=>?_) (fun heq=>?_)
 ·walk_at "st";rw[aa];refine uC F (fun q=>W.d (yb q)) (by rw[az];rfl) (fun ρ=>∃u v,ρ=[u,v]) (fun q=>.int q.1) (ax (by lia:_<=100) (by decide)) ⟨_,_,rfl⟩ ?_ ?_
  ·rintro q hq ρ2 ⟨u,v,rfl⟩ D dY;walk_at "st";exact dY ⟨_,_,rfl⟩
  have e1:(F.map fun q=>Dt.int q.1)=(F.map (·.1)).map Dt.int:=by rw[az];rfl
  rw[e1];walk_at "st";refine zae F (fun q=>W.d (yb q)) (by rw[az];rfl) (fun ρ=>∃u v,ρ=[u,v,some (.d (.lst ((F.map (·.1)).map Dt.int)))]) (fun q=>(F.map (·.1)).contains q.2) yb (ax (by lia:_<=100) (by decide)) ⟨_,_,rfl⟩ ?_ ?_
  ·rintro q hq ρ2 ⟨u,v,rfl⟩ D dY dN;walk_at "st";refine⟨_,rfl,?_⟩;walk_at "st";exact zdG (fun z=>dY z ⟨_,_,rfl⟩) (fun z=>dN z ⟨_,_,rfl⟩)
  ·have hsub:(prn F).Sublist F:=cQ;have hle:=hsub.length_le;refine hC ((prn F).length+(if (F.length:Int)=(prn F).length then 0 else 1)) ?_ ⟨rfl,prn F,F.length,_,rfl,rfl,fun q hq=>hs q (hsub.subset hq),by lia,fun D hD=>zqn (hpf D hD),fun z=>znz (by lia)⟩;have e9:(if c=(F.length:Int) then 0 else 1)=1:=if_neg fun z=>hne z.symm;rw[e9];split <;> lia
 ·refine hB ?_;walk_at "st";have hcl:=hc heq.symm;refine⟨za0.2,(za0 (g:=[])).2,fun b hb=>?_⟩;refine r _ ?_;rw[<- zml hs hpf hcl]
  cases b with
  | true=>
   have:F=[]:=List.map_eq_nil_iff.mp (Dt.lst.inj (hb.mp rfl));simp[this]
  | false=>
   have:F≠[]:=fun z=>by have:=hb.mpr (by rw[z];rfl);cases this
   simp[this]
def zoJ  : FV:=fun Pn ws n R=>∃ (rm:List Int) (bk:List Wi) (box:Int) (st:List Int),ws=[.d (stD rm),.d (xw bk),.d (.int box),.d (stD st)]/\(RoomOk rm)/\(y6 rm bk)/\(st.length=rm.length)/\(0<=box)/\(box<rm.length)/\(R (.d (.bl true)) n)
theorem zoJ.i  {Pn:Option zq} {n:Nat} {R:W->Nat->Prop} {rm:List Int} {bk:List Wi} {box:Int} {st:List Int} (hR:RoomOk rm) (hB:y6 rm bk) (hst:st.length=rm.length) (b0:0<=box) (b1:box<rm.length) (h:R (.d (.bl true)) n)  : zoJ Pn [.d (stD rm),.d (xw bk),.d (.int box),.d (stD st)] n R:=⟨rm,bk,box,st,rfl,hR,hB,hst,b0,b1,h⟩
theorem zcG (T:Txt K mg t):FnOk P w K mg base CX0 5 t.f27 t.d27 ["_law_room_here","_law_book_here","_law_box","_law_standing"] (spV 4 false zoJ):=by
 have G21:=zcb (P:=P) (w:=w) (base:=base) T;have G22:=zgq (P:=P) (w:=w) (base:=base) T;have G24:=zcF (P:=P) (w:=w) (base:=base) T;have G26:=zai (P:=P) (w:=w) (base:=base) T
 refine Fun.okW (k:=4) (fr:=false) [] 4 T.q27.F y3 rfl (by decide) rfl fun cdv A outer s H E Pn hr=>⟨_,(zb (wS zk <| zu (i:=4) y3.nd rfl (Or.inr rfl) (wE zo <| yG T.q24 G24 hr (za (kv 1) (za (kv 2) (za (zak yX uk (kb 0) (kb 2) (fun _ _=>rfl)) (za (kv 3) zd))))))
   (zb (wS zk <| zfx (i:=5) (zaz (ix:=5) y3.nd rfl rfl (N:=["_law_worth","_law_pairs"]) (cix:=[none,some 4]) rfl ⟨rfl,by decide +kernel,rfl⟩ (wI yt <| zJ rfl T.b_range (zi (JE.bo (zak yX uk (kb 0) (kb 2) (fun _ _=>rfl))) zm)) (fun _ _ _ _=>(wG zv <| zg (i:=0) (show (["_law_worth","_law_pairs"]:List Str).Nodup by decide +kernel) rfl (Or.inl rfl))) (fun _ _ _ _=>(xW (wT zn <| zy uK zd2 (kb 0) (JE.bo (xk (N:=["_law_one","_law_other"]) (cix:=[none,none]) rfl ⟨rfl,by decide +kernel,rfl⟩ (wI yr <| yq K rfl (kv 1)) (fun _ _ _ _=>(wG xa <| xb (n:=2) K rfl rfl (wH zB <| zl (wG zv <| zg (i:=0) (show (["_law_one","_law_other"]:List Str).Nodup by decide +kernel) rfl (Or.inl rfl)) (wH zB <| zl (wG zv <| zg (i:=1) (show (["_law_one","_law_other"]:List Str).Nodup by decide +kernel) rfl (Or.inl rfl)) (wH y9 yp))))) (fun _ _ _ _=>yL) (fun _ _ _ _=>(kv 0)))) (by with_unfolding_all rfl)))) (fun _ _ _ _=>(kv 0))))
   (zb (wS zk <| zu (i:=6) y3.nd rfl (Or.inl rfl) (wE zo <| yG T.q22 G22 hr (za (kv 0) (za (kv 1) (za (kv 2) (za (kv 3) zd))))))
   (zb (wS zG <| yZ (JW.t (wW zc3 <| zgR (wT zb7 <| zes (wT zn <| zcW (JE.bo (wE zdx <| zax (by rfl) T.b_isinstance T.b_list (kb 6))))) (wW zc3 <| zgR (wT zn <| zy (zi4 hr.units) zoq (kb 6) (kb 5) (zD _)) (u9 (.inr rfl) (wT zn <| zy zaJ zrn (JE.bo zjR) (JE.bo (xk (N:=["_law_one"]) (cix:=[none]) rfl ⟨rfl,by decide +kernel,rfl⟩ (wI yr <| yq K rfl (kv 6)) (fun _ _ _ _=>(wG zv <| zg (i:=0) (show (["_law_one"]:List Str).Nodup by decide +kernel) rfl (Or.inl rfl))) (fun _ _ _ _=>yL) (fun _ _ _ _=>(wE zdx <| zaw (by rfl) T.b_isinstance T.b_bool (kb 0))))) (by with_unfolding_all rfl)))))) (ze (z3 zjR)) zL)
   (zb (wS zk <| zu (i:=7) y3.nd rfl (Or.inl rfl) (wE zo <| yG T.q21 G21 hr (za (kv 0) (za (kv 1) (za (kv 2) (za (kv 3) zd))))))
   (zb (wS zG <| yZ (wT zn <| zpu (kb 7)) (ze (z3 (wE zkB <| zsE (JE.bo (wE zo <| yG T.q26 G26 hr (za (kv 4) zd)))))) zL)
   (zb (wS zG <| yZ (JW.t (wW zc3 <| zgR (wT zb7 <| zes (wT zn <| zcW (JE.bo (wE zdx <| zax (by rfl) T.b_isinstance T.b_list (kb 7))))) (wW zc3 <| zgR (wT zn <| zy zi3 zr0 (JE.bo (zO yz ux (by rfl) T.b_len aZ (zi (kb 7) zm))) (JE.bo zw) (zD _)) (u9 (.inr rfl) (wT zn <| zy zgZ zoE (JE.bo (zkr rfl T.b_len T.b_set (kb 7))) (JE.bo (zO yz ux (by rfl) T.b_len aZ (zi (kb 7) zm))) (zD _)))))) (ze (z3 zjR)) zL)
   (zb (wS zG <| yZ (wT zn <| zy zaJ zrn (JE.bo zjR) (JE.bo (xk (N:=["_law_one"]) (cix:=[none]) rfl ⟨rfl,by decide +kernel,rfl⟩ (wI yr <| yq K rfl (kv 7)) (fun _ _ _ _=>(wG zv <| zg (i:=0) (show (["_law_one"]:List Str).Nodup by decide +kernel) rfl (Or.inl rfl))) (fun _ _ _ _=>yL) (fun _ _ _ _=>(wE zdx <| zaw (by rfl) T.b_isinstance T.b_bool (kb 0))))) (by with_unfolding_all rfl)) (ze (z3 zjR)) zL)
   (ze (z3 (zO (zls rfl) zrl (by rfl) T.b_all PyProof.Rows.boot_all (zi (JE.bo (xk (N:=["_law_one","_law_other","_law_pairs"]) (cix:=[none,none,some 4]) rfl ⟨rfl,by decide +kernel,rfl⟩ (wI zdz <| zfv rfl T.b_zip (za (kv 7) (za (uz zi2 zl4 (JE.bo (wE xI <| zb3 (kb 7) (wO zH <| zV (JE.bo zw)) zU)) (JE.bo (wE xI <| zb3 (kb 7) zU (wO zH <| zV (JE.bo zw))))) zd))) (fun _ _ _ _=>(wG xa <| xb (n:=2) K rfl rfl (wH zB <| zl (wG zv <| zg (i:=0) (show (["_law_one","_law_other","_law_pairs"]:List Str).Nodup by decide +kernel) rfl (Or.inl rfl)) (wH zB <| zl (wG zv <| zg (i:=1) (show (["_law_one","_law_other","_law_pairs"]:List Str).Nodup by decide +kernel) rfl (Or.inl rfl)) (wH y9 yp))))) (fun _ _ _ _=>yL) (fun _ _ _ _=>(zmP (zlN hr.units) zop (JE.bo (xo (za (kv 0) (za (kv 1) zd)))) (kb 2) (by with_unfolding_all rfl))))) zm)))))))))))),fun ws n R hF=>?_⟩
 obtain⟨rm,bk,box,st,rfl,hR,hB,hst,b0,b1,r⟩:=hF;walk_at "st";have hmm:=yf hR.box b0 b1;obtain⟨m,em⟩:∃m:Nat,ya rm box=(m:Int):=⟨(ya rm box).toNat,by lia⟩;have hfew:=zfz (box:=box) (st:=st) hR hB;have hok:=zlH (box:=box) (st:=st) hB;refine onA b0 b1 ?_;walk_at "st";rw[em];refine zjV.i hR hB hst b0 b1 em.symm ?_;walk_at "st";refine onA b0 b1 ?_;walk_at "st";rw[em];generalize hEE:lpE bk box st=E at hfew hok;have hml:(zp (m:Int)).length=m:=by rw[z6];lia
 refine⟨⟨by lia,by lia⟩,?_⟩;rw[xA,aL];have e0:((List.range m).map fun k:Nat=>W.d (.int (k:Int)))=(zp (m:Int)).map fun i=>W.d (.int i):=by unfold zp;rw[az,aL];rfl
 rw[e0];refine zae (zp (m:Int)) (fun i=>W.d (.int i)) rfl (fun ρ=>∃u,ρ=[u,some (.d (.lst (E.map yb)))]) (fun w=>!(E.map (·.1)).contains w) (fun w=>.int w) (ax (by lia:_<=100) (by decide)) ⟨_,rfl⟩ ?_ ?_
 ·rintro w hw ρ2 ⟨u,rfl⟩ D dY dN;walk_at "st";refine uC E (fun q=>W.d (yb q)) (by rw[az];rfl) (fun ρ=>∃u v,ρ=[u,v]) (fun q=>.int q.1) (ax (by lia:_<=100) (by decide)) ⟨_,_,rfl⟩ ?_ ?_
  ·rintro q hq ρ3 ⟨u,v,rfl⟩ D2 dY2;walk_at "st";exact dY2 ⟨_,_,rfl⟩
  walk_at "st";refine⟨E.map (·.1),by rw[az];rfl,?_⟩;walk_at "st";exact zdG (fun z=>dY z ⟨_,rfl⟩) (fun z=>dN z ⟨_,rfl⟩)
 have e1:((zp (m:Int)).filter fun w=>!(E.map (·.1)).contains w).map (fun w=>Dt.int w)=(zd1 E m).map Dt.int:=rfl;rw[e1]
 have htl:(zd1 E m).length<=m:=by have:=cE (fun w=>!(E.map (·.1)).contains w) (zp (m:Int));unfold zd1;lia
 walk_at "st";refine zoA.i hR hB hst b0 b1 ?_;rw[hEE,em,aL];walk_at "st";refine zlM zcS ?_;walk_at "st";walk_at "cf";refine uC (zd1 E m) (fun i=>W.d (.int i)) (by rw[az];rfl) (fun ρ=>∃u,ρ=[u]) (fun _=>.bl false) (ax (by lia:_<=100) (by decide)) ⟨_,rfl⟩ ?_ ?_
 ·rintro w hw ρ2 ⟨u,rfl⟩ D dY;walk_at "st";exact dY ⟨_,rfl⟩
 walk_at "st";refine⟨(zd1 E m).map fun _=>false,by rw[az];rfl,?_⟩;rw[ziT];walk_at "st";have hne:∀q∈E,q.1≠q.2:=fun q hq=>(hok q hq).2.2.2.2;refine zrG.i hR hB hst b0 b1 ?_;rw[hEE];refine⟨fun hnc=>?_,fun row hrd hcy=>?_⟩
 ·walk_at "st";refine zrF.i (by lia) fun b hb=>?_
  have hbf:b=false:=by
   cases b with
   | false=>rfl
   | true=>exact absurd (hb.mp rfl) hnc
  subst hbf;walk_at "st";exact r
 ·have h2:=zqN hrd hne
  have hin:∀y∈row,y∈zp (m:Int):=fun y hy=>by
   obtain⟨i,hi,e⟩:=bq.mp hy;have ey:y=row.getD i 0:=by simp[hi,e]
   have:∃q∈E,q.1=y:=by
    by_cases h1:i+1<row.length
    ·exact⟨_,hrd.next i h1,by rw[ey]⟩
    ·exact⟨_,hrd.back,by rw[ey,show i=row.length - 1 by lia]⟩
   obtain⟨q,hq,eq⟩:=this;have:=hok q hq;rw[em] at this;rw[<- eq];exact xD.mpr ⟨this.1,this.2.1⟩
  have hrl:=ud hrd.nd hin;walk_at "st";rw[aa];refine xy (fun z=>absurd z (by lia)) (fun _=>?_);walk_at "st";refine⟨row,rfl,hrd.nd,by lia,?_⟩;walk_at "st";rw[aa];refine zgY (fun z=>absurd rfl z) (fun _=>?_);walk_at "st";refine uC row (fun i=>W.d (.int i)) (by rw[az];rfl) (fun ρ=>∃u,ρ=[u]) (fun _=>.bl false) (ax (by lia:_<=100) (by decide)) ⟨_,rfl⟩ ?_ ?_
  ·rintro w hw ρ2 ⟨u,rfl⟩ D dY;walk_at "st";exact dY ⟨_,rfl⟩
  walk_at "st";refine⟨row.map fun _=>false,by rw[az];rfl,?_⟩;rw[ziT];walk_at "st";rw[yK,yK,zbQ,zhA,<- aB,show row.drop 1++row.take 1=rot row from rfl];refine⟨by rw[aa,aa,bf,aJ];exact ax (by lia:_<=100) (by decide),?_⟩;walk_at "st";rw[zd4];have hzl:(row.zip (rot row)).length<=100:=by rw[List.length_zip];lia
  have hzE:∀q∈row.zip (rot row),q∈E:=fun q hq=>zqO hrd hq;generalize row.zip (rot row)=zs at hzl hzE;refine uC zs (fun q=>W.d (yb q)) rfl (fun ρ=>∃u v,ρ=[u,v,some (.d (.lst (E.map yb)))]) (fun _=>.bl true) (ax hzl (by decide)) ⟨_,_,rfl⟩ ?_ ?_
  ·rintro q hq ρ2 ⟨u,v,rfl⟩ D dY;walk_at "st";refine⟨zhO (q:=q),za0.2,fun b hb=>?_⟩;have:b=true:=hb.mpr (ziL.mpr (hzE q hq));subst this;exact dY ⟨_,_,rfl⟩
  walk_at "st";refine⟨zs.map fun _=>true,by rw[az];rfl,?_⟩;rw[show (zs.map fun _=>true).all id=true by simp];exact r
theorem zpP (T:Txt K mg t):FnOk P w K mg base CX0 6 t.f28 t.d28 ["_law_script"] (zjD K):=by
 have G22:=zgq (P:=P) (w:=w) (base:=base) T;have G0:FnOk P w K mg base CX0 1 t.f0 t.d0 ["_law_script"] (zlb K):=zfH T;have G1:=zK (P:=P) (w:=w) (base:=base) T;have G3:=zdF (P:=P) (w:=w) (base:=base) T;have G4:=y0 (P:=P) (w:=w) (base:=base) T;have G14:=zdE (P:=P) (w:=w) (base:=base) T;have G25:=uH (P:=P) (w:=w) (base:=base) T;have G27:=zcG (P:=P) (w:=w) (base:=base) T
 refine zs0 (k:=5) (r:=10) [] T.q28.F xT rfl rfl (by decide) fun cdv A outer s H E Pn hr=>⟨_,_,_,rfl,(ug (i:=1) xT.nd rfl (Or.inl rfl) (zkW T.q0 G0 hr (zI (qv 0) yB))),(zb (yH aW rfl (wI yt <| zJ rfl T.b_range (zi (JE.bo zw) zm)) (wG zv <| zg (i:=2) xT.nd rfl (Or.inl rfl)) (zb (wS zk <| zu (i:=3) xT.nd rfl (Or.inl rfl) (wE zo <| yG T.q1 G1 hr (za (kv 1) (za zw zd))))
   (zb (wS zk <| zu (i:=4) xT.nd rfl (Or.inl rfl) (zak xM zcM (JE.bo (uc (za zw (za zw (za zw (za zw zd)))))) (JE.bo (wE zo <| yG T.q1 G1 hr (za (kv 1) (za zw zd)))) (fun _ _=>rfl)))
   (zb (wS zG <| yZ (JW.t (wW za2 <| zcX (wT zn <| zy xY zcL (kb 2) (JE.bo zw) (zD _)) (u9 (.inl rfl) (wT zn <| zy xY zcL (JE.bo (wE zo <| yG T.q1 G1 hr (za (kv 1) (za zw zd)))) (JE.bo zw) (zD _))))) (ze (wS zk <| zu (i:=4) xT.nd rfl (Or.inl rfl) zw)) zL)
   (zb (wS zk <| zu (i:=5) xT.nd rfl (Or.inl rfl) (wE zo <| yG T.q3 G3 hr (za (kv 1) (za (kv 4) zd))))
   (zb (wS zk <| zu (i:=6) xT.nd rfl (Or.inl rfl) (wE xp <| zbu (JE.bo (wE zo <| yG T.q14 G14 hr (za (kv 1) (za (kv 5) zd)))) zU (wO zH <| zV (JE.bo zw))))
   (zb (wS zG <| yZ (wT zn <| zy xY zcL (kb 3) (JE.bo zw) (zD _)) (ze (wS zk <| zu (i:=6) xT.nd rfl (Or.inl rfl) (uz yV xL (JE.bo (uz yV xL (kb 6) (JE.bo (wE zo <| yG T.q25 G25 hr (za (kv 1) (za (kv 5) zd)))))) (JE.bo (wE zo <| yG T.q25 G25 hr (za (kv 1) (za (kv 5) zd))))))) zL)
   (zb (wS zk <| zu (i:=7) xT.nd rfl (Or.inl rfl) (wE zo <| yG T.q4 G4 hr (za (kv 5) zd)))
   (ze (yH aW rfl (wI yt <| zJ rfl T.b_range (zi (JE.bo zw) zm)) (wG zv <| zg (i:=8) xT.nd rfl (Or.inl rfl)) (zb (wS zk <| zu (i:=9) xT.nd rfl (Or.inl rfl) (zak xM zcM (kb 7) (JE.bo (wE zo <| yG T.q1 G1 hr (za (kv 1) (za (zO yz ux (by rfl) T.b_len aZ (zi (kb 7) zm)) zd)))) (fun _ _=>rfl)))
   (ze (yH aW rfl (wI yt <| zJ rfl T.b_range (zi (JE.bo (zO yz ux (by rfl) T.b_len aZ (zi (kb 5) zm))) zm)) (wG zv <| zg (i:=10) xT.nd rfl (Or.inl rfl)) (zb (wS zk <| zu (i:=11) xT.nd rfl (Or.inl rfl) (uz yV xL (JE.bo (uz yV xL (JE.bo (wE xp <| zbu (kb 9) zU (wO zH <| zV (kb 10)))) (JE.bo (xo (za (wE zo <| yG T.q1 G1 hr (za (kv 1) (za (zak yX uk (kb 5) (kb 10) (fun _ _=>rfl)) zd))) zd))))) (JE.bo (wE xp <| zbu (kb 9) (wO zH <| zV (JE.bo (uz yS za8 (kb 10) (JE.bo zw)))) zU))))
   (zb (wS zG <| yZ (JW.t (wW zc3 <| zgR (wT zb7 <| zes (wT zn <| zcW (JE.bo (wE zo <| yG T.q27 G27 hr (za (kv 5) (za (kv 6) (za (kv 10) (za (kv 9) zd)))))))) (u9 (.inr rfl) (wT zb7 <| zes (wT zn <| zcW (JE.bo (wE zo <| yG T.q27 G27 hr (za (kv 5) (za (kv 6) (za (kv 10) (za (kv 11) zd))))))))))) (ze (z3 zjR)) zL)
   (ze (wS zG <| yZ (wT zn <| zy (zi4 hr.units) zoq (JE.bo (wE zo <| yG T.q22 G22 hr (za (kv 5) (za (kv 6) (za (kv 10) (za (kv 9) zd)))))) (JE.bo (wE zo <| yG T.q22 G22 hr (za (kv 5) (za (kv 6) (za (kv 10) (za (kv 11) zd)))))) (zD _)) (ze (z3 zjR)) zL)))))))))))))))))
   (ze (z3 zjR))),fun p c ns hPn=>?_⟩
 subst hPn;have hP:IsP (some (p,c,ns)) p:=⟨c,ns,rfl⟩;refine zqS ?_;walk_at "st";refine⟨⟨by decide,by decide⟩,zar (fun i ρ n=>n<=10000 * i/\∃v2 v3 v4 v5 v6 v7 v8 v9 v10 v11,ρ=[none,some (.pen p),v2,v3,v4,v5,v6,v7,v8,v9,v10,v11]) ⟨ag _,none,none,none,none,none,none,none,none,none,none,rfl⟩ ?_ ?_⟩
 ·rintro i ρ n hi ⟨hn,v2,v3,v4,v5,v6,v7,v8,v9,v10,v11,rfl⟩ C B E hC _ _;have hi:i<2:=hi;walk_at "st";refine dc hP fun ro r0 r1=>?_;walk_at "st";refine dc hP fun mo m0 m1=>?_;walk_at "st";refine zpR m0 m1 fun x hx=>?_
  obtain⟨most,rfl,q1,q2⟩:∃most,x = .int most/\4<=most/\most<=256:=by
   simp at hx;rcases hx with rfl | rfl | rfl | rfl
   all_goals exact⟨_,rfl,by lia,by lia⟩
  walk_at "st";refine' zgT (fun (most:Int) (n1:Nat)=>4<=most/\most<=256/\n1<=n+3) _ (fun zY=>?_) ?_;rotate_left
  ·refine xy (fun h0=>?_) (fun h0=>?_)
   ·walk_at "st";refine dc hP fun d d0 d1=>?_;walk_at "st";refine xy (fun h5=>?_) (fun h5=>?_)
    ·walk_at "st";obtain⟨mm,hmm⟩:∃mm:Int,mm=256:=⟨_,rfl⟩;rw[<- hmm];generalize hk:n+1+1+1=n1;exact zY mm n1 ⟨by lia,by lia,by lia⟩
    ·walk_at "st";generalize hk:n+1+1+1=n1;exact zY most n1 ⟨q1,q2,by lia⟩
   ·walk_at "st";generalize hk:n+1+1=n1;exact zY most n1 ⟨q1,q2,by lia⟩
  rintro most n1 ⟨q1,q2,hn1⟩;refine zjW.i hP q1 q2 fun rm m hR hp hm=>?_;have h8:=hR.few;have hpos:=hR.pos;walk_at "st";refine zfU.i hP hR (by lia) fun bk m2 hB hl hm2=>?_;walk_at "st";rw[yK,show (60:Int)=((60:Nat):Int) from rfl,L3.uU];have hB2:y6 rm (bk.take 60):=fun x hx=>hB x (bJ hx);have hl2:(bk.take 60).length<=60:=by rw[aJ];lia
  generalize bk.take 60=bk2 at hB2 hl2;refine' zgT (fun (bk:List Wi) (n1:Nat)=>y6 rm bk/\bk.length<=100/\n1<=m2+200) _ (fun zY=>?_) ?_;rotate_left
  ·refine xy (fun h0=>?_) (fun h0=>?_)
   ·walk_at "st";refine zoK.i hP hR fun b1 m3 hB3 hl3 hm3=>?_;walk_at "st";refine⟨by rw[aa,aa];exact ax (by lia:_<=100) (by decide),?_⟩;walk_at "st";refine zoK.i hP hR fun b2 m4 hB4 hl4 hm4=>?_;walk_at "st";refine⟨by rw[af,aa,aa,aa];exact ax (by lia:_<=100) (by decide),?_⟩;rw[<- aB,<- aB];walk_at "st";have q:y6 rm (bk2++b1++b2):=(hB2.app hB3).app hB4;have q':(bk2++b1++b2).length<=100:=by rw[af,af];lia
    generalize bk2++b1++b2=b5 at q q';exact zY b5 m4 ⟨q,q',by lia⟩
   ·walk_at "st";exact zY bk2 m2 ⟨hB2,by lia,by lia⟩
  rintro bk3 n3 ⟨hB3,hl3,hn3⟩;walk_at "st";refine zcN.i hR ?_;walk_at "st";have hsz:=xF rm fun n hn=>by have:=hR.box n hn;lia
  have hok:∀st∈uY (rm.map zp),StOk rm st:=fun st hst=>zhi rm st hst;have hp1:=zeM hR.ne fun n hn=>(hR.box n hn).1;generalize uY (rm.map zp)=ev at hsz hok;refine⟨⟨by decide,by decide⟩,zar (fun j ρ m'=>m'<=n3+20 * j/\∃v8 v9 v10 v11,ρ=[none,some (.pen p),some (.d (.int (i:Int))),some (.d (.int ro)),some (.d (.int most)),some (.d (stD rm)),some (.d (xw bk3)),some (.d (zbp ev)),v8,v9,v10,v11]) ⟨by lia,_,_,_,_,rfl⟩ ?_ ?_⟩
  ·rintro j ρ m' hj ⟨hm',v8,v9,v10,v11,rfl⟩ C' B' E' hC' _ _;have hj:j<6:=hj;walk_at "st";rw[aa];refine dc hP fun d d0 d1=>?_;walk_at "st";refine onX d0 d1 ?_;have hst:=hok _ (zas (rows:=ev) (show d.toNat<ev.length by lia));generalize ev.getD d.toNat []=s at hst;have hsl:=hst.len;walk_at "st";rw[aa];refine⟨⟨by lia,by lia⟩,zar (fun b ρ m5=>m5<=m'+1+b/\b<=rm.length/\∃v10 v11,ρ=[none,some (.pen p),some (.d (.int (i:Int))),some (.d (.int ro)),some (.d (.int most)),some (.d (stD rm)),some (.d (xw bk3)),some (.d (zbp ev)),some (.d (.int (j:Int))),some (.d (stD s)),v10,v11]) ⟨by lia,a8 _,_,_,rfl⟩ ?_ ?_⟩
   ·rintro b ρ m5 hb ⟨hm5,hbl,v10,v11,rfl⟩ C2 B2 E2 hC2 _ _;have hb:b<rm.length:=by lia
    have hmm:=yf hR.box (bp b) (by lia);walk_at "st";refine onA (bp b) (by lia) ?_;walk_at "st";refine dc hP (fun v v0 v1=>?_) (by lia);walk_at "st";refine⟨zam (by lia),?_⟩;walk_at "st";refine⟨zan (by lia),?_⟩;rw[zbO (bp b) (by lia)];have hol:(chg s (b:Int) v).length=rm.length:=by rw[xU (bp b) (by lia)];exact hsl
    have hlp:=zmW (box:=(b:Int)) (w:=v) hB3 hsl;walk_at "st";refine zoJ.i hR hB3 hsl (bp b) (by lia) ?_;walk_at "st";refine zoJ.i hR hB3 hol (bp b) (by lia) ?_;walk_at "st";refine zoA.i hR hB3 hsl (bp b) (by lia) ?_;walk_at "st";refine zoA.i hR hB3 hol (bp b) (by lia) ?_;rw[hlp];walk_at "st";refine zlM zcS ?_;walk_at "st";walk_at "cf";exact hC2 ⟨by lia,hb,_,_,rfl⟩
   ·rintro ρ m5 ⟨hm5,hbl,v10,v11,rfl⟩;walk_at "st";exact hC' ⟨by lia,_,_,_,_,rfl⟩
  ·rintro ρ m' ⟨hm',v8,v9,v10,v11,rfl⟩;walk_at "st";exact hC ⟨by lia,_,_,_,_,_,_,_,_,_,_,rfl⟩
 ·rintro ρ n ⟨hn,v2,v3,v4,v5,v6,v7,v8,v9,v10,v11,rfl⟩;walk_at "st"
end
theorem Dm {K:PySem.W.Frag}{h:Heap}{mg:Str->Option Value}{x:Str}{st:Stmt}{ps:List Str}{f:Addr}{oc kV dc pm cd ct:Value}{od an:Option Addr}{sl:Array (Option Value)}(X:K.In h)(G:h.Ns mainGlobals mg)(a:PySem.W.nsIn K mainGlobals x=some (some (.ref f)))(l:K.lookup f=some ⟨oc,od,.func (PySem.W.fnOf x x (zaf st) (yj st) (zf st) .none kV dc pm an cd ct),sl⟩)(c:PySem.W.codeIn K cd x=true)(k:PySem.W.keepIn K (.ref f)=true)(b:∀ (kV dc pm:Value) (an:Option Addr) (cd ct:Value) (us:List Value),us.length=ps.length->bindArgs (PySem.W.fnOf x x (zaf st) (yj st) (zf st) .none kV dc pm an cd ct) ⟨us,[]⟩=pure (ps.zip us)):Dfn K mg x st ps f (PySem.W.fnOf x x (zaf st) (yj st) (zf st) .none kV dc pm an cd ct):=⟨zlB l c k,(zlB l c k).binds b,PySem.W.mg_of X G a⟩
theorem fin {l:PySem.W.OpenLaw}{w:World}{K:PySem.W.Frag}{mg:Str->Option Value}{fa:Addr}{t:Ad}(hfa:mg "law" = some (.ref fa))(T:Txt K mg t)(b:∀ (s:Shared) (v:Value),BindsTo s t.d28 ⟨[v],[]⟩ [("_law_script",v)]):∃fd:FuncData,(∀ (s:Shared) (v:Value),BindsTo s fd ⟨[v],[]⟩ [("_law_script",v)])/\∀base:Heap,K.In base->base.Ns mainGlobals mg->FnOk l.prog w K mg base CX0 6 fa fd ["_law_script"] (zjD K):=by have e:=hfa.symm.trans T.q28.m;cases e;exact⟨_,b,fun base _ _=>zpP T⟩
theorem walk {l:PySem.W.OpenLaw}{q:Program}{loose:List Str}{XP:(Str->Option Value)->Heap->Prop}{YP:World->Heap->Prop}{d:DefRec}{K:Params->PySem.W.Frag}(hn:l.most=some 63)(hdf:d.params.defaults=[])
  (hY:∀ (w:World) (h:Heap),YP w h->(K w.params).In h)
  (F:∀ (w:World) (mg:Str->Option Value) (fa:Addr) (h:Heap),(K w.params).In h->h.Ns mainGlobals mg->mg d.name=some (.ref fa)->
   ∃fd:FuncData,(∀ (s:Shared) (u:Value),BindsTo s fd ⟨[u],[]⟩ [("_law_script",u)])/\∀base:Heap,(K w.params).In base->base.Ns mainGlobals mg->FnOk l.prog w (K w.params) mg base CX0 6 fa fd ["_law_script"] (zjD (K w.params))) :
  PySem.W.WalkO q loose XP YP l.row.toRowW d [] (fun f vs=>PySem.call f vs):=
 L2.zox (n:=63) (k:=6) (x := "_law_script") (CX:=fun _=>CX0) (sp:=fun w=>zjD (K w.params)) hn (by decide) hdf ⟨rfl,by decide,by decide⟩ hY F (fun _ _ a ns hl _ hS=>⟨a,ns,rfl,hS,hl,fun _=>rfl⟩) fun _ _ _ _ _ z=>z
end Law
open PySem PySem.W PyProof.Rows
local macro_rules | `(tactic| walk_at "D")=>`(tactic| (dsimp only;refine' Law.Dm (by assumption) (by assumption) ?a ?l ?c ?k ?b;(case a=>k_is);(case l=>k_is);(case c=>k_is);(case k=>k_is);(case b=>(intro _ _ _ _ _ _ us hl;first | (obtain⟨_,e⟩:=L2.us_1 hl;subst e;rfl) | (obtain⟨_,_,e⟩:=L2.us_2 hl;subst e;rfl) | (obtain⟨_,_,_,e⟩:=L2.us_3 hl;subst e;rfl) | (obtain⟨_,_,_,_,e⟩:=L2.us_4 hl;subst e;rfl)))))
local macro_rules | `(tactic| walk_at "Z")=>`(tactic| (refine' PySem.W.mg_none_of (by assumption) (by assumption) ?z;(case z=>k_is)))
theorem PySem.W.Fast.te7425495253233764688:True:=.intro
set_option maxRecDepth 100000 in
set_option maxHeartbeats 0 in
theorem PySem.Challenge.cw_allelse_k30_local_rounds_and_tops_holds : PySem.Challenge.rw_allelse_k30_local_rounds_and_tops.Holds := by
 w_on;refine holds_law (by decide +kernel) fun _=>?_;k_head;(case hw=>w_witness2)
 k_fill
 refine Law.walk (l:=PySem.Challenge.rw_allelse_k30_local_rounds_and_tops) rfl rfl (fun w h Y=>PySem.W.kIn_of Y) ?F
 case F=>
  intro w mg fa h KX G hmg;refine' Law.fin (t:=⟨_,_,_,_,_,_,_,_,_,_,_,_,_,_,_,_,_,_,_,_,_,_,_,_,_,_,_,_,_,_,_,_,_,_,_,_,_,_,_,_,_,_,_,_,_,_,_,_,_,_,_,_,_,_,_,_,_,_⟩) hmg ⟨?D0,?D1,?D2,?D3,?D4,?D5,?D6,?D7,?D8,?D9,?D10,?D11,?D12,?D13,?D14,?D15,?D16,?D17,?D18,?D19,?D20,?D21,?D22,?D23,?D24,?D25,?D26,?D27,?D28,?z_list,?z_sorted,?z_tuple,?z_range,?z_enumerate,?z_len,?z_all,?z_abs,?z_zip,?z_isinstance,?z_bool,?z_set⟩ fun s v=>?b
  (case D0 | D1 | D2 | D3 | D4 | D5 | D6 | D7 | D8 | D9 | D10 | D11 | D12 | D13 | D14 | D15 | D16 | D17 | D18 | D19 | D20 | D21 | D22 | D23 | D24 | D25 | D26 | D27 | D28=>walk_at "D")
  (case z_list | z_sorted | z_tuple | z_range | z_enumerate | z_len | z_all | z_abs | z_zip | z_isinstance | z_bool | z_set=>walk_at "Z")
  (case b=>exact .of_eq rfl)
